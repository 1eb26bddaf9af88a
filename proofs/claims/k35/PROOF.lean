import PyProof.Rows.All
import Wide.All
import OpenK.KLine
import Wide.FinOn
import Lean
import PyProof.EqAt
import PyProof.EqKinds
import PyProof.TupleCall
import PyProof.NeKinds
import PyProof.Rows.Range3
import KE.KItem
import KE.KxBytes
import KE.KFromBytes
import PyProof.FitsBits
import PyProof.StationsW
import PyProof.NsDelKeeps
import PyProof.Rows.CatchOwn
import KE.KTryMore
import PyProof.ExcArgsOwn
import PyProof.ExcAttrAll.ValueError
import OpenK.KOwn
import PyProof.ZipIter
import PyProof.WalksEnum
import PyProof.EnumMake
import KE.KIntText
import PyProof.Conv_int
import PyProof.StrWalks
import PyProof.StrLawsFirst
import KE.KLam
import KE.KNestM
import KE.KRevIter
import PyProof.ListRange
import PyProof.Rows.SortWalk
import PyProof.Rows.SetFrom
import PyProof.FactsAll.set
import PyProof.Rows.SeqMore
import PyProof.FString
import PyProof.ExcClass3
import PyProof.ExcInit
import OpenK.KCls
import PyProof.InstStoreFacts
import PySem.Challenge.RW_mendfield_k35_words_refused
open Array renaming append_assoc→zu,length_toList→zw,getElem?_eq_some_iff→Ff,find?_toList→Lf,toList_append→ZD,size_append→ZU
open Bool renaming and_eq_true→cA,false_ne_true→ji,or_true→jM,false_eq_true→mh,and_true→mm,true_and→qS,eq_iff_iff→qT,false_and→tI,or_false→w5,not_false→zU,not_true→zV,true_or→zW,false_or→zX,and_eq_true_iff→FE,and_false→Lo,not_eq_true'→LC
open Classical renaming byContradiction→zD
open False renaming elim→eZ
open ForInStep renaming yield→Fd
open Int renaming toNat→dZ,emod_nonneg→fO,toNat_natCast→gr,emod_lt_of_pos→g9,natAbs_natCast→jN,natCast_emod→oS,natCast_mul→tU,toNat_of_nonneg→zL,natCast_add→Co,emod_eq_of_lt→Cp,natCast_nonneg→E4,zero_add→LB,le_refl→LF,fdiv_eq_ediv_of_nonneg→Zo,eq_ofNat_of_zero_le→ZT
open List renaming range→aI,replicate→aM,getD_eq_getElem?_getD→aT,getElem?_eq_getElem→aV,length_map→bq,all_cons→bB,mem_map→bE,length_range→bW,getElem?_map→cy,map_map→cE,mem_range→cJ,mem_cons→cO,all_eq_true→cU,mem_append→cZ,append_assoc→dk,set_cons_zero→du,length_replicate→dE,map_cons→dN,length_append→dO,zipWith→dP,size_toArray→eJ,mem_singleton→eT,getElem_mem→eU,map_append→eV,all_nil→e6,mem_append_right→fN,set_cons_succ→fP,append_nil→fY,getElem?_eq_none→gu,mem_append_left→gE,mem_cons_of_mem→iB,lookup_cons→iC,not_mem_nil→iD,length_set→iU,getElem?_eq_some_iff→jh,length_cons→jJ,map_nil→jK,nil_append→jL,mem_cons_self→ke,length_take→kg,getElem_of_mem→ki,getElem?_range→kj,length_drop→lh,cons_append→lj,cons.inj→mi,all_map→mj,map_replicate→mn,getElem?_append_right→nB,getElem?_replicate→nC,length_singleton→nE,foldl_cons→oO,length_zipWith→oU,getElem?_cons_zero→oV,getElem?_cons_succ→oW,mem_filter→qK,getElem?_set_ne→qL,nodup_cons→qP,perm_append_comm→qV,mem_replicate→qW,mem_of_mem_drop→qX,getElem?_set_self→tH,of_mem_zip→tK,getElem?_append_left→tL,replicate_succ→tN,take_add_one→tQ,map→tS,map_congr_left→tT,lookup→wY,mem_of_getElem?→w4,flatten_cons→w9,take_length→xh,set_set→xi,map_set→xk,length_nil→xm,mem_of_mem_take→zF,getElem?_mapIdx→zG,mem_map_of_mem→zM,getElem_map→zN,range_succ→zO,getElem?_zipWith→zP,cons.injEq→zT,filterMap_cons→Ca,any_eq_true→Cm,length_reverse→Cq,length_zip→Cr,contains_iff_mem→Ct,pairwise_cons→Cv,pairwise_append→Cy,length→E5,append_eq_nil_iff→Fl,append_inj→Fp,filter_eq_self→Fq,take_of_length_le→Fs,map_zipWith→Fu,ext_getElem→Fv,zipWith_cons_cons→Fw,foldl_append→Fy,pairwise_iff_getElem→FC,take_append_drop→FD,Pairwise.nil→Li,Sublist.refl→Lm,mem_of_find?_eq_some→Lp,map_drop→Lq,map_take→Lr,ext_getElem?→Lw,getElem?_drop→Lx,drop_eq_nil_of_le→Lz,zipWith_map→LD,mem_or_eq_of_mem_set→LG,sum_cons→LI,findIdx_lt_length_of_exists→LJ,find?_eq_none→LL,getElem_range→LM,pairwise_singleton→LN,filter_eq_nil_iff→LO,getElem?_set→LQ,mem_filterMap→Zn,getElem?_take_of_lt→Zp,set_eq_of_length_le→Zx,eq_nil_iff_forall_not_mem→Zy,filter_append→Zz,range_succ_eq_map→ZA,getElem?_take→ZC,zip_cons_cons→ZE,getElem?_reverse→ZF,sublist_cons_self→ZG,findIdx_getElem→ZH,findIdx?_eq_some_iff_getElem→ZI,findIdx?_eq_none_iff→ZJ,Pairwise.filter→ZK,countP_eq_length_filter→ZL,pairwise_lt_range→ZM,drop_eq_getElem_cons→ZN,find?_eq_some_iff_append→ZO,length_eq_zero_iff→ZP,range_eq_range'→ZQ,length_filter_le→ZR,map_singleton→ZS,flatMap_append→ZV,eq_replicate_iff→ZW
open Nat renaming le_refl→bR,lt_of_lt_of_le→cY,ne_of_lt→eI,le_trans→ff,lt_irrefl→g7,zero_le→iT,shiftLeft_eq→mf,xor_zero→nF,mul_comm→oQ,testBit_xor→oR,pow_succ→qQ,zero_xor→qR,lt_or_ge→qY,le_of_lt→tG,xor_assoc→tO,mul_assoc→xb,mod_lt→xj,two_pow_pos→zB,pow_le_pow_right→zC,lt_of_le_of_lt→zE,not_lt→zH,mul_mod→zI,mod_eq_of_lt→zJ,mod_add_mod→zK,sub_self→zQ,le_of_eq→Cc,lt_succ_self→Cd,add_comm→Cg,eq_of_testBit_eq→Ci,testBit_zero→Cj,xor_self→Ck,min_self→Cn,le_of_succ_le→Cu,succ.inj→Cw,le_of_not_lt→E7,testBit_lt_two_pow→E8,testBit_succ→E9,strongRecOn→Fc,add_assoc→Ft,zero_add→Fx,lt_trichotomy→FA,succ_pos→FF,one_shiftLeft→FG,ne_of_gt→Le,xor_comm→Lj,testBit_and→Lk,min_eq_left→Lu,min_eq_right→Ly,lt_succ_of_lt→LA,mod_mod→LH,not_lt_zero→LR,testBit_eq_decide_div_mod_eq→Zr,shiftLeft_xor_distrib→Zs,mul_lt_mul_right→Zt,testBit_shiftLeft→Zu,shiftRight_eq_div_pow→Zv
open Ne renaming symm→fg
open Option renaming some.inj→dr,getD_none→tM,getD_some→tP,map_eq_some_iff→tR,some.injEq→xo,map_some→zR,map_none→zS,isSome_iff_exists→Ce,toList_some→Ln,bind_some→Zw
open Or renaming inl→ao,inr→bg
open PyProof renaming Rows.callWith_type1→zy,Rows.callWith_builtin1→Zq
open PySem renaming Heap.lt_size→bM,Value.ref→cN,Heap.get?_push_of_some→eC,PassesOwn.never→eK,Heap.get?_push_size→g8,Heap.get?_update_other→nD,Value.none→qJ,Builtin.bitAnd→qM,Builtin.bitXor→qN,Str.empty→qO,Value.builtin→qU,Str.ofString→qZ,Heap.size_push→tJ,Value.int→wW,Data.fields→zx,Heap.get?_update_self→zA,Obj.mapSeq→Cf,Value.bool→E2,Heap.get?_none_of_le→E3,SeqAt.EqAt→E6,Obj.data_mapFields→Fe,Heap.MadeExcOf→Fg,Value.type.inj→Fh,Builtin.Str.strSliceIndices→Fj,NameKind.cell→Fz,Calls.evalArgs_plain→Lg,Builtin.List.listTooLong→Lh,Obj.isFreed_of_fields→Ll,Heap.get?_push_at→LP,Calls.Name_function_global→Zm
open Sum renaming inl→wV,inr→wX
open True renaming intro→wZ
set_option Elab.async false
set_option linter.all false
set_option maxRecDepth 100000
def pOlH:Lean.Term:=⟨Lean.mkNode ``Lean.Parser.Term.hole #[Lean.mkAtom "_"]⟩
def pOlI(s:String):Lean.Term:=if s.front.isDigit then ⟨Lean.Syntax.mkNumLit s⟩ else Lean.mkIdent s.toName
def pOlF(s:String)(l:List Lean.Term):Lean.Term:=Lean.Syntax.mkApp (pOlI s) l.toArray
def pOlR:List Lean.Term->List Lean.Syntax
 | []=>[]
 | x::r=>x.raw::pOlR r
def pOlG(l:List Lean.Term)(b:Lean.Term):Lean.Term:=⟨Lean.mkNode ``Lean.Parser.Term.fun #[Lean.mkAtom "fun",Lean.mkNode ``Lean.Parser.Term.basicFun #[Lean.mkNullNode (pOlR l).toArray,Lean.mkNullNode,Lean.mkAtom "=>",b]]⟩
def pOlS(s:String):Lean.Term:=if s.front.isDigit then pOlI s else Lean.Syntax.mkStrLit s
def pOlL:List String->Lean.Term
 | []=>pOlI "List.nil"
 | s::r=>if s="" then pOlL r else let g:=s.splitOn ":";pOlF "List.cons" [if g.length=2 then pOlF "Prod.mk" [pOlS g.head!,pOlI g.getLast!] else pOlS s,pOlL r]
def pOlT(x:Lean.Term):Lean.Term:=Lean.Unhygienic.run `([(by exact $x), (show ($x : List PySem.Str).Nodup by decide +kernel), (by decide +kernel), (by rfl), (by first | exact ao rfl | exact bg (ao rfl)), (by decide), (by with_unfolding_all rfl)])
def pOlN:List String->List Lean.Term->List Lean.Term
 | n::r,x::a=>⟨Lean.mkNode ``Lean.Parser.Term.namedArgument #[Lean.mkAtom "(",Lean.mkIdent n.toName,Lean.mkAtom ":=",x,Lean.mkAtom ")"]⟩::pOlN r a
 | _,a=>a
def pOlW(a:List Lean.Term)(w:String):Lean.Term:=
 if w.front='*' then
  let x:=a.headD pOlH
  let c:=(w.drop 1).toString.front.toNat-48
  if c<2 then pOlG [pOlH,pOlH] (if c=1 then x else pOlG [pOlH,pOlH] x)
  else if c=4 then pOlH else ⟨(pOlT x).raw[1].getSepArgs[if c<4 then c-2 else c-3]!⟩
 else
  let g:=(w.dropEnd 1).toString.splitOn ":"
  pOlF g.head! (pOlN g.tail! a)
def pOlK:List Lean.Term->List String->Lean.Term
 | k,[]=>k.head!
 | k,w::r=>
  if w.front='[' then pOlK (pOlL ((w.drop 1).toString.splitOn " ")::k) r else
  let n:=w.back.toNat-48
  let n:=if n<10 then n else n-7
  pOlK (pOlW (k.take n).reverse w::k.drop n) r
def pOlC(d:Array String)(c:Char):String:=d[c.toNat-if c.toNat<127 then 33 else 162]!
def pOlE(d:Array String):List Char->List Char
 | []=>[]
 | c::r=>let w:=pOlC d c;(if w.front='/' then w.toList.tail! else [c])++pOlE d r
def pOlD(d:Array String):List Char->List String
 | []=>[]
 | c::r=>pOlC d c::pOlD d r
def pOlX(d:Array String):Nat->List Char->List Char
 | 0,l=>l
 | n+1,l=>pOlX d n (pOlE d l)
def pOlY(d:Array String):Bool->List String->List String
 | _,[]=>[]
 | b,s::r=>(if b then [s] else pOlD d (pOlX d 16 s.toList))++pOlY d (!b) r
def pOlJ:List String->List Lean.Term
 | []=>[]
 | s::r=>pOlI s::pOlJ r
def pOlA:List Lean.Syntax->List Lean.Term
 | []=>[]
 | s::r=>⟨s⟩::pOlA r
def pOlZ(f:Lean.Syntax)(o:List Lean.Syntax)(x y:String)(b k:Lean.Term):Lean.Term:=
 let u:=pOlJ (y.splitOn " ")
 Lean.Syntax.mkApp ⟨f⟩ (pOlA o++[pOlG u b,pOlG (pOlJ (x.splitOn " ")) (pOlF "Exists.intro" [pOlH,pOlF "And.intro" [k,pOlG u ⟨Lean.mkNode ``Lean.Parser.Term.syntheticHole #[Lean.mkAtom "?",pOlH]⟩]])]).toArray
local macro_rules | `(tactic| omega)=>`(tactic| first | with_reducible assumption | with_reducible exact tG (by assumption) | (simp only[gr,Int.toNat_sub]<;>first | with_reducible assumption | lia) | lia)
set_option compiler.extract_closed false
set_option bootstrap.genMatcherCode false
local macro_rules (kind:=Lean.Parser.Command.declaration)|d=>do
 if d.getPos?.isNone then Lean.Macro.throwUnsupported
 let m:=d[0]
 let d:=if (d[1].isOfKind ``Lean.Parser.Command.definition||d[1].isOfKind ``Lean.Parser.Command.abbrev||d[1].isOfKind ``Lean.Parser.Command.instance)&&m[1].getNumArgs==0&&m[4].getNumArgs==0 then d.setArg 0 (m.setArg 4 (Lean.mkNullNode #[Lean.mkNode ``Lean.Parser.Command.noncomputable #[Lean.mkAtom "noncomputable"]])) else d
 let d:Lean.Command:=⟨d.rewriteBottomUp (·.setInfo .none)⟩
 if (d.raw.find? (·.isOfKind ``Lean.Parser.Tactic.renameI)).isSome then return d
 `(command|set_option tactic.hygienic false in $d)
noncomputable section
namespace L2
open PySem PySem.Spec PyProof.Rows
abbrev Key:=Sum Int Str
def LS:Key->Value->Bool
 | .inl k,v=>Value.isInt k v
 | .inr x,v=>Value.isStrOf x v
def ZX(w:World):Key->Int
 | .inl k=>hashInt k
 | .inr x=>hashStr w x
theorem oX:∀{k:Key} {v:Value},LS k v=true->(∃i t,k=wV i/\v=wW i t)\/(∃x t,k=wX x/\v=Value.str x t)
 | .inl i,v,h=>by
  obtain⟨t,e⟩:=Value.isInt_shape (k:=i) (v:=v) h;exact .inl ⟨i,t,rfl,e⟩
 | .inr x,v,h=>by
  obtain⟨t,e⟩:=Value.isStrOf_shape (x:=x) (v:=v) h;exact .inr ⟨x,t,rfl,e⟩
theorem ZY(a b:Int):decide ((wV a:Key)=wV b)=(a==b):=by
 by_cases e:a=b
 ·subst e;simp
 ·have h:¬ (wV a:Key)=wV b:=λq=>e (Sum.inl.inj q);rw[decide_eq_false h];exact(beq_eq_false_iff_ne.mpr e).symm
theorem ZZ(a b:Str):decide ((wX a:Key)=wX b)=decide (a=b):=by
 by_cases e:a=b
 ·subst e;simp
 ·have h:¬ (wX a:Key)=wX b:=λq=>e (Sum.inr.inj q);rw[decide_eq_false h,decide_eq_false e]
theorem Z0(a:Int)(b:Str):decide ((wV a:Key)=wX b)=false:=decide_eq_false (λq=>nomatch q)
theorem Z1(a:Str)(b:Int):decide ((wX a:Key)=wV b)=false:=decide_eq_false (λq=>nomatch q)
def LU(prog:Program)(w:World):PySem.KeyKind prog w Key where
 is:=LS
 hash:=ZX w
 inj:=λv a b ha hb=>by
  rcases oX ha with⟨i,t,rfl,rfl⟩ | ⟨x,t,rfl,rfl⟩
  ·rcases oX hb with⟨j,u,rfl,e⟩ | ⟨y,u,rfl,e⟩
   ·injection e with e1 _;rw[e1]
   ·exact nomatch e
  ·rcases oX hb with⟨j,u,rfl,e⟩ | ⟨y,u,rfl,e⟩
   ·exact nomatch e
   ·injection e with e1 _;rw[e1]
 byValue:=λk v h=>by
  rcases oX h with⟨i,t,rfl,rfl⟩ | ⟨x,t,rfl,rfl⟩<;>rfl
 pyHash:=λhv h=>by
  rcases oX hv with⟨i,t,rfl,rfl⟩ | ⟨x,t,rfl,rfl⟩
  ·exact wpAny_pyHash_int h
  ·exact wpAny_pyHash_str h
 eqBool:=λhu hv h=>by
  rcases oX hu with⟨i,t,rfl,rfl⟩ | ⟨x,t,rfl,rfl⟩
  ·rcases oX hv with⟨j,u,rfl,rfl⟩ | ⟨y,u,rfl,rfl⟩
   ·rw[ZY]at h;exact wpAny_eqBool_int h
   ·rw[Z0]at h;exact SeqAt.EqAt.int_str i t y u _ _ _ _ h
  ·rcases oX hv with⟨j,u,rfl,rfl⟩ | ⟨y,u,rfl,rfl⟩
   ·rw[Z1]at h;exact SeqAt.EqAt.str_int x t j u _ _ _ _ h
   ·rw[ZZ]at h;exact wpAny_eqBool_str h
 «strs»:=λk x t v h=>by
  rcases oX h with⟨i,u,rfl,e⟩ | ⟨y,u,rfl,e⟩
  ·exact nomatch e
  ·injection e with e1 _
   subst e1;cases v<;>rfl
inductive V where
 | aA | bl (b:Bool) | int (i:Int) | str (x:Str) | Cz (b:Array UInt8) | tV (b:UInt64) | ref (a:Addr) | ty (n:String)
 deriving DecidableEq
def RelV:V->Value->Prop
 | .aA,u=>u=qJ
 | .bl b,u=>u=E2 b
 | .int i,u=>∃t,u=wW i t
 | .str x,u=>∃t,u=Value.str x t
 | .Cz b,u=>∃t,u=Value.bytes b t
 | .tV b,u=>∃t,u=Value.float b t
 | .ref a,u=>u=cN a
 | .ty n,u=>u=Value.type n
abbrev Vals:List V->List Value->Prop:=Paired RelV
theorem Vals.length{xs:List V}{us:List Value}(r:Vals xs us):xs.length=us.length:=Paired.length r
theorem Vals.get:∀{xs:List V} {us:List Value} {i:Nat} {x:V},Vals xs us->xs[i]?=some x->∃u,us[i]?=some u/\RelV x u
 | _,_,_,_,.nil,e=>by simp at e
 | _,_,0,_,.cons r _,e=>by simp at e;subst e;exact⟨_,rfl,r⟩
 | _,_,i+1,x,.cons _ t,e=>by
  obtain⟨u,h1,h2⟩:=Vals.get (i:=i) (x:=x) t (by simpa using e);exact⟨u,by simpa using h1,h2⟩
theorem Vals.set{x:V}{u:Value}(r:RelV x u):∀{xs:List V} {us:List Value} (i:Nat),Vals xs us->Vals (xs.set i x) (us.set i u)
 | _,_,_,.nil=>.nil
 | _,_,0,.cons _ t=>.cons r t
 | _,_,i+1,.cons q t=>.cons q (Vals.set r i t)
theorem Vals.append:∀{xs ys:List V} {us ws:List Value},Vals xs us->Vals ys ws->Vals (xs++ys) (us++ws)
 | _,_,_,_,.nil,s=>s
 | _,_,_,_,.cons r t,s=>.cons r (Vals.append t s)
theorem Vals.take:∀{xs:List V} {us:List Value} (n:Nat),Vals xs us->Vals (xs.take n) (us.take n)
 | _,_,0,_=>.nil
 | _,_,_+1,.nil=>.nil
 | _,_,n+1,.cons r t=>.cons r (Vals.take n t)
theorem Vals.drop:∀{xs:List V} {us:List Value} (n:Nat),Vals xs us->Vals (xs.drop n) (us.drop n)
 | _,_,0,r=>r
 | _,_,_+1,.nil=>.nil
 | _,_,n+1,.cons _ t=>Vals.drop n t
def nG:Option V->Option Value->Prop
 | some v,some u=>RelV v u
 | none,none=>True
 | _,_=>False
def KV{κ:Type}:List (κ × V)->List (κ × Value)->Prop:=Paired λ(p:κ × V) (q:κ × Value)=>p.1=q.1/\RelV p.2 q.2
def kV:Key->V
 | .inl i=>.int i
 | .inr x=>.str x
inductive HO where
 | lst (xs:List V)
 | tup (xs:List V)
 | dK (eD:List (Key × V)) | dT (eD:List (List Key × V))
 | set (S:Int->Bool) (n:Nat)
 | ins (C dx:Addr) (fs:List (Str × V))
 | own (x:Addr)
 | xd (fs:List (Str × V))
 | met (f x:Addr)
 | zY (lo hi:Int)
 | cV (o:Obj) (u:HO)
 | dF (ps:Array Value)
 | ext (φ:Heap->Prop)
abbrev Hp:=Addr->Option HO
def upd(H:Hp)(a:Addr)(o:HO):Hp:=λb=>if b=a then some o else H b
theorem dm{H:Hp}{a:Addr}{o:HO}:upd H a o a=some o:=by unfold upd;rw[if_pos rfl]
theorem aZ{H:Hp}{a b:Addr}{o:HO}(h:b≠a):upd H a o b=H b:=by unfold upd;rw[if_neg h]
theorem dQ{H:Hp}{a b:Addr}{o:HO}(h:H a=some o)(h':H b=none):a≠b:=by
 intro e;subst e;rw[h]at h';cases h'
section
variable(P:Program)(w:World)
def dv(H:Hp)(h:Heap)(a:Addr):HO->Prop
 | .lst xs=>xs.length<=sizeLine/\∃(its:List Value) (n:Nat),Vals xs its/\h.get? a=some { cls:=.type "list",data:=.seq its.toArray n }
 | .tup xs=>xs.length<=sizeLine/\∃its:List Value,Vals xs its/\IsTup h a its.toArray
 | .dK eD=>eD.length<=sizeLine/\(a==sysModules)=false/\∃vs,KV eD vs/\h.DictOf (LU P w) a vs
 | .dT eD=>eD.length<=sizeLine/\(a==sysModules)=false/\∃xs:List (List Key × Addr × Value),
   Paired (λ(p:List Key × V) (q:List Key × Addr × Value)=>p.1=q.1/\H q.2.1=some (.tup (p.1.map kV))/\RelV p.2 q.2.2) eD xs /\
   ∃o es ep,h.get? a=some o/\o.ExactDict/\o.data=.dict es ep/\es.toList=xs.map (entryOfKey (tupleKind (LU P w)))/\(xs.map (·.1)).Nodup
 | .set S n=>h.SetOf (intKind P w) a S n
 | .ins C dx fs=>H dx=some (.own a)/\fs.length<=1000/\dx≠a/\h.get? a=some (PySem.W.instObj C dx) /\
   ∃mA,h.Ns1 dx mA/\(∀f,nG (fs.lookup f) (mA f))/\PySem.Within mA (fs.map (·.1))
 | .own _=>∃o,h.get? a=some o
 | .xd fs=>∃mA,h.Ns1 a mA/\∀f,nG (fs.lookup f) (mA f)
 | .zY lo hi=>∃t u v,h.get? a=some { cls:=.type "range",data:=.fields #[.int lo t,.int hi u,.int 1 v] }
 | .cV o u=>h.get? a=some o/\dv H h a u
 | .dF ps=>h.get? a=some { cls:=.none,data:=.fields ps }/\TriplesOk ps.toList/\∀pos cv,codeAmong pos ps.toList=some cv->∃c φ,cv=.ref c/\H c=some (.ext φ)/\∀h',φ h'->∃q,h'.CodeRec (.ref c) q
 | .met f x=>h.get? a=some (PySem.W.methodObj (.ref f) (.ref x))
 | .ext φ=>φ h/\(∃o,h.get? a=some o)/\∀h1 h2:Heap,φ h1->(∀b o,(b=a\/H b=some (.own a))->h1.get? b=some o->h2.get? b=some o)->φ h2
def da(H:Hp)(h:Heap):Prop:=∀a o,H a=some o->dv P w H h a o
end
section
variable{P:Program}{w:World}{H H':Hp}{h h':Heap}{a:Addr}{o:HO}
theorem dv.lt(x:dv P w H h a o):a<h.objs.size:=by
 cases o with
 | lst xs=>obtain⟨_,_,_,_,e⟩:=x;exact bM e
 | tup xs=>obtain⟨_,_,_,p⟩:=x;exact p.lt
 | dK eD=>obtain⟨_,_,_,_,o,_,_,e,_⟩:=x;exact bM e
 | dT eD=>obtain⟨_,_,_,_,o,_,_,e,_⟩:=x;exact bM e
 | set S n=>obtain⟨o,_,_,_,e,_⟩:=x;exact bM e
 | ins C dx fs=>obtain⟨_,_,_,e,_⟩:=x;exact bM e
 | own y=>obtain⟨_,e⟩:=x;exact bM e
 | xd fs=>obtain⟨_,⟨_,_,_,e,_⟩,_⟩:=x;exact bM e
 | zY lo hi=>obtain⟨_,_,_,e⟩:=x;exact bM e
 | cV ob u=>obtain⟨e,_⟩:=x;exact bM e
 | dF ps=>exact bM (show h.get? a=some _ from x.1)
 | met f y=>exact bM (show h.get? a=some _ from x)
 | ext φ=>obtain⟨_,⟨_,e⟩,_⟩:=x;exact bM e
theorem Paired.FH{α β:Type}{F G:α->β->Prop}:∀{l₁:List α} {l₂:List β},Paired F l₁ l₂->(∀a b,F a b->G a b)->Paired G l₁ l₂
 | _,_,.nil,_=>.nil
 | _,_,.cons r t,f=>.cons (f _ _ r) (Paired.FH t f)
theorem dv.jj(x:dv P w H h a o)(k:∀b u,(b=a\/H b=some (.own a))->h.get? b=some u->h'.get? b=some u)
  (ho:∀b,H b=some (.own a)->H' b=some (.own a)) (ht:∀b xs,H b=some (.tup xs)->H' b=some (.tup xs)) (hx:∀b φ,H b=some (.ext φ)->H' b=some (.ext φ)):dv P w H' h' a o:=by
 induction o with
 | lst xs=>obtain⟨z,its,n,r,e⟩:=x;exact⟨z,its,n,r,k _ _ (.inl rfl) e⟩
 | tup xs=>obtain⟨z,its,r,ob,e,c⟩:=x;exact⟨z,its,r,ob,k _ _ (.inl rfl) e,c⟩
 | dK eD=>obtain⟨z,y,vs,r,ob,es,ep,e,c⟩:=x;exact⟨z,y,vs,r,ob,es,ep,k _ _ (.inl rfl) e,c⟩
 | dT eD =>
  obtain⟨z,y,xs,r,ob,es,ep,e,c⟩:=x;exact⟨z,y,xs,Paired.FH r λp q z=>⟨z.1,ht _ _ z.2.1,z.2.2⟩,ob,es,ep,k _ _ (.inl rfl) e,c⟩
 | set S n=>obtain⟨ob,es,ep,t,e,c⟩:=x;exact⟨ob,es,ep,t,k _ _ (.inl rfl) e,c⟩
 | ins C dx fs =>
  obtain⟨d,z,ne,e,mA,⟨od,es,ep,e2,c⟩,r⟩:=x;exact⟨ho _ d,z,ne,k _ _ (.inl rfl) e,mA,⟨od,es,ep,k _ _ (.inr d) e2,c⟩,r⟩
 | own y=>obtain⟨ob,e⟩:=x;exact⟨ob,k _ _ (.inl rfl) e⟩
 | xd fs=>obtain⟨mA,⟨od,es,ep,e,c⟩,r⟩:=x;exact⟨mA,⟨od,es,ep,k _ _ (.inl rfl) e,c⟩,r⟩
 | zY lo hi=>obtain⟨t,u,v,e⟩:=x;exact⟨t,u,v,k _ _ (.inl rfl) e⟩
 | cV ob u ih=>obtain⟨e,q⟩:=x;exact⟨k _ _ (.inl rfl) e,ih q⟩
 | dF ps =>
  obtain⟨e,t,c⟩:=x;refine⟨k a _ (.inl rfl) e,t,λpos cv q=>?_⟩;obtain⟨d,φ,e1,e2,e3⟩:=c pos cv q;exact⟨d,φ,e1,hx _ _ e2,e3⟩
 | met f y =>
  have e:h.get? a=some (PySem.W.methodObj (.ref f) (.ref y)):=x;show h'.get? a=some (PySem.W.methodObj (.ref f) (.ref y));exact k a _ (.inl rfl) e
 | ext φ=>obtain⟨p,⟨o,e⟩,st⟩:=x;exact⟨st _ _ p λb o hb q=>k _ _ hb q,⟨o,k _ _ (.inl rfl) e⟩,λh1 h2 p1 kk=>st h1 h2 p1 λb o hb q=>kk b o (hb.imp id (ho b)) q⟩
theorem da.lt(x:da P w H h)(e:H a=some o):a<h.objs.size:=(x a o e).lt
theorem da.fresh(x:da P w H h)(e:h.objs.size<=a):H a=none:=by
 cases q:H a with
 | none=>rfl
 | some u=>exact absurd (cY (x.lt q) e) (g7 _)
theorem da.kept(x:da P w H h)(k:∀b u,h.get? b=some u->h'.get? b=some u):da P w H h':=λa o e =>
 (x a o e).jj (λb u _ q=>k b u q) (λ_ q=>q) (λ_ _ q=>q) λ_ _ q=>q
theorem da.laid(x:da P w H h)(k:∀b u,h.get? b=some u->h'.get? b=some u)(hp:h.objs.size<=a)(new:dv P w (upd H a o) h' a o):da P w (upd H a o) h':=λb u e=>by
 have hn:=x.fresh hp;by_cases hb:b=a
 ·subst hb;rw[dm]at e;cases e;exact new
 ·rw[aZ hb]at e;exact(x b u e).jj (λc v _ q=>k c v q) (λc q=>by rw[aZ (dQ q hn)];exact q) (λc xs q=>by rw[aZ (dQ q hn)];exact q) λc xs q=>by rw[aZ (dQ q hn)];exact q
end
def Rd(H:Hp)(a:Addr)(u:HO):Prop:=H a=some u\/∃o,H a=some (.cV o u)
theorem Rd.ok{P:Program}{w:World}{H:Hp}{h:Heap}{a:Addr}{u:HO}(r:Rd H a u)(x:da P w H h):dv P w H h a u:=by
 rcases r with r | ⟨o,r⟩
 ·exact x a u r
 ·obtain⟨_,q⟩:=x a _ r;exact q
def CA:Option HO->Prop
 | some (.lst _)=>True
 | some (.dK _)=>True
 | some (.dT _)=>True
 | some (.set _ _)=>True
 | some (.ins _ _ _)=>True
 | _=>False
section
variable{P:Program}{w:World}{H:Hp}{h h':Heap}{x e:Addr}{o':HO}
theorem da.write(ok:da P w H h)(mu:CA (H x))(he:e=x\/H e=some (.own x))(k:∀b u,b≠e->h.get? b=some u->h'.get? b=some u)(xp:∃u,h'.get? e=some u)
  (new:dv P w (upd H x o') h' x o'):da P w (upd H x o') h':=λb u q=>by
 have LV:∀c y,H c=some (.own y)->c≠x:=λc y r z=>by subst z;rw[r]at mu;exact mu
 have Z2:∀c xs,H c=some (.tup xs)->c≠x:=λc xs r z=>by subst z;rw[r]at mu;exact mu
 by_cases hb:b=x
 ·subst hb;rw[dm]at q;cases q;exact new
 ·rw[aZ hb]at q;by_cases tW:b=e
  ·have q':H b=some (.own x):=by
    rcases he with z | z
    ·exact absurd (tW.trans z) hb
    ·rw[tW];exact z
   rw[q]at q';cases q';obtain⟨v,hv⟩:=xp;exact⟨v,by rw[tW];exact hv⟩
  ·refine(ok b u q).jj (λc v hc r=>k c v ?_ r) (λc r=>by rw[aZ (LV c b r)];exact r) (λc xs r=>by rw[aZ (Z2 c xs r)];exact r) λc φ r=>by rw[aZ (λz=>by rw[z]at r;rw[r]at mu;exact mu)];exact r
   rcases hc with rfl | hc
   ·exact tW
   ·rintro rfl;rcases he with z | z
    ·exact LV c b hc z
    ·rw[hc]at z;cases z;exact hb rfl
end
structure Un(fs ex:List Addr)(H H':Hp)(h h':Heap):Prop where
 keep:∀b o,h.get? b=some o->H b=none->b ∉ fs->b ∉ ex->h'.get? b=some o
 slot:∀b o,h.get? b=some o->H b=none->b∈fs->b ∉ ex->∃sl,h'.get? b=some { o with slots:=sl }
 free:∀b o,h.get? b=some o->H b=none->b ∉ ex->H' b=none
 there:∀b o,h.get? b=some o->b ∉ ex->∃o',h'.get? b=some o'
 iE:∀b xs,H b=some (.tup xs)->H' b=some (.tup xs)
 hJ:∀b o u,H b=some (.cV o u)->H' b=some (.cV o u)
 gv:∀b ps,H b=some (.dF ps)->∃more,H' b=some (.dF (ps++more))
section
variable{fs Z3 ex ex':List Addr}{H H1 H2:Hp}{h h1 h2 h':Heap}{a x e:Addr}{o:HO}
theorem Un.any(u:Un fs ex H H1 h h1){b:Addr}{ob:Obj}(q:h.get? b=some ob)(n:H b=none)(hx:b ∉ ex):∃sl,h1.get? b=some { ob with slots:=sl }:=by
 by_cases hb:b∈fs
 ·exact u.slot b ob q n hb hx
 ·exact⟨ob.slots,u.keep b ob q n hb hx⟩
theorem Un.kept(k:∀b u,h.get? b=some u->h'.get? b=some u):Un fs ex H H h h' :=
 ⟨λb ob q _ _ _=>k b ob q,λb ob q _ _ _=>⟨ob.slots,k b ob q⟩,λ_ _ _ n _=>n,λb ob q _=>⟨ob,k b ob q⟩,λ_ _ q=>q,λ_ _ _ q=>q,λ_ ps q=>⟨#[],by rw[q];simp⟩⟩
theorem Un.refl:Un fs ex H H h h:=Un.kept λ_ _ q=>q
theorem Un.laid(k:∀b u,h.get? b=some u->h'.get? b=some u)(hp:h.objs.size<=a)(hn:H a=none):Un fs ex H (upd H a o) h h' where
 keep:=λb u q _ _ _=>k b u q
 slot:=λb u q _ _ _=>⟨u.slots,k b u q⟩
 free:=λb u q n _=>by rw[aZ (eI (cY (bM q) hp))];exact n
 there:=λb u q _=>⟨u,k b u q⟩
 iE:=λb xs q=>by rw[aZ (dQ q hn)];exact q
 hJ:=λb u xs q=>by rw[aZ (dQ q hn)];exact q
 gv:=λb ps q=>⟨#[],by rw[aZ (dQ q hn),q];simp⟩
theorem Un.write(mu:CA (H x))(he:e=x\/H e=some (.own x))(k:∀b u,b≠e->h.get? b=some u->h'.get? b=some u)(xp:∃u,h'.get? e=some u):Un fs ex H (upd H x o) h h':=by
 have hx:∀b,H b=none->b≠x:=λb n z=>by subst z;rw[n]at mu;exact mu
 have hb:∀b,H b=none->b≠e:=λb n z=>by
  subst z;rcases he with r | r
  ·exact hx b n r
  ·rw[n]at r;cases r
 have hm:∀b u,H b=some u->¬ CA (some u)->b≠x:=λb u q nm z=>by subst z;rw[q]at mu;exact nm mu
 refine⟨λb u q n _ _=>k b u (hb b n) q,λb u q n _ _=>⟨u.slots,k b u (hb b n) q⟩,λb u q n _=>by rw[aZ (hx b n)];exact n,λb u q _=>?_,
  λb xs q=>by rw[aZ (hm b _ q λz=>z)];exact q,λb u xs q=>by rw[aZ (hm b _ q λz=>z)];exact q,λb ps q=>⟨#[],by rw[aZ (hm b _ q λz=>z),q];simp⟩⟩
 by_cases tW:b=e
 ·subst tW;exact xp
 ·exact⟨u,k b u tW q⟩
end
def CB(h:Heap)(H:Hp):List Addr:=(aI h.objs.size).filter λa=>(H a).isSome
def nH(h:Heap)(H:Hp):Heap:=PySem.W.hideAll h (CB h H)
theorem Z4(h:Heap)(H:Hp):(nH h H).objs.size=h.objs.size:=PySem.W.hideAll_size _ _
theorem Z5{h:Heap}{H:Hp}{b:Addr}{o:Obj}(e:h.get? b=some o)(n:H b=none):(nH h H).get? b=some o :=
 PySem.W.hideAll_get _ e λhm=>by
  have q:(H b).isSome=true:=(qK.mp hm).2;rw[n]at q;simp at q
theorem Z6{h:Heap}{H:Hp}{b:Addr}{o:Obj}(e:(nH h H).get? b=some o):h.get? b=some o/\H b=none:=by
 have e':h.get? b=some o:=PySem.W.of_hideAll (CB h H) e;refine⟨e',?_⟩
 cases q:H b with
 | none=>rfl
 | some x =>
  have hm:b∈CB h H:=qK.mpr ⟨cJ.mpr (bM e'),by simp[q]⟩;have z:(nH h H).get? b=none:=PySem.W.hideAll_none (CB h H) hm;rw[z]at e;cases e
structure Mod(K:PySem.W.Frag)(mg:Str->Option Value)(base:Heap):Prop where
 lu:K.In base
 glob:base.Ns mainGlobals mg
 blt:∃mb,base.Ns builtinsNs mb/\∀x:Str,x≠"__name__"->mb x=bootBuiltins x
 nolimit:base.NoLimit
structure Cx where
 prog:Program
 w:World
 K:PySem.W.Frag
 mg:Str->Option Value
 base:Heap
 A:Around
 N:List Str
 cK:Shared
 ly:Hp
 env:Env
 outer:List Env
 stack:List Env
 ex:List Addr
 fn:Str->Bool
 calm:Bool
 pn:List (Addr × Obj)
 xe:Value->Shared->Prop
def eN(l:List Env):List Addr:=l.filterMap (·.frame)
abbrev Cx.fs(X:Cx):List Addr:=eN X.outer
def km(sc:Scope)(x:Str):Prop:=sc.names.lookup x=some .local\/sc.names.lookup x=some .cell\/sc.names.lookup x=some .free
def Loc(sc:Scope)(x:Str):Prop:=sc.names.lookup x=some .local\/sc.names.lookup x=some .cell
def Z7(env:Env)(h:Heap)(m:Str->Option Value)(x:Str)(u:Value):Prop :=
 (env.kindOf x=some .local/\m x=some u)\/((env.kindOf x=some .cell\/env.kindOf x=some .free)/\∃c,env.cells.lookup x=some c/\h.IsCell c (some u))
structure Cx.Ok(X:Cx):Prop where
 mod:Mod X.K X.mg X.base
 kind:X.env.scope.kind=.function
 glob:X.env.globals=mainGlobals
 blt:X.env.builtins=builtinsNs
 above:X.cK.heap.objs.size<=X.env.locals
 inj:∀x y c,X.env.cells.lookup x=some c->X.env.cells.lookup y=some c->x=y
 has:∀x,(X.env.kindOf x=some .cell\/X.env.kindOf x=some .free)->∃c,X.env.cells.lookup x=some c
 oY:∀x c,X.fn x=true->X.env.cells.lookup x=some c->X.cK.heap.objs.size<=c
 hd:X.calm=true->X.A.handled=none
 frames:X.A.frames=some X.stack
 tY:X.stack=X.outer\/(X.stack=X.env::X.outer/\X.env.frame=some X.env.locals)
 tZ:∀b∈X.ex,b≠X.env.locals/\∀x c,X.env.cells.lookup x=some c->c≠b
 bs:∀b o,X.base.get? b=some o->X.cK.heap.get? b=some o/\X.ly b=none
 jO:X.base.objs.size<=X.cK.heap.objs.size
 q0:∀b o,X.base.get? b=some o->b ∉ X.ex
 q8:∀b∈X.ex,b ∉ X.fs
 gF:X.cK.heap.FunFrames X.base X.outer
 jP:∀b∈X.fs,X.ly b=none
structure Inv(X:Cx)(pins:List (Addr × Obj))(σ:List (Option V))(H:Hp)(s:Shared):Prop where
 ok:X.Ok
 os:s.os=X.cK.os
 bare:AllBare s.gens
 base:Un X.fs X.ex X.ly H X.cK.heap s.heap
 loc:∃m,s.heap.Ns X.env.locals m/\∀(i:Nat) (x:Str) (v:V),X.N[i]?=some x->σ[i]?=some (some v)->km X.env.scope x->∃u,RelV v u/\Z7 X.env s.heap m x u
 cell:∀x c,X.env.cells.lookup x=some c->∃v,s.heap.IsCell c v
 free:H X.env.locals=none
 fh:∀x c,X.env.cells.lookup x=some c->H c=none
 pin:∀p∈X.pn++pins,s.heap.get? p.1=some p.2/\H p.1=none/\p.1≠X.env.locals/\p.1 ∉ X.fs/\∀v,p.2.data≠.cell v
 aH:da X.prog X.w H s.heap
 len:σ.length=X.N.length
section
variable{X:Cx}{pins:List (Addr × Obj)}{σ:List (Option V)}{H H':Hp}{s:Shared}{h':Heap}
theorem Cx.Ok.Z8(ok:X.Ok){b:Addr}{o:Obj}(e:X.base.get? b=some o):b ∉ X.fs:=λhb=>by
 have:=(ok.gF.mem hb).1;rw[e]at this;cases this
theorem Inv.bs(I:Inv X pins σ H s):∀b o,X.base.get? b=some o->s.heap.get? b=some o/\H b=none:=λb o e =>
 ⟨I.base.keep b o (I.ok.bs b o e).1 (I.ok.bs b o e).2 (I.ok.Z8 e) (I.ok.q0 b o e),I.base.free b o (I.ok.bs b o e).1 (I.ok.bs b o e).2 (I.ok.q0 b o e)⟩
theorem Inv.bk(I:Inv X pins σ H s):∀b o,X.base.get? b=some o->s.heap.get? b=some o:=λb o e=>(I.bs b o e).1
theorem Inv.mod(I:Inv X pins σ H s):Mod X.K X.mg X.base:=I.ok.mod
theorem Inv.bY(I:Inv X pins σ H s):X.K.In s.heap:=I.ok.mod.lu.keeps I.bk
theorem Inv.lt(I:Inv X pins σ H s):X.env.locals<s.heap.objs.size:=let⟨_,hn,_⟩:=I.loc;hn.lt
theorem Inv.sz(I:Inv X pins σ H s):X.cK.heap.objs.size<=s.heap.objs.size:=ff I.ok.above (tG I.lt)
theorem Inv.LW(I:Inv X pins σ H s){a:Addr}(h:s.heap.objs.size<=a):a ∉ X.fs:=λhb=>by
 obtain⟨_,o,ho,_⟩:=I.ok.gF.mem hb;exact absurd (cY (bM ho) (ff I.sz h)) (g7 _)
theorem Inv.lC(I:Inv X pins σ H s):∀x c,X.env.cells.lookup x=some c->c≠X.env.locals:=λx c e z=>by
 obtain⟨v,o,ho,hd⟩:=I.cell x c e;obtain⟨m,⟨o',es,ep,mq,zZ,_⟩,_⟩:=I.loc;rw[z,mq]at ho;cases ho;rw[zZ]at hd;cases hd
theorem Inv.gF(I:Inv X pins σ H s):s.heap.FunFrames X.base X.outer:=by
 have all:∀(l:List Env),(∀b∈eN l,b∈X.fs)->X.cK.heap.FunFrames X.base l->s.heap.FunFrames X.base l:=by
  intro l
  induction l with
  | nil=>intro _ _;trivial
  | cons env r ih =>
   intro hs hl;obtain⟨hk,⟨L,o,hf,hn,ho,hd⟩,hr⟩:=hl;have hL:L∈X.fs:=hs L (by unfold eN;rw[Ca,hf];exact ke);obtain⟨sl,e⟩:=I.base.slot L o ho (I.ok.jP L hL) hL λz=>I.ok.q8 L z hL;exact⟨hk,⟨L,_,hf,hn,e,hd⟩,ih (λb hb=>hs b (by unfold eN;rw[Ca,hf];exact iB _ hb)) hr⟩
 exact all X.outer (λ_ hb=>hb) I.ok.gF
theorem Inv.stack(I:Inv X pins σ H s):s.heap.FunFrames X.base X.stack:=by
 rcases I.ok.tY with e | ⟨e,hf⟩
 ·rw[e];exact I.gF
 ·rw[e];obtain⟨m,hn,_⟩:=I.loc;refine .cons (by rw[I.ok.kind];decide) hf hn ?_ I.gF;exact E3 (ff I.ok.jO I.ok.above)
theorem Inv.z4(I:Inv X pins σ H s):∀b∈eN X.stack,b∈X.env.locals::X.fs:=λb hb=>by
 rcases I.ok.tY with e | ⟨e,hf⟩
 ·rw[e]at hb;exact iB _ hb
 ·rw[e]at hb;unfold eN at hb;rw[Ca,hf]at hb;exact hb
theorem Inv.CC(I:Inv X pins σ H s):∀b∈eN X.stack,H b=none:=λb hb=>by
 rcases cO.mp (I.z4 b hb)with e | hb
 ·rw[e];exact I.free
 ·obtain⟨_,o,ho,_⟩:=I.ok.gF.mem hb;exact I.base.free b o ho (I.ok.jP b hb) λz=>I.ok.q8 b z hb
theorem Inv.step{g':Array GenState}{t':Nat}{d':Drawn}{ch:List Addr}(I:Inv X pins σ H s)
  (nI:∀b∈ch,(b∈X.ex\/X.cK.heap.objs.size<=b)/\b≠X.env.locals/\(∀x c,X.env.cells.lookup x=some c->c≠b)/\∀p∈X.pn++pins,p.1≠b)
  (keep:∀b o,b≠X.env.locals->b ∉ X.fs->b ∉ ch->s.heap.get? b=some o->H b=none->h'.get? b=some o)
  (slot:∀b o,b≠X.env.locals->b∈X.fs->b ∉ ch->s.heap.get? b=some o->H b=none->∃sl,h'.get? b=some { o with slots:=sl }) (free:∀b o,b ∉ ch->s.heap.get? b=some o->H b=none->H' b=none)
  (there:∀b o,b ∉ ch->s.heap.get? b=some o->∃o',h'.get? b=some o')
  (iE:∀b xs,H b=some (.tup xs)->H' b=some (.tup xs)) (hJ:∀b o u,H b=some (.cV o u)->H' b=some (.cV o u)) (gv:∀b ps,H b=some (.dF ps)->∃more,H' b=some (.dF (ps++more)))
  (ns:∀m,s.heap.Ns X.env.locals m->h'.Ns X.env.locals m) (aH:da X.prog X.w H' h') (hg:AllBare g') :
  Inv X pins σ H' { s with heap:=h',gens:=g',drawn:=d',toks:=t' }:=by
 have xq:∀b o,X.cK.heap.get? b=some o->b≠X.env.locals:=λb o e=>eI (cY (bM e) I.ok.above);have xt:∀b o,X.cK.heap.get? b=some o->b ∉ X.ex->b ∉ ch:=λb o e hx hb=>by
  rcases(nI b hb).1 with z | z
  ·exact hx z
  ·exact absurd (cY (bM e) z) (g7 _)
 have cellK:∀x c,X.env.cells.lookup x=some c->∀v,s.heap.IsCell c v->h'.IsCell c v:=λx c e v ⟨o,ho,hd⟩=>by
  have z5:c ∉ ch:=λz=>(nI c z).2.2.1 x c e rfl;by_cases hc:c∈X.fs
  ·obtain⟨sl,q⟩:=slot c o (I.lC x c e) hc z5 ho (I.fh x c e);exact⟨_,q,hd⟩
  ·exact⟨o,keep c o (I.lC x c e) hc z5 ho (I.fh x c e),hd⟩
 refine⟨I.ok,I.os,hg,⟨λb o e n hb hx=>?_,λb o e n hb hx=>?_,λb o e n hx=>?_,λb o e hx=>?_,λb xs e=>iE b xs (I.base.iE b xs e),λb o xs e=>hJ b o xs (I.base.hJ b o xs e),λb ps e=>?_⟩,?_,λx c e=>?_,?_,λx c e=>?_,λp hp=>?_,aH,I.len⟩
 ·exact keep b o (xq b o e) hb (xt b o e hx) (I.base.keep b o e n hb hx) (I.base.free b o e n hx)
 ·obtain⟨sl,e1⟩:=I.base.slot b o e n hb hx;obtain⟨z6,e2⟩:=slot b _ (xq b o e) hb (xt b o e hx) e1 (I.base.free b o e n hx);exact⟨z6,e2⟩
 ·obtain⟨o',e1⟩:=I.base.there b o e hx;exact free b o' (xt b o e hx) e1 (I.base.free b o e n hx)
 ·obtain⟨o',e1⟩:=I.base.there b o e hx;exact there b o' (xt b o e hx) e1
 ·obtain⟨m1,e1⟩:=I.base.gv b ps e;obtain⟨m2,e2⟩:=gv b _ e1;exact⟨m1++m2,by rw[e2,zu]⟩
 ·obtain⟨m,hn,hl⟩:=I.loc;refine⟨m,ns m hn,λi x v e1 e2 e3=>?_⟩;obtain⟨u,r,l⟩:=hl i x v e1 e2 e3;refine⟨u,r,?_⟩;rcases l with l | ⟨k,c,e,z⟩
  ·exact .inl l
  ·exact .inr ⟨k,c,e,cellK x c e _ z⟩
 ·obtain⟨v,z⟩:=I.cell x c e;exact⟨v,cellK x c e v z⟩
 ·obtain⟨m,⟨o,_,_,ho,_⟩,_⟩:=I.loc;exact free _ o (λz=>(nI _ z).2.1 rfl) ho I.free
 ·obtain⟨v,o,ho,hd⟩:=I.cell x c e;exact free c o (λz=>(nI c z).2.2.1 x c e rfl) ho (I.fh x c e)
 ·obtain⟨e,n,ne,nf,d⟩:=I.pin p hp;have z5:p.1 ∉ ch:=λz=>(nI p.1 z).2.2.2 p hp rfl;exact⟨keep p.1 p.2 ne nf z5 e n,free p.1 p.2 z5 e n,ne,nf,d⟩
theorem Inv.un{t':Nat}(I:Inv X pins σ H s)(u:Un X.fs [] H H' s.heap h')(aH:da X.prog X.w H' h'):Inv X pins σ H' { s with heap:=h',toks:=t' }:=by
 obtain⟨m,⟨o,es,ep,ho,r⟩,_⟩:=id I.loc;obtain⟨sl,hL⟩:=u.any ho I.free (by simp);exact I.step (g':=s.gens) (d':=s.drawn) (ch:=[]) (λ_ z=>nomatch z) (λb o _ hb _ e n=>u.keep b o e n hb (by simp)) (λb o _ hb _ e n=>u.slot b o e n hb (by simp)) (λb o _ e n=>u.free b o e n (by simp)) (λb o _ e=>u.there b o e (by simp)) u.iE u.hJ u.gv (λm' hm=>by
  obtain⟨o',FI,FJ,mq,r'⟩:=hm;rw[ho]at mq;cases mq;exact⟨_,FI,FJ,hL,r'⟩) aH I.bare
theorem Inv.call{g':Array GenState}{t':Nat}{d':Drawn}{ch:List Addr}(I:Inv X pins σ H s)(u:Un (eN X.stack) ch H H' s.heap h')(aH:da X.prog X.w H' h')(hg:AllBare g')
  (nI:∀b∈ch,(b∈X.ex\/X.cK.heap.objs.size<=b)/\b≠X.env.locals/\(∀x c,X.env.cells.lookup x=some c->c≠b)/\∀p∈X.pn++pins,p.1≠b) :
  Inv X pins σ H' { s with heap:=h',gens:=g',drawn:=d',toks:=t' }:=by
 obtain⟨m,⟨o,es,ep,ho,r⟩,_⟩:=id I.loc;obtain⟨sl,hL⟩:=u.any ho I.free λz=>(nI _ z).2.1 rfl;exact I.step (ch:=ch) nI (λb o hL hb hc e n=>u.keep b o e n (λz=>(cO.mp (I.z4 b z)).elim hL hb) hc) (λb o _ _ hc e n=>u.any e n hc) (λb o hc e n=>u.free b o e n hc) (λb o hc e=>u.there b o e hc) u.iE u.hJ u.gv (λm' hm=>by
  obtain⟨o',FI,FJ,mq,r'⟩:=hm;rw[ho]at mq;cases mq;exact⟨_,FI,FJ,hL,r'⟩) aH hg
theorem Inv.turned{t':Nat}{it:Addr}(I:Inv X pins σ H s)(k:∀b o,b≠it->s.heap.get? b=some o->h'.get? b=some o)(hn:H it=none)(hL:it≠X.env.locals)
  (h1:it∈X.ex\/X.cK.heap.objs.size<=it) (h2:∀x c,X.env.cells.lookup x=some c->c≠it) (h3:∀p∈X.pn++pins,p.1≠it):Inv X pins σ H { s with heap:=h',toks:=t' }:=by
 have q9:∀b u,H b=some u->b≠it:=λb u e z=>by rw[z,hn]at e;cases e
 refine I.step (g':=s.gens) (d':=s.drawn) (ch:=[it]) (λb hb=>?_) (λb o _ _ hc e _=>k b o (λz=>hc (by simp[z])) e) (λb o _ _ hc e _=>⟨o.slots,k b o (λz=>hc (by simp[z])) e⟩) (λ_ _ _ _ n=>n)
  (λb o hc e=>⟨o,k b o (λz=>hc (by simp[z])) e⟩) (λ_ _ e=>e) (λ_ _ _ e=>e) (λb ps e=>⟨#[],by rw[e];simp⟩) (λm hm=>?_) (λb u e=>?_) I.bare
 ·have e:b=it:=by simpa using hb
  subst e;exact⟨h1,hL,h2,h3⟩
 ·obtain⟨o,es,ep,ho,r⟩:=hm;exact⟨o,es,ep,k _ o (fg hL) ho,r⟩
 ·refine(I.aH b u e).jj (λc v hc q=>k c v ?_ q) (λ_ q=>q) (λ_ _ q=>q) λ_ _ q=>q;rcases hc with z | z
  ·rw[z];exact q9 b u e
  ·exact q9 c _ z
theorem Inv.tok(I:Inv X pins σ H s)(t:Nat):Inv X pins σ H { s with toks:=t }:=I.un (h':=s.heap) (t':=t) Un.refl I.aH
theorem Inv.kept{t':Nat}(I:Inv X pins σ H s)(k:∀b u,s.heap.get? b=some u->h'.get? b=some u):Inv X pins σ H { s with heap:=h',toks:=t' }:=I.un (Un.kept k) (I.aH.kept k)
theorem Inv.laid{a:Addr}{o:HO}{t':Nat}(I:Inv X pins σ H s)(k:∀b u,s.heap.get? b=some u->h'.get? b=some u)(hp:s.heap.objs.size<=a)(new:dv X.prog X.w (upd H a o) h' a o) :
  Inv X pins σ (upd H a o) { s with heap:=h',toks:=t' }:=I.un (Un.laid k hp (I.aH.fresh hp)) (I.aH.laid k hp new)
theorem Inv.write{x e:Addr}{o:HO}{t':Nat}(I:Inv X pins σ H s)(mu:CA (H x))(he:e=x\/H e=some (.own x))(k:∀b u,b≠e->s.heap.get? b=some u->h'.get? b=some u)(xp:∃u,h'.get? e=some u)
  (new:dv X.prog X.w (upd H x o) h' x o):Inv X pins σ (upd H x o) { s with heap:=h',toks:=t' }:=I.un (Un.write mu he k xp) (I.aH.write mu he k xp new)
theorem Inv.weak{aJ:List (Option V)}(I:Inv X pins σ H s)(hl:aJ.length=σ.length)(w:∀(i:Nat) v,aJ[i]?=some (some v)->σ[i]?=some (some v)):Inv X pins aJ H s :=
 ⟨I.ok,I.os,I.bare,I.base,let⟨m,hn,jQ⟩:=I.loc;⟨m,hn,λi x v e1 e2 e3=>jQ i x v e1 (w i v e2) e3⟩,I.cell,I.free,I.fh,I.pin,I.aH,hl.trans I.len⟩
theorem Inv.LX{xu:List (Addr × Obj)}(I:Inv X pins σ H s)(h:∀p∈xu,s.heap.get? p.1=some p.2/\H p.1=none/\p.1≠X.env.locals/\p.1 ∉ X.fs/\∀v,p.2.data≠.cell v):Inv X xu σ H s :=
 ⟨I.ok,I.os,I.bare,I.base,I.loc,I.cell,I.free,I.fh,λp hp=>(cZ.mp hp).elim (λz=>I.pin p (gE _ z)) (h p),I.aH,I.len⟩
theorem FK{N:List Str}(hN:N.Nodup){i j:Nat}{x:Str}(a:N[i]?=some x)(b:N[j]?=some x):i=j:=by
 obtain⟨h1,e1⟩:=jh.mp a;obtain⟨h2,e2⟩:=jh.mp b;exact(List.getElem_inj hN).mp (e1.trans e2.symm)
theorem Z9{M:Model}{A:Around}{E:Value->Shared->Prop}{i:Nat}{x:Str}{v:V}{u:Value}{Q:Unit->Shared->Prop}(I:Inv X pins σ H s)(hN:X.N.Nodup)(hi:X.N[i]?=some x)(hx:Loc X.env.scope x)(r:RelV v u)
  (h:∀s',Inv X pins (σ.set i (some v)) H s'->(∃a,Heap.SameBut a s.heap s'.heap/\(a=X.env.locals\/X.env.cells.lookup x=some a))->Q () s') (hf:X.fn x=true\/X.env.scope.names.lookup x=some .local:=by first | exact .inl rfl | exact .inr rfl | assumption):wpAny M A (storeName X.env x u) Q E s:=by
 obtain⟨m,hn,hl⟩:=id I.loc;have γ:(X.env.scope.kind==.class||(X.env.scope.kind==.module&&X.env.locals != X.env.globals))=false:=by rw[I.ok.kind];rfl
 have LY:i<σ.length:=by rw[I.len];exact(jh.mp hi).1
 have lC:=I.lC;have tracked:∀{a:Addr} {h':Heap},(∃o,s.heap.get? a=some o/\H a=none)->Heap.SameBut a s.heap h'->da X.prog X.w H h':=λ{a h'} ha hs b ob e=>by
  obtain⟨_,_,LZ⟩:=ha;refine(I.aH b ob e).jj (λc w' hc q=>(hs.2 c ?_).trans q) (λ_ q=>q) (λ_ _ q=>q) λ_ _ q=>q;rintro rfl;rcases hc with rfl | hc
  ·rw[LZ]at e;cases e
  ·rw[LZ]at hc;cases hc
 rcases hx with hk | hk
 ·refine wpAny_storeName_local hk hn (λh' xv hs=>?_) γ;obtain⟨oL,_,_,L4,_⟩:=id hn;refine h _ ⟨I.ok,I.os,I.bare,⟨λb o e n hb hx=>?_,λb o e n hb hx=>?_,I.base.free,λb o e hx=>?_,I.base.iE,I.base.hJ,I.base.gv⟩,⟨_,xv,λj y v' e1 e2 e3=>?_⟩,λy c e=>?_,I.free,I.fh,λp hp=>?_,tracked ⟨oL,L4,I.free⟩ hs,by simpa using I.len⟩ ⟨_,hs,.inl rfl⟩
  ·exact(hs.2 b (eI (cY (bM e) I.ok.above))).trans (I.base.keep b o e n hb hx)
  ·obtain⟨sl,e1⟩:=I.base.slot b o e n hb hx;exact⟨sl,(hs.2 b (eI (cY (bM e) I.ok.above))).trans e1⟩
  ·obtain⟨o',e1⟩:=I.base.there b o e hx;exact⟨o',(hs.2 b (eI (cY (bM e) I.ok.above))).trans e1⟩
  ·by_cases hj:j=i
   ·subst hj;rw[hi]at e1;cases e1;rw[tH LY]at e2;cases e2;exact⟨u,r,.inl ⟨hk,by simp⟩⟩
   ·rw[qL (fg hj)]at e2;obtain⟨u',r',q⟩:=hl j y v' e1 e2 e3;refine⟨u',r',?_⟩;rcases q with⟨k,e⟩ | ⟨k,c,e,z⟩
    ·refine .inl ⟨k,?_⟩;have:y≠x:=λe=>hj (FK hN e1 (e ▸ hi));simp[this,e]
    ·exact .inr ⟨k,c,e,z.sameBut hs (lC y c e)⟩
  ·obtain⟨w',z⟩:=I.cell y c e;exact⟨w',z.sameBut hs (lC y c e)⟩
  ·obtain⟨e,n,ne,nf,d⟩:=I.pin p hp;exact⟨(hs.2 p.1 ne).trans e,n,ne,nf,d⟩
 ·have oZ:X.fn x=true:=by
   rcases hf with z | z
   ·exact z
   ·rw[z]at hk;cases hk
  obtain⟨c,hc⟩:=I.ok.has x (.inl hk);obtain⟨w',z⟩:=I.cell x c hc;refine wpAny_storeName_cell I.ok.kind hk hc z (λh' z7 hs=>?_);obtain⟨oc,iV,ε⟩:=id z;refine h { s with heap:=h' } ⟨I.ok,I.os,I.bare,⟨λb o e n hb hx=>?_,λb o e n hb hx=>?_,I.base.free,λb o e hx=>?_,I.base.iE,I.base.hJ,I.base.gv⟩,⟨m,hn.sameBut hs (fg (lC x c hc)),λj y v' e1 e2 e3=>?_⟩,λy c' e=>?_,I.free,I.fh,λp hp=>?_,tracked ⟨oc,iV,I.fh x c hc⟩ hs,by simpa using I.len⟩ ⟨c,hs,.inr hc⟩
  ·exact(hs.2 b (eI (cY (bM e) (I.ok.oY x c oZ hc)))).trans (I.base.keep b o e n hb hx)
  ·obtain⟨sl,e1⟩:=I.base.slot b o e n hb hx;exact⟨sl,(hs.2 b (eI (cY (bM e) (I.ok.oY x c oZ hc)))).trans e1⟩
  ·obtain⟨o',e1⟩:=I.base.there b o e hx;exact⟨o',(hs.2 b (eI (cY (bM e) (I.ok.oY x c oZ hc)))).trans e1⟩
  ·by_cases hj:j=i
   ·subst hj;rw[hi]at e1;cases e1;rw[tH LY]at e2;cases e2;exact⟨u,r,.inr ⟨.inl hk,c,hc,z7⟩⟩
   ·rw[qL (fg hj)]at e2;obtain⟨u',r',q⟩:=hl j y v' e1 e2 e3;refine⟨u',r',?_⟩;rcases q with q | ⟨k,c',e,z'⟩
    ·exact .inl q
    ·refine .inr ⟨k,c',e,z'.sameBut hs ?_⟩;rintro rfl;exact hj (FK hN e1 (I.ok.inj _ _ _ e hc ▸ hi))
  ·by_cases L5:c'=c
   ·subst L5;exact⟨_,z7⟩
   ·obtain⟨w2,z2⟩:=I.cell y c' e;exact⟨w2,z2.sameBut hs L5⟩
  ·obtain⟨e,n,ne,nf,d⟩:=I.pin p hp;refine⟨(hs.2 p.1 ?_).trans e,n,ne,nf,d⟩;intro q;rw[q,iV]at e;have q':oc=p.2:=dr e;exact d w' (by rw[<-q'];exact ε)
theorem CD{M:Model}{A:Around}{E:Value->Shared->Prop}{i:Nat}{x:Str}{v:V}{u:Value}{Q:Unit->Shared->Prop}(I:Inv X pins σ H s)(hN:X.N.Nodup)(hi:X.N[i]?=some x)(hx:Loc X.env.scope x)(r:RelV v u)
  (h:∀s',Inv X pins (σ.set i (some v)) H s'->Q () s') (hf:X.fn x=true\/X.env.scope.names.lookup x=some .local:=by first | exact .inl rfl | exact .inr rfl | assumption):wpAny M A (storeName X.env x u) Q E s :=
 Z9 I hN hi hx r (λs' I' _=>h s' I') hf
theorem Inv.L6{s':Shared}{ch:List Addr}(I:Inv X pins σ H s)(ho:s'.os=s.os)(u:Un (eN X.stack) ch H H' s.heap s'.heap)(aH:da X.prog X.w H' s'.heap)(hg:AllBare s'.gens)
  (nI:∀b∈ch,(b∈X.ex\/X.cK.heap.objs.size<=b)/\b≠X.env.locals/\(∀x c,X.env.cells.lookup x=some c->c≠b)/\∀p∈X.pn++pins,p.1≠b):Inv X pins σ H' s':=by
 obtain⟨h',g',d',t',o'⟩:=s';have e:o'=s.os:=ho;subst e;exact I.call (g':=g') (t':=t') (d':=d') u aH hg nI
end
abbrev XK:=Value->Option Addr->Hp->Prop
abbrev St:=List (Option V)
abbrev VK:=V->Hp->Prop
abbrev TE:=St->Hp->VK->Prop
abbrev TT:=St->Hp->(Bool->Hp->Prop)->Prop
abbrev TA:=St->Hp->(List V->Hp->Prop)->Prop
structure Ends where
 nx:St->Hp->Prop
 rt:VK
 bk:St->Hp->Prop:=λ_ _=>False
 ct:St->Hp->Prop:=λ_ _=>False
abbrev TS:=Ends->St->Hp->Prop
inductive EP(X:Cx)(pins:List (Addr × Obj))(σ:St)(Q:VK)(u:Value)(s':Shared):Prop
 | mk (v H') (I:Inv X pins σ H' s') (r:RelV v u) (q:Q v H')
def TP(X:Cx)(pins:List (Addr × Obj))(σ:St)(Q:Bool->Hp->Prop)(b:Bool)(s':Shared):Prop:=∃H',Inv X pins σ H' s'/\Q b H'
inductive AP(X:Cx)(pins:List (Addr × Obj))(σ:St)(Q:List V->Hp->Prop)(us:List Value)(s':Shared):Prop
 | mk (vs H') (I:Inv X pins σ H' s') (r:Vals vs us) (q:Q vs H')
def SP(X:Cx)(pins:List (Addr × Obj))(D:Ends)(f:Flow)(s':Shared):Prop :=
 match f with
 | .next=>∃aJ H',Inv X pins aJ H' s'/\D.nx aJ H'
 | .brk=>∃aJ H',Inv X pins aJ H' s'/\D.bk aJ H'
 | .cont=>∃aJ H',Inv X pins aJ H' s'/\D.ct aJ H'
 | .ret u=>∃v aJ H',Inv X pins aJ H' s'/\RelV v u/\D.rt v H'
def PE(X:Cx)(e:Expr)(t:TE):Prop :=
 ∀(pins:List (Addr × Obj)) (s:Shared) (σ:St) (H:Hp) (Q:VK),Inv X pins σ H s->t σ H Q->wpAny (model X.prog X.w) X.A (eval e X.env) (EP X pins σ Q) X.xe s
def PT(X:Cx)(e:Expr)(t:TT):Prop :=
 ∀(pins:List (Addr × Obj)) (s:Shared) (σ:St) (H:Hp) (Q:Bool->Hp->Prop),Inv X pins σ H s->t σ H Q->wpAny (model X.prog X.w) X.A (isTrue e X.env (eval e X.env)) (TP X pins σ Q) X.xe s
def PW(X:Cx)(e:Expr)(t:TT):Prop :=
 ∀(whole:Sem Value) (pins:List (Addr × Obj)) (s:Shared) (σ:St) (H:Hp) (Q:Bool->Hp->Prop),Inv X pins σ H s->t σ H Q->wpAny (model X.prog X.w) X.A (isTrue e X.env whole) (TP X pins σ Q) X.xe s
theorem PW.pt{X:Cx}{e:Expr}{t:TT}(h:PW X e t):PT X e t:=h _
def PA(X:Cx)(es:List Expr)(t:TA):Prop :=
 ∀(pos:Pos) (pins:List (Addr × Obj)) (s:Shared) (σ:St) (H:Hp) (Q:List V->Hp->Prop),Inv X pins σ H s->t σ H Q->wpAny (model X.prog X.w) X.A (spliced (backTo pos (starEach es X.env))) (AP X pins σ Q) X.xe s
def PS(X:Cx)(st:Stmt)(t:TS):Prop :=
 ∀(pins:List (Addr × Obj)) (s:Shared) (σ:St) (H:Hp) (D:Ends),Inv X pins σ H s->t D σ H->wpAny (model X.prog X.w) X.A (exec st X.env) (SP X pins D) X.xe s
def PSs(X:Cx)(st:List Stmt)(t:TS):Prop :=
 ∀(pins:List (Addr × Obj)) (s:Shared) (σ:St) (H:Hp) (D:Ends),Inv X pins σ H s->t D σ H->wpAny (model X.prog X.w) X.A (execs st X.env) (SP X pins D) X.xe s
theorem aU{α:Type}{t:Sem α}{Q Q':α->Shared->Prop}{M:Model}{A:Around}{E:Value->Shared->Prop}{s:Shared}(h:wpAny M A t Q E s)(hQ:∀a s,Q a s->Q' a s):wpAny M A t Q' E s:=wpAny_mono h hQ λ_ _ x=>x
section
variable{X:Cx}
def L7(i:Nat):TE:=λσ H Q=>∃v,σ[i]?=some (some v)/\Q v H
def tC(v:V):TE:=λ_ H Q=>Q v H
theorem nJ{i:Nat}{x:Str}{pos:Pos}(hN:X.N[i]?=some x)(hv:km X.env.scope x)(hd:(x==("__debug__":Str))=false:=by decide)(bZ:(x==("__classdict__":Str))=false:=by decide):PE X (.Name x pos) (L7 i):=by
 intro pins s σ H Q I h;obtain⟨v,e,h⟩:=h;obtain⟨m,hn,hl⟩:=I.loc;obtain⟨u,r,l⟩:=hl i x v hN e hv;have fin:EP X pins σ Q u s:=⟨v,H,I,r,h⟩;rcases l with⟨hk,hm⟩ | ⟨hk,c,hc,CF⟩
 ·exact wpAny_Name (wpAny_loadName_local I.ok.kind hk hn hm fin) hd
 ·rcases hk with hk | hk
  ·exact wpAny_Name (wpAny_loadName_cell I.ok.kind hk hc CF fin) hd
  ·exact wpAny_Name (wpAny_loadName_free I.ok.kind hk hc CF fin bZ) hd
theorem L8{i j pos}:PE X (.Constant (.int i) j pos) (tC (.int i)):=λ_ _ _ H _ I h=>wpAny_Constant_int ⟨.int i,H,I.tok _,⟨_,rfl⟩,h⟩
theorem ζ{b j pos}:PE X (.Constant (.bool b) j pos) (tC (.bl b)):=λ_ _ _ H _ I h=>Constant_bool ⟨.bl b,H,I,rfl,h⟩
theorem η{j pos}:PE X (.Constant .none j pos) (tC .aA):=λ_ _ _ H _ I h=>Constant_none ⟨.aA,H,I,rfl,h⟩
theorem L9{x j pos}:PE X (.Constant (.str x) j pos) (tC (.str x)):=λ_ _ _ H _ I h=>Calls.Constant_str ⟨.str x,H,I.tok _,⟨_,rfl⟩,h⟩
def Gl(X:Cx)(x:Str):Prop:=X.env.kindOf x=some .globalImplicit
theorem pf{E:Value->Shared->Prop}{pins:List (Addr × Obj)}{s:Shared}{σ:St}{H:Hp}{x:Str}{u:Value}{pos:Pos}{Q:Value->Shared->Prop}(I:Inv X pins σ H s)(hg:Gl X x)(hm:X.mg x=some u)(h:Q u s)
  (hd:(x==("__debug__":Str))=false:=by decide):wpAny (model X.prog X.w) X.A (eval (.Name x pos) X.env) Q E s :=
 Zm I.ok.kind hg (Calls.loadGlobal_global (by rw[I.ok.glob];exact I.mod.glob.keeps I.bk) hm h) hd
theorem rf{E:Value->Shared->Prop}{pins:List (Addr × Obj)}{s:Shared}{σ:St}{H:Hp}{x:Str}{u:Value}{pos:Pos}{Q:Value->Shared->Prop}(I:Inv X pins σ H s)(hg:Gl X x)(hm:X.mg x=none)(hv:bootBuiltins x=some u)(h:Q u s)
  (hn:x≠"__name__":=by decide) (hd:(x==("__debug__":Str))=false:=by decide):wpAny (model X.prog X.w) X.A (eval (.Name x pos) X.env) Q E s:=by
 obtain⟨mb,h1,h2⟩:=I.mod.blt;exact Zm I.ok.kind hg (Calls.loadGlobal_builtin (by rw[I.ok.glob];exact I.mod.glob.keeps I.bk) hm (by rw[I.ok.blt];exact h1.keeps I.bk) ((h2 x hn).trans hv) h) hd
theorem Ma{x:Str}{v:V}{u:Value}{pos:Pos}(hg:Gl X x)(hm:X.mg x=some u)(r:RelV v u)(hd:(x==("__debug__":Str))=false:=by decide):PE X (.Name x pos) (tC v) :=
 λ_ _ _ H _ I h=>pf I hg hm ⟨v,H,I,r,h⟩ hd
theorem θ{x:Str}{v:V}{u:Value}{pos:Pos}(hg:Gl X x)(hm:X.mg x=none)(hv:bootBuiltins x=some u)(r:RelV v u)(hn:x≠"__name__":=by decide)(hd:(x==("__debug__":Str))=false:=by decide):PE X (.Name x pos) (tC v) :=
 λ_ _ _ H _ I h=>rf I hg hm hv ⟨v,H,I,r,h⟩ hn hd
variable{a b:Expr}{ta tb:TE}{pos:Pos}
def tB(t:TE):TT:=λσ H Q=>t σ H λx H1=>∃c,x=.bl c/\Q c H1
theorem ι{e:Expr}{t:TE}(h:PE X e t)(he:∀whole,isTrue e X.env whole=(do let v<-whole;standAt e.pos;holding [v] (truthy v)):=by intro _;rfl):PT X e (tB t):=by
 intro pins s σ H Q I hw;refine isTrue_plain (aU (h pins s σ H _ I hw) λv s1 ⟨x,H1,I1,r1,q1⟩=>?_) (he _);obtain⟨d,rfl,q⟩:=q1;cases r1;exact wpAny_truthy_bool ⟨H1,I1,q⟩
variable{tA CG:TT}{rest:List Expr}
def μ(t u:TT):TT:=λσ H Q=>t σ H λc H1=>if c=true then u σ H1 Q else Q false H1
def ν(t u:TT):TT:=λσ H Q=>t σ H λc H1=>if c=true then Q true H1 else u σ H1 Q
def ο(t:TT):TT:=λσ H Q=>t σ H λc H1=>Q (!c) H1
theorem xw(ha:PT X a tA):PW X (.BoolOp .And [a] pos) tA:=by
 intro wh pins s σ H Q I h;refine isTrue_and (aU (ha pins s σ H Q I h) λc s1 e=>?_)
 cases c with
 | true=>exact isTrue_and_nil e
 | false=>exact e
theorem t7(ha:PT X a tA):PW X (.BoolOp .Or [a] pos) tA:=by
 intro wh pins s σ H Q I h;refine isTrue_or (aU (ha pins s σ H Q I h) λc s1 e=>?_)
 cases c with
 | false=>exact isTrue_or_nil e
 | true=>exact e
theorem π(ha:PT X a tA)(hb:PW X (.BoolOp .And (b::rest) pos) CG):PW X (.BoolOp .And (a::b::rest) pos) (μ tA CG):=by
 intro wh pins s σ H Q I h;refine isTrue_and (aU (ha pins s σ H _ I h) λc s1 ⟨H1,I1,q1⟩=>?_)
 cases c with
 | true=>exact hb wh pins s1 σ H1 Q I1 q1
 | false=>exact⟨H1,I1,q1⟩
theorem ρ(ha:PT X a tA)(hb:PW X (.BoolOp .Or (b::rest) pos) CG):PW X (.BoolOp .Or (a::b::rest) pos) (ν tA CG):=by
 intro wh pins s σ H Q I h;refine isTrue_or (aU (ha pins s σ H _ I h) λc s1 ⟨H1,I1,q1⟩=>?_)
 cases c with
 | true=>exact⟨H1,I1,q1⟩
 | false=>exact hb wh pins s1 σ H1 Q I1 q1
theorem τ(ha:PT X a tA):PT X (.UnaryOp .Not a pos) (ο tA):=by
 intro pins s σ H Q I h;exact isTrue_not (ha pins s σ H (λc H1=>Q (!c) H1) I h)
def υ(ta tb:TE):TE:=λσ H Q=>ta σ H λx H1=>∃c,x=.bl c/\if c=true then tb σ H1 Q else Q (.bl false) H1
def χ(ta:TE):TE:=λσ H Q=>ta σ H λx H1=>∃c,x=.bl c/\Q (.bl (!c)) H1
theorem xx{op}{t:TE}(h:PE X a t):PE X (.BoolOp op [a] pos) t:=λpins s σ H Q I hw=>BoolOp_one (h pins s σ H Q I hw)
theorem ω(ha:PE X a ta)(hb:PE X (.BoolOp .And (b::rest) pos) tb):PE X (.BoolOp .And (a::b::rest) pos) (υ ta tb):=by
 intro pins s σ H Q I h;refine BoolOp_and (aU (ha pins s σ H _ I h) λv s1 ⟨x,H1,I1,r1,q1⟩=>?_);obtain⟨c,rfl,q1⟩:=q1;cases r1;refine wpAny_truthy_bool ?_
 cases c with
 | true=>exact hb pins s1 σ H1 Q I1 q1
 | false=>exact⟨.bl false,H1,I1,rfl,q1⟩
theorem Γ(ha:PE X a ta):PE X (.UnaryOp .Not a pos) (χ ta):=by
 intro pins s σ H Q I h;refine UnaryOp_ (aU (ha pins s σ H _ I h) λv s1 ⟨x,H1,I1,r1,q1⟩=>?_);obtain⟨c,rfl,q1⟩:=q1;cases r1;exact not_of (wpAny_truthy_bool ⟨.bl (!c),H1,I1,rfl,q1⟩)
def Δ(t:TT)(ta tb:TE):TE:=λσ H Q=>t σ H λc H1=>if c=true then ta σ H1 Q else tb σ H1 Q
theorem Θ{c:Expr}(hc:PT X c tA)(ha:PE X a ta)(hb:PE X b tb):PE X (.IfExp c a b pos) (Δ tA ta tb):=by
 intro pins s σ H Q I h;refine wpAny_IfExp (aU (hc pins s σ H _ I h) λd s1 ⟨H1,I1,q1⟩=>?_)
 cases d with
 | true=>exact ha pins s1 σ H1 Q I1 q1
 | false=>exact hb pins s1 σ H1 Q I1 q1
end
def bN(K:PySem.W.Frag)(H:Hp)(a:Addr)(xs:List V):Prop :=
 Rd H a (.lst xs) \/
  ∃(o:Obj) (its:Array Value) (n:Nat),K.lookup a=some o/\o.cls=.type "list"/\o.dict=none/\o.data=.seq its n/\its.size<=sizeLine/\Vals xs its.toList
def iF(K:PySem.W.Frag)(H:Hp)(a:Addr)(xs:List V):Prop :=
 Rd H a (.tup xs) \/
  ∃(o:Obj) (its:Array Value) (n:Nat),K.lookup a=some o/\o.cls=.type "tuple"/\o.data=.seq its n/\its.size<=sizeLine/\Vals xs its.toList
def Λ:Value->Option V
 | .none=>some .aA
 | .bool b=>some (.bl b)
 | .int i _=>some (.int i)
 | .str x _=>some (.str x)
 | .bytes b _=>some (.Cz b)
 | .float b _=>some (.tV b)
 | .ref a=>some (.ref a)
 | .type n=>some (.ty n)
 | _=>none
theorem RelV.abs{x:V}{u:Value}(r:RelV x u):Λ u=some x:=by
 cases x with
 | aA=>cases r;rfl
 | bl _=>cases r;rfl
 | int _=>obtain⟨t,rfl⟩:=r;rfl
 | str _=>obtain⟨t,rfl⟩:=r;rfl
 | Cz _=>obtain⟨t,rfl⟩:=r;rfl
 | tV _=>obtain⟨t,rfl⟩:=r;rfl
 | ref _=>cases r;rfl
 | ty _=>cases r;rfl
theorem RelV.inj{x y:V}{u:Value}(r:RelV x u)(q:RelV y u):x=y:=dr (r.abs.symm.trans q.abs)
theorem Vals.inj:∀{xs ys:List V} {us:List Value},Vals xs us->Vals ys us->xs=ys
 | _,_,_,.nil,.nil=>rfl
 | _,_,_,.cons r t,.cons r' t'=>by rw[r.inj r',Vals.inj t t']
section
variable{X:Cx}{pins:List (Addr × Obj)}{σ:St}{H:Hp}{s:Shared}{a:Addr}{xs ys:List V}
theorem bN.of{K:PySem.W.Frag}(h:H a=some (.lst xs)):bN K H a xs:=.inl (.inl h)
theorem iF.of{K:PySem.W.Frag}(h:H a=some (.tup xs)):iF K H a xs:=.inl (.inl h)
theorem Inv.list(I:Inv X pins σ H s)(h:bN X.K H a xs):∃its:List Value,Vals xs its/\PlainL s.heap a its.toArray/\xs.length<=sizeLine:=by
 rcases h with h | ⟨o,its,n,hk,hc,hd,hs,hz,r⟩
 ·obtain⟨z,its,n,r,e⟩:=h.ok I.aH;exact⟨its,r,⟨_,n,e,rfl,rfl,rfl⟩,z⟩
 ·refine⟨its.toList,r,⟨o,n,I.bY a o hk,hc,hd,by simpa using hs⟩,?_⟩;have e:=r.length;simp only[zw]at e;omega
theorem Inv.tuple(I:Inv X pins σ H s)(h:iF X.K H a xs):∃its:List Value,Vals xs its/\IsTup s.heap a its.toArray/\xs.length<=sizeLine:=by
 rcases h with h | ⟨o,its,n,hk,hc,hs,hz,r⟩
 ·obtain⟨z,its,r,p⟩:=h.ok I.aH;exact⟨its,r,p,z⟩
 ·refine⟨its.toList,r,⟨o,I.bY a o hk,hc,n,by simpa using hs⟩,?_⟩;have e:=r.length;simp only[zw]at e;omega
theorem Inv.z8(I:Inv X pins σ H s)(h:bN X.K H a xs)(h':bN X.K H a ys):xs=ys:=by
 obtain⟨its,r,⟨o,n,e,_,_,d⟩,_⟩:=I.list h;obtain⟨its',r',⟨o',n',e',_,_,d'⟩,_⟩:=I.list h';rw[e]at e';cases e';rw[d]at d';injection d' with d1 _
 have:its=its':=by simpa using congrArg Array.toList d1
 subst this;exact r.inj r'
end
abbrev Cx.lD(X:Cx)(E:Value->Shared->Prop):Cx:={ X with xe:=E }
abbrev Cx.fZ(X:Cx):Cx:=X.lD λ_ _=>False
theorem Cx.Ok.lD{X:Cx}(ok:X.Ok)(E:Value->Shared->Prop):(X.lD E).Ok :=
 ⟨ok.mod,ok.kind,ok.glob,ok.blt,ok.above,ok.inj,ok.has,ok.oY,ok.hd,ok.frames,ok.tY,ok.tZ,ok.bs,ok.jO,ok.q0,ok.q8,ok.gF,ok.jP⟩
theorem Cx.Ok.nK{X:Cx}{E:Value->Shared->Prop}(ok:(X.lD E).Ok):X.Ok :=
 ⟨ok.mod,ok.kind,ok.glob,ok.blt,ok.above,ok.inj,ok.has,ok.oY,ok.hd,ok.frames,ok.tY,ok.tZ,ok.bs,ok.jO,ok.q0,ok.q8,ok.gF,ok.jP⟩
section
variable{X:Cx}{pins:List (Addr × Obj)}{σ:St}{H:Hp}{s:Shared}{E:Value->Shared->Prop}
theorem Inv.lD(I:Inv X pins σ H s)(E:Value->Shared->Prop):Inv (X.lD E) pins σ H s:=⟨I.ok.lD E,I.os,I.bare,I.base,I.loc,I.cell,I.free,I.fh,I.pin,I.aH,I.len⟩
theorem Inv.nK(I:Inv (X.lD E) pins σ H s):Inv X pins σ H s:=⟨I.ok.nK,I.os,I.bare,I.base,I.loc,I.cell,I.free,I.fh,I.pin,I.aH,I.len⟩
theorem SP.nK{D:Ends}{f:Flow}{s':Shared}(h:SP (X.lD E) pins D f s'):SP X pins D f s':=by
 cases f with
 | next=>obtain⟨aJ,H',I,q⟩:=h;exact⟨aJ,H',I.nK,q⟩
 | brk=>obtain⟨aJ,H',I,q⟩:=h;exact⟨aJ,H',I.nK,q⟩
 | cont=>obtain⟨aJ,H',I,q⟩:=h;exact⟨aJ,H',I.nK,q⟩
 | ret u=>obtain⟨v,aJ,H',I,r,q⟩:=h;exact⟨v,aJ,H',I.nK,r,q⟩
theorem PE.fZ{e:Expr}{t:TE}(h:PE X.fZ e t):PE X e t:=λpins s σ H Q I hw =>
 wpAny_mono (h pins s σ H Q (I.lD _) hw) (λ_ _ ⟨v,H',I',r,q⟩=>⟨v,H',I'.nK,r,q⟩) λ_ _ z=>eZ z
theorem PSs.fZ{st:List Stmt}{t:TS}(h:PSs X.fZ st t):PSs X st t:=λpins s σ H D I hw =>
 wpAny_mono (h pins s σ H D (I.lD _) hw) (λ_ _ q=>q.nK) λ_ _ z=>eZ z
end
section
variable{X:Cx}{st:Stmt}{rest:List Stmt}{t u:TS}{e:Expr}{te:TE}{pos:Pos}
def Ξ:TS:=λD σ H=>D.nx σ H
def Φ(t u:TS):TS:=λD σ H=>t { D with nx:=u D } σ H
theorem FL:PSs X [] Ξ:=λ_ _ σ H _ I h=>wpAny_execs_nil ⟨σ,H,I,h⟩
theorem FN(h1:PS X st t)(h2:PSs X rest u):PSs X (st::rest) (Φ t u):=by
 intro pins s σ H D I h;refine wpAny_execs_cons (aU (h1 pins s σ H { D with nx:=u D } I h) λf s1 q=>?_)
 cases f with
 | next =>
  obtain⟨aJ,H',I',q⟩:=q;exact h2 pins s1 aJ H' D I' q
 | ret v=>exact q
 | brk=>exact q
 | cont=>exact q
theorem FP(h1:PS X st t):PSs X [st] t:=by
 intro pins s σ H D I h;refine wpAny_execs_cons (aU (h1 pins s σ H D I h) λf s1 q=>?_)
 cases f with
 | next=>exact wpAny_execs_nil q
 | ret v=>exact q
 | brk=>exact q
 | cont=>exact q
theorem Inv.quiet{pins:List (Addr × Obj)}{σ:St}{H:Hp}{s:Shared}(I:Inv X pins σ H s):interactive X.env=false:=by simp[interactive,I.ok.kind]
def Ψ(te:TE):TS:=λD σ H=>te σ H λ_ H1=>D.nx σ H1
theorem CH(he:PE X e te)(hs:swapsWith e none pos.line X.env=pure false:=by rfl):PS X (.Expr e pos) (Ψ te):=by
 intro pins s σ H D I h;exact wpAny_Expr_any (aU (he pins s σ H _ I h) λv s1 ⟨x,H1,I1,r1,q1⟩=>⟨σ,H1,I1,q1⟩) I.quiet hs
def Ω(te:TE):TS:=λD σ H=>te σ H D.rt
theorem cJ5(he:PE X e te):PS X (.Return (some e) pos) (Ω te):=by
 intro pins s σ H D I h;exact wpAny_Return_some (aU (he pins s σ H _ I h) λv s1 ⟨x,H1,I1,r1,q1⟩=>⟨x,σ,H1,I1,r1,q1⟩)
def c31(c:TT)(t u:TS):TS:=λD σ H=>c σ H λb H1=>if b=true then t D σ H1 else u D σ H1
theorem Mb{c:Expr}{a b:List Stmt}{tc:TT}(hc:PT X c tc)(ha:PSs X a t)(hb:PSs X b u):PS X (.If c a b pos) (c31 tc t u):=by
 intro pins s σ H D I h;refine wpAny_If (aU (hc pins s σ H _ I h) λd s1 ⟨H1,I1,q1⟩=>?_)
 cases d with
 | true=>exact ha pins s1 σ H1 D I1 q1
 | false=>exact hb pins s1 σ H1 D I1 q1
def cO4:TS:=λ_ _ _=>False
theorem Mc{kq:List Stmt}:PSs X kq cO4:=λ_ _ _ _ _ _ h=>h.elim
end
abbrev TG:=V->St->Hp->(St->Hp->Prop)->Prop
abbrev t8:=List V->St->Hp->(St->Hp->Prop)->Prop
def PG(X:Cx)(target:Expr)(t:TG):Prop :=
 ∀(pins:List (Addr × Obj)) (s:Shared) (σ:St) (H:Hp) (v:V) (u:Value) (Q:St->Hp->Prop),Inv X pins σ H s->RelV v u->t v σ H Q ->
  wpAny (model X.prog X.w) X.A (assign target X.env u) (λ_ s'=>∃aJ H',Inv X pins aJ H' s'/\Q aJ H') X.xe s
def CI(X:Cx)(ts:List Expr)(t:t8):Prop :=
 ∀(pins:List (Addr × Obj)) (s:Shared) (σ:St) (H:Hp) (vs:List V) (us:List Value) (Q:St->Hp->Prop),Inv X pins σ H s->Vals vs us->t vs σ H Q ->
  wpAny (model X.prog X.w) X.A (assignInOrder ((assignEach ts X.env).map (·.2)) us) (λ_ s'=>∃aJ H',Inv X pins aJ H' s'/\Q aJ H') X.xe s
abbrev FQ:=V->V->V->Hp->(Hp->Prop)->Prop
def Md(X:Cx)(t:FQ):Prop :=
 ∀(pins:List (Addr × Obj)) (s:Shared) (σ:St) (H:Hp) (o i v:V) (ov iv u:Value) (Q:Hp->Prop),Inv X pins σ H s->RelV o ov->RelV i iv->RelV v u->t o i v H Q ->
  wpAny (model X.prog X.w) X.A (setItem ov iv u) (λ_ s'=>∃H',Inv X pins σ H' s'/\Q H') X.xe s
abbrev FR:=V->V->Hp->VK->Prop
def PIp(X:Cx)(op:Operator)(t:FR):Prop :=
 ∀(pins:List (Addr × Obj)) (s:Shared) (σ:St) (H:Hp) (x y:V) (v u:Value) (Q:VK),Inv X pins σ H s->RelV x v->RelV y u->t x y H Q ->
  wpAny (model X.prog X.w) X.A (inplaceOp op v u) (EP X pins σ Q) X.xe s
section
variable{X:Cx}{pos:Pos}
def CJ(i:Nat):TG:=λv σ H Q=>Q (σ.set i (some v)) H
theorem CK{i:Nat}{x:Str}(hN:X.N.Nodup)(hi:X.N[i]?=some x)(hx:Loc X.env.scope x)(hf:X.fn x=true\/X.env.scope.names.lookup x=some .local:=by first | exact .inl rfl | exact .inr rfl | assumption):PG X (.Name x pos) (CJ i):=by
 intro pins s σ H v u Q I r h;exact wpAny_assign_Name (CD I hN hi hx r (λs' I'=>⟨_,H,I',h⟩) hf)
def c23:t8:=λvs σ H Q=>vs=[]/\Q σ H
def cY7(t:TG)(u:t8):t8:=λvs σ H Q=>∃v r,vs=v::r/\t v σ H λaJ H'=>u r aJ H' Q
theorem cx8:CI X [] c23:=by
 intro pins s σ H vs us Q I r h;obtain⟨e,h⟩:=h;subst e;cases r;exact assignInOrder_nil ⟨σ,H,I,h⟩
theorem Mg{e:Expr}{es:List Expr}{t:TG}{u:t8}(h1:PG X e t)(h2:CI X es u)
  (hs:(assignEach (e::es) X.env).map (·.2)=assign e X.env::(assignEach es X.env).map (·.2):=by rfl):CI X (e::es) (cY7 t u):=by
 intro pins s σ H vs us Q I r h;obtain⟨v,vr,e1,h⟩:=h;subst e1
 cases r with
 | cons r rr =>
  rw[hs];refine assignInOrder_cons (aU (h1 pins s σ H _ _ _ I r h) λ_ s1 ⟨iG,H1,I1,q1⟩=>?_);exact h2 pins s1 iG H1 _ _ Q I1 rr q1
def c53(K:PySem.W.Frag)(n:Nat)(t:t8):TG:=λv σ H Q=>∃a xs,v=.ref a/\iF K H a xs/\xs.length=n/\t xs σ H Q
theorem cK3{es:List Expr}{k:Nat}{t:t8}{n:Nat}(hc:X.calm=true)(h:CI X es t)
  (hn:(assignEach es X.env).length=n:=by rfl) (bG:(assignEach es X.env).findIdx? (·.1)=none:=by rfl):PG X (.Tuple es k pos) (c53 X.K n t):=by
 intro pins s σ H v u Q I r hw;obtain⟨a,xs,e1,hq,hl,hw⟩:=hw;subst e1;cases r;obtain⟨its,rv,ht,hz⟩:=I.tuple hq;refine assign_Tuple_tuple (I.ok.hd hc) ht (by simp[hn,<- hl,rv.length]) bG λh' hx=>?_;have I1:Inv X pins σ H { s with heap:=h' }:=I.kept (t':=s.toks) λb o e=>hx b o (eI (bM e)) e;exact h pins _ σ H xs _ Q I1 (by simpa using rv) hw
def c49(to ti:TE)(t:FQ):TG:=λv σ H Q=>to σ H λo H1=>ti σ H1 λi H2=>t o i v H2 λH3=>Q σ H3
theorem cQ8{o i:Expr}{to ti:TE}{t:FQ}(ho:PE X o to)(hi:PE X i ti)(hs:Md X t)
  (ha:∀v,assign (.Subscript o i pos) X.env v=(do
   let ov<-holding [v] (eval o X.env)
   let iv<-holding [v,ov] (eval i X.env)
   standAt pos
   holding [v,ov,iv] (setItem ov iv v)
   release [v,ov,iv] []):=by intro _;rfl):PG X (.Subscript o i pos) (c49 to ti t):=by
 intro pins s σ H v u Q I r h;rw[ha];refine wpAny_bind (wpAny_holding (aU (ho pins s σ H _ I h) λov s1 ⟨x,H1,I1,r1,q1⟩=>?_));refine wpAny_bind (wpAny_holding (aU (hi pins s1 σ H1 _ I1 q1) λiv s2 ⟨y,H2,I2,r2,q2⟩=>?_));refine wpAny_bind (wpAny_standAt (wpAny_bind (wpAny_holding (aU (hs pins s2 σ H2 x y v ov iv u _ I2 r1 r2 r q2) λ_ s3 ⟨H3,I3,q3⟩=>?_))));exact wpAny_release ⟨σ,H3,I3,q3⟩
def CL(te:TE)(g:TG):TS:=λD σ H=>te σ H λx H1=>g x σ H1 D.nx
theorem cO9{tg e:Expr}{te:TE}{g:TG}(he:PE X e te)(hg:PG X tg g)(hs:swapsWithSole [tg] e pos.line X.env=pure false:=by rfl)(hw:swappedStores [tg] e X.env=pure none:=by rfl)
  (h1:(assignEach [tg] X.env).map (·.2)=[assign tg X.env]:=by rfl):PS X (.Assign [tg] e pos) (CL te g):=by
 intro pins s σ H D I h;refine wpAny_Assign_stores (aU (he pins s σ H _ I h) λv s1 ⟨x,H1,I1,r1,q1⟩=>?_) hs hw;rw[h1];exact aU (hg pins s1 σ H1 x v _ I1 r1 q1) λ_ s2 q=>q
theorem FT{i:Nat}{x:Str}{e:Expr}{te:TE}{pos':Pos}(hN:X.N.Nodup)(hi:X.N[i]?=some x)(hx:Loc X.env.scope x)(he:PE X e te)(hs:swapsWith e (some (.Name x pos')) pos.line X.env=pure false:=by rfl)(hf:X.fn x=true\/X.env.scope.names.lookup x=some .local:=by first | exact .inl rfl | exact .inr rfl | assumption) :
  PS X (.Assign [.Name x pos'] e pos) (CL te (CJ i)):=by
 intro pins s σ H D I h;refine wpAny_Assign_Name (aU (he pins s σ H _ I h) λv s1 ⟨y,H1,I1,r1,q1⟩=>?_) hs;exact CD I1 hN hi hx r1 (λs2 I2=>⟨_,H1,I2,q1⟩) hf
def c27(i:Nat)(te:TE)(ti:FR):TS:=λD σ H=>∃x,σ[i]?=some (some x)/\te σ H λy H1=>ti x y H1 λz H2=>D.nx (σ.set i (some z)) H2
theorem cL7{i:Nat}{x:Str}{e:Expr}{te:TE}{op:Operator}{ti:FR}{pos':Pos}(hN:X.N.Nodup)(hi:X.N[i]?=some x)(hx:Loc X.env.scope x)(he:PE X e te)(ho:PIp X op ti)(hf:X.fn x=true\/X.env.scope.names.lookup x=some .local:=by first | exact .inl rfl | exact .inr rfl | assumption) :
  PS X (.AugAssign (.Name x pos') op e pos) (c27 i te ti):=by
 intro pins s σ H D I h;obtain⟨v,e1,h⟩:=h;obtain⟨m,hn,hl⟩:=I.loc;have vis:km X.env.scope x:=by rcases hx with k | k;exact .inl k;exact .inr (.inl k)
 obtain⟨u,r,l⟩:=hl i x v hi e1 vis;refine wpAny_AugAssign_Name ?_;have go:wpAny (model X.prog X.w) X.A (eval e X.env) (λw f7=>wpAny (model X.prog X.w) X.A (inplaceOp op u w) (λr Mh=>wpAny (model X.prog X.w) X.A (storeName X.env x r) (λ_=>SP X pins D .next) X.xe Mh) X.xe f7) X.xe s:=by
  refine aU (he pins s σ H _ I h) λw s1 ⟨y,H1,I1,r1,q1⟩=>?_;refine aU (ho pins s1 σ H1 v y u w _ I1 r r1 q1) λz s2 ⟨zv,H2,I2,r2,q2⟩=>?_;exact CD I2 hN hi hx r2 (λs3 I3=>⟨_,H2,I3,q2⟩) hf
 rcases l with⟨hk,hm⟩ | ⟨hk,c,hc,CF⟩
 ·exact wpAny_loadName_local I.ok.kind hk hn hm go
 ·rcases hk with hk | hk
  ·exact wpAny_loadName_cell I.ok.kind hk hc CF go
  ·rcases hx with k | k
   ·have:X.env.scope.names.lookup x=some .free:=hk;rw[k]at this;cases this
   ·have:X.env.scope.names.lookup x=some .free:=hk;rw[k]at this;cases this
end
section
variable{X:Cx}{pos:Pos}
def cP6(c:TT)(tb:TS):TS:=λD σ H=>∃W:Nat->St->Hp->Prop,(∃m,W m σ H)/\∀m σ H,W m σ H ->
 c σ H λb H1=>if b=true then ∃N:St->Hp->Prop,(∀aJ H',N aJ H'->∃m',m'<m/\W m' aJ H')/\tb { D with nx:=N,ct:=N,bk:=D.nx } σ H1 else D.nx σ H1
theorem cj7{c:Expr}{body:List Stmt}{tc:TT}{tb:TS}(hp:PassesOwn (model X.prog X.w) X.A X.env X.xe)(hc:PT X c tc)(hb:PSs X body tb):PS X (.While c body [] pos) (cP6 tc tb):=by
 intro pins s σ H D I h;obtain⟨W,⟨m0,w0⟩,turn⟩:=h;refine wpAny_While (codeAny_whileLoop (λn s'=>∃aJ H',Inv X pins aJ H' s'/\W n aJ H') ?_ m0 ⟨σ,H,I,w0⟩);rintro n s1 ⟨iG,H1,I1,w1⟩;refine wpAny_passesOwn hp (aU (hc pins s1 iG H1 _ I1 (turn n iG H1 w1)) λb s2 ⟨H2,I2,q2⟩=>?_)
 cases b with
 | true =>
  obtain⟨N,hN,q2⟩:=q2;rw[if_pos rfl];refine wpAny_passesOwn hp (aU (hb pins s2 iG H2 _ I2 q2) λf s3 q3=>?_)
  cases f with
  | next =>
   obtain⟨mr,H3,I3,n3⟩:=q3;obtain⟨m',hm,w3⟩:=hN mr H3 n3;exact⟨m',hm,mr,H3,I3,w3⟩
  | cont =>
   obtain⟨mr,H3,I3,n3⟩:=q3;obtain⟨m',hm,w3⟩:=hN mr H3 n3;exact⟨m',hm,mr,H3,I3,w3⟩
  | brk=>exact q3
  | ret v=>exact q3
 | false =>
  rw[if_neg ji];exact wpAny_execs_nil ⟨iG,H2,I2,q2⟩
end
structure It where
 go:Nat->Hp->Prop
 kr:Nat->Hp->V->Hp->Prop
 stop:Nat->Hp->Prop
def jR(X:Cx)(pins:List (Addr × Obj))(H:Hp)(b:Addr):Prop :=
 H b=none/\b≠X.env.locals/\b ∉ X.fs/\(b∈X.ex\/X.cK.heap.objs.size<=b)/\(∀x c,X.env.cells.lookup x=some c->c≠b)/\∀p∈X.pn++pins,p.1≠b
theorem Inv.z9{X:Cx}{pins:List (Addr × Obj)}{σ:St}{H H':Hp}{s:Shared}{b:Addr}(I:Inv X pins σ H s)(hb:s.heap.objs.size<=b)(hn:H' b=none):jR X pins H' b:=by
 refine⟨hn,Le (cY I.lt hb),I.LW hb,.inr (ff I.sz hb),λx c e z=>?_,λp hp z=>?_⟩
 ·obtain⟨v,q⟩:=I.cell x c e;exact absurd (cY q.lt (by rw[z];exact hb)) (g7 _)
 ·exact absurd (cY (bM (I.pin p hp).1) (by rw[z];exact hb)) (g7 _)
structure Turn(P:Program)(w:World)(K:PySem.W.Frag)(tg:Expr)(J:It)(fp:List Addr)(it:Addr)(tn:Nat->Heap->Prop):Prop where
 mem:it∈fp
 obj:∀i h,tn i h->∀b∈fp,∃o,h.get? b=some o/\∀v,o.data≠.cell v
 keep:∀i h h',tn i h->(∀b∈fp,∀o,h.get? b=some o->h'.get? b=some o)->tn i h'
 item:∀(X:Cx),X.prog=P->X.w=w->X.K=K->X.calm=true->∀(i:Nat) (pins:List (Addr × Obj)) (s:Shared) (σ:St) (H:Hp) (E:Value->Shared->Prop),Inv X pins σ H s->(∀b∈fp,jR X pins H b)->tn i s.heap->J.go i H ->
  wpAny (model P w) X.A (pyNext (.ref it)) (λr s1=>∃u,r=some u /\
   wpAny (model P w) X.A (letOwnedTupleGo tg (.ref it) u) (λ_ s2=>∃x H',Inv X pins σ H' s2/\RelV x u/\J.kr i H x H'/\tn (i+1) s2.heap/\∀b∈fp,H' b=none) E s1) E s
 done:∀(X:Cx),X.prog=P->X.w=w->X.K=K->X.calm=true->∀(i:Nat) (pins:List (Addr × Obj)) (s:Shared) (σ:St) (H:Hp) (E:Value->Shared->Prop),Inv X pins σ H s->(∀b∈fp,jR X pins H b)->tn i s.heap->J.stop i H ->
  wpAny (model P w) X.A (pyNext (.ref it)) (λr s1=>r=none/\Inv X pins σ H s1) E s
 self:∀(A:Around) (i:Nat) (s:Shared) (Q:Value->Shared->Prop) (E:Value->Shared->Prop),tn i s.heap->Q (.ref it) s->wpAny (model P w) A (pyIter (.ref it)) Q E s
abbrev TI:=St->Hp->(It->Hp->Prop)->Prop
def Mi(X:Cx)(pins:List (Addr × Obj))(σ:St)(tg:Expr)(R:It->Hp->Prop)(FU:Value)(s2:Shared):Prop :=
 ∃(it:Addr) (fp:List Addr) (tn:Nat->Heap->Prop) (J:It) (H':Hp),FU=.ref it/\Inv X pins σ H' s2/\Turn X.prog X.w X.K tg J fp it tn/\tn 0 s2.heap/\(∀b∈fp,jR X pins H' b)/\R J H'
def PI(X:Cx)(tg iter:Expr)(wi:TI):Prop :=
 ∀(pins:List (Addr × Obj)) (s:Shared) (σ:St) (H:Hp) (R:It->Hp->Prop),Inv X pins σ H s->wi σ H R ->
  wpAny (model X.prog X.w) X.A (eval iter X.env) (λv s1=>wpAny (model X.prog X.w) X.A (pyIter v) (Mi X pins σ tg R) X.xe s1) X.xe s
theorem FV{M:Model}{A:Around}{E:Value->Shared->Prop}{s:Shared}{tg:Expr}{it:Addr}{u:Value}{o:Obj}{n:String}{vs:Array Value}{Q:Unit->Shared->Prop}(ho:s.heap.get? it=some o)(hc:o.cls=.type n)(hd:o.data=.fields vs)
  (hn:["enumerate","zip","dict_itemiterator","dict_reverseitemiterator","odict_iterator","itertools.zip_longest","itertools.pairwise"].contains n=false) (hQ:Q () s):wpAny M A (letOwnedTupleGo tg (.ref it) u) Q E s:=by
 unfold letOwnedTupleGo;cases tg<;>first
  | exact wpAny_pure hQ
  | (cases u<;>first
    | exact wpAny_pure hQ
    | (refine wpAny_bind (wpAny_load ho ?_)
       rw[hc,hd];show wpAny M A (if(["enumerate","zip","dict_itemiterator","dict_reverseitemiterator","odict_iterator","itertools.zip_longest","itertools.pairwise"].contains n&&vs[0]?==some (rawInt _))=true then _ else _) Q E s;rw[if_neg (by intro h;rw[hn,tI]at h;cases h)];exact wpAny_pure hQ))
def FW(K:PySem.W.Frag)(a:Addr):It :=
 ⟨λi H=>∃xs x,bN K H a xs/\xs[i]?=some x,λi H x H'=>H'=H/\∀xs,bN K H a xs->xs[i]?=some x,λi H=>∃xs,bN K H a xs/\xs.length<=i⟩
def Aa(lo:Int)(n:Nat):It:=⟨λi _=>i<n,λi H x H'=>H'=H/\x=.int (lo+i),λi _=>n<=i⟩
theorem cb5{P:Program}{w:World}{K:PySem.W.Frag}{tg:Expr}(a it:Addr):Turn P w K tg (FW K a) [it] it (λi h=>h.IsListIter it a i) where
 mem:=by simp
 obj:=λi h st b hb=>by
  have e:b=it:=by simpa using hb
  subst e;obtain⟨o,e,c,d⟩:=st;exact⟨o,e,λv z=>by rw[d]at z;cases z⟩
 keep:=λi h h' st k=>st.at λo e=>k it (by simp) o e
 item:=by
  intro X hP hw hK hc i pins s σ H E I hf st hg;subst hP hw hK;obtain⟨xs,x,hq,hx⟩:=hg;obtain⟨its,rv,p,hz⟩:=I.list hq;obtain⟨u,hu,ru⟩:=rv.get hx;obtain⟨f0,f1,f2,f3,f4,f5⟩:=hf it (by simp);refine wpAny_pyNext_list_item st p.isList (x:=u) (by simpa using hu) λh' lF sb=>?_;have I1:Inv X pins σ H { s with heap:=h' }:=I.turned (t':=s.toks) (λb o hb e=>(sb.2 b hb).trans e) f0 f1 f3 f4 f5;obtain⟨o,e,c,d⟩:=id lF;exact⟨u,rfl,FV (s:={ s with heap:=h' }) e c d (by decide) ⟨x,H,I1,ru,⟨rfl,λys hy=>by rw[I.z8 hy hq];exact hx⟩,lF,λb hb=>(hf b hb).1⟩⟩
 done:=by
  intro X hP hw hK hc i pins s σ H E I hf st hg;subst hP hw hK;obtain⟨xs,hq,hx⟩:=hg;obtain⟨its,rv,p,hz⟩:=I.list hq;obtain⟨f0,f1,f2,f3,f4,f5⟩:=hf it (by simp);have hl:=rv.length;exact wpAny_pyNext_list_end (I.ok.hd hc) st p.isList (by simp;omega) λh' eb=>⟨rfl,I.turned (t':=s.toks) (λb o hb e=>eb b o hb e) f0 f1 f3 f4 f5⟩
 self:=λ_ _ _ _ _ st h=>wpAny_pyIter_listiter st h
theorem b01{P:Program}{w:World}{K:PySem.W.Frag}{tg:Expr}(it:Addr)(lo:Int)(n:Nat):Turn P w K tg (Aa lo n) [it] it (λi h=>IsRangeIter h it (lo+(i:Nat)*1) ((n:Int)-(i:Nat)) 1) where
 mem:=by simp
 obj:=λi h st b hb=>by
  have e:b=it:=by simpa using hb
  subst e;exact⟨_,st,λv z=>by
   have z':zx _=Data.cell v:=z;cases z'⟩
 keep:=λi h h' st k=>k it (by simp) _ st
 item:=by
  intro X hP hw hK hc i pins s σ H E I hf st hg;subst hP hw hK;obtain⟨f0,f1,f2,f3,f4,f5⟩:=hf it (by simp);have W:=Walks.range (prog:=X.prog) (w:=X.w) (I.ok.hd hc) it lo 1 n;refine W.item i s _ _ hg st λv h' tk hv lF kk=>?_;obtain⟨t,rfl⟩:=hv;have I1:Inv X pins σ H { s with heap:=h',toks:=tk }:=I.turned (λb o hb e=>kk b o (by simpa using hb) e) f0 f1 f3 f4 f5;refine⟨_,rfl,FV (s:={ s with heap:=h',toks:=tk }) (n:="range_iterator") lF rfl rfl (by decide) ⟨.int (lo+i),H,I1,⟨t,?_⟩,⟨rfl,rfl⟩,lF,λb hb=>(hf b hb).1⟩⟩;rw[Int.mul_one]
 done:=by
  intro X hP hw hK hc i pins s σ H E I hf st hg;subst hP hw hK;obtain⟨f0,f1,f2,f3,f4,f5⟩:=hf it (by simp);exact wpAny_pyNext_range_end (I.ok.hd hc) st (by have:n<=i:=hg;omega) λh' eb=>⟨rfl,I.turned (t':=s.toks) (λb o hb e=>eb b o hb e) f0 f1 f3 f4 f5⟩
 self:=λ_ _ _ _ _ st h=>wpAny_pyIter_rangeiter st h
section
variable{X:Cx}{tg:Expr}
def cZ0(K:PySem.W.Frag)(tl:TE):TI:=λσ H R=>tl σ H λx H1=>∃a,x=.ref a/\(∃xs,bN K H1 a xs)/\R (FW K a) H1
theorem Mj{l:Expr}{tl:TE}(hl:PE X l tl):PI X tg l (cZ0 X.K tl):=by
 intro pins s σ H R I h;refine aU (hl pins s σ H _ I h) λv s1 ⟨x,H1,I1,r1,q1⟩=>?_;obtain⟨a,e,⟨xs,hq⟩,q⟩:=q1;subst e;cases r1;obtain⟨its,rv,p,hz⟩:=I1.list hq;refine wpAny_pyIter_list p.isList ?_;refine⟨s1.heap.objs.size,[s1.heap.objs.size],_,_,H1,rfl,I1.kept (t':=s1.toks) λb o e=>eC _ e,cb5 a _,⟨_,g8 _ rfl,rfl,rfl⟩,λb hb=>?_,q⟩;have e:b=s1.heap.objs.size:=by simpa using hb
 subst e;exact I1.z9 (bR _) (I1.aH.fresh (bR _))
theorem Ml{pins:List (Addr × Obj)}{σ:St}{H:Hp}{s:Shared}{R:It->Hp->Prop}{E:Value->Shared->Prop}{lo hi:Int}{t u v:Tok}{tk:Nat}(I:Inv X pins σ H s)(h1:-(2 ^ 62)<=lo)(h2:lo<2 ^ 62)(h3:-(2 ^ 62)<=hi)(h4:hi<2 ^ 62)
  (q:R (Aa lo (hi-lo).toNat) H):wpAny (model X.prog X.w) X.A (pyIter (.ref s.heap.objs.size)) (Mi X pins σ tg R) E { s with heap:=s.heap.push { cls:=.type "range",data:=.fields #[.int lo t,.int hi u,.int 1 v] },toks:=tk }:=by
 refine wpAny_pyIter_range (IsRange.new ..) (small_one h1 h2 h3 h4) ?_;have I1:Inv X pins σ H { s with heap:=s.heap.push { cls:=.type "range",data:=.fields #[.int lo t,.int hi u,.int 1 v] },toks:=tk }:=I.kept λb o e=>eC _ e;refine⟨(s.heap.push { cls:=.type "range",data:=.fields #[.int lo t,.int hi u,.int 1 v] }).objs.size,[(s.heap.push { cls:=.type "range",data:=.fields #[.int lo t,.int hi u,.int 1 v] }).objs.size],_,_,H,rfl,
  I1.kept (t':=tk) λb o e=>eC _ e,b01 _ lo (hi-lo).toNat,?_,λb hb=>?_,q⟩
 ·have e1:lo+((0:Nat):Int)*1=lo:=by simp
  have e2:(((hi-lo).toNat:Nat):Int)-((0:Nat):Int)=Builtin.Range.rangeSize lo hi 1:=by rw[rangeSize_one];split<;>omega
  show IsRangeIter _ _ (lo+((0:Nat):Int)*1) ((((hi-lo).toNat:Nat):Int)-((0:Nat):Int)) 1;rw[e1,e2];exact g8 _ rfl
 ·have e:b=(s.heap.push { cls:=.type "range",data:=.fields #[.int lo t,.int hi u,.int 1 v] }).objs.size:=by simpa using hb
  subst e;exact I1.z9 (bR _) (I1.aH.fresh (bR _))
def c01(ta:TA):TI:=λσ H R=>ta σ H λvs H1=>∃j:Int,vs=[.int j]/\-(2 ^ 62)<=j/\j<2 ^ 62/\R (Aa 0 j.toNat) H1
def cU6(ta:TA):TI:=λσ H R=>ta σ H λvs H1=>∃i j:Int,vs=[.int i,.int j]/\(-(2 ^ 62)<=i/\i<2 ^ 62/\-(2 ^ 62)<=j/\j<2 ^ 62)/\R (Aa i (j-i).toNat) H1
theorem b72{a:Expr}{ta:TA}{p pos:Pos}(hg:Gl X "range")(hm:X.mg "range"=none)(ha:PA X [a] ta)(hs:starEach [a] X.env=[(false,eval a X.env)]:=by rfl):PI X tg (.Call (.Name "range" p) [a] [] pos) (c01 ta):=by
 intro pins s σ H R I h;refine Call_ (rf I hg hm boot_range (zy (aU (ha pos pins s σ H _ I h) λus s1 ⟨vs,H1,I1,r1,q1⟩=>?_) hs rfl));obtain⟨j,e,q1,q2,q⟩:=q1;subst e
 cases r1 with
 | cons r rr =>
  cases rr;obtain⟨t,rfl⟩:=r;exact call_range_1 (Ml I1 (by omega) (by omega) q1 q2 (by simpa using q))
theorem cd0{a b:Expr}{ta:TA}{p pos:Pos}(hg:Gl X "range")(hm:X.mg "range"=none)(ha:PA X [a,b] ta)(hs:starEach [a,b] X.env=[(false,eval a X.env),(false,eval b X.env)]:=by rfl)(fw:starEach [b] X.env=[(false,eval b X.env)]:=by rfl) :
  PI X tg (.Call (.Name "range" p) [a,b] [] pos) (cU6 ta):=by
 intro pins s σ H R I h;refine Call_ (rf I hg hm boot_range (zy (aU (ha pos pins s σ H _ I h) λus s1 ⟨vs,H1,I1,r1,q1⟩=>?_) (by rw[hs,fw]) (by rw[fw];rfl)));obtain⟨i,j,e,⟨q1,q2,q3,q4⟩,q⟩:=q1;subst e
 cases r1 with
 | cons r rr =>
  cases rr with
  | cons r' rr =>
   cases rr;obtain⟨t,rfl⟩:=r;obtain⟨t',rfl⟩:=r';exact call_range_2 (Ml I1 q1 q2 q3 q4 q)
def c22(wi:TI)(g:TG)(tb:TS):TS:=λD σ H=>wi σ H λJ H1=>∃W:Nat->Nat->St->Hp->Prop,(∃m,W 0 m σ H1)/\∀i m σ H,W i m σ H ->
 (J.stop i H/\D.nx σ H)\/(J.go i H/\∃N:St->Hp->Prop,(∀aJ H',N aJ H'->∃m',m'<m/\W (i+1) m' aJ H')/\∀x H',J.kr i H x H'->g x σ H' λku H2=>tb { D with nx:=N,ct:=N,bk:=D.nx } ku H2)
def Ab(fp:List Addr)(h:Heap):List (Addr × Obj):=fp.filterMap λb=>(h.get? b).map λo=>(b,o)
theorem CM{fp:List Addr}{h:Heap}{b:Addr}{o:Obj}(hb:b∈fp)(e:h.get? b=some o):(b,o)∈Ab fp h:=Zn.mpr ⟨b,hb,by rw[e];rfl⟩
theorem cc5{fp:List Addr}{h:Heap}{p:Addr × Obj}(hp:p∈Ab fp h):p.1∈fp/\h.get? p.1=some p.2:=by
 obtain⟨b,hb,e⟩:=Zn.mp hp
 cases q:h.get? b with
 | none=>rw[q]at e;cases e
 | some o =>
  rw[q]at e;have e':(b,o)=p:=dr e;subst e';exact⟨hb,q⟩
theorem Inv.pinned{pins:List (Addr × Obj)}{σ:St}{H:Hp}{s:Shared}{fp:List Addr}(I:Inv X pins σ H s)(hf:∀b∈fp,jR X pins H b)(ho:∀b∈fp,∃o,s.heap.get? b=some o/\∀v,o.data≠.cell v):Inv X (pins++Ab fp s.heap) σ H s :=
 I.LX λp hp=>(cZ.mp hp).elim (λz=>I.pin p (fN _ z)) λz=>by
  obtain⟨hb,e⟩:=cc5 z;obtain⟨f0,f1,f2,_⟩:=hf p.1 hb;obtain⟨o,e',d⟩:=ho p.1 hb;rw[e]at e';cases e';exact⟨e,f0,f1,f2,d⟩
theorem Inv.Ac{pins pl:List (Addr × Obj)}{σ:St}{H:Hp}{s:Shared}(I:Inv X (pins++pl) σ H s):Inv X pins σ H s:=I.LX λp hp=>I.pin p (fN _ (gE _ hp))
theorem cP8{iter:Expr}{body:List Stmt}{wi:TI}{g:TG}{tb:TS}{pos:Pos}(hp:PassesOwn (model X.prog X.w) X.A X.env X.xe)(hc:X.calm=true)(hi:PI X tg iter wi)(hg:PG X tg g)(hb:PSs X body tb)
  (hs:∀x,foldedSetIterable iter X.env x=pure x:=by intro _;rfl):PS X (.For tg iter body [] pos) (c22 wi g tb):=by
 intro pins s σ H D I h;refine wpAny_For (aU (hi pins s σ H _ I h) λv s1 h1=>aU h1 λFU s2 h2=>?_) hs;obtain⟨it,fp,tn,J,H2,e,I2,T,Ad,f2,W,⟨m0,w0⟩,turn⟩:=h2;subst e;have FX:∀{H':Hp},(∀b∈fp,H' b=none)->∀b∈fp,jR X pins H' b:=λhn b hb=>⟨hn b hb,(f2 b hb).2⟩;refine codeAny_forLoop_any (λn s'=>∃i aJ H',Inv X pins aJ H' s'/\tn i s'.heap/\(∀b∈fp,H' b=none)/\W i n aJ H') ?_ m0 ⟨0,σ,H2,I2,Ad,λb hb=>(f2 b hb).1,w0⟩;rintro n s3 ⟨i,mr,H3,I3,Mm,Mn,w3⟩;rcases turn i n mr H3 w3 with⟨stop,qn⟩ | ⟨go,N,hN,step⟩
 ·refine wpAny_passesOwn hp (aU (T.done X rfl rfl rfl hc i pins s3 mr H3 X.xe I3 (FX Mn) Mm stop) λr s4 ⟨hr,I4⟩=>?_);subst hr;exact wpAny_execs_nil ⟨mr,H3,I4,qn⟩
 ·refine wpAny_passesOwn hp (aU (T.item X rfl rfl rfl hc i pins s3 mr H3 X.xe I3 (FX Mn) Mm go) λr s4 ⟨u,hr,h4⟩=>?_);subst hr;refine wpAny_passesOwn hp (aU h4 λ_ s5 ⟨x,H5,I5,r5,y5,t9,FY⟩=>?_);have FZ:=I5.pinned (FX FY) (T.obj _ _ t9);refine wpAny_passesOwn hp (aU (hg _ s5 mr H5 x u _ FZ r5 (step x H5 y5)) λ_ s6 ⟨CN,H6,I6,q6⟩=>?_);refine wpAny_passesOwn hp (aU (hb _ s6 CN H6 _ I6 q6) λf s7 q7=>?_);have again:∀{mv:St} {H7:Hp},Inv X (pins++Ab fp s5.heap) mv H7 s7->N mv H7->∃m,m<n/\∃i aJ H',Inv X pins aJ H' s7/\tn i s7.heap/\(∀b∈fp,H' b=none)/\W i m aJ H':=λ{mv H7} I7 n7=>by
   obtain⟨m',hm,w7⟩:=hN mv H7 n7;refine⟨m',hm,i+1,mv,H7,I7.Ac,T.keep _ _ _ t9 λb hb o e=>(I7.pin (b,o) (fN _ (fN _ (CM hb e)))).1,λb hb=>?_,w7⟩;obtain⟨o,e,d⟩:=T.obj _ _ t9 b hb;exact(I7.pin (b,o) (fN _ (fN _ (CM hb e)))).2.1
  cases f with
  | next=>obtain⟨mv,H7,I7,n7⟩:=q7;exact again I7 n7
  | cont=>obtain⟨mv,H7,I7,n7⟩:=q7;exact again I7 n7
  | brk=>obtain⟨mv,H7,I7,q7⟩:=q7;exact⟨mv,H7,I7.Ac,q7⟩
  | ret v=>obtain⟨x7,mv,H7,I7,r7,q7⟩:=q7;exact⟨x7,mv,H7,I7.Ac,r7,q7⟩
end
abbrev R2:=V->V->Hp->VK->Prop
def cL(X:Cx)(f:Value->Value->Sem Value)(r:R2):Prop :=
 ∀(pins:List (Addr × Obj)) (s:Shared) (σ:St) (H:Hp) (x y:V) (v u:Value) (Q:VK),Inv X pins σ H s->RelV x v->RelV y u->r x y H Q ->
  wpAny (model X.prog X.w) X.A (f v u) (EP X pins σ Q) X.xe s
def F7(X:Cx)(f:Value->Sem Value)(r:V->Hp->VK->Prop):Prop :=
 ∀(pins:List (Addr × Obj)) (s:Shared) (σ:St) (H:Hp) (x:V) (v:Value) (Q:VK),Inv X pins σ H s->RelV x v->r x H Q ->
  wpAny (model X.prog X.w) X.A (f v) (EP X pins σ Q) X.xe s
def gw(X:Cx)(f:Value)(r:List V->Hp->VK->Prop):Prop :=
 ∀(pins:List (Addr × Obj)) (s:Shared) (σ:St) (H:Hp) (xs:List V) (us:List Value) (Q:VK),Inv X pins σ H s->Vals xs us->r xs H Q ->
  wpAny (model X.prog X.w) X.A (call f us) (EP X pins σ Q) X.xe s
def Ae(r:R2)(ta tb:TE):TE:=λσ H Q=>ta σ H λx H1=>tb σ H1 λy H2=>r x y H2 Q
def tUn(r:V->Hp->VK->Prop)(ta:TE):TE:=λσ H Q=>ta σ H λx H1=>r x H1 Q
def rI(C:Int->Int->Prop)(g:Int->Int->V):R2:=λx y H Q=>∃i j,x=.int i/\y=.int j/\C i j/\Q (g i j) H
def ky(g:Int->Int->V):R2:=λx y H Q=>∃i j,x=.int i/\y=.int j/\Q (g i j) H
def rU(g:Int->V):V->Hp->VK->Prop:=λx H Q=>∃i,x=.int i/\Q (g i) H
section
variable{X:Cx}{a b c:Expr}{ta tb tc:TE}{pos:Pos}
theorem F8(ha:PE X a ta)(hb:PE X b tb){pins:List (Addr × Obj)}{s:Shared}{σ:St}{H:Hp}{R:V->V->Hp->Prop}(I:Inv X pins σ H s)
  (h:ta σ H λx H1=>tb σ H1 λy H2=>R x y H2) {Q:Value->Shared->Prop} {f:Value->Value->Sem Value}
  (hf:∀v u s2 x y H2,Inv X pins σ H2 s2->RelV x v->RelV y u->R x y H2->wpAny (model X.prog X.w) X.A (f v u) Q X.xe s2) :
  wpAny (model X.prog X.w) X.A (eval a X.env) (λv br=>wpAny (model X.prog X.w) X.A (eval b X.env) (λu f7=>wpAny (model X.prog X.w) X.A (f v u) Q X.xe f7) X.xe br) X.xe s:=by
 refine aU (ha pins s σ H _ I h) λv s1 ⟨x,H1,I1,r1,q1⟩=>?_;refine aU (hb pins s1 σ H1 _ I1 q1) λu s2 ⟨y,H2,I2,r2,q2⟩=>?_;exact hf v u s2 x y H2 I2 r1 r2 q2
theorem Mo{op:Operator}{r:R2}(ho:cL X (binaryOp op) r)(ha:PE X a ta)(hb:PE X b tb):PE X (.BinOp a op b pos) (Ae r ta tb):=by
 intro pins s σ H Q I h;exact wpAny_BinOp (F8 ha hb I h λv u s2 x y H2 I2 rx ry q=>ho pins s2 σ H2 x y v u Q I2 rx ry q)
theorem cU2{op:UnaryOp}{r:V->Hp->VK->Prop}(ho:F7 X (unaryOp op) r)(ha:PE X a ta):PE X (.UnaryOp op a pos) (tUn r ta):=by
 intro pins s σ H Q I h;exact UnaryOp_ (aU (ha pins s σ H _ I h) λv s1 ⟨x,H1,I1,r1,q1⟩=>ho pins s1 σ H1 x v Q I1 r1 q1)
theorem xy{f:Value->Value->Sem Value}{C:Int->Int->Prop}{g:Int->Int->Int}
  (rule:∀(i j:Int) (t u:Tok) (s:Shared) (Q:Value->Shared->Prop) (E:Value->Shared->Prop),C i j->Q (.int (g i j) s.toks) { s with toks:=s.toks+1 }->wpAny (model X.prog X.w) X.A (f (.int i t) (.int j u)) Q E s) :
  cL X f (rI C λi j=>.int (g i j)):=by
 intro pins s σ H x y v u Q I rx ry h;obtain⟨i,j,rfl,rfl,hc,q⟩:=h;obtain⟨t,rfl⟩:=rx;obtain⟨t',rfl⟩:=ry;exact rule i j t t' s _ _ hc ⟨.int (g i j),H,I.tok _,⟨_,rfl⟩,q⟩
theorem xA{f:Value->Value->Sem Value}{g:Int->Int->Int}
  (rule:∀(i j:Int) (t u:Tok) (s:Shared) (Q:Value->Shared->Prop) (E:Value->Shared->Prop),Q (.int (g i j) s.toks) { s with toks:=s.toks+1 }->wpAny (model X.prog X.w) X.A (f (.int i t) (.int j u)) Q E s) :
  cL X f (ky λi j=>.int (g i j)):=by
 intro pins s σ H x y v u Q I rx ry h;obtain⟨i,j,rfl,rfl,q⟩:=h;obtain⟨t,rfl⟩:=rx;obtain⟨t',rfl⟩:=ry;exact rule i j t t' s _ _ ⟨.int (g i j),H,I.tok _,⟨_,rfl⟩,q⟩
theorem CO{f:Value->Value->Sem Value}{g:Int->Int->Bool}
  (rule:∀(i j:Int) (t u:Tok) (s:Shared) (Q:Value->Shared->Prop) (E:Value->Shared->Prop),Q (.bool (g i j)) s->wpAny (model X.prog X.w) X.A (f (.int i t) (.int j u)) Q E s) :
  cL X f (ky λi j=>.bl (g i j)):=by
 intro pins s σ H x y v u Q I rx ry h;obtain⟨i,j,rfl,rfl,q⟩:=h;obtain⟨t,rfl⟩:=rx;obtain⟨t',rfl⟩:=ry;exact rule i j t t' s _ _ ⟨.bl (g i j),H,I,rfl,q⟩
def Mp(i j:Int):Prop:=0<=j/\j<=1000000/\i.natAbs<2 ^ 64
def gG(i j:Int):Prop:=(-(2 ^ 64)<i/\i<2 ^ 64)\/(-(2 ^ 64)<j/\j<2 ^ 64)
theorem gG.ok{i j:Int}(h:gG i j):IntMulOk i j:=by
 rcases h with⟨h1,h2⟩ | ⟨h1,h2⟩
 ·exact .of_left (intBits_le_64 h1 h2)
 ·exact .of_right (intBits_le_64 h1 h2)
theorem bX3(k:Nat):(0:Int)<=2 ^ k:=by
 rw[two_pow_cast];exact E4 _
theorem cQ0:cL X (binaryOp .Add) (ky λi j=>.int (i+j)):=xA λ_ _ _ _ _ _ _ q=>add_int q
theorem cK6:cL X (binaryOp .Sub) (ky λi j=>.int (i-j)):=xA λ_ _ _ _ _ _ _ q=>sub_int q
theorem cJ6:cL X (binaryOp .Mod) (rI (λ_ j=>0<j) λi j=>.int (i%j)):=xy λi j _ _ _ _ _ hc q=>by
 have h1:(0:Int)<j:=hc;exact mod_int' (by omega) (by rw[Int.fmod_eq_emod_of_nonneg i (by omega)];exact q)
theorem cM6:cL X (binaryOp .Pow) (rI Mp λi j=>.int (i ^ j.toNat)):=xy λ_ _ _ _ _ _ _ hc q=>pow_int_small hc.1 hc.2.1 hc.2.2 q
theorem cR9:cL X (binaryOp .RShift) (rI (λ_ j=>0<=j) λi j=>.int (i/2 ^ j.toNat)):=xy λi j _ _ _ _ _ hc q =>
 rshift_int hc (by rw[Zo i (bX3 _)];exact q)
theorem cJ9:cL X (binaryOp .BitAnd) (ky λi j=>.int (qM i j)):=xA λ_ _ _ _ _ _ _ q=>and_int q
theorem cT0:cL X (binaryOp .BitXor) (ky λi j=>.int (qN i j)):=xA λ_ _ _ _ _ _ _ q=>xor_int q
theorem cE8:cL X (inplaceOp .Add) (ky λi j=>.int (i+j)):=xA λ_ _ _ _ _ _ _ q=>iadd_int q
theorem cy7:cL X (inplaceOp .BitXor) (ky λi j=>.int (qN i j)):=xA λ_ _ _ _ _ _ _ q=>ixor_int q
theorem unI{f:Value->Sem Value}{g:Int->Int}
  (rule:∀(i:Int) (t:Tok) (s:Shared) (Q:Value->Shared->Prop) (E:Value->Shared->Prop),Q (.int (g i) s.toks) { s with toks:=s.toks+1 }->wpAny (model X.prog X.w) X.A (f (.int i t)) Q E s) :
  F7 X f (rU λi=>.int (g i)):=by
 intro pins s σ H x v Q I rx h;obtain⟨i,rfl,q⟩:=h;obtain⟨t,rfl⟩:=rx;exact rule i t s _ _ ⟨.int (g i),H,I.tok _,⟨_,rfl⟩,q⟩
theorem cL4:F7 X (unaryOp .USub) (rU λi=>.int (-i)):=unI λ_ _ _ _ _ q=>neg_int q
end
section
variable{X:Cx}{a b c:Expr}{ta tb tc:TE}{pos:Pos}
theorem F9{pins:List (Addr × Obj)}{σ:St}{H:Hp}{s:Shared}{Q:VK}{k k':Bool}(I:Inv X pins σ H s)(q:Q (.bl k) H)(e:k=k'):EP X pins σ Q (.bool k') s:=by
 subst e;exact⟨.bl k,H,I,rfl,q⟩
theorem cX6:cL X (compareOp .Lt) (ky λi j=>.bl (decide (i<j))):=CO λ_ _ _ _ _ _ _ q=>lt_int q
theorem cZ9:cL X (compareOp .LtE) (ky λi j=>.bl (decide (i<=j))):=CO λ_ _ _ _ _ _ _ q=>le_int q
theorem cV5:cL X (compareOp .Gt) (ky λi j=>.bl (decide (j<i))):=CO λ_ _ _ _ _ _ _ q=>gt_int q
theorem cZ8:cL X (compareOp .GtE) (ky λi j=>.bl (decide (j<=i))):=CO λ_ _ _ _ _ _ _ q=>ge_int q
theorem cM3:cL X (compareOp .Is) (λx y H Q=>y=.aA/\Q (.bl (decide (x=.aA))) H):=by
 intro pins s σ H x y v u Q I rx ry h;obtain⟨rfl,q⟩:=h;cases ry;refine is_none_gen (F9 I q ?_);cases x<;>first
  | (cases rx;rfl)
  | (obtain⟨t,rfl⟩:=rx;rfl)
theorem cC2:cL X (compareOp .IsNot) (λx y H Q=>y=.aA/\Q (.bl (!decide (x=.aA))) H):=by
 intro pins s σ H x y v u Q I rx ry h;obtain⟨rfl,q⟩:=h;cases ry;refine isnot_none_gen (F9 I q ?_);cases x<;>first
  | (cases rx;rfl)
  | (obtain⟨t,rfl⟩:=rx;rfl)
theorem cL.or{f:Value->Value->Sem Value}{r r':R2}(h:cL X f r)(h':cL X f r'):cL X f (λx y H Q=>r x y H Q\/r' x y H Q):=by
 intro pins s σ H x y v u Q I rx ry q;rcases q with q | q
 ·exact h pins s σ H x y v u Q I rx ry q
 ·exact h' pins s σ H x y v u Q I rx ry q
theorem a9(b:Expr){op:CmpOp}(h:op≠.In:=by decide)(h2:op≠.NotIn:=by decide):behindInMarks op b=false:=by
 have e1:(op==CmpOp.In)=false:=by cases op<;>first | rfl | exact absurd rfl h
 have e2:(op==CmpOp.NotIn)=false:=by cases op<;>first | rfl | exact absurd rfl h2
 cases b<;>simp[behindInMarks,e1,e2]
theorem cy2{op:CmpOp}{r:R2}(ho:cL X (compareOp op) r)(ha:PE X a ta)(hb:PE X b tb)(hm:behindInMarks op b=false):PE X (.Compare a [op] [b] pos) (Ae r ta tb):=by
 intro pins s σ H Q I h;exact wpAny_Compare1 (F8 ha hb I h λv u s2 x y H2 I2 rx ry q=>ho pins s2 σ H2 x y v u Q I2 rx ry q) hm
def Mq(t:TE):TT:=λσ H Q=>t σ H λx H'=>∃k,x=.bl k/\Q k H'
theorem cw1{op:CmpOp}{r:R2}(ho:cL X (compareOp op) r)(ha:PE X a ta)(hb:PE X b tb)(hm:behindInMarks op b=false):PT X (.Compare a [op] [b] pos) (Mq (Ae r ta tb)):=by
 intro pins s σ H Q I h;refine wpAny_isTrue_Compare1 (aU (ha pins s σ H _ I h) λv s1 ⟨x,H1,I1,r1,q1⟩=>aU (hb pins s1 σ H1 _ I1 q1) λu s2 ⟨y,H2,I2,r2,q2⟩ =>
  aU (ho pins s2 σ H2 x y v u _ I2 r1 r2 q2) λc s3 ⟨z,H3,I3,r3,k,e,q3⟩=>?_) hm
 subst e;cases r3;exact wpAny_truthy_bool ⟨H3,I3,q3⟩
def Mr(r r':R2)(ta tb tc:TE):TE:=λσ H Q=>ta σ H λx H1=>tb σ H1 λy H2=>r x y H2 λz H3=>∃k,z=.bl k /\
 (if k=true then tc σ H3 λw' H4=>r' y w' H4 Q else Q (.bl false) H3)
theorem cl6{op xB:CmpOp}{r r':R2}(ho:cL X (compareOp op) r)(mq:cL X (compareOp xB) r')(ha:PE X a ta)(hb:PE X b tb)(hc:PE X c tc)
  (hm:lastMarks [op,xB] [b,c]=false:=by with_unfolding_all rfl):PE X (.Compare a [op,xB] [b,c] pos) (Mr r r' ta tb tc):=by
 intro pins s σ H Q I h;refine Compare_chain (aU (ha pins s σ H _ I h) λv s1 ⟨x,H1,I1,r1,q1⟩=>chain_link (aU (hb pins s1 σ H1 _ I1 q1) λu s2 ⟨y,H2,I2,r2,q2⟩ =>
  aU (ho pins s2 σ H2 x y v u _ I2 r1 r2 q2) λd s3 ⟨z,H3,I3,r3,k,e,q3⟩=>?_)) hm
 subst e;cases r3;refine wpAny_truthy_bool ?_
 cases k with
 | false=>exact ite_ff ⟨.bl false,H3,I3,rfl,q3⟩
 | true=>exact ite_tt (chain_last (aU (hc pins s3 σ H3 _ I3 q3) λw' s4 ⟨z',H4,I4,r4,q4⟩=>mq pins s4 σ H4 y z' u w' Q I4 r2 r4 q4))
theorem xC:(sizeLine:Nat)<2 ^ 63:=by rw[sizeLine_eq];decide
theorem bZ1:cL X (binaryOp .Add) (λx y H Q=>∃i j,x=.str i/\y=.str j/\i.length+j.length<=sizeLine/\Q (.str (i++j)) H):=by
 intro pins s σ H x y v u Q I rx ry h;obtain⟨i,j,rfl,rfl,hz,q⟩:=h;obtain⟨t,rfl⟩:=rx;obtain⟨t',rfl⟩:=ry;exact add_str (λt' tk=>⟨.str (i++j),H,I.tok _,⟨_,rfl⟩,q⟩) hz
theorem xD{x:V}{us:List Value}(r:Vals [x] us):∃u,us=[u]/\RelV x u:=by
 cases r with
 | cons r1 r2=>cases r2;exact⟨_,rfl,r1⟩
theorem cZ2{x y:V}{us:List Value}(r:Vals [x,y] us):∃u w',us=[u,w']/\RelV x u/\RelV y w':=by
 cases r with
 | cons r1 r2 =>
  cases r2 with
  | cons r3 r4=>cases r4;exact⟨_,_,rfl,r1,r3⟩
theorem ce6:gw X (.builtin "abs") (λxs H Q=>∃i,xs=[.int i]/\Q (.int (if i<0 then -i else i)) H):=by
 intro pins s σ H xs us Q I r h;obtain⟨i,rfl,q⟩:=h;obtain⟨u,rfl,t,rfl⟩:=xD r;exact call_abs_int λu tk=>⟨.int (if i<0 then -i else i),H,I.tok _,⟨_,rfl⟩,q⟩
theorem b78(hc:X.calm=true):gw X (.builtin "min") (λxs H Q=>∃i j,xs=[.int i,.int j]/\Q (.int (if j<i then j else i)) H):=by
 intro pins s σ H xs us Q I r h;obtain⟨i,j,rfl,q⟩:=h;obtain⟨u,w',rfl,⟨t,rfl⟩,⟨t',rfl⟩⟩:=cZ2 r;refine min_two_ints (I.ok.hd hc) λh' tk k=>⟨_,H,I.kept k,?_,q⟩;by_cases hj:j<i
 ·rw[if_pos hj,if_pos hj];exact⟨_,rfl⟩
 ·rw[if_neg hj,if_neg hj];exact⟨_,rfl⟩
theorem b65:gw X (.type "int") (λxs H Q=>(∃i,xs=[.int i]/\Q (.int i) H)\/∃k,xs=[.bl k]/\Q (.int (if k then 1 else 0)) H):=by
 intro pins s σ H xs us Q I r h;rcases h with⟨i,rfl,q⟩ | ⟨k,rfl,q⟩
 ·obtain⟨u,rfl,t,rfl⟩:=xD r;exact call_int_int ⟨.int i,H,I,⟨_,rfl⟩,q⟩
 ·obtain⟨u,rfl,r1⟩:=xD r;cases r1;exact call_int_bool ⟨.int (if k then 1 else 0),H,I.tok _,⟨_,rfl⟩,q⟩
end
structure ua(h:Heap)(x dx C:Addr)(mA:Str->Option Value):Prop where
 obj:h.get? x=some (PySem.W.instObj C dx)
 ns:h.Ns1 dx mA
 ne:dx≠x
theorem cd1{h:Heap}{dx:Addr}{mA:Str->Option Value}(n:h.Ns1 dx mA):∃od,h.get? dx=some od/\∀name,PySem.W.lookIn name od=some (mA name):=by
 obtain⟨o,es,ep,ho,hd,hk,_,hm⟩:=n;refine⟨o,ho,λname=>?_⟩;have e:=hm name;unfold nsFind findBy at e;rw[<-Lf]at e;unfold PySem.W.lookIn;rw[hd];dsimp only;split
 ·rename_i y q;rw[q]at e;exact congrArg some e
 ·rename_i q;rw[q]at e;have a:es.toList.any (·.refKey)=false:=by
   rw[List.any_eq_false];intro y hy;obtain⟨z,t,db0⟩:=hk y (Array.mem_toList_iff.mp hy);simp[DictEntry.refKey,db0]
  have a':¬ es.toList.any (·.refKey)=true:=by rw[a];exact ji
  rw[if_neg a'];exact congrArg some e
theorem ua.look{h:Heap}{x dx C:Addr}{mA:Str->Option Value}(I:ua h x dx C mA):∃od,PySem.W.InstAt h x (PySem.W.instObj C dx) C (some od)/\∀name,PySem.W.lookIn name od=some (mA name) :=
 let⟨od,ho,hl⟩:=cd1 I.ns
 ⟨od,⟨I.obj,rfl,rfl,ho⟩,hl⟩
section
variable{prog:Program}{w:World}{A:Around}{E:Value->Shared->Prop}{s:Shared}{K:PySem.W.Frag}{x dx C f:Addr}{mA:Str->Option Value}{name:Str}{v:Value}
theorem cB1{expr:Bool}{Q:Value->Shared->Prop}(X:K.In s.heap)(I:ua s.heap x dx C mA)(hg:PySem.W.plainGet K C name=true)(hh:PySem.W.hasDictIn K C=true)
  (ha:PySem.W.findIn K (.ref C) name=some none) (hv:mA name=some v) (hv':PySem.W.handedIn v=true) (h:Q v { s with toks:=s.toks+1 }) :
  wpAny (model prog w) A (getAttr (.ref x) name expr) Q E s:=by
 obtain⟨od,J,hl⟩:=I.look;exact PySem.W.get_value X J (PySem.W.plainGet_of hg).1 (PySem.W.findObj_own hh ha rfl (by rw[hl,hv])) hv' h
theorem cn4{pl:Sem Bool}{Q:Value × List Value->Shared->Prop}(X:K.In s.heap)(I:ua s.heap x dx C mA)(hg:PySem.W.plainGet K C name=true)
  (hf:PySem.W.findIn K (.ref C) name=some (some (.ref f))) (ht:PySem.W.isFn K (.ref f)=true) (hv:mA name=none) (h:Q (.ref f,[.ref x]) s) :
  wpAny (model prog w) A (getMethod (.ref x) name pl) Q E s:=by
 obtain⟨od,J,hl⟩:=I.look;exact PySem.W.method_fn X J (PySem.W.plainGet_of hg).1 (PySem.W.plainGet_of hg).2 hf (beq_iff_eq.mp ht) (by show(PySem.W.lookIn name od).map (·.isSome)=some false;rw[hl,hv];rfl) h
theorem cu8{ns:List Str}{Q:Unit->Shared->Prop}(X:K.In s.heap)(I:ua s.heap x dx C mA)
  (hs:PySem.W.findIn K (.ref C) "__setattr__"=some (some (.builtin "object.__setattr__"))) (hp:PySem.W.plainOver K C=true) (ht:PySem.W.takerIn K C name=some none) (hh:PySem.W.hasDictIn K C=true)
  (hw:PySem.Within mA ns) (nL:ns.length<=sizeLine)
  (h:∀h',ua h' x dx C (λy=>if y=name then some v else mA y)->Heap.SameBut dx s.heap h'->Q () { s with heap:=h',toks:=s.toks+2 }) :
  wpAny (model prog w) A (setAttr (.ref x) name v) Q E s:=by
 obtain⟨od,J,hl⟩:=I.look;refine PySem.W.set_plain X J hs (PySem.W.osa_open (s:={ s with toks:=s.toks+1 }) (r:=none) X J hp ht λb=>?_);obtain⟨cd,hc,zZ⟩:=PySem.W.any_some hh;have hx:s.heap.get? x=some ⟨.ref C,some dx,.plain,#[]⟩:=I.obj;refine wpAny_bind (wpAny_pure (wpAny_bind (wpAny_bind (wpAny_loadPart hx (wpAny_bind (PySem.W.Looks.here (s:={ s with toks:=s.toks+1 }) (PySem.W.looks_clsIn X hc) ?_))))));rw[zZ];refine wpAny_pure (a:=some dx) (wpAny_bind (wpAny_pure (wpAny_bind ?_)));refine wpAny_nsSet1 (s:={ s with toks:=s.toks+1 }) I.ns λh' xE fw=>?_;obtain⟨oD,esD,epD,Ga,Gb,mw⟩:=xE.count (PySem.Within.cons name v hw);refine wpAny_bind (wpAny_lookBehind Ga (by rw[Gb];exact pastItsLine_dict (ff mw (by rw[jJ];omega))) ?_);exact wpAny_pure (h _ ⟨(fw.2 _ (fg I.ne)).trans I.obj,xE,I.ne⟩ fw)
theorem cn1{R:Result->Shared->Prop}{vs:List Value}{kw:List (Str × Value)}(X:K.In s.heap)(hm:PySem.W.makesIn K C=true)
  (hi:PySem.W.findIn K (.ref C) "__init__"=some (some (.ref f))) (hf:PySem.W.typeIn K (.ref f)=some (.type "function"))
  (h:codeAny (model prog w) (A.under (.builtin "type.__call__" ⟨.ref C::vs,kw⟩)) (.call (.ref f) ⟨.ref (s.heap.objs.size+1)::vs,kw⟩) (PySem.W.InitBack (s.heap.objs.size+1) R)
   { s with heap:=(s.heap.push PySem.W.emptyDict).push (PySem.W.instObj C s.heap.objs.size) }) :
  codeAny (model prog w) A (.call (.ref C) ⟨vs,kw⟩) R s:=by
 obtain⟨hh,g,d,t,os⟩:=s;exact PySem.W.make_core (PySem.W.makes_of X hm) (PySem.W.looks_findIn X hi) (λself=>PySem.W.bind_fn X self hf) (.inl rfl) h
end
def gH(f:Str)(v:V):List (Str × V)->List (Str × V)
 | []=>[(f,v)]
 | (g,x)::r=>if g=f then(g,v)::r else(g,x)::gH f v r
theorem Ms(f g:Str)(v:V):∀fs:List (Str × V),(gH f v fs).lookup g=if g=f then some v else fs.lookup g
 | []=>by
  show wY g [(f,v)]=_;by_cases h:g=f
  ·have hb:(g==f)=true:=beq_iff_eq.mpr h;simp only[wY,hb,if_pos h]
  ·have hb:(g==f)=false:=beq_eq_false_iff_ne.mpr h;simp only[wY,hb,if_neg h]
 | (k,x)::r=>by
  have ih:=Ms f g v r;rw[show gH f v ((k,x)::r)=(if k=f then(k,v)::r else(k,x)::gH f v r) from rfl];by_cases hk:k=f
  ·rw[if_pos hk];by_cases h:g=k
   ·have hb:(g==k)=true:=beq_iff_eq.mpr h;simp only[wY,hb,if_pos (h.trans hk)]
   ·have hb:(g==k)=false:=beq_eq_false_iff_ne.mpr h;simp only[wY,hb,if_neg (λe:g=f=>h (e.trans hk.symm))]
  ·rw[if_neg hk];by_cases h:g=k
   ·have hb:(g==k)=true:=beq_iff_eq.mpr h;simp only[wY,hb,if_neg (λe:g=f=>hk (h.symm.trans e))]
   ·have hb:(g==k)=false:=beq_eq_false_iff_ne.mpr h;simp only[wY,hb];exact ih
theorem Gd(f:Str)(v:V):∀fs:List (Str × V),f∈(gH f v fs).map (·.1)/\∀g,g∈fs.map (·.1)->g∈(gH f v fs).map (·.1)
 | []=>⟨by simp[gH],λg h=>by simp at h⟩
 | (k,x)::r=>by
  obtain⟨i1,i2⟩:=Gd f v r;rw[show gH f v ((k,x)::r)=(if k=f then(k,v)::r else(k,x)::gH f v r) from rfl];by_cases hk:k=f
  ·rw[if_pos hk];subst hk;exact⟨by simp,λg h=>by simpa using h⟩
  ·rw[if_neg hk];refine⟨?_,λg h=>?_⟩
   ·rw[dN];exact iB _ i1
   ·rw[dN]at h ⊢;rcases cO.mp h with e | e
    ·exact cO.mpr (.inl e)
    ·exact iB _ (i2 g e)
theorem Mt(f:Str)(v:V):∀fs:List (Str × V),(gH f v fs).length<=fs.length+1
 | []=>by simp[gH]
 | (k,x)::r=>by
  have ih:=Mt f v r;rw[show gH f v ((k,x)::r)=(if k=f then(k,v)::r else(k,x)::gH f v r) from rfl];by_cases hk:k=f
  ·rw[if_pos hk,jJ,jJ];omega
  ·rw[if_neg hk,jJ,jJ];omega
theorem nG.some_of{v:V}{o:Option Value}(r:nG (some v) o):∃u,o=some u/\RelV v u:=by
 cases o with
 | none=>exact(show False from r).elim
 | some u=>exact⟨u,rfl,r⟩
theorem nG.none_of{o:Option Value}(r:nG none o):o=none:=by
 cases o with
 | none=>rfl
 | some u=>exact(show False from r).elim
theorem b98{v:V}{u:Value}(r:RelV v u):PySem.W.handedIn u=true:=by
 cases v with
 | aA=>cases(show u=qJ from r);rfl
 | bl b=>cases(show u=E2 b from r);rfl
 | int i=>obtain⟨t,e⟩:=(show ∃t,u=wW i t from r);cases e;rfl
 | str x=>obtain⟨t,e⟩:=(show ∃t,u=Value.str x t from r);cases e;rfl
 | Cz b=>obtain⟨t,e⟩:=(show ∃t,u=Value.bytes b t from r);cases e;rfl
 | tV b=>obtain⟨t,e⟩:=(show ∃t,u=Value.float b t from r);cases e;rfl
 | ref a=>cases(show u=cN a from r);rfl
 | ty n=>cases(show u=Value.type n from r);rfl
section
variable{P:Program}{w:World}{H H':Hp}{h h':Heap}{a C dx:Addr}{fs Z3:List (Str × V)}
theorem CP(aH:da P w H h)(e:H a=some (.ins C dx fs)):∃mA,ua h a dx C mA/\(∀f,nG (fs.lookup f) (mA f))/\PySem.Within mA (fs.map (·.1))/\fs.length<=1000/\H dx=some (.own a):=by
 obtain⟨d,z,ne,ob,mA,n,r,q⟩:=(show dv P w H h a (.ins C dx fs) from aH a _ e);exact⟨mA,⟨ob,n,ne⟩,r,q,z,d⟩
end
structure cF(K:PySem.W.Frag)(C:Addr):Prop where
 pg:PySem.W.plainGet K C qO=true
 hd:PySem.W.hasDictIn K C=true
 po:PySem.W.plainOver K C=true
 sa:PySem.W.findIn K (.ref C) "__setattr__"=some (some (.builtin "object.__setattr__"))
theorem cF.get{K:PySem.W.Frag}{C:Addr}(c:cF K C)(f:Str):PySem.W.plainGet K C f=true:=c.pg
def bc(K:PySem.W.Frag)(C:Addr)(f:Str):Prop:=PySem.W.findIn K (.ref C) f=some none
theorem bc.db9{K:PySem.W.Frag}{C:Addr}{f:Str}(n:bc K C f):PySem.W.takerIn K C f=some none:=by
 unfold PySem.W.takerIn;rw[show PySem.W.findIn K (.ref C) f=some none from n];rfl
structure Meth(K:PySem.W.Frag)(C:Addr)(m:Str)(f:Addr):Prop where
 at_:PySem.W.findIn K (.ref C) m=some (some (.ref f))
 fn:PySem.W.isFn K (.ref f)=true
 kp:PySem.W.keepIn K (.ref f)=true
section
variable{X:Cx}{pins:List (Addr × Obj)}{σ:St}{H:Hp}{s:Shared}{a C dx:Addr}{fs:List (Str × V)}{f:Str}{v:V}{A:Around}{E:Value->Shared->Prop}
theorem bW9{b:Bool}{Q:Value->Shared->Prop}(I:Inv X pins σ H s)(e:H a=some (.ins C dx fs))(c:cF X.K C)(n:bc X.K C f)(l:fs.lookup f=some v)
  (h:∀u s',Inv X pins σ H s'->RelV v u->Q u s'):wpAny (model X.prog X.w) A (getAttr (.ref a) f b) Q E s:=by
 obtain⟨mA,O,r,_,_,_⟩:=CP I.aH e;obtain⟨u,hu,ru⟩:=nG.some_of (v:=v) (o:=mA f) (by rw[<-l];exact r f);exact cB1 I.bY O (c.get f) c.hd n hu (b98 ru) (h u _ (I.tok _) ru)
theorem Af{m:Str}{g:Addr}{pl:Sem Bool}{Q:Value × List Value->Shared->Prop}(I:Inv X pins σ H s)(e:H a=some (.ins C dx fs))(c:cF X.K C)(k:Meth X.K C m g)(l:fs.lookup m=none)
  (h:Q (.ref g,[.ref a]) s):wpAny (model X.prog X.w) A (getMethod (.ref a) m pl) Q E s:=by
 obtain⟨mA,O,r,_,_,_⟩:=CP I.aH e;have hn:mA m=none:=nG.none_of (by rw[<-l];exact r m);exact cn4 I.bY O (c.get m) k.at_ k.fn hn h
theorem bY8{y:V}{u:Value}{Q:Unit->Shared->Prop}(I:Inv X pins σ H s)(e:H a=some (.ins C dx fs))(c:cF X.K C)(n:bc X.K C f)(hl:fs.length<1000)(ry:RelV y u)
  (h:∀s',Inv X pins σ (upd H a (.ins C dx (gH f y fs))) s'->Q () s'):wpAny (model X.prog X.w) A (setAttr (.ref a) f u) Q E s:=by
 obtain⟨mA,O,r,wi,_,ho⟩:=CP I.aH e;have hz:(fs.map (·.1)).length<=sizeLine:=by rw[bq,sizeLine_eq];omega
 refine cu8 I.bY O c.sa c.po n.db9 c.hd wi hz λh' O' sb=>h _ ?_;have hd:∃o,h'.get? dx=some o:=let⟨o,_,_,e',_⟩:=O'.ns;⟨o,e'⟩;refine I.write (x:=a) (e:=dx) (by rw[e];exact wZ) (.inr ho) (λb q hb z=>(sb.2 b hb).trans z) hd ?_;refine⟨by rw[aZ O.ne];exact ho,?_,O.ne,O'.obj,_,O'.ns,λg=>?_,λg hg=>?_⟩
 ·have:=Mt f y fs;omega
 ·show nG ((gH f y fs).lookup g) (if g=f then some u else mA g);rw[Ms];by_cases q:g=f
  ·rw[if_pos q,if_pos q];exact ry
  ·rw[if_neg q,if_neg q];exact r g
 ·by_cases q:g=f
  ·rw[q];exact(Gd f y fs).1
  ·refine(Gd f y fs).2 g (wi g λz=>hg ?_);show(if g=f then some u else mA g)=none;rw[if_neg q];exact z
theorem Inv.made(I:Inv X pins σ H s):Inv X pins σ (upd (upd H s.heap.objs.size (.own (s.heap.objs.size+1))) (s.heap.objs.size+1) (.ins C s.heap.objs.size []))
  { s with heap:=(s.heap.push PySem.W.emptyDict).push (PySem.W.instObj C s.heap.objs.size) }:=by
 have e1:(s.heap.push PySem.W.emptyDict).get? s.heap.objs.size=some PySem.W.emptyDict:=g8 s.heap rfl;have e2:((s.heap.push PySem.W.emptyDict).push (PySem.W.instObj C s.heap.objs.size)).get? (s.heap.objs.size+1)=some (PySem.W.instObj C s.heap.objs.size):=by
  have:=g8 (s.heap.push PySem.W.emptyDict) (o:=PySem.W.instObj C s.heap.objs.size) rfl
  rwa [tJ]at this
 have e3:(s.heap.push PySem.W.emptyDict).Ns s.heap.objs.size (λ_=>none):=⟨PySem.W.emptyDict,#[],_,e1,rfl,(λe he=>absurd he (by simp)),λ_=>rfl⟩;have I1:=I.laid (a:=s.heap.objs.size) (o:=.own (s.heap.objs.size+1)) (h':=s.heap.push PySem.W.emptyDict) (t':=s.toks) (λb u q=>eC _ q) (bR _) ⟨_,e1⟩;refine I1.laid (a:=s.heap.objs.size+1) (o:=.ins C s.heap.objs.size []) (t':=s.toks) (λb u q=>eC _ q) (Cc (tJ _ _)) ?_;have ne:s.heap.objs.size≠s.heap.objs.size+1:=eI (Cd _);refine⟨by rw[aZ ne,dm],iT _,ne,e2,λ_=>none,(Heap.Ns1.of_empty e3).at λo q=>eC _ q,λ_=>wZ,λy hy=>absurd rfl hy⟩
theorem Mu{prog:Program}{w:World}{env:Env}{e:Expr}{f:Str}{pos:Pos}{s:Shared}{Q:Value->Shared->Prop}(hb:attributeBase e f env (eval e env)=eval e env)
  (h:wpAny (model prog w) A (eval e env) (λo br=>wpAny (model prog w) A (getAttr o f true) Q E br) E s):wpAny (model prog w) A (eval (.Attribute e f pos) env) Q E s :=
 Attribute_any_ h (by rw[arm_eval_Attribute,hb])
end
def c52(K:PySem.W.Frag)(ta:TE)(f:Str):TE:=λσ H Q=>ta σ H λx H1=>∃a C dx fs v,x=.ref a/\H1 a=some (.ins C dx fs)/\cF K C/\bc K C f/\fs.lookup f=some v/\Q v H1
def c33(K:PySem.W.Frag)(ta tv:TE)(f:Str):TS:=λD σ H=>tv σ H λy H1=>ta σ H1 λx H2=>∃a C dx fs,x=.ref a/\H2 a=some (.ins C dx fs)/\cF K C/\bc K C f/\fs.length<1000 /\
 D.nx σ (upd H2 a (.ins C dx (gH f y fs)))
section
variable{X:Cx}{o e value:Expr}{f:Str}{pos pos' nM:Pos}{ta tv:TE}
theorem cI7(he:PE X e ta)(hb:attributeBase e f X.env (eval e X.env)=eval e X.env):PE X (.Attribute e f pos) (c52 X.K ta f):=by
 intro pins s σ H Q I h;refine Mu hb (aU (he pins s σ H _ I h) λu s1 ⟨x,H1,I1,rx,a,C,dx,fs,v,ex,ea,c,n,l,q⟩=>?_);subst ex;obtain rfl:u=cN a:=rx;exact bW9 I1 ea c n l λu' s2 I2 ru=>⟨v,H1,I2,ru,q⟩
theorem cN5(ha:PE X o ta)(hv:PE X value tv)(hs:swapsWith value (some (.Attribute o f pos')) pos.line X.env=pure false):PS X (.Assign [.Attribute o f pos'] value pos) (c33 X.K ta tv f):=by
 intro pins s σ H D I h;refine plainObj_wpAny_Assign_Attribute (aU (hv pins s σ H _ I h) λu s1 ⟨y,H1,I1,ry,q⟩=>aU (ha pins s1 σ H1 _ I1 q) λov s2 ⟨x,H2,I2,rx,a,C,dx,fs,ex,ea,c,n,l,q2⟩=>?_) hs;subst ex;obtain rfl:ov=cN a:=rx;exact bY8 I2 ea c n l ry λs3 I3=>⟨σ,_,I3,q2⟩
end
section
variable{X:Cx}{pins:List (Addr × Obj)}{σ:St}{H:Hp}{s:Shared}{A:Around}{E:Value->Shared->Prop}{Q:Value->Shared->Prop}{c:Value}{b:Bool}
inductive iW(K:PySem.W.Frag)(H:Hp):V->Value->Prop where
 | aA:iW K H .aA (.type "NoneType")
 | bl (x:Bool):iW K H (.bl x) (.type "bool")
 | int (i:Int):iW K H (.int i) (.type "int")
 | str (x:Str):iW K H (.str x) (.type "str")
 | tV (x:UInt64):iW K H (.tV x) (.type "float")
 | lst {a:Addr} {xs:List V} (e:H a=some (.lst xs)):iW K H (.ref a) (.type "list")
 | cV {a:Addr} {o:Obj} {xs:List V} (e:H a=some (.cV o (.lst xs))):iW K H (.ref a) (.type "list")
 | tup {a:Addr} {xs:List V} (e:H a=some (.tup xs)):iW K H (.ref a) (.type "tuple")
 | dK {a:Addr} {eD:List (Key × V)} (e:H a=some (.dK eD)):iW K H (.ref a) (.type "dict")
 | dT {a:Addr} {eD:List (List Key × V)} (e:H a=some (.dT eD)):iW K H (.ref a) (.type "dict")
 | ins {a C dx:Addr} {fs:List (Str × V)} (e:H a=some (.ins C dx fs)) (cl:cF K C) (ha:PySem.W.findIn K (.ref C) "__class__"=some (some (.builtin "object.__class__")))
   (hn:PySem.W.specialIn K (.builtin "object.__class__") "__get__"=some (some (.builtin "getset_descriptor.__get__"))) (CQ:PySem.W.takesIn K (.builtin "object.__class__")=some true)
   (hm:PySem.W.mroIn K C (.type "object")=some true):iW K H (.ref a) (.ref C)
theorem Mv{x:V}{u t:Value}(I:Inv X pins σ H s)(rx:RelV x u)(ty:iW X.K H x t)(e:PySem.W.kitOne X.K t c=some b)(h:∀tk,Q (.bool b) { s with toks:=tk }) :
  wpAny (model X.prog X.w) A (call (.builtin "isinstance") [u,c]) Q E s:=by
 cases ty with
 | aA=>cases(show u=qJ from rx);exact PySem.W.kia_one PySem.W.kitx_none I.bY wZ e (λz=>nomatch z) h
 | bl y=>cases(show u=E2 y from rx);exact PySem.W.kia_one PySem.W.kitx_bool I.bY wZ e (λz=>nomatch z) h
 | int i=>obtain⟨t,q⟩:=(show ∃t,u=wW i t from rx);cases q;exact PySem.W.kia_one PySem.W.kitx_int I.bY wZ e (λz=>nomatch z) h
 | str y=>obtain⟨t,q⟩:=(show ∃t,u=Value.str y t from rx);cases q;exact PySem.W.kia_one PySem.W.kitx_str I.bY wZ e (λz=>nomatch z) h
 | tV y=>obtain⟨t,q⟩:=(show ∃t,u=Value.float y t from rx);cases q;exact PySem.W.kia_one PySem.W.kitx_float I.bY wZ e (λz=>nomatch z) h
 | @lst a xs ea =>
  cases(show u=cN a from rx);obtain⟨_,_,n,_,h1⟩:=(show dv X.prog X.w H s.heap a (.lst xs) from I.aH a _ ea);exact PySem.W.kia_one PySem.W.kitx_list I.bY ⟨_,h1,rfl⟩ e (λz=>nomatch z) h
 | @cV a ob xs ea =>
  cases(show u=cN a from rx);obtain⟨_,_,_,n,_,h1⟩:=(show dv X.prog X.w H s.heap a (.cV ob (.lst xs)) from I.aH a _ ea);exact PySem.W.kia_one PySem.W.kitx_list I.bY ⟨_,h1,rfl⟩ e (λz=>nomatch z) h
 | @tup a xs ea =>
  cases(show u=cN a from rx);obtain⟨_,_,_,p⟩:=(show dv X.prog X.w H s.heap a (.tup xs) from I.aH a _ ea);obtain⟨o,h1,h2,_⟩:=p;exact PySem.W.kia_one PySem.W.kitx_tuple I.bY ⟨o,h1,h2⟩ e (λz=>nomatch z) h
 | @dK a eD ea =>
  cases(show u=cN a from rx);obtain⟨_,_,vs,_,p⟩:=(show dv X.prog X.w H s.heap a (.dK eD) from I.aH a _ ea);obtain⟨o,es,ep,h1,h2,_⟩:=p;exact PySem.W.kia_one PySem.W.kitx_dict I.bY ⟨o,h1,h2.1⟩ e (λz=>nomatch z) h
 | @dT a eD ea =>
  cases(show u=cN a from rx);obtain⟨_,_,xs,_,o,es,ep,h1,h2,_⟩:=(show dv X.prog X.w H s.heap a (.dT eD) from I.aH a _ ea);exact PySem.W.kia_one PySem.W.kitx_dict I.bY ⟨o,h1,h2.1⟩ e (λz=>nomatch z) h
 | @ins a C dx fs ea cl ha hn CQ hm =>
  cases(show u=cN a from rx);obtain⟨mA,O,_⟩:=CP I.aH ea;obtain⟨od,J,_⟩:=O.look;exact PySem.W.kia_one (PySem.W.kitx_own (cl.get _) cl.hd ha hn CQ hm) I.bY J e (λz=>nomatch z) h
end
structure bJ(k:Nat)(A:Around):Prop where
 hd:A.handled=none
 dp:A.depth+3*k+5<recursionLimit
 un:A.units+16*k+200<cLine
theorem bJ.mono{j k:Nat}{A:Around}(r:bJ k A)(h:j<=k):bJ j A:=⟨r.hd,by have:=r.dp;omega,by have:=r.un;omega⟩
theorem bJ.deeper{k:Nat}{A:Around}(r:bJ (k+1) A)(env:Env):bJ k (A.deeper env) :=
 ⟨r.hd,by have:=r.dp;show A.depth+1+3*k+5<_;omega,by have:=r.un;show A.units+3+16*k+200<_;omega⟩
theorem bW6{A:Around}{C:Addr}{us:List Value}{kw:List (Str × Value)}:(A.under (.builtin "type.__call__" ⟨.ref C::us,kw⟩)).depth=A.depth+1:=by
 first | rfl | simp[Around.under,Code.weight,Code.isCreation,Code.isGuard,Code.isCaller,Code.frames,Code.isFrame,guardIds]
theorem bX8{A:Around}{C:Addr}{us:List Value}{kw:List (Str × Value)}:(A.under (.builtin "type.__call__" ⟨.ref C::us,kw⟩)).units=A.units+1:=by
 first | rfl | simp[Around.under,Code.cUnits,Code.frames,Code.isFrame]
theorem bJ.make{k:Nat}{A:Around}(r:bJ (k+1) A)(C:Addr)(us:List Value)(kw:List (Str × Value)):bJ k (A.under (.builtin "type.__call__" ⟨.ref C::us,kw⟩)) :=
 ⟨r.hd,by have:=r.dp;rw[bW6];omega,by have:=r.un;rw[bX8];omega⟩
theorem bJ.depth{k:Nat}{A:Around}(r:bJ k A):A.depth<recursionLimit:=by have:=r.dp;omega
def c48:TA:=λ_ H Q=>Q [] H
def cW1(ta:TE)(tr:TA):TA:=λσ H Q=>ta σ H λx H1=>tr σ H1 λxs H2=>Q (x::xs) H2
section
variable{X:Cx}{e:Expr}{es:List Expr}{te:TE}{t:TA}{pos:Pos}
theorem mx:PA X [] c48:=λ_ _ _ _ H Q I h=>Calls.spliced_nil ⟨[],H,I,.nil,h⟩
theorem gI(ha:PE X e te)(hr:PA X es t)(hs:starEach (e::es) X.env=(false,eval e X.env)::starEach es X.env:=by rfl):PA X (e::es) (cW1 te t):=by
 intro pos pins s σ H Q I h;rw[hs];show wpAny _ _ (spliced ((false,eval e X.env)::backTo pos (starEach es X.env))) _ _ s;refine Calls.spliced_cons (aU (ha pins s σ H _ I h) λu s1 ⟨x,H1,I1,r1,q1⟩=>?_);exact aU (hr pos pins s1 σ H1 _ I1 q1) λus s2 ⟨xs,H2,I2,r2,q2⟩=>⟨x::xs,H2,I2,.cons r1 r2,q2⟩
def c35(t:TA):TE:=λσ H Q=>t σ H λxs H1=>xs.length<=sizeLine/\∀p,H1 p=none->Q (.ref p) (upd H1 p (.tup xs))
def c30(t:TA):TE:=λσ H Q=>t σ H λxs H1=>xs.length<=sizeLine/\∀p,H1 p=none->Q (.ref p) (upd H1 p (.lst xs))
theorem Mw{x1}(h:PA X es t):PE X (.Tuple es x1 pos) (c35 t):=by
 intro pins s σ H Q I hq;refine wpAny_Tuple_spliced (aU (h pos pins s σ H _ I hq) λus s1 ⟨xs,H1,I1,r,z,q⟩=>⟨by rw[<-r.length];exact z,?_⟩);have hf:H1 s1.heap.objs.size=none:=I1.aH.fresh (bR _);refine⟨.ref s1.heap.objs.size,upd H1 s1.heap.objs.size (.tup xs),I1.laid (t':=s1.toks) (λb u e=>eC _ e) (bR _) ?_,rfl,q _ hf⟩;exact⟨z,us,r,⟨_,g8 _ rfl,rfl,_,rfl⟩⟩
theorem Mx(h:PA X es t):PE X (.List es pos) (c30 t):=by
 intro pins s σ H Q I hq;refine wpAny_List_spliced (aU (h pos pins s σ H _ I hq) λus s1 ⟨xs,H1,I1,r,z,q⟩=>⟨by rw[<-r.length];exact z,?_⟩);have hf:H1 s1.heap.objs.size=none:=I1.aH.fresh (bR _);refine⟨.ref s1.heap.objs.size,upd H1 s1.heap.objs.size (.lst xs),I1.laid (t':=s1.toks) (λb u e=>eC _ e) (bR _) ?_,rfl,q _ hf⟩;exact⟨z,us,0,r,g8 _ rfl⟩
end
abbrev Sp:=List V->Hp->VK->XK->Prop
abbrev eW:=List Env->Hp->Shared->XK->Value->Shared->Prop
structure jS(P:Program)(w:World)(K:PySem.W.Frag)(mg:Str->Option Value)(base:Heap)(A:Around)(outer:List Env)(s:Shared)(H:Hp):Prop where
 frames:A.frames=some outer
 mod:Mod K mg base
 bs:∀b o,base.get? b=some o->s.heap.get? b=some o/\H b=none
 jO:base.objs.size<=s.heap.objs.size
 gF:s.heap.FunFrames base outer
 jP:∀b∈eN outer,H b=none
 aH:da P w H s.heap
 bare:AllBare s.gens
def CE(outer:List Env)(P:Program)(w:World)(H:Hp)(s:Shared)(Q:VK)(u:Value)(s':Shared):Prop :=
 ∃v H',s'.os=s.os/\AllBare s'.gens/\Un (eN outer) [] H H' s.heap s'.heap/\da P w H' s'.heap/\RelV v u/\Q v H'
def CR(CX:eW)(outer:List Env)(P:Program)(w:World)(H:Hp)(s:Shared)(Q:VK)(E:XK)(r:Result)(s':Shared):Prop :=
 match r with
 | .ok (.ret u)=>CE outer P w H s Q u s'
 | .ok _=>False
 | .error e=>CX outer H s E e s'
structure aF(P:Program)(w:World)(K:PySem.W.Frag)(mg:Str->Option Value)(base:Heap)(CX:eW)(k:Nat)(f:Addr)(fd:FuncData)(ps:List Str)(sp:Sp):Prop where
 len:∀vs H Q E,sp vs H Q E->vs.length=ps.length
 run:∀(A:Around) (outer:List Env) (s:Shared) (H:Hp) (args:Args) (us:List Value) (vs:List V) (Q:VK) (E:XK),bJ k A->jS P w K mg base A outer s H->BindsTo s fd args (ps.zip us)->Vals vs us->sp vs H Q E ->
  codeAny (model P w) A (.call (.ref f) args) (CR CX outer P w H s Q E) s
theorem aF.mono{P:Program}{w:World}{K:PySem.W.Frag}{mg:Str->Option Value}{base:Heap}{CX:eW}{j k:Nat}{f:Addr}{fd:FuncData}{ps:List Str}{sp:Sp}(F:aF P w K mg base CX j f fd ps sp)(h:j<=k) :
  aF P w K mg base CX k f fd ps sp:=⟨F.len,λA outer s H args us vs Q E hr=>F.run A outer s H args us vs Q E (hr.mono h)⟩
theorem aF.imp{P:Program}{w:World}{K:PySem.W.Frag}{mg:Str->Option Value}{base:Heap}{CX:eW}{k:Nat}{f:Addr}{fd:FuncData}{ps:List Str}{sp Ag:Sp}(F:aF P w K mg base CX k f fd ps sp)
  (h:∀vs H Q E,Ag vs H Q E->sp vs H Q E):aF P w K mg base CX k f fd ps Ag :=
 ⟨λvs H Q E q=>F.len vs H Q E (h _ _ _ _ q),λA outer s H args us vs Q E hr he hb hv hs=>F.run A outer s H args us vs Q E hr he hb hv (h _ _ _ _ hs)⟩
theorem jS.make{P:Program}{w:World}{K:PySem.W.Frag}{mg:Str->Option Value}{base:Heap}{A:Around}{outer:List Env}{s:Shared}{H:Hp}(e:jS P w K mg base A outer s H)(C:Addr)(us:List Value)(kw:List (Str × Value)) :
  jS P w K mg base (A.under (.builtin "type.__call__" ⟨.ref C::us,kw⟩)) outer s H:=⟨by first | exact e.frames | (simpa[Around.under,Code.envs,Code.isFrame,pushEnvs]using e.frames),e.mod,e.bs,e.jO,e.gF,e.jP,e.aH,e.bare⟩
section
variable{X:Cx}{pins:List (Addr × Obj)}{σ:St}{H:Hp}{s s':Shared}
theorem Inv.ub(I:Inv X pins σ H s):jS X.prog X.w X.K X.mg X.base X.A X.stack s H :=
 ⟨I.ok.frames,I.ok.mod,I.bs,ff I.ok.jO I.sz,I.stack,I.CC,I.aH,I.bare⟩
theorem Inv.after{Q:VK}{u:Value}(I:Inv X pins σ H s)(h:CE X.stack X.prog X.w H s Q u s'):EP X pins σ Q u s':=by
 obtain⟨v,H',os,bare,un,aH,r,q⟩:=h;obtain⟨hh,g,d,t,os'⟩:=s';obtain rfl:os'=s.os:=os;exact⟨v,H',I.call (h':=hh) (g':=g) (d':=d) (t':=t) (ch:=[]) un aH bare (λb z=>absurd z (by simp)),r,q⟩
end
def cU3(sp:Sp)(gx:List V)(E:XK)(t:TA):TE:=λσ H Q=>t σ H λvs H1=>sp (vs++gx) H1 Q E
def cY5(C:Addr)(sp:Sp)(gx:List V)(E:XK)(t:TA):TE:=λσ H Q=>t σ H λvs H1=>∀x dx,H1 x=none->H1 dx=none->dx≠x ->
 sp (.ref x::(vs++gx)) (upd (upd H1 dx (.own x)) x (.ins C dx [])) (λv H2=>v=.aA/\Q (.ref x) H2) E
def Binds(K:PySem.W.Frag)(fd:FuncData)(ps:List Str)(ds:List Value):Prop :=
 ∀(s:Shared) (us:List Value),K.In s.heap->(us++ds).length=ps.length->BindsTo s fd ⟨us,[]⟩ (ps.zip (us++ds))
theorem Binds.all{K:PySem.W.Frag}{fd:FuncData}{ps:List Str}(h:∀us:List Value,us.length=ps.length->bindArgs fd ⟨us,[]⟩=pure (ps.zip us)):Binds K fd ps []:=λs us _ hl=>by
 rw[fY]at hl ⊢;exact .of_eq (h us hl)
def my(CX:eW)(X:Cx)(E:XK):Prop:=∀(pins:List (Addr × Obj)) (σ:St) (H:Hp) (s:Shared) (e:Value) (s':Shared),Inv X pins σ H s->CX X.stack H s E e s'->X.xe e s'
section
variable{X:Cx}{CX:eW}{k:Nat}{f C:Addr}{fd:FuncData}{ps:List Str}{sp:Sp}{gx:List V}{ds:List Value}{E:XK}{x m:Str}{p pos apos:Pos}{e o:Expr}{es:List Expr}{ta:TE}{t:TA}
theorem xF{pins:List (Addr × Obj)}{σ:St}{H:Hp}{s:Shared}{Q:VK}{us:List Value}{vs:List V}(F:aF X.prog X.w X.K X.mg X.base CX k f fd ps sp)(hr:bJ k X.A)(hb:Binds X.K fd ps ds)(hd:Vals gx ds)(hx:my CX X E)
  (I:Inv X pins σ H s) (r:Vals vs us) (h:sp (vs++gx) H Q E):wpAny (model X.prog X.w) X.A (call (.ref f) us) (EP X pins σ Q) X.xe s:=by
 have r2:Vals (vs++gx) (us++ds):=r.append hd;have hl:(us++ds).length=ps.length:=by rw[<-r2.length];exact F.len _ _ _ _ h
 refine wpAny_call (codeAny_mono (F.run X.A X.stack s H ⟨us,[]⟩ (us++ds) (vs++gx) Q E hr I.ub (hb s us I.bY hl) r2 h) λr s' hq=>?_)
 cases r with
 | error e=>exact hx pins σ H s e s' I hq
 | ok fl =>
  cases fl with
  | ret u=>exact I.after hq
  | next=>exact eZ hq
  | brk=>exact eZ hq
  | cont=>exact eZ hq
theorem Mz(F:aF X.prog X.w X.K X.mg X.base CX k f fd ps sp)(hr:bJ k X.A)(hg:Gl X x)(hm:X.mg x=some (.ref f))(hk:PySem.W.keepIn X.K (.ref f)=true)(hb:Binds X.K fd ps ds)(hd:Vals gx ds)(hx:my CX X E)
  (ha:PA X (e::es) t) (cM:(x==("__debug__":Str))=false:=by decide) (he:starEach (e::es) X.env=(false,eval e X.env)::starEach es X.env:=by rfl) (bh:(backTo pos (starEach es X.env)).any (·.1)=false:=by rfl) :
  PE X (.Call (.Name x p) (e::es) [] pos) (cU3 sp gx E t):=by
 intro pins s σ H Q I h;refine wpAny_Call_Name_kw (pf I hg hm ?_ cM);refine PySem.W.callWith_K (h₀:=X.base) I.ok.mod.lu hk (aU (ha pos pins s σ H _ I h) λus s1 ⟨vs,H1,I1,r,q⟩=>⟨I1.bY,?_⟩) he bh;exact xF F hr hb hd hx I1 r q
structure Mk(K:PySem.W.Frag)(C f:Addr):Prop where
 makes:PySem.W.makesIn K C=true
 init:PySem.W.findIn K (.ref C) "__init__"=some (some (.ref f))
 fn:PySem.W.isFn K (.ref f)=true
 kp:PySem.W.keepIn K (.ref C)=true
theorem ch2{pins:List (Addr × Obj)}{σ:St}{H:Hp}{s:Shared}{Q:VK}{us:List Value}{vs:List V}(M:Mk X.K C f)(F:aF X.prog X.w X.K X.mg X.base CX k f fd ps sp)(hr:bJ (k+1) X.A)(hb:Binds X.K fd ps ds)(hd:Vals gx ds)
  (hx:my CX X E) (I:Inv X pins σ H s) (r:Vals vs us)
  (h:∀x dx,H x=none->H dx=none->dx≠x->sp (.ref x::(vs++gx)) (upd (upd H dx (.own x)) x (.ins C dx [])) (λv H2=>v=.aA/\Q (.ref x) H2) E) :
  wpAny (model X.prog X.w) X.A (call (.ref C) us) (EP X pins σ Q) X.xe s:=by
 have hq:=h (s.heap.objs.size+1) s.heap.objs.size (I.aH.fresh (Nat.le_succ _)) (I.aH.fresh (bR _)) (eI (Cd _));have I2:=Inv.made (C:=C) I;have r2:Vals (V.ref (s.heap.objs.size+1)::(vs++gx)) (cN (s.heap.objs.size+1)::(us++ds)):=.cons rfl (r.append hd);have hl:(cN (s.heap.objs.size+1)::us++ds).length=ps.length:=by
  have e:=r2.length;rw[F.len _ _ _ _ hq]at e;exact e.symm
 refine wpAny_call (cn1 (f:=f) I.bY M.makes M.init (beq_iff_eq.mp M.fn) (codeAny_mono (F.run _ X.stack _ _ ⟨cN (s.heap.objs.size+1)::us,[]⟩ (cN (s.heap.objs.size+1)::(us++ds)) _ _ E (hr.make C us [])
  (I2.ub.make C us []) (hb _ (cN (s.heap.objs.size+1)::us) I2.bY hl) r2 hq) λr s' jl=>?_))
 cases r with
 | error e=>exact hx pins σ _ _ e s' I2 jl
 | ok fl =>
  cases fl with
  | ret u =>
   obtain⟨v,H',I3,rv,ev,q3⟩:=I2.after jl;subst ev;exact⟨rv,⟨V.ref (s.heap.objs.size+1),H',I3,rfl,q3⟩⟩
  | next=>exact eZ jl
  | brk=>exact eZ jl
  | cont=>exact eZ jl
theorem cD6(M:Mk X.K C f)(F:aF X.prog X.w X.K X.mg X.base CX k f fd ps sp)(hr:bJ (k+1) X.A)(hg:Gl X x)(hm:X.mg x=some (.ref C))(hb:Binds X.K fd ps ds)(hd:Vals gx ds)(hx:my CX X E)
  (ha:PA X (e::es) t) (cM:(x==("__debug__":Str))=false:=by decide) (he:starEach (e::es) X.env=(false,eval e X.env)::starEach es X.env:=by rfl) (bh:(backTo pos (starEach es X.env)).any (·.1)=false:=by rfl) :
  PE X (.Call (.Name x p) (e::es) [] pos) (cY5 C sp gx E t):=by
 intro pins s σ H Q I h;refine wpAny_Call_Name_kw (pf I hg hm ?_ cM);refine PySem.W.callWith_K (h₀:=X.base) I.ok.mod.lu M.kp (aU (ha pos pins s σ H _ I h) λus s1 ⟨vs,H1,I1,r,q⟩=>⟨I1.bY,?_⟩) he bh;exact ch2 M F hr hb hd hx I1 r q
end
section
variable{X:Cx}{CX:eW}{k:Nat}{f C:Addr}{fd:FuncData}{ps ks:List Str}{sp:Sp}{E:XK}{x m:Str}{p pos apos es4:Pos}{e o:Expr}{es:List Expr}{kws:List Keyword}{te ta:TE}{t tk:TA}{nm:Option Str}
variable{g:List Value->List Value->List Value}{gV:List V->List V->List V}
end
structure aS(N P:List Str)(sc:Scope):Prop where
 kind:sc.kind=.function
 co:sc.isCoroutine=false
 gen:sc.isGenerator=false
 nd:N.Nodup
 pre:N.take P.length=P
 par:∀x∈P,sc.names.lookup x=some .local\/sc.names.lookup x=some .cell
 dd7:∀y∈sc.names,y.2≠.free
theorem MA{kindOf:Str->Option NameKind}{x:Str}:∀{binds:List (Str × Value)} {m:Str->Option Value},(∀v,(x,v) ∉ binds)->bindL kindOf binds m x=m x
 | [],_,_=>rfl
 | (n,v)::r,m,h=>by
  unfold bindL;rw[MA λw hw=>h w (iB _ hw)];split
  ·have:x≠n:=by rintro rfl;exact h v ke
   simp[this]
  ·rfl
theorem MB{kindOf:Str->Option NameKind}{x:Str}:∀{binds:List (Str × Value)} {m:Str->Option Value},(∀v,(x,v) ∉ binds)->bindC kindOf binds m x=m x
 | [],_,_=>rfl
 | (n,v)::r,m,h=>by
  unfold bindC;rw[MB λw hw=>h w (iB _ hw)];split
  ·rfl
  ·have:x≠n:=by rintro rfl;exact h v ke
   simp[this]
theorem MC{kindOf:Str->Option NameKind}{x:Str}{v:Value}:∀{P:List Str} {vs:List Value} {i:Nat} {m:Str->Option Value},P.Nodup->P[i]?=some x->vs[i]?=some v->kindOf x=some .local ->
  bindL kindOf (P.zip vs) m x=some v
 | [],_,_,_,_,h,_,_=>by simp at h
 | _::_,[],_,_,_,_,h,_=>by simp at h
 | p::P,w::vs,0,m,nd,h1,h2,hk=>by
  simp at h1 h2;subst h1;subst h2;show bindL kindOf ((p,w)::P.zip vs) m p=_;unfold bindL;rw[MA λv hv=>(qP.mp nd).1 (tK hv).1,if_pos hk];simp
 | p::P,w::vs,i+1,m,nd,h1,h2,hk=>by
  show bindL kindOf ((p,w)::P.zip vs) m x=_;unfold bindL;exact MC (i:=i) (qP.mp nd).2 (by simpa using h1) (by simpa using h2) hk
theorem MD{kindOf:Str->Option NameKind}{x:Str}{v:Value}:∀{P:List Str} {vs:List Value} {i:Nat} {m:Str->Option Value},P.Nodup->P[i]?=some x->vs[i]?=some v->kindOf x≠some .local ->
  bindC kindOf (P.zip vs) m x=some v
 | [],_,_,_,_,h,_,_=>by simp at h
 | _::_,[],_,_,_,_,h,_=>by simp at h
 | p::P,w::vs,0,m,nd,h1,h2,hk=>by
  simp at h1 h2;subst h1;subst h2;show bindC kindOf ((p,w)::P.zip vs) m p=_;unfold bindC;rw[MB λv hv=>(qP.mp nd).1 (tK hv).1,if_neg hk];simp
 | p::P,w::vs,i+1,m,nd,h1,h2,hk=>by
  show bindC kindOf ((p,w)::P.zip vs) m x=_;unfold bindC;exact MD (i:=i) (qP.mp nd).2 (by simpa using h1) (by simpa using h2) hk
def start(N:List Str)(vs:List V):St:=vs.map some++aM (N.length-vs.length) none
def hV(CX:eW)(P:Program)(w:World)(K:PySem.W.Frag)(mg:Str->Option Value)(base:Heap)(N:List Str)(qual:Str)(scope:Scope)(f:Addr)(cd:Value)(A:Around)(outer:List Env)(s:Shared)(H:Hp)(E:XK):Cx where
 prog:=P
 w:=w
 K:=K
 mg:=mg
 base:=base
 A:=A.deeper (envOfC qual scope s.heap.objs.size f cd)
 N:=N
 cK:=s
 ly:=H
 env:=envOfC qual scope s.heap.objs.size f cd
 outer:=outer
 stack:=envOfC qual scope s.heap.objs.size f cd::outer
 ex:=[]
 calm:=true
 fn:=λ_=>true
 pn:=[]
 xe:=λe s'=>wpAny (model P w) (A.deeper (envOfC qual scope s.heap.objs.size f cd)) (leaving (envOfC qual scope s.heap.objs.size f cd) e) (λ_ ud=>CX outer H s E e ud) (λe' ud=>CX outer H s E e' ud) s'
theorem ME{sc:Scope}{n:Nat}{x:Str}(h:sc.names.lookup x=some .cell):∃c,(cellsFrom n sc.names []).lookup x=some c:=by
 have q:=PySem.W.cellsFrom_some sc.names n [] (.inl h);exact Ce.mp q
theorem b04{CX:eW}{P:Program}{w:World}{K:PySem.W.Frag}{mg:Str->Option Value}{base:Heap}{N ps:List Str}{qual:Str}{scope:Scope}{f:Addr}{cd:Value}{A:Around}{outer:List Env}{s s1:Shared}{H:Hp}{E:XK}{us:List Value}{vs:List V}
  (S:aS N ps scope) (hd:A.handled=none) (e0:jS P w K mg base A outer s H) (hl:vs.length=ps.length) (r:Vals vs us)
  (x:InCallC s s.heap.objs.size (bindL (envOfC qual scope s.heap.objs.size f cd).kindOf (ps.zip us) λ_=>none) (cellsFrom (s.heap.objs.size+1) scope.names []) (bindC (envOfC qual scope s.heap.objs.size f cd).kindOf (ps.zip us) λ_=>none) s1) :
  Inv (hV CX P w K mg base N qual scope f cd A outer s H E) [] (start N vs) H s1:=by
 have bh:ps.length<=N.length:=by have:=congrArg E5 S.pre;rw[kg]at this;omega
 obtain⟨h1,tk,rfl,hk⟩:=x.done;have Ah:∀b:Addr,b ∉ (hV CX P w K mg base N qual scope f cd A outer s H E).ex:=λb z=>absurd (show b∈([]:List Addr) from z) (by simp);refine⟨⟨e0.mod,S.kind,rfl,rfl,bR _,λy z c h1 h2=>?_,λy hy=>?_,λy c _ h=>?_,λ_=>hd,Around.frames_deeper e0.frames,.inr ⟨rfl,rfl⟩,λb z=>absurd z (Ah b),e0.bs,e0.jO,λb _ _=>Ah b,λb z=>absurd z (Ah b),e0.gF,e0.jP⟩,
  rfl,e0.bare,Un.kept hk,⟨_,x.toInCall.ns,λi y v h1 h2 h3=>?_⟩,λy c h=>⟨_,x.cell y c h⟩,e0.aH.fresh (bR _),λy c h=>?_,λp hp=>absurd (show p∈([]:List (Addr × Obj)) from hp) (by simp),e0.aH.kept hk,?_⟩
 ·exact name_of_addr x.apart (PySem.mem_of_lookup h1) (PySem.mem_of_lookup h2)
 ·have hy:scope.names.lookup y=some .cell\/scope.names.lookup y=some .free:=hy;rcases hy with hy | hy
  ·exact ME hy
  ·exact absurd rfl (S.dd7 _ (PySem.mem_of_lookup hy))
 ·exact tG (x.above y c (PySem.mem_of_lookup h))
 ·have hi:i<vs.length:=by
   unfold start at h2;by_cases hi:i<vs.length
   ·exact hi
   ·rw[nB (by simpa using hi)]at h2;rw[nC]at h2;split at h2<;>cases h2
  have ha:vs[i]?=some v:=by
   unfold start at h2;rw[tL (by simpa using hi),cy]at h2
   cases e:vs[i]? with
   | none=>rw[e]at h2;cases h2
   | some a=>rw[e]at h2;cases h2;rfl
  obtain⟨u,hu,rv⟩:=r.get ha;have hp:ps[i]?=some y:=by
   rw[<-S.pre,Zp (by omega)];exact h1
  have MF:ps.Nodup:=by rw[<-S.pre];exact S.nd.sublist (List.take_sublist _ _)
  refine⟨u,rv,?_⟩;rcases S.par y (w4 hp)with k | k
  ·exact .inl ⟨k,MC MF hp hu k⟩
  ·obtain⟨c,e⟩:=ME (n:=s.heap.objs.size+1) k;refine .inr ⟨.inl k,c,e,?_⟩;have q:=x.cell y c e;rw[MD MF hp hu (by show scope.names.lookup y≠_;rw[k];decide)]at q;exact q
 ·exact e0.aH.fresh (tG (x.above y c (PySem.mem_of_lookup h)))
 ·unfold start;show _=N.length;rw[dO,bq,dE];omega
theorem CS{CX:eW}{P:Program}{w:World}{K:PySem.W.Frag}{mg:Str->Option Value}{base:Heap}{k:Nat}{f:Addr}{name qual:Str}{params:Arguments}{body:List Stmt}{scope:Scope}{dV kV doc pm aC ct oc:Value}{an od:Option Addr}
  {gJ:Array (Option Value)} {N ps:List Str} {sp:Sp} (lk:K.lookup f=some ⟨oc,od,.func (PySem.W.fnOf name qual params body scope dV kV doc pm an aC ct),gJ⟩) (bZ:PySem.W.codeIn K aC qual=true) (S:aS N ps scope)
  (len:∀vs H Q E,sp vs H Q E->vs.length=ps.length)
  (fi:∀(A:Around) (outer:List Env) (s:Shared) (H:Hp) (vs:List V) (Q:VK) (E:XK),bJ k (A.deeper (envOfC qual scope s.heap.objs.size f aC))->sp vs H Q E ->
   ∃t,PSs (hV CX P w K mg base N qual scope f aC A outer s H E) body t/\t { nx:=λ_ H'=>Q .aA H',rt:=Q } (start N vs) H) :
  aF P w K mg base CX (k+1) f (PySem.W.fnOf name qual params body scope dV kV doc pm an aC ct) ps sp:=by
 refine⟨len,λA outer s H args us vs Q E hr e0 hb r eA=>?_⟩;have hl:=len _ _ _ _ eA;have KX:K.In s.heap:=e0.mod.lu.keeps λb o e=>(e0.bs b o e).1;have lim:s.heap.NoLimit:=e0.mod.nolimit.keeps λb o e=>(e0.bs b o e).1;have ia:∀y∈ps.zip us,scope.names.lookup y.1=some .local\/(scope.names.lookup y.1=some .cell/\((cellsFrom (s.heap.objs.size+1) scope.names []).lookup y.1).isSome=true):=λ⟨n,v⟩ hy=>by
  rcases S.par n (tK hy).1 with q | q
  ·exact .inl q
  ·exact .inr ⟨q,PySem.W.cellsFrom_some _ _ _ (.inl q)⟩
 refine codeAny_call_function hr.depth (KX _ _ lk) rfl S.co S.gen rfl (PySem.W.codeRec_of KX bZ) (hb _ _ _ _ ?_);refine wpAny_newFunctionEnv_cells S.kind ia λenv he s1 x=>?_;subst he;refine⟨lim.keeps x.toInCall.keep,codeAny_func ?_⟩;obtain⟨t,ht,hq⟩:=fi A outer s H vs Q E (hr.deeper _) eA;have I:Inv (hV CX P w K mg base N qual scope f aC A outer s H E) [] (start N vs) H s1:=b04 S hr.hd e0 hl r x;refine wpAny_mono (ht [] s1 (start N vs) H _ I hq) (λfl s' hs=>?_) λe s' hs=>hs;have fin:∀{aJ:St} {H':Hp} {v:V} {u:Value},Inv (hV CX P w K mg base N qual scope f aC A outer s H E) [] aJ H' s'->RelV v u->Q v H'->CE outer P w H s Q u s' :=
  λ{aJ H' v u} J rv q=>⟨v,H',J.os,J.bare,J.base,J.aH,rv,q⟩
 cases fl with
 | ret u =>
  obtain⟨v,aJ,H',J,rv,q⟩:=hs;exact fin J rv q
 | next =>
  obtain⟨aJ,H',J,q⟩:=hs;exact fin (v:=V.aA) (u:=qJ) J rfl q
 | brk =>
  obtain⟨_,_,_,q⟩:=hs;exact eZ q
 | cont =>
  obtain⟨_,_,_,q⟩:=hs;exact eZ q
section
variable{X:Cx}{x:Str}{p pos:Pos}{e:Expr}{es:List Expr}{t:TA}{id T:String}{r:List V->Hp->VK->Prop}
def Ge(r:List V->Hp->VK->Prop)(t:TA):TE:=λσ H Q=>t σ H λvs H1=>r vs H1 Q
theorem CT(hc:gw X (.builtin id) r)(hg:Gl X x)(hm:X.mg x=none)(hv:bootBuiltins x=some (.builtin id))(ha:PA X (e::es) t)(hn:x≠"__name__":=by decide)(cM:(x==("__debug__":Str))=false:=by decide)
  (he:starEach (e::es) X.env=(false,eval e X.env)::starEach es X.env:=by rfl) (bh:(backTo pos (starEach es X.env)).any (·.1)=false:=by rfl):PE X (.Call (.Name x p) (e::es) [] pos) (Ge r t):=by
 intro pins s σ H Q I h;refine wpAny_Call_Name_kw (rf I hg hm hv ?_ hn cM);exact Zq (aU (ha pos pins s σ H _ I h) λus s1 ⟨vs,H1,I1,r1,q1⟩=>hc pins s1 σ H1 vs us Q I1 r1 q1) he bh
theorem b77(hc:gw X (.type T) r)(hg:Gl X x)(hm:X.mg x=none)(hv:bootBuiltins x=some (.type T))(ha:PA X (e::es) t)(hn:x≠"__name__":=by decide)(cM:(x==("__debug__":Str))=false:=by decide)
  (he:starEach (e::es) X.env=(false,eval e X.env)::starEach es X.env:=by rfl) (bh:(backTo pos (starEach es X.env)).any (·.1)=false:=by rfl):PE X (.Call (.Name x p) (e::es) [] pos) (Ge r t):=by
 intro pins s σ H Q I h;refine wpAny_Call_Name_kw (rf I hg hm hv ?_ hn cM);exact zy (aU (ha pos pins s σ H _ I h) λus s1 ⟨vs,H1,I1,r1,q1⟩=>hc pins s1 σ H1 vs us Q I1 r1 q1) he bh
end
end L2
namespace HT
open PySem PyProof.Rows
section
open PySem.SeqAt
open PySem.AutoSeq1 (wpAny_loadPart')
open PySem.MeetsSeq PySem.MeetsSeq2 PySem.MeetsSeq3
end
section
variable{prog:Program}{w:World}{A:Around}{E:Value->Shared->Prop}{s:Shared}
def dG(n d:Nat):Option Int->Nat
 | none=>d
 | some v=>if v<0 then(v+(n:Int)).toNat else min v.toNat n
theorem Gf(n d k:Nat):dG n d (some (k:Int))=min k n:=by
 show(if(k:Int)<0 then((k:Int)+(n:Int)).toNat else min (k:Int).toNat n)=min k n;rw[if_neg (by omega),gr]
end
end HT
namespace L2
open PySem PySem.Spec PyProof.Rows
abbrev TO:=St->Hp->(Option Int->Hp->Prop)->Prop
def PO(X:Cx)(e:Option Expr)(t:TO):Prop :=
 ∀(pins:List (Addr × Obj)) (s:Shared) (σ:St) (H:Hp) (Q:Option Int->Hp->Prop),Inv X pins σ H s->t σ H Q ->
  wpAny (model X.prog X.w) X.A (evalPart e X.env) (λu s'=>∃o H',Inv X pins σ H' s'/\IsPart u o/\Q o H') X.xe s
def cv0:TO:=λ_ H Q=>Q none H
def c04(t:TE):TO:=λσ H Q=>t σ H λx H1=>∃i,x=.int i/\Q (some i) H1
theorem MG{ns:List Int}:∀{us:List Value},Vals (ns.map V.int) us->IntsAre us ns:=by
 induction ns with
 | nil=>intro us r;rw[jK]at r;cases r;exact .nil
 | cons n ns ih =>
  intro us r;rw[dN]at r
  cases r with
  | cons r1 r2 =>
   obtain⟨t,e⟩:=r1;subst e;exact .cons n t (ih r2)
section
variable{X:Cx}{e:Expr}{te:TE}{lo hi:Option Expr}{tl th:TO}{pos p2:Pos}
theorem cz1:PO X none cv0:=by
 intro pins s σ H Q I h;rw[evalPart_none];exact wpAny_pure ⟨none,H,I,.none,h⟩
theorem cx3(h:PE X e te):PO X (some e) (c04 te):=by
 intro pins s σ H Q I hw;rw[evalPart_some];refine aU (h pins s σ H _ I hw) λu s1 ⟨x,H1,I1,r1,q1⟩=>?_;obtain⟨i,rfl,q⟩:=q1;obtain⟨t,rfl⟩:=r1;exact⟨some i,H1,I1,.int i t,q⟩
def ue(X:Cx)(r:V->Option Int->Option Int->Hp->VK->Prop):Prop :=
 ∀(pins:List (Addr × Obj)) (s:Shared) (σ:St) (H:Hp) (x:V) (v vl vu:Value) (lo hi:Option Int) (sl:Addr) (Q:VK),Inv X pins σ H s->RelV x v->s.heap.IsSliceOf sl vl vu .none->IsPart vl lo->IsPart vu hi->r x lo hi H Q ->
  ∃T id,typeLookup (.type T) "__getitem__"=pure (some (.builtin id))/\s.TypeIs v T/\wpAny (model X.prog X.w) X.A (getItem v (.ref sl)) (EP X pins σ Q) X.xe s
theorem ue.or{r r':V->Option Int->Option Int->Hp->VK->Prop}(h:ue X r)(h':ue X r'):ue X (λx lo hi H Q=>r x lo hi H Q\/r' x lo hi H Q):=by
 intro pins s σ H x v vl vu lo hi sl Q I rx hs pl pu q;rcases q with q | q
 ·exact h pins s σ H x v vl vu lo hi sl Q I rx hs pl pu q
 ·exact h' pins s σ H x v vl vu lo hi sl Q I rx hs pl pu q
def tSl(r:V->Option Int->Option Int->Hp->VK->Prop)(te:TE)(tl th:TO):TE:=λσ H Q=>te σ H λx H1=>tl σ H1 λl H2=>th σ H2 λu H3=>r x l u H3 Q
theorem cf6{r:V->Option Int->Option Int->Hp->VK->Prop}(hr:ue X r)(he:PE X e te)(hl:PO X lo tl)(hu:PO X hi th):PE X (.Subscript e (.Slice lo hi none p2) pos) (tSl r te tl th):=by
 intro pins s σ H Q I h;refine Subscript_ (aU (he pins s σ H _ I h) λv s1 ⟨x,H1,I1,r1,q1⟩=>?_);refine wpAny_Slice (aU (hl pins s1 σ H1 _ I1 q1) λvl s2 ⟨l,H2,I2,pl,q2⟩=>aU (hu pins s2 σ H2 _ I2 q2) λvu s3 ⟨u,H3,I3,pu,q3⟩=>?_);rw[evalPart_none];refine wpAny_pure ?_;have I4:Inv X pins σ H3 { s3 with heap:=s3.heap.push { cls:=.type "slice",data:=.fields #[vl,vu,.none] } }:=I3.kept (t':=s3.toks) λb ob q=>eC _ q;obtain⟨T,id,hT,ht,hg⟩:=hr pins { s3 with heap:=s3.heap.push { cls:=.type "slice",data:=.fields #[vl,vu,.none] } } σ H3 x v vl vu l u s3.heap.objs.size Q I4 r1 (Heap.IsSliceOf.new ..) pl pu q3;show wpAny (model X.prog X.w) X.A (subscriptTail e (.Slice lo hi none p2) v (.ref s3.heap.objs.size)) (EP X pins σ Q) X.xe { s3 with heap:=s3.heap.push { cls:=.type "slice",data:=.fields #[vl,vu,.none] } };exact tail_any (ops:=[.ref s3.heap.objs.size,v]) ht hT hg (by with_unfolding_all rfl)
def xG(xs:List V)(lo hi:Option Int):List V:=(xs.drop (HT.dG xs.length 0 lo)).take (HT.dG xs.length xs.length hi-HT.dG xs.length 0 lo)
theorem bN1(xs:List V)(lo hi:Option Int):(xG xs lo hi).length<=xs.length:=by
 unfold xG;rw[kg,lh];omega
end
def ib(n:Nat)(i:Int):Option Nat:=if 0<=i then(if i<n then some i.toNat else none)else if -(n:Int)<=i then some (i+n).toNat else none
def dW{α:Type}(xs:List α)(i:Int):Option α:=(ib xs.length i).bind λj=>xs[j]?
theorem MH{n:Nat}{i:Int}{j:Nat}(h:ib n i=some j):seqIndex? i n=some j/\j<n/\-(n:Int)<=i/\i<n:=by
 unfold ib at h;by_cases h0:0<=i
 ·rw[if_pos h0]at h;by_cases h1:i<n
  ·rw[if_pos h1]at h;have e:i.toNat=j:=dr h;exact⟨by rw[seqIndex_of h0 h1,e],by omega,by omega,h1⟩
  ·rw[if_neg h1]at h;cases h
 ·rw[if_neg h0]at h;by_cases h1:-(n:Int)<=i
  ·rw[if_pos h1]at h;have e:(i+n).toNat=j:=dr h;exact⟨by rw[seqIndex_neg (by omega) h1,e],by omega,h1,by omega⟩
  ·rw[if_neg h1]at h;cases h
theorem ph{α:Type}{xs:List α}{i:Int}{v:α}(h:dW xs i=some v):∃j,seqIndex? i xs.length=some j/\xs[j]?=some v/\j<xs.length/\-(xs.length:Int)<=i/\i<xs.length:=by
 unfold dW at h
 cases e:ib xs.length i with
 | none=>rw[e]at h;cases h
 | some j =>
  rw[e]at h;obtain⟨h1,h2,h3,h4⟩:=MH e;exact⟨j,h1,h,h2,h3,h4⟩
def Gg(b:Expr):Prop:=∀o i,subscripted b false o i=operate [o,i] (getItem o i)
def pj(X:Cx)(r:R2):Prop :=
 ∀(value slice:Expr) (pins:List (Addr × Obj)) (s:Shared) (σ:St) (H:Hp) (x y:V) (v u:Value) (Q:VK),Inv X pins σ H s->RelV x v->RelV y u->r x y H Q ->
  subscripted slice false v u=operate [v,u] (getItem v u)->wpAny (model X.prog X.w) X.A (subscriptTail value slice v u) (EP X pins σ Q) X.xe s
def Ai(X:Cx)(id:String)(r:V->List V->Hp->VK->Prop):Prop :=
 ∀(pins:List (Addr × Obj)) (s:Shared) (σ:St) (H:Hp) (x:V) (xs:List V) (v:Value) (us:List Value) (Q:VK),Inv X pins σ H s->RelV x v->Vals xs us->r x xs H Q ->
  wpAny (model X.prog X.w) X.A (call (.builtin id) (v::us)) (EP X pins σ Q) X.xe s
section
variable{X:Cx}{a b:Expr}{ta tb:TE}{pos:Pos}
theorem pj.or{r r':R2}(h:pj X r)(h':pj X r'):pj X (λx y H Q=>r x y H Q\/r' x y H Q):=by
 intro value slice pins s σ H x y v u Q I rx ry q hs;rcases q with q | q
 ·exact h value slice pins s σ H x y v u Q I rx ry q hs
 ·exact h' value slice pins s σ H x y v u Q I rx ry q hs
theorem MI{r:R2}(hr:pj X r)(ha:PE X a ta)(hb:PE X b tb)(hs:Gg b):PE X (.Subscript a b pos) (Ae r ta tb):=by
 intro pins s σ H Q I h;exact Subscript_ (F8 ha hb I h λv u s2 x y H2 I2 rx ry q=>hr a b pins s2 σ H2 x y v u Q I2 rx ry q (hs _ _))
def MJ(K:PySem.W.Frag):R2:=λx y H Q=>∃p xs i v,x=.ref p/\y=.int i/\bN K H p xs/\dW xs i=some v/\Q v H
def MK(K:PySem.W.Frag):R2:=λx y H Q=>∃p xs i v,x=.ref p/\y=.int i/\iF K H p xs/\dW xs i=some v/\Q v H
def ML:R2:=λx y H Q=>∃z i c,x=.str z/\y=.int i/\z.length<=sizeLine/\dW z.cps.toList i=some c/\Q (.str ⟨#[c]⟩) H
theorem de7:pj X (MJ X.K):=by
 intro value slice pins s σ H x y v u Q I rx ry h hs;obtain⟨p,xs,i,z,rfl,rfl,hq,he,q⟩:=h;cases rx;obtain⟨t,rfl⟩:=ry;obtain⟨its,r,pl,hz⟩:=I.list hq;obtain⟨j,h1,h2,h3,h4,h5⟩:=ph he;obtain⟨w,ew,gK⟩:=r.get h2;have hl:=r.length;have hn:=xC;have fin:EP X pins σ Q w s:=⟨z,H,I,gK,q⟩;by_cases h0:0<=i
 ·have hj:i.toNat=j:=by
   rw[seqIndex_of h0 h5]at h1;exact dr h1
  exact item_listR pl.isList h0 (by omega) (by rw[hj];simpa using ew) fin hs
 ·have hj:(i+(its.toArray.size:Int)).toNat=j:=by
   rw[seqIndex_neg (by omega) h4]at h1;rw[eJ,<- hl];exact dr h1
  exact subscriptTail_builtinR (x:=w) pl.isList.typeIs slot_list_getitem.lookup
   (wpAny_getItem_list_neg (Q:=λr s'=>r=w/\EP X pins σ Q r s') pl.isList (by omega) (by rw[eJ]<;>omega) (by omega) (by rw[hj];simpa using ew) ⟨rfl,fin⟩) hs
theorem MM:pj X (MK X.K):=by
 intro value slice pins s σ H x y v u Q I rx ry h hs;obtain⟨p,xs,i,z,rfl,rfl,hq,he,q⟩:=h;cases rx;obtain⟨t,rfl⟩:=ry;obtain⟨its,r,pl,hz⟩:=I.tuple hq;obtain⟨j,h1,h2,h3,h4,h5⟩:=ph he;obtain⟨w,ew,gK⟩:=r.get h2;have hl:=r.length;have hn:=xC;have fin:EP X pins σ Q w s:=⟨z,H,I,gK,q⟩;exact subscriptTail_builtinR (x:=w) pl.typeIs slot_tuple_getitem.lookup
  (getItem_tuple (j:=j) (Q:=λr s'=>r=w/\EP X pins σ Q r s') pl (by omega) (by omega) (by rw[eJ,<- hl];exact h1) (by simpa using ew) ⟨rfl,fin⟩) hs
theorem cJ8:pj X ML:=by
 intro value slice pins s σ H x y v u Q I rx ry h hs;obtain⟨z,i,c,rfl,rfl,hz,he,q⟩:=h;obtain⟨t,rfl⟩:=rx;obtain⟨t',rfl⟩:=ry;obtain⟨j,h1,h2,h3,h4,h5⟩:=ph he;have hl:z.cps.toList.length=z.length:=by simp[Str.length]
 rw[hl]at h1 h4 h5;have hn:=xC;exact tail_any (typeIs_str s z t) slot_str_getitem.lookup (getItem_str (c:=c) (by
  have e1:decide (i < -(2 ^ 63:Int))=false:=decide_eq_false (by omega);have e2:decide (i ≥ 2 ^ 63)=false:=decide_eq_false (by omega);rw[e1,e2,w5]) (by rw[h1];simpa using h2) ⟨.str ⟨#[c]⟩,H,I.tok _,⟨_,rfl⟩,q⟩) hs
def rIx(K:PySem.W.Frag):R2:=λx y H Q=>MJ K x y H Q\/MK K x y H Q\/ML x y H Q
theorem cR7:pj X (rIx X.K):=de7.or (MM.or cJ8)
theorem bY6(its:List Value)(n j:Nat)(u:Value):Cf (·.setIfInBounds j u) { cls:=.type "list",data:=.seq its.toArray n }={ cls:=.type "list",data:=.seq (its.set j u).toArray n }:=by
 simp[Cf]
theorem Inv.lst{pins:List (Addr × Obj)}{σ:St}{H:Hp}{s:Shared}{p:Addr}{xs:List V}(I:Inv X pins σ H s)(h:H p=some (.lst xs)) :
  ∃(its:List Value) (n:Nat),Vals xs its/\s.heap.get? p=some { cls:=.type "list",data:=.seq its.toArray n }/\xs.length<=sizeLine:=by
 obtain⟨z,its,n,r,e⟩:=I.aH p _ h;exact⟨its,n,r,e,z⟩
theorem Inv.df2{pins:List (Addr × Obj)}{σ:St}{H:Hp}{s:Shared}{p:Addr}{xs ys:List V}{its its':List Value}{n n':Nat}{f:Obj->Obj}(I:Inv X pins σ H s)(h:H p=some (.lst xs))
  (ho:s.heap.get? p=some { cls:=.type "list",data:=.seq its.toArray n }) (hf:f { cls:=.type "list",data:=.seq its.toArray n }={ cls:=.type "list",data:=.seq its'.toArray n' }) (r:Vals ys its') (hz:ys.length<=sizeLine) (t:Nat) :
  Inv X pins σ (upd H p (.lst ys)) { s with heap:=s.heap.update p f,toks:=t }:=by
 have e:(s.heap.update p f).get? p=some { cls:=.type "list",data:=.seq its'.toArray n' }:=by
  rw[zA f ho (by rw[hf]<;>rfl),hf]
 refine I.write (x:=p) (e:=p) (by rw[h];trivial) (.inl rfl) (λb u hb q=>(nD _ _ (fg hb)).trans q) ⟨_,e⟩ ?_;exact⟨hz,its',n',r,e⟩
def cV8:V->V->V->Hp->(Hp->Prop)->Prop:=λo i v H Q=>∃p xs k j,o=.ref p/\i=.int k/\H p=some (.lst xs)/\ib xs.length k=some j/\Q (upd H p (.lst (xs.set j v)))
theorem cm5:Md X cV8:=by
 intro pins s σ H o i v ov iv u Q I ro ri rv h;obtain⟨p,xs,k,j,rfl,rfl,hp,hj,q⟩:=h;cases ro;obtain⟨t,rfl⟩:=ri;obtain⟨its,n,r,ho,hz⟩:=I.lst hp;obtain⟨h1,h2,h3,h4⟩:=MH hj;have hl:=r.length;have hn:=xC;have I':Inv X pins σ (upd H p (.lst (xs.set j v))) { s with heap:=s.heap.update p (Cf (·.setIfInBounds j u)) } :=
  I.df2 hp ho (bY6 its n j u) (r.set rv j) (by rw[iU];exact hz) s.toks
 by_cases h0:0<=k
 ·have hk:k.toNat=j:=by
   rw[seqIndex_of h0 h4]at h1;exact dr h1
  exact PySem.W.ki_setAt ho h0 (by omega) (by rw[eJ,<- hl];exact h4) (by rw[hk];exact⟨_,I',q⟩)
 ·have hk:(k+(its.toArray.size:Int)).toNat=j:=by
   rw[seqIndex_neg (by omega) h3]at h1;rw[eJ,<- hl];exact dr h1
  exact PySem.W.ki_setBack ho (by omega) (by rw[eJ,<- hl];exact h3) (by omega) (by rw[hk];exact⟨_,I',q⟩)
theorem Gh(lo hi:Option Int)(n:Nat):(sliceBounds lo hi none n).1=((HT.dG n 0 lo:Nat):Int)/\(sliceBounds lo hi none n).2.1=((HT.dG n n hi:Nat):Int)/\(sliceBounds lo hi none n).2.2=1:=by
 refine⟨?_,?_,rfl⟩
 ·cases lo with
  | none=>simp[sliceBounds,HT.dG]
  | some i =>
   simp only[sliceBounds,HT.dG,tM,show(1:Int)>0 by decide,if_true];by_cases h:i<0
   ·simp only[h,if_true]<;>omega
   ·simp only[h,if_false]<;>omega
 ·cases hi with
  | none=>simp[sliceBounds,HT.dG]
  | some i =>
   simp only[sliceBounds,HT.dG,tM,show(1:Int)>0 by decide,if_true];by_cases h:i<0
   ·simp only[h,if_true]<;>omega
   ·simp only[h,if_false]<;>omega
theorem bF1(its:List Value)(lo hi:Option Int):slicePick its.toArray lo hi none=((its.drop (HT.dG its.length 0 lo)).take (HT.dG its.length its.length hi-HT.dG its.length 0 lo)).toArray:=by
 obtain⟨h1,h2,h3⟩:=Gh lo hi its.toArray.size;unfold slicePick;rw[h1,h2,h3];simp only[sliceRange_one,pick_run,eJ]<;>rfl
def c43(K:PySem.W.Frag):V->Option Int->Option Int->Hp->VK->Prop:=λx lo hi H Q=>∃a xs,x=.ref a/\bN K H a xs/\∀p,H p=none->Q (.ref p) (upd H p (.lst (xG xs lo hi)))
theorem df7:ue X (c43 X.K):=by
 intro pins s σ H x v vl vu lo hi sl Q I rx hs pl pu h;obtain⟨a,xs,rfl,hx,q⟩:=h;cases rx;obtain⟨its,r,ht,hz⟩:=I.list hx;have hlen:=r.length;refine⟨"list",_,slot_list_getitem.lookup,ht.isList.typeIs,?_⟩;refine wpAny_getItem_list_slice ht.isList hs pl pu .none (by simp) ?_ (by rw[eJ]<;>omega);rw[bF1,<- hlen];refine⟨.ref s.heap.objs.size,_,I.laid (t':=s.toks) (o:=.lst (xG xs lo hi)) (λb ob q=>eC _ q) (bR _) ?_,rfl,q _ (I.aH.fresh (bR _))⟩;exact⟨ff (bN1 xs lo hi) hz,_,0,(r.drop (HT.dG xs.length 0 lo)).take (HT.dG xs.length xs.length hi-HT.dG xs.length 0 lo),g8 _ rfl⟩
def nN:V->Bool
 | .aA=>true
 | .bl _=>true
 | .int _=>true
 | .str _=>true
 | _=>false
def lH:V->V->Bool
 | .aA,.aA=>true
 | .bl a,.bl b=>a==b
 | .bl a,.int b=>(if a then 1 else 0)==b
 | .int a,.bl b=>a==(if b then 1 else 0)
 | .int a,.int b=>a==b
 | .str a,.str b=>a==b
 | _,_=>false
theorem cJ4{A:Around}{s:Shared}{y x:V}{u v:Value}(ry:RelV y u)(rx:RelV x v)(fy:nN y=true)(fx:nN x=true):E6 A s u v (lH y x):=by
 cases y with
 | aA =>
  cases ry
  cases x with
  | aA=>cases rx;exact SeqAt.EqAt.same _
  | bl b=>cases rx;exact SeqAt.EqAt.none_bool b
  | int b=>obtain⟨t,rfl⟩:=rx;exact SeqAt.EqAt.none_int b t
  | str b=>obtain⟨t,rfl⟩:=rx;exact SeqAt.EqAt.none_str b t
  | _=>exact absurd (show false=true from fx) ji
 | bl a =>
  cases ry
  cases x with
  | aA=>cases rx;exact SeqAt.EqAt.bool_none a
  | bl b=>cases rx;exact SeqAt.EqAt.bool_bool a b
  | int b=>obtain⟨t,rfl⟩:=rx;exact SeqAt.EqAt.bool_int a b t
  | str b=>obtain⟨t,rfl⟩:=rx;exact SeqAt.EqAt.bool_str a b t
  | _=>exact absurd (show false=true from fx) ji
 | int a =>
  obtain⟨t',rfl⟩:=ry
  cases x with
  | aA=>cases rx;exact SeqAt.EqAt.int_none a t'
  | bl b=>cases rx;exact SeqAt.EqAt.int_bool a t' b
  | int b=>obtain⟨t,rfl⟩:=rx;exact SeqAt.EqAt.int_int a t' b t
  | str b=>obtain⟨t,rfl⟩:=rx;exact SeqAt.EqAt.int_str a t' b t
  | _=>exact absurd (show false=true from fx) ji
 | str a =>
  obtain⟨t',rfl⟩:=ry
  cases x with
  | aA=>cases rx;exact SeqAt.EqAt.str_none a t'
  | bl b=>cases rx;exact SeqAt.EqAt.str_bool a t' b
  | int b=>obtain⟨t,rfl⟩:=rx;exact SeqAt.EqAt.str_int a t' b t
  | str b=>obtain⟨t,rfl⟩:=rx;exact SeqAt.EqAt.str_str a t' b t
  | _=>exact absurd (show false=true from fx) ji
 | _=>exact absurd (show false=true from fy) ji
def jm(x:V)(u:Value):Bool:=match u with
 | .none=>lH .aA x
 | .bool b=>lH (.bl b) x
 | .int i _=>lH (.int i) x
 | .str z _=>lH (.str z) x
 | _=>false
theorem MN{x y:V}{u:Value}(r:RelV y u)(f:nN y=true):jm x u=lH y x:=by
 cases y with
 | aA=>cases r;rfl
 | bl b=>cases r;rfl
 | int i=>obtain⟨t,rfl⟩:=r;rfl
 | str z=>obtain⟨t,rfl⟩:=r;rfl
 | _=>exact absurd (show false=true from f) ji
theorem Aj{x:V}:∀{xs:List V} {us:List Value},Vals xs us->xs.all nN=true->us.any (jm x)=xs.any λy=>lH y x
 | _,_,.nil,_=>rfl
 | y::xs,u::us,.cons r t,f=>by
  rw[bB,cA]at f;rw[List.any_cons,List.any_cons,MN r f.1,Aj t f.2]
theorem Ak{A:Around}{s:Shared}{x:V}{v:Value}(rx:RelV x v)(fx:nN x=true):∀{xs:List V} {us:List Value},Vals xs us->xs.all nN=true->∀u∈us,E6 A s u v (jm x u)
 | _,_,.nil,_=>λu hu=>by cases hu
 | y::xs,u::us,.cons r t,f=>λu' hu=>by
  rw[bB,cA]at f;rcases cO.mp hu with rfl | hu
  ·rw[MN r f.1];exact cJ4 r rx f.1 fx
  ·exact Ak rx fx t f.2 u' hu
def uf(x:V)(xs:List V):Bool:=xs.any λy=>lH y x
def MP(K:PySem.W.Frag)(neg:Bool):R2:=λx y H Q=>∃p xs,y=.ref p/\(bN K H p xs\/iF K H p xs)/\nN x=true/\xs.all nN=true/\Q (.bl (if neg then !uf x xs else uf x xs)) H
theorem b50:cL X (compareOp .In) (MP X.K false):=by
 intro pins s σ H x y v u Q I rx ry h;obtain⟨p,xs,rfl,hq,fx,fs,q⟩:=h;cases ry;rcases hq with hq | hq
 ·obtain⟨its,r,pl,hz⟩:=I.list hq;refine SeqAt.in_listAt (jm x) pl.isList (λw hw=>Ak rx fx r fs w (by simpa using hw)) ⟨.bl _,H,I,rfl,?_⟩;rw[show its.toArray.any (jm x)=its.any (jm x) by simp,Aj r fs];exact q
 ·obtain⟨its,r,pl,hz⟩:=I.tuple hq;refine SeqAt.in_tupleAt (jm x) pl (λw hw=>Ak rx fx r fs w (by simpa using hw)) ⟨.bl _,H,I,rfl,?_⟩;rw[show its.toArray.any (jm x)=its.any (jm x) by simp,Aj r fs];exact q
theorem bH8:cL X (compareOp .NotIn) (MP X.K true):=by
 intro pins s σ H x y v u Q I rx ry h;obtain⟨p,xs,rfl,hq,fx,fs,q⟩:=h;cases ry;rcases hq with hq | hq
 ·obtain⟨its,r,pl,hz⟩:=I.list hq;refine SeqAt.notIn_listAt (jm x) pl.isList (λw hw=>Ak rx fx r fs w (by simpa using hw)) ⟨.bl _,H,I,rfl,?_⟩;rw[show its.toArray.any (jm x)=its.any (jm x) by simp,Aj r fs];exact q
 ·obtain⟨its,r,pl,hz⟩:=I.tuple hq;refine SeqAt.notIn_tupleAt (jm x) pl (λw hw=>Ak rx fx r fs w (by simpa using hw)) ⟨.bl _,H,I,rfl,?_⟩;rw[show its.toArray.any (jm x)=its.any (jm x) by simp,Aj r fs];exact q
theorem dg1:gw X (.builtin "len") (λxs H Q=>∃p ys,xs=[.ref p]/\(bN X.K H p ys\/iF X.K H p ys)/\Q (.int ys.length) H):=by
 intro pins s σ H xs us Q I r h;obtain⟨p,ys,rfl,hq,q⟩:=h;obtain⟨u,rfl,rx⟩:=xD r;cases rx;have hn:=xC;rcases hq with hq | hq
 ·obtain⟨its,r',pl,hz⟩:=I.list hq;have hlen:=r'.length;exact Calls.call_len_list pl.isList (by simp only[eJ]<;>omega) ⟨.int ys.length,H,I.tok _,⟨s.toks+1,by rw[eJ,hlen]⟩,q⟩
 ·obtain⟨its,r',pl,hz⟩:=I.tuple hq;have hlen:=r'.length;exact len_tuple pl (by simp only[eJ]<;>omega) ⟨.int ys.length,H,I.tok _,⟨s.toks+1,by rw[eJ,hlen]⟩,q⟩
theorem bK7:gw X (.builtin "len") (λxs H Q=>∃z,xs=[.str z]/\z.length<=sizeLine/\Q (.int z.length) H):=by
 intro pins s σ H xs us Q I r h;obtain⟨z,rfl,hz,q⟩:=h;obtain⟨u,rfl,t,rfl⟩:=xD r;have hn:=xC;exact len_str (by omega) ⟨.int z.length,H,I.tok _,⟨_,rfl⟩,q⟩
theorem gw.or{f:Value}{r r':List V->Hp->VK->Prop}(h:gw X f r)(h':gw X f r'):gw X f (λxs H Q=>r xs H Q\/r' xs H Q):=by
 intro pins s σ H xs us Q I rs q;rcases q with q | q
 ·exact h pins s σ H xs us Q I rs q
 ·exact h' pins s σ H xs us Q I rs q
theorem bK1:gw X (.type "list") (λxs H Q=>∃p ys,xs=[.ref p]/\(bN X.K H p ys\/iF X.K H p ys)/\∀l,H l=none->Q (.ref l) (upd H l (.lst ys))):=by
 intro pins s σ H xs us Q I r h;obtain⟨p,ys,rfl,hq,q⟩:=h;obtain⟨u,rfl,rx⟩:=xD r;cases rx;have fin:∀(its:List Value),Vals ys its->ys.length<=sizeLine->∀(h':Heap) (c':Nat),(∀b o',s.heap.get? b=some o'->h'.get? b=some o') ->
   h'.get? s.heap.objs.size=some { cls:=.type "list",dict:=none,data:=.seq its.toArray c',slots:=#[] }->EP X pins σ Q (.ref s.heap.objs.size) { s with heap:=h' }:=λits r' hz h' c' kp e =>
  ⟨.ref s.heap.objs.size,_,I.laid (t':=s.toks) kp (bR _) (show dv X.prog X.w _ h' _ (.lst ys) from⟨hz,its,c',r',e⟩),rfl,q _ (I.aH.fresh (bR _))⟩
 rcases hq with hq | hq
 ·obtain⟨its,r',pl,hz⟩:=I.list hq;have hlen:=r'.length;obtain⟨o,ho,hc,n,hd⟩:=pl.isList;exact call_list_seq p (.inl rfl) ho hc hd (λh' c' kp e=>fin its r' hz h' c' kp e) (by simp only[eJ]<;>omega)
 ·obtain⟨its,r',pl,hz⟩:=I.tuple hq;have hlen:=r'.length;obtain⟨o,ho,hc,n,hd⟩:=pl;exact call_list_seq p (.inr rfl) ho hc hd (λh' c' kp e=>fin its r' hz h' c' kp e) (by simp only[eJ]<;>omega)
def Gi(K:PySem.W.Frag)(T:String)(x:V)(H:Hp):Prop:=match x with
 | .str _=>T="str"
 | .int _=>T="int"
 | .ref p=>(T="list"/\∃xs,bN K H p xs)\/(T="tuple"/\∃o,K.lookup p=some o/\o.cls=.type "tuple"/\o.dict=none) \/
   (T="dict"/\((∃eD,H p=some (.dK eD))\/∃eD,H p=some (.dT eD)))\/(T="set"/\∃S n,H p=some (.set S n))
 | _=>False
theorem MQ{pins:List (Addr × Obj)}{σ:St}{H:Hp}{s:Shared}{T:String}{x:V}{v:Value}(I:Inv X pins σ H s)(r:RelV x v)(ty:Gi X.K T x H) :
  s.TypeIs v T/\∀a,v=.ref a->∃ob,s.heap.get? a=some ob/\ob.dict=none:=by
 cases x with
 | str z =>
  obtain⟨t,rfl⟩:=r;cases(show T="str" from ty);exact⟨typeIs_str s z t,λ_ e=>nomatch e⟩
 | int i =>
  obtain⟨t,rfl⟩:=r;cases(show T="int" from ty);exact⟨typeIs_int s i t,λ_ e=>nomatch e⟩
 | ref p =>
  cases r;rcases ty with⟨rfl,xs,hq⟩ | ⟨rfl,o,hk,hc,hd⟩ | ⟨rfl,hk⟩ | ⟨rfl,S,n,hk⟩
  ·obtain⟨its,_,pl,_⟩:=I.list hq;refine⟨pl.isList.typeIs,λa e=>?_⟩;cases e;obtain⟨o,n,e,c,hd,_⟩:=pl;exact⟨o,e,hd⟩
  ·refine⟨⟨o,I.bY p o hk,hc⟩,λa e=>?_⟩;cases e;exact⟨o,I.bY _ o hk,hd⟩
  ·have z:∃o,s.heap.get? p=some o/\o.ExactDict:=by
    rcases hk with⟨eD,hk⟩ | ⟨eD,hk⟩
    ·obtain⟨_,_,_,_,o,_,_,e,ex,_⟩:=I.aH p _ hk;exact⟨o,e,ex⟩
    ·obtain⟨_,_,_,_,o,_,_,e,ex,_⟩:=I.aH p _ hk;exact⟨o,e,ex⟩
   obtain⟨o,e,ex⟩:=z;refine⟨⟨o,e,ex.1⟩,λa e2=>?_⟩;cases e2;exact⟨o,e,ex.2.1⟩
  ·obtain⟨o,_,_,_,e,ex,_⟩:=I.aH p _ hk;refine⟨⟨o,e,ex.1⟩,λa e2=>?_⟩;cases e2;exact⟨o,e,ex.2.1⟩
 | _=>exact eZ ty
def MR(K:PySem.W.Frag)(T:String)(r:V->List V->Hp->VK->Prop)(to:TE):TE:=λσ H Q=>to σ H λx H1=>Gi K T x H1/\r x [] H1 Q
def tBM(K:PySem.W.Frag)(T:String)(r:V->List V->Hp->VK->Prop)(to:TE)(t:TA):TE:=λσ H Q=>to σ H λx H1=>Gi K T x H1/\t σ H1 λxs H2=>r x xs H2 Q
variable{o e:Expr}{es:List Expr}{to:TE}{t:TA}{name:Str}{apos bK:Pos}{T id:String}{r:V->List V->Hp->VK->Prop}
theorem cI9(pa:PlainAttrs T)(slot:Slot T name id)(Gj:typeOf (.builtin id)=pure (.type "method_descriptor"))(hm:Ai X id r)(ho:PE X o to)
  (mB:attributeBase o name X.env (eval o X.env)=eval o X.env:=by rfl) (mC:(apos.endLine==bK.line)=true:=by rfl):PE X (.Call (.Attribute o name apos) [] [] bK) (MR X.K T r to):=by
 intro pins s σ H Q I h;refine wpAny_Call_method0_late mB mC (aU (ho pins s σ H _ I h) λv s1 ⟨x,H1,I1,r1,ty,q1⟩=>?_);obtain⟨h1,h2⟩:=MQ I1 r1 ty;exact⟨T,id,pa,slot,Gj,h1,h2,Calls.callWith_builtin rfl (PySem.evalArgs_none (hm pins s1 σ H1 x [] v [] Q I1 r1 .nil q1))⟩
theorem MS(pa:PlainAttrs T)(slot:Slot T name id)(Gj:typeOf (.builtin id)=pure (.type "method_descriptor"))(hm:Ai X id r)(ho:PE X o to)(ha:PA X (e::es) t)
  (mB:attributeBase o name X.env (eval o X.env)=eval o X.env:=by rfl)
  (Al:((backTo bK (starEach (e::es) X.env)).all (λx=>!x.1)&&(backToKw bK (keywordEach [] X.env)).all (λx=>x.1.isSome)
   && decide ((e::es).length+([]:List Keyword).length+(if([]:List Keyword).isEmpty then 0 else 1)<30))=true:=by rfl)
  (mC:(apos.endLine==bK.line)=true:=by rfl) (hs:starEach (e::es) X.env=(false,eval e X.env)::starEach es X.env:=by rfl) (Am:(backTo bK (starEach es X.env)).any (·.1)=false:=by rfl) :
  PE X (.Call (.Attribute o name apos) (e::es) [] bK) (tBM X.K T r to t):=by
 intro pins s σ H Q I h;refine wpAny_Call_method_late mB Al mC rfl (aU (ho pins s σ H _ I h) λv s1 ⟨x,H1,I1,r1,ty,q1⟩=>?_);obtain⟨h1,h2⟩:=MQ I1 r1 ty;refine⟨T,id,pa,slot,Gj,h1,h2,?_⟩;have hA:=ha bK pins s1 σ H1 _ I1 q1;rw[hs]at hA ⊢;refine Calls.callWith_builtin (by show(false||(backTo bK (starEach es X.env)).any (·.1))=false;rw[Am]<;>rfl) (Lg ?_);exact aU hA λus s2 ⟨vs,H2,I2,r2,q2⟩=>hm pins s2 σ H2 x vs v us Q I2 r1 r2 q2
/- xs.append(e),list.index on a es6 tuple .. are Ai facts of 06m -/
end
def MtM(X:Cx)(id:String)(r:V->List V->Hp->VK->Prop):Prop :=
 ∀(pins:List (Addr × Obj)) (s:Shared) (σ:St) (H:Hp) (x:V) (xs:List V) (v:Value) (us:List Value) (Q:VK),Inv X pins σ H s->RelV x v->Vals xs us->r x xs H Q ->
  wpAny (model X.prog X.w) X.A (call (.builtin id) (v::us)) (EP X pins σ Q) X.xe s
theorem Vals.one:∀{x:V} {us:List Value},Vals [x] us->∃u,us=[u]/\RelV x u
 | _,_,h=>by cases h with | cons r h=>cases h;exact⟨_,rfl,r⟩
theorem Vals.two:∀{x y:V} {us:List Value},Vals [x,y] us->∃u v,us=[u,v]/\RelV x u/\RelV y v
 | _,_,_,h=>by cases h with | cons r h=>cases h with | cons q h=>cases h;exact⟨_,_,rfl,r,q⟩
theorem Vals.rep{xs:List V}{us:List Value}(h:Vals xs us):∀k:Nat,Vals (aM k xs).flatten (aM k us).flatten
 | 0=>.nil
 | k+1=>by
  rw[tN,tN,w9,w9];exact Vals.append h (Vals.rep h k)
theorem MT(its:List Value):∀(k:Nat) (acc:List Value),
  List.foldl (λx1 x2=>x1++x2) acc.toArray (aM k its.toArray)=(acc++(aM k its).flatten).toArray
 | 0,acc=>by simp
 | k+1,acc=>by
  have e:acc.toArray++its.toArray=(acc++its).toArray:=by simp
  have e2:(acc++its)++(aM k its).flatten=acc++(aM (k+1) its).flatten:=by
   rw[tN,w9,dk]
  rw[<-e2,<- MT its k (acc++its),<- e,tN,oO]
section
variable{X:Cx}{pins:List (Addr × Obj)}{σ:St}{H:Hp}{s:Shared}{l b:Addr}{xs ys zs:List V}
theorem Inv.dg7{its its':List Value}{n:Nat}{f:Array Value->Array Value}{t':Nat}(I:Inv X pins σ H s)(hH:H l=some (.lst xs))
  (e:s.heap.get? l=some { cls:=.type "list",data:=.seq its.toArray n }) (hf:f its.toArray=its'.toArray) (hv:Vals ys its') (hz:ys.length<=sizeLine) :
  Inv X pins σ (upd H l (.lst ys)) { s with heap:=s.heap.update l (Cf f),toks:=t' }:=by
 have q:=PySem.IsL.update e f;rw[hf]at q;refine I.write (x:=l) (e:=l) (by rw[hH];exact trivial) (.inl rfl) (λb' u hb hu=>(nD s.heap (Cf f) (fg hb)).trans hu) ⟨_,q⟩ ?_;exact⟨hz,its',_,hv,q⟩
theorem Inv.MU{its:List Value}{t':Nat}(I:Inv X pins σ H s)(hv:Vals ys its)(hz:ys.length<=sizeLine) :
  Inv X pins σ (upd H s.heap.objs.size (.lst ys)) { s with heap:=s.heap.push { cls:=.type "list",data:=.seq its.toArray },toks:=t' } :=
 I.laid (λ_ _ q=>eC _ q) (bR _) ⟨hz,its,0,hv,g8 _ rfl⟩
theorem Inv.fresh(I:Inv X pins σ H s):H s.heap.objs.size=none:=I.aH.fresh (bR _)
theorem Inv.CU(I:Inv X pins σ H s)(hH:H l=some (.lst xs)):xs.length<=sizeLine/\∃(its:List Value) (n:Nat),Vals xs its/\xs.length=its.length/\s.heap.get? l=some { cls:=.type "list",data:=.seq its.toArray n }:=by
 obtain⟨z,its,n,r,e⟩:=I.aH l _ hH;exact⟨z,its,n,r,r.length,e⟩
theorem cl4{n:Nat}(h:n<=sizeLine):Lh n=false:=by
 unfold Lh;exact decide_eq_false (by omega)
end
section
variable{X:Cx}
def cz5:V->List V->Hp->VK->Prop:=λx vs H Q=>∃l xs y,x=.ref l/\vs=[y]/\H l=some (.lst xs)/\xs.length<sizeLine/\Q .aA (upd H l (.lst (xs++[y])))
theorem MV:MtM X "list.append" cz5:=by
 intro pins s σ H x vs v us Q I rx rv h;obtain⟨l,xs,y,rfl,rfl,hH,hz,q⟩:=h;cases rx;obtain⟨u,rfl,ru⟩:=rv.one;obtain⟨z,its,n,r,hl,e⟩:=I.CU hH;refine call_meets F.slot_list_append ⟨_,e,rfl⟩ F.entry_list_append (F.args_list_append_2 _ _) (PySem.list_append l its.toArray n u (by rw[eJ];omega)) ⟨e,?_⟩;refine⟨.aA,_,I.dg7 (its':=its++[u]) hH e (by simp) (r.append (.cons ru .nil)) ?_,rfl,q⟩;rw[dO,nE];omega
def c51:R2:=λx y H Q=>∃l b xs zs,x=.ref l/\y=.ref b/\H l=some (.lst xs)/\H b=some (.lst zs)/\xs.length+zs.length<=sizeLine/\∀p,H p=none->Q (.ref p) (upd H p (.lst (xs++zs)))
theorem MW:cL X (binaryOp .Add) c51:=by
 intro pins s σ H x y v u Q I rx ry h;obtain⟨l,b,xs,zs,rfl,rfl,hH,hB,hz,q⟩:=h;cases rx;cases ry;obtain⟨z,its,n,r,hl,e⟩:=I.CU hH;obtain⟨z2,MX,n2,r2,hl2,e2⟩:=I.CU hB;refine PySem.P.add_list e e2 ?_ (by rw[eJ,eJ];omega);have ea:its.toArray++MX.toArray=(its++MX).toArray:=by simp
 rw[ea];exact⟨.ref _,_,I.MU (t':=s.toks) (r.append r2) (by rw[dO];omega),rfl,q _ I.fresh⟩
def c39:R2:=λx y H Q=>∃l k xs,x=.ref l/\y=.int k/\H l=some (.lst xs)/\-(2 ^ 63)<=k/\k<2 ^ 63/\xs.length*k.toNat<=sizeLine /\
 ∀p,H p=none->Q (.ref p) (upd H p (.lst (aM k.toNat xs).flatten))
theorem cG8{α:Type}(xs:List α)(k:Nat):(aM k xs).flatten.length=k*xs.length:=by
 induction k with
 | zero=>simp
 | succ k ih=>rw[tN,w9,dO,ih,Nat.succ_mul,Cg]
theorem cM7:cL X (binaryOp .Mult) c39:=by
 intro pins s σ H x y v u Q I rx ry h;obtain⟨l,k,xs,rfl,rfl,hH,h1,h2,hz,q⟩:=h;cases rx;obtain⟨t,rfl⟩:=ry;obtain⟨z,its,n,r,hl,e⟩:=I.CU hH;have hlen:its.toArray.size*k.toNat<=sizeLine:=by rw[eJ,<- hl];exact hz
 have dh4:¬ its.toArray.size*k.toNat>(2 ^ 63-1)/8:=by
  have:(sizeLine:Nat)<=(2 ^ 63-1)/8:=by decide
  omega
 have dh5:¬ (!Builtin.List.listFitsIndex k)=true:=by
  rw[fitsIndex_both h1 h2];exact ji
 have dh6:¬ Lh (its.toArray.size*k.toNat)=true:=by
  rw[cl4 hlen];exact ji
 have dh7:List.foldl (λx1 x2=>x1++x2) #[] (aM (if its.toArray.isEmpty=true then 0 else k.toNat) its.toArray)=(aM k.toNat its).flatten.toArray:=by
  have f0:∀m:Nat,List.foldl (λx1 x2=>x1++x2) #[] (aM m its.toArray)=(aM m its).flatten.toArray:=λm=>by
   have:=MT its m [];rw[jL]at this;exact this
  rw[f0]
  cases its with
  | nil=>simp
  | cons a r'=>rw[if_neg (by simp)]
 refine wpAny_binaryOp_repeat_ref (T:="list") (U:="int") (by decide) ⟨_,e,rfl⟩ (λs'=>typeIs_int s' k t) noFill_list_mul F.fills_int_mul F.slot_int_rmul repeat_list F.slot_int_index.lookup
  (call_meets F.slot_int_rmul (typeIs_int s k t) F.entry_int_rmul (F.args_int_rmul_2 _ _) (int___rmul___int_list k t l its.toArray n)
   ⟨e,rfl,⟨_,e,rfl⟩,call_meets F.slot_list_mul ⟨_,e,rfl⟩ F.entry_list_mul (F.args_list_mul_2 _ _) (AutoListH.list___mul___list_int_3 l its.toArray n k t dh5 dh4 dh6) ⟨e,?_⟩⟩)
 rw[dh7];exact⟨.ref _,_,I.MU (t':=s.toks) (r.rep k.toNat) (by rw[cG8,oQ];exact hz),rfl,q _ I.fresh⟩
end
section
variable{prog:Program}{w:World}{A:Around}{E:Value->Shared->Prop}{s:Shared}
end
section
variable{X:Cx}
end
end L2
namespace Att
open PySem PySem.W PySem.Calls PyProof.Rows
theorem bv8{P:Params}{h:Heap}:∀(ns:List Int) (vs:List Value),WellAll P h vs (ns.map WData.int)->IntsAre vs ns:=by
 intro ns
 induction ns with
 | nil =>
  intro vs w;rw[jK]at w;cases w;exact .nil
 | cons n ns ih =>
  intro vs w;rw[dN]at w
  cases w with
  | cons a b =>
   cases a;exact .cons _ _ (ih _ b)
theorem b52{l:OpenLaw}{n:Nat}(hn:l.most=some n){P:Params}{h:Heap}{args:List WData}{vals:List Value}
  (CV:l.row.toRowW.claim.pre args=true) (Gk:WellAll P h vals args) :
  ∃a vs ns,vals=[cN a]/\args=[WData.list (ns.map WData.int)]/\h.get? a=some { cls:=.type "list",data:=.seq vs.toArray }/\IntsAre vs ns/\ns.length<=n:=by
 have An:WShape.hasAll [] args [.list .int]=true:=(pre_splitW CV).1;have hc:l.pre.holds [] { args:=args }=true:=(pre_splitW CV).2;obtain⟨d,r,rfl,h1,h2⟩:=hasAllW_cons An;obtain rfl:=hasAllW_nil h2;obtain⟨xs,rfl,h3⟩:=hasW_list h1;obtain⟨ns,rfl⟩:=items_int h3;have hlen:ns.length<=n:=by
  unfold OpenLaw.pre at hc;have h4:(WTm.not (.lt (.lit (.int (n:Int))) (.len (.arg 0)))).holds [] { args:=[.list (ns.map .int)] }=true:=by
   have h4:=(holds_andW hc).1;rw[hn]at h4;exact h4
  have h5:=condW_of h4 (w_not (w_lt w_lit (w_len_list (w_arg rfl))));rw[bq]at h5;refine E7 λq=>?_;have q':(n:Int)<((ns.length:Nat):Int):=by omega
  first
   | (rw[decide_eq_true q']at h5;exact absurd h5 (by decide))
   | (simp at h5;omega)
 cases Gk with
 | cons w1 w2 =>
  cases w2
  cases w1 with
  | list ho di0=>exact⟨_,_,ns,rfl,rfl,ho,bv8 ns _ di0,hlen⟩
theorem b20(l:OpenLaw)(args:List WData):l.row.toRowW.claim.post args (.bool true) args=true :=
 postW_of (r:=l.row.toRowW) (X:=(true==true))
  (show WShape.has [] (.bool true) .bool=true by first | rfl | decide | simp[WShape.has,WShape.arms,WShape.armsAll])
  (show(WTm.eq .res (.lit (.bool true))).value [] { args:=args,res:=some (.bool true),after:=args }=some (.bool (true==true)) from w_eq_bool (w_res rfl) w_lit) rfl
theorem di2{l:OpenLaw}{n:Nat}{q:Program}{loose:List Str}{XP:(Str->Option Value)->Heap->Prop}{YP:World->Heap->Prop}{d:DefRec}
  (hn:l.most=some n) (Ao:d.params.defaults=[])
  (call:∀(w:World) (cK br:Shared) (mg mb:Str->Option Value) (fa:Addr) (o:Obj) (pm cd doc:Value) (a:Addr) (vs:List Value) (ns:List Int),
   Ground q loose [] XP w cK mg mb br.heap->YP w br.heap ->
   br.heap.get? fa=some o->o.data=.func (docDef d.name d.params d.body d.scope pm cd doc)->br.heap.CodeRec cd d.name->mg d.name=some (.ref fa) ->
   br.heap.get? a=some { cls:=.type "list",data:=.seq vs.toArray }->IntsAre vs ns->ns.length<=n->br.gens=#[] ->
   codeAny (model l.prog w) callerA (.call (.ref fa) ⟨[.ref a],[]⟩) (λr s'=>r=.ok (.ret (.bool true))/\OldK br.heap s'.heap/\s'.os=br.os/\AllBare s'.gens) br) :
  WalkO q loose XP YP l.row.toRowW d [] (λf vs=>PySem.call f vs):=by
 intro w cK br mg mb G Y fa o pm cd doc dV kV ho hd bZ hD Ap hg args vals as CV es8 hrd Gk dw;obtain rfl:dV=.none:=Dflts.none hD Ao;obtain rfl:kV=.none:=Dflts.noKw hD;obtain⟨a,vs,ns,rfl,rfl,Gm,hints,hlen⟩:=b52 hn CV Gk;refine enter_call (codeAny_mono (call w cK br mg mb fa o pm cd doc a vs ns G Y ho (fd_plain hd) bZ Ap Gm hints hlen hg) λr s' hq=>?_);obtain⟨rfl,h2,h3,h4⟩:=hq;exact⟨.inl ⟨.bool true,.bool true,[],rfl,λ_=>rfl,.bool true,b20 l _,λ_=>⟨Li,λ_ hm=>(nomatch hm)⟩⟩,h2,h3,h4⟩
section
variable{prog:Program}{w:World}{A:Around}{E:Value->Shared->Prop}{s:Shared}{K:Frag}
end
end Att
namespace L2
open PySem PySem.Spec PyProof.Rows
theorem MY:∀{vs:List Value} {ns:List Int},IntsAre vs ns->Vals (ns.map V.int) vs
 | _,_,.nil=>.nil
 | _,_,.cons n t h=>.cons ⟨t,rfl⟩ (MY h)
end L2
/- THE et1 et2 (shape;LID,My.* are et4):
   My.cH: a structure of MZ addresses et5 et6 et7 names (classes,et8);My.Txt K t: a structure (Prop) of MZ equations over K;
   My.et9:{K} {implicit addresses ..} (e1:nsIn K mainGlobals "law"=some (some (.ref f))) (e2:K.lookup f=some ⟨oc,od,.func (fnOf "law" "law" params body scope dV kV doc pm an aC ct),sl⟩) (e3:codeIn K aC "law"=true) ..:∃t,My.Txt K t
(MZ tactic k_is has no namespace: write k_is) -/
namespace L2
open PySem PySem.Spec PyProof.Rows
def dq(s:Stmt)(j:Nat):Stmt:=match s with
 | .ClassDef _ _ _ body _ _ _ _ _ _ _=>body.getD j (.Pass ⟨0,0,0,0⟩)
 | _=>.Pass ⟨0,0,0,0⟩
def nO(s:Stmt):Arguments:=match s with
 | .FunctionDef _ a _ _ _ _ _ _ _ _=>a
 | _=>{ posonlyargs:=[],args:=[],vararg:=none,kwonlyargs:=[],kw_defaults:=[],kwarg:=none,defaults:=[] }
def gL(s:Stmt):List Stmt:=match s with
 | .FunctionDef _ _ b _ _ _ _ _ _ _=>b
 | _=>[]
def aG(s:Stmt):Scope:=match s with
 | .FunctionDef _ _ _ _ _ _ sc _ _ _=>sc
 | _=>{ kind:=.function,names:=[],isGenerator:=false,isCoroutine:=false }
abbrev aN:eW:=λ_ _ _ _ _ _=>False
abbrev E0:XK:=λ_ _ _=>False
theorem iH{X:Cx}:my aN X E0:=λ_ _ _ _ _ _ _ h=>h.elim
structure iJ(K:PySem.W.Frag)(x qual:Str)(st:Stmt)(f:Addr)(fd:FuncData):Prop where
 ex:∃(oc:Value) (od:Option Addr) (kV doc pm:Value) (an:Option Addr) (aC ct:Value) (gJ:Array (Option Value)),
  fd=PySem.W.fnOf x qual (nO st) (gL st) (aG st) .none kV doc pm an aC ct/\K.lookup f=some ⟨oc,od,.func fd,gJ⟩/\PySem.W.codeIn K aC qual=true
 kp:PySem.W.keepIn K (.ref f)=true
section
variable{P:Program}{w:World}{K:PySem.W.Frag}{mg:Str->Option Value}{base:Heap}
theorem iJ.ok{x qual:Str}{st:Stmt}{f:Addr}{fd:FuncData}{N ps:List Str}{k:Nat}{sp:Sp}(F:iJ K x qual st f fd)(S:aS N ps (aG st))(len:∀vs H Q E,sp vs H Q E->vs.length=ps.length)
  (fi:∀(aC:Value) (A:Around) (outer:List Env) (s:Shared) (H:Hp) (vs:List V) (Q:VK) (E:XK),bJ k (A.deeper (envOfC qual (aG st) s.heap.objs.size f aC))->sp vs H Q E ->
   ∃t,PSs (hV aN P w K mg base N qual (aG st) f aC A outer s H E).fZ (gL st) t/\t { nx:=λ_ H'=>Q .aA H',rt:=Q } (start N vs) H):aF P w K mg base aN (k+1) f fd ps sp:=by
 obtain⟨oc,od,kV,doc,pm,an,aC,ct,gJ,rfl,lk,bZ⟩:=F.ex;refine CS lk bZ S len λA outer s H vs Q E hr eA=>?_;obtain⟨t,h,q⟩:=fi aC A outer s H vs Q E hr eA;exact⟨t,h.fZ,q⟩
theorem iJ.binds{x qual:Str}{st:Stmt}{f:Addr}{fd:FuncData}{ps:List Str}(F:iJ K x qual st f fd)
  (h:∀(kV doc pm:Value) (an:Option Addr) (aC ct:Value) (us:List Value),us.length=ps.length->bindArgs (PySem.W.fnOf x qual (nO st) (gL st) (aG st) .none kV doc pm an aC ct) ⟨us,[]⟩=pure (ps.zip us)):Binds K fd ps []:=by
 obtain⟨oc,od,kV,doc,pm,an,aC,ct,gJ,rfl,lk,bZ⟩:=F.ex;exact .all (h kV doc pm an aC ct)
theorem Gp{x qual:Str}{st:Stmt}{f:Addr}{oc:Value}{od an:Option Addr}{gJ:Array (Option Value)}{kV doc pm aC ct:Value}(l:K.lookup f=some ⟨oc,od,.func (PySem.W.fnOf x qual (nO st) (gL st) (aG st) .none kV doc pm an aC ct),gJ⟩)
  (c:PySem.W.codeIn K aC qual=true) (k:PySem.W.keepIn K (.ref f)=true):iJ K x qual st f (PySem.W.fnOf x qual (nO st) (gL st) (aG st) .none kV doc pm an aC ct):=⟨⟨oc,od,kV,doc,pm,an,aC,ct,gJ,rfl,l,c⟩,k⟩
end
section
variable{X:Cx}
theorem pv(i:Nat){x:Str}{pos:Pos}(hN:X.N[i]?=some x:=by rfl)(hv:km X.env.scope x:=by first | exact ao rfl | exact bg (ao rfl) | exact bg (bg rfl))(hd:(x==("__debug__":Str))=false:=by decide)
  (bZ:(x==("__classdict__":Str))=false:=by decide):PE X (.Name x pos) (L7 i):=nJ hN hv hd bZ
end
theorem pk{A B:Prop}(h:B):if false=true then A else B:=by
 rw[if_neg ji];exact h
theorem rh{A B:Prop}(h:A):if true=true then A else B:=by
 rw[if_pos rfl];exact h
end L2
namespace Mf
def bl(n:Nat):Nat:=if n=0 then 0 else n.log2+1
theorem fA{n m:Nat}:bl n<=m↔n<2 ^ m:=by
 unfold bl;by_cases h:n=0
 ·simp[h,zB]
 ·rw[if_neg h];rw[<-Nat.log2_lt h];omega
theorem Gq{n m:Nat}:m<bl n↔2 ^ m<=n:=by
 have:=@fA n m;omega
theorem jT(n:Nat):n<2 ^ bl n:=fA.mp (bR _)
theorem M4{n:Nat}(h:n≠0):2 ^ (bl n-1)<=n:=by
 have:0<bl n:=by unfold bl;rw[if_neg h];omega
 exact Gq.mp (by omega)
theorem iX{n:Nat}(h:n≠0):0<bl n:=by
 unfold bl;rw[if_neg h];omega
theorem pq:bl 0=0:=rfl
theorem xH{n:Nat}(h:n≠0):n.testBit (bl n-1)=true:=by
 have h1:=M4 h;have h2:=jT n;have hp:=iX h;have e:bl n=(bl n-1)+1:=by omega
 rw[e,qQ]at h2;rw[Zr];have:n/2 ^ (bl n-1)=1:=by
  apply Nat.div_eq_of_lt_le
  ·omega
  ·omega
 rw[this];rfl
theorem bZ5{x n:Nat}(h:∀i,n<=i->x.testBit i=false):x<2 ^ n:=by
 apply Nat.lt_pow_two_of_testBit;intro i hi;exact h i hi
theorem M5{x y n:Nat}(hx:x<2 ^ (n+1))(hy:y<2 ^ (n+1))(tx:x.testBit n=true)(ty:y.testBit n=true):x ^^^ y<2 ^ n:=by
 apply bZ5;intro i hi;rw[oR];by_cases e:i=n
 ·rw[e,tx,ty];rfl
 ·have ie:n+1<=i:=by omega
  have p:2 ^ (n+1)<=2 ^ i:=zC (by decide) ie;rw[E8 (cY hx p),E8 (cY hy p)];rfl
theorem M6(x y z:Nat):(x ^^^ y) ^^^ (z ^^^ y)=x ^^^ z:=by
 apply Ci;intro i;simp only[oR];cases x.testBit i<;>cases y.testBit i<;>cases z.testBit i<;>rfl
theorem M7(x y z t:Nat):(x ^^^ y) ^^^ (z ^^^ t)=(x ^^^ z) ^^^ (y ^^^ t):=by
 apply Ci;intro i;simp only[oR];cases x.testBit i<;>cases y.testBit i<;>cases z.testBit i<;>cases t.testBit i<;>rfl
def P(a b:Nat):Nat->Nat
 | 0=>0
 | k+1=>P a b k ^^^ (if b.testBit k then a <<< k else 0)
def cl(a b:Nat):Nat:=P a b (bl b)
theorem M8{a b k:Nat}(h:b<2 ^ k):∀j,P a b (k+j)=P a b k
 | 0=>rfl
 | j+1=>by
  show P a b (k+j) ^^^ (if b.testBit (k+j)then a <<< (k+j)else 0)=_;rw[M8 h j];have p:2 ^ k<=2 ^ (k+j):=zC (by decide) (by omega);rw[E8 (cY h p)];simp
theorem xI{a b k:Nat}(h:b<2 ^ k):P a b k=cl a b:=by
 have h1:=fA.mpr h;have e:k=bl b+(k-bl b):=by omega
 rw[e,M8 (jT b)];rfl
theorem M9(a a' b:Nat):∀k,P (a ^^^ a') b k=P a b k ^^^ P a' b k
 | 0=>(nF 0).symm
 | k+1=>by
  show P (a ^^^ a') b k ^^^ _=(P a b k ^^^ _) ^^^ (P a' b k ^^^ _);rw[M9 a a' b k];by_cases t:b.testBit k=true
  ·rw[if_pos t,if_pos t,if_pos t,Zs]
   ac_rfl
  ·rw[if_neg t,if_neg t,if_neg t];simp
theorem Na(a b b':Nat):∀k,P a (b ^^^ b') k=P a b k ^^^ P a b' k
 | 0=>(nF 0).symm
 | k+1=>by
  show P a (b ^^^ b') k ^^^ _=(P a b k ^^^ _) ^^^ (P a b' k ^^^ _);rw[Na a b b' k,oR];cases b.testBit k<;>cases b'.testBit k<;>simp
  ·ac_rfl
  ·ac_rfl
  ·exact(M6 _ _ _).symm
theorem rj(a a' b:Nat):cl (a ^^^ a') b=cl a b ^^^ cl a' b:=M9 a a' b _
theorem xJ{x y n:Nat}(hx:x<2 ^ n)(hy:y<2 ^ n):x ^^^ y<2 ^ n:=Nat.xor_lt_two_pow hx hy
theorem bH4(a b b':Nat):cl a (b ^^^ b')=cl a b ^^^ cl a b':=by
 let k:=bl b+bl b'
 have h1:b<2 ^ k:=fA.mp (by omega);have h2:b'<2 ^ k:=fA.mp (by omega);rw[<-xI (xJ h1 h2),<- xI h1,<- xI h2,Na]
theorem cx7(a:Nat):cl a 0=0:=rfl
theorem Nb(b:Nat):∀k,P 0 b k=0
 | 0=>rfl
 | k+1=>by
  show P 0 b k ^^^ _=0;rw[Nb b k];simp
theorem rk(b:Nat):cl 0 b=0:=Nb b _
theorem bK4(b k:Nat):(b/2).testBit k=b.testBit (k+1):=by
 rw[E9]
theorem Nc(a b:Nat):∀k,P a b (k+1)=(if b%2=1 then a else 0) ^^^ P (2*a) (b/2) k
 | 0=>by
  show 0 ^^^ _=_ ^^^ 0;rw[qR,nF,Cj];simp
 | k+1=>by
  show P a b (k+1) ^^^ _=_ ^^^ (P (2*a) (b/2) k ^^^ _);rw[Nc a b k,bK4,tO];have e:a <<< (k+1)=(2*a) <<< k:=by
   rw[mf,mf,qQ];rw[oQ 2 a,xb,oQ 2]
  rw[e]
theorem Nd{b k:Nat}(h:b<2 ^ (k+1)):b/2<2 ^ k:=by
 rw[qQ]at h;omega
theorem Nf(a b:Nat):cl a b=(if b%2=1 then a else 0) ^^^ cl (2*a) (b/2):=by
 have h:b<2 ^ (bl b+1):=Nat.lt_trans (jT b) (by rw[qQ];have:=zB (bl b);omega);rw[<-xI h,Nc,xI (Nd h)]
theorem Ng(a b:Nat):∀k,P (2*a) b k=2*P a b k
 | 0=>rfl
 | k+1=>by
  show P (2*a) b k ^^^ _=2*(P a b k ^^^ _);rw[Ng a b k];have d:∀x y:Nat,2*(x ^^^ y)=2*x ^^^ 2*y:=by
   intro x y;have h:=@Zs 1 x y;rw[mf,mf,mf,Nat.pow_one]at h;rw[oQ 2 (x ^^^ y),oQ 2 x,oQ 2 y];exact h
  rw[d];by_cases t:b.testBit k=true
  ·rw[if_pos t,if_pos t,mf,mf,xb]
  ·rw[if_neg t,if_neg t]
theorem Gr(a b:Nat):cl (2*a) b=2*cl a b:=Ng a b _
theorem Aq(a c t:Nat)(ht:t<2):cl a (2*c+t)=2*cl a c ^^^ (if t=1 then a else 0):=by
 rw[Nf,Gr,Lj];have e1:(2*c+t)/2=c:=by omega
 have e2:(2*c+t)%2=t:=by omega
 rw[e1,e2]
theorem cO2(a c:Nat):cl a (2*c)=2*cl a c:=by
 have h:=Aq a c 0 (by decide);simpa using h
theorem Nh(c t:Nat)(ht:t<2):2*c ^^^ t=2*c+t:=by
 apply Ci;intro i
 cases i with
 | zero =>
  rw[oR,Cj,Cj,Cj];have:t=0\/t=1:=by omega
  rcases this with h | h<;>subst h<;>simp<;>omega
 | succ i =>
  rw[oR,E9,E9,E9];have e1:2*c/2=c:=by omega
  have e2:t/2=0:=by omega
  have e3:(2*c+t)/2=c:=by omega
  rw[e1,e2,e3];simp
theorem Gu:∀b:Nat,cl 1 b=b:=by
 intro b
 induction b using Fc with
 | ind b ih =>
  by_cases h:b=0
  ·subst h;rfl
  ·have e:b=2*(b/2)+b%2:=by omega
   rw[e,Aq 1 (b/2) (b%2) (by omega),ih (b/2) (by omega)];have:b%2=0\/b%2=1:=by omega
   rcases this with h | h
   ·rw[h];simp
   ·rw[h];rw[if_pos rfl];exact Nh _ _ (by decide)
theorem Ar:∀b a:Nat,cl a b=cl b a:=by
 intro b
 induction b using Fc with
 | ind b ih =>
  intro a;by_cases h:b=0
  ·subst h;rw[rk];rfl
  ·have e:b=2*(b/2)+b%2:=by omega
   have lt:b%2<2:=by omega
   have e':cl b a=cl (2*(b/2) ^^^ b%2) a:=by rw[Nh _ _ lt,<- e]
   rw[e',rj,Gr,<- ih (b/2) (by omega) a];have e'':cl a b=cl a (2*(b/2)+b%2):=by rw[<-e]
   rw[e'',Aq _ _ _ lt];have:b%2=0\/b%2=1:=by omega
   rcases this with h | h
   ·rw[h,rk];rfl
   ·rw[h,Gu];rfl
theorem Gv{a m:Nat}(h:a<2 ^ m)(b:Nat):∀k,P a b (k+1)<2 ^ (m+k)
 | 0=>by
  show 0 ^^^ _<_;rw[qR,Nat.add_zero];by_cases t:b.testBit 0=true
  ·rw[if_pos t];simpa using h
  ·rw[if_neg t];exact zB m
 | k+1=>by
  show P a b (k+1) ^^^ _<_;have i:=Gv h b k;have p:2 ^ (m+k)<=2 ^ (m+(k+1)):=zC (by decide) (by omega);apply xJ (cY i p);by_cases t:b.testBit (k+1)=true
  ·rw[if_pos t,mf,Nat.pow_add 2 m];exact(Zt (zB _)).mpr h
  ·rw[if_neg t];exact zB _
theorem cY0{a b m n:Nat}(h:a<2 ^ m)(h':b<2 ^ (n+1)):cl a b<2 ^ (m+n):=by
 rw[<-xI h'];exact Gv h b n
theorem cY4{a b:Nat}(ha:a≠0)(hb:b≠0):2 ^ (bl a-1+(bl b-1))<=cl a b:=by
 have e:bl b=(bl b-1)+1:=by have:=iX hb;omega
 have ta:=xH ha;have tb:=xH hb;apply Nat.ge_two_pow_of_testBit;unfold cl;rw[e];show(P a b (bl b-1) ^^^ _).testBit _=true;have e2:bl b-1+1-1=bl b-1:=by omega
 rw[e2,oR,if_pos tb];have f:(P a b (bl b-1)).testBit (bl a-1+(bl b-1))=false:=by
  cases q:bl b-1 with
  | zero=>show Nat.testBit 0 _=false;exact Nat.zero_testBit _
  | succ k =>
   apply E8;have l:=Gv (jT a) b k;have p:=iX ha;have e3:bl a-1+(k+1)=bl a+k:=by omega
   rw[e3];exact l
 rw[f,Zu];have e4:bl a-1+(bl b-1)-(bl b-1)=bl a-1:=by omega
 rw[e4,ta];simp
theorem Ni{a b:Nat}(ha:a≠0)(hb:b≠0):bl (cl a b)=bl a+bl b-1:=by
 have p1:=iX ha;have p2:=iX hb;have h1:bl (cl a b)<=bl a+(bl b-1):=fA.mpr (cY0 (jT a) (by
  have e:bl b-1+1=bl b:=by omega
  rw[e];exact jT b))
 have h2:=Gq.mpr (cY4 ha hb);omega
theorem Nj(s b:Nat):cl (2 ^ s) b=b <<< s:=by
 induction s with
 | zero=>rw[Nat.pow_zero,Gu];rfl
 | succ s ih =>
  rw[qQ,oQ,Gr,ih,mf,mf,qQ];rw[<-xb,oQ 2,xb,oQ 2,<- xb,xb]
theorem ci5{a q b r s:Nat}(h:a=cl q b ^^^ r):a=cl (q ^^^ 2 ^ s) b ^^^ (r ^^^ b <<< s):=by
 rw[rj,Nj,h,M6]
theorem Nk{b r:Nat}(hb:b≠0)(h:bl b<=bl r):bl (r ^^^ b <<< (bl r-bl b))<bl r:=by
 have p:=iX hb;have hr:r≠0:=by
  intro z;rw[z,pq]at h;omega
 have:r ^^^ b <<< (bl r-bl b)<2 ^ (bl r-1):=by
  apply M5
  ·have e:bl r-1+1=bl r:=by omega
   rw[e];exact jT r
  ·have e:bl r-1+1=bl b+(bl r-bl b):=by omega
   rw[e,mf,Nat.pow_add];exact(Zt (zB _)).mpr (jT b)
  ·exact xH hr
  ·rw[Zu];have e:bl r-1-(bl r-bl b)=bl b-1:=by omega
   rw[e,xH hb];simp;omega
 have:=fA.mpr this;omega
theorem b00{x y z:Nat}(h:x ^^^ y=z):x=z ^^^ y:=by
 rw[<-h,tO,Ck,nF]
theorem Gw{x y:Nat}(h:x ^^^ y=0):x=y:=by
 have:=b00 h
 rwa [qR]at this
theorem bZ4{b q r q' r':Nat}(h:cl q b ^^^ r=cl q' b ^^^ r')(hr:bl r<bl b)(bo:bl r'<bl b):q=q'/\r=r':=by
 have hb:b≠0:=by intro z;rw[z,pq]at hr;omega
 have e:cl (q ^^^ q') b=r ^^^ r':=by
  rw[rj];have z:(cl q b ^^^ r) ^^^ (cl q' b ^^^ r')=0:=by rw[h,Ck]
  rw[M7]at z;exact Gw z
 have lt:bl (r ^^^ r')<bl b:=by
  have h1:r<2 ^ (bl b-1):=fA.mp (by omega);have h2:r'<2 ^ (bl b-1):=fA.mp (by omega);have:=fA.mpr (xJ h1 h2);have:=iX hb;omega
 have z:q ^^^ q'=0:=by
  apply zD;intro hq;have h1:=Ni hq hb;have h2:=iX hq;rw[e]at h1;omega
 have zq:=Gw z;subst zq;rw[z,rk]at e;exact⟨rfl,Gw e.symm⟩
end Mf
namespace Mf
open PySem PySem.Builtin.Int
theorem cC7(x y:Nat):(x ^^^ y)+2*(x &&& y)=x+y:=by
 induction x using Fc generalizing y with
 | ind x ih =>
  by_cases h:x=0
  ·subst h;simp
  ·have h1:=ih (x/2) (by omega) (y/2);have e1:(x ^^^ y)/2=x/2 ^^^ y/2:=Nat.xor_div_two;have e2:(x &&& y)/2=x/2 &&& y/2:=Nat.and_div_two;have t:∀n:Nat,n%2=if n.testBit 0=true then 1 else 0:=by
    intro n;rw[Cj];by_cases h:n%2=1
    ·simp[h]
    ·simp[h];omega
   have m1:(x ^^^ y)%2=(x%2+y%2)%2:=by
    rw[t (x ^^^ y),t x,t y,oR];cases x.testBit 0<;>cases y.testBit 0<;>rfl
   have m2:(x &&& y)%2=x%2*(y%2):=by
    rw[t (x &&& y),t x,t y,Lk];cases x.testBit 0<;>cases y.testBit 0<;>rfl
   have d1:=Nat.div_add_mod (x ^^^ y) 2;have d2:=Nat.div_add_mod (x &&& y) 2;rw[e1]at d1;rw[e2]at d2;have hx:x%2=0\/x%2=1:=by omega
   have hy:y%2=0\/y%2=1:=by omega
   rcases hx with hx | hx<;>rcases hy with hy | hy<;>rw[hx,hy]at m1 m2<;>omega
theorem Nl{x y:Int}(hx:0<=x)(hy:0<=y):qM x y=((x.toNat &&& y.toNat:Nat):Int):=by
 unfold qM;rw[decide_eq_true hx,decide_eq_true hy]
theorem cg2{x y:Int}(hx:0<=x)(hy:0<=y):Builtin.bitOr x y=((x.toNat ||| y.toNat:Nat):Int):=by
 unfold Builtin.bitOr qM Builtin.bitNot;rw[decide_eq_false (by omega),decide_eq_false (by omega)];show-(-((((- (-x-1)-1).toNat ||| (-(-y-1)-1).toNat:Nat):Int))-1)-1=_;have e1:(- (-x-1)-1).toNat=x.toNat:=by omega
 have e2:(- (-y-1)-1).toNat=y.toNat:=by omega
 rw[e1,e2];omega
theorem cI8(x y:Nat):(x ||| y)=(x ^^^ y)+(x &&& y):=by
 have d:(x ^^^ y) &&& (x &&& y)=0:=by
  apply Ci;intro i;simp only[oR,Lk,Nat.zero_testBit];cases x.testBit i<;>cases y.testBit i<;>rfl
 have e:(x ||| y)=(x ^^^ y) ^^^ (x &&& y):=by
  apply Ci;intro i;simp only[oR,Lk,Nat.testBit_or];cases x.testBit i<;>cases y.testBit i<;>rfl
 have h:=cC7 (x ^^^ y) (x &&& y);rw[d]at h;rw[e];omega
theorem cd3{x y:Int}(hx:0<=x)(hy:0<=y):qN x y=((x.toNat ^^^ y.toNat:Nat):Int):=by
 unfold qN;rw[cg2 hx hy,Nl hx hy,cI8];omega
theorem pz(x y:Nat):qN (x:Int) (y:Int)=((x ^^^ y:Nat):Int):=by
 rw[cd3 (by omega) (by omega)];rfl
theorem Nm(x y:Nat):qM (x:Int) (y:Int)=((x &&& y:Nat):Int):=by
 rw[Nl (by omega) (by omega)];rfl
theorem xK(x k:Nat):(x:Int)*2 ^ ((k:Int)).toNat=((x <<< k:Nat):Int):=by
 rw[mf];simp
theorem cw3(x k:Nat):(x:Int)/2 ^ ((k:Int)).toNat=((x >>> k:Nat):Int):=by
 rw[Zv];simp
theorem cF9(x k:Nat):((x >>> k) &&& 1=1)↔x.testBit k=true:=by
 rw[Zr,Zv];have:(x/2 ^ k) &&& 1=(x/2 ^ k)%2:=Nat.and_two_pow_sub_one_eq_mod _ 1;rw[this];simp
end Mf
namespace Mf
theorem Nn(a b:Nat):∀c,cl (cl a b) c=cl a (cl b c):=by
 intro c
 induction c using Fc with
 | ind c ih =>
  by_cases h:c=0
  ·subst h;rfl
  ·have e:c=2*(c/2)+c%2:=by omega
   have lt:c%2<2:=by omega
   have i:=ih (c/2) (by omega);rw[e,Aq _ _ _ lt,Aq _ _ _ lt,i,bH4,cO2];have:c%2=0\/c%2=1:=by omega
   rcases this with h | h
   ·rw[h];rfl
   ·rw[h];rfl
def xM:Nat->Nat->Nat->Nat
 | 0,a,_=>a
 | n+1,a,b=>if bl a<bl b then a else xM n (a ^^^ b <<< (bl a-bl b)) b
def md(a b:Nat):Nat:=xM (bl a+1) a b
theorem Np{b:Nat}(hb:b≠0):∀n a,bl a<n->(∃q,a=cl q b ^^^ xM n a b)/\bl (xM n a b)<bl b
 | 0,_,h=>absurd h (by omega)
 | n+1,a,h=>by
  unfold xM;by_cases l:bl a<bl b
  ·rw[if_pos l];exact⟨⟨0,by rw[rk,qR]⟩,l⟩
  ·rw[if_neg l];have less:=Nk hb (show bl b<=bl a by omega);obtain⟨⟨q,e⟩,l2⟩:=Np hb n (a ^^^ b <<< (bl a-bl b)) (by omega);refine⟨⟨q ^^^ 2 ^ (bl a-bl b),?_⟩,l2⟩;rw[rj,Nj];have e2:a=(a ^^^ b <<< (bl a-bl b)) ^^^ b <<< (bl a-bl b):=by rw[tO,Ck,nF]
   rw[e]at e2;refine e2.trans ?_;generalize xM n _ b=r;rw[tO,Lj r,<- tO]
theorem As{b:Nat}(hb:b≠0)(a:Nat):(∃q,a=cl q b ^^^ md a b)/\bl (md a b)<bl b:=Np hb _ a (by omega)
theorem Au{a b q r:Nat}(h:a=cl q b ^^^ r)(hr:bl r<bl b):md a b=r:=by
 have hb:b≠0:=by intro z;rw[z,pq]at hr;omega
 obtain⟨⟨q',e⟩,l⟩:=As hb a;exact(bZ4 (e.symm.trans h) l hr).2
theorem cV7(q:Nat){b:Nat}(hb:b≠0):md (cl q b) b=0 :=
 Au (q:=q) (by rw[nF]) (by rw[pq];exact iX hb)
theorem cu9(y:Nat):bl (y/2)=bl y-1:=by
 by_cases h:y=0
 ·subst h;rfl
 ·have p:=iX h;have h1:bl (y/2)<=bl y-1:=fA.mpr (Nd (by
   have e:bl y-1+1=bl y:=by omega
   rw[e];exact jT y))
  have h2:bl y<=bl (y/2)+1:=fA.mpr (by
   have:=jT (y/2);rw[qQ];omega)
  omega
theorem cO0(x:Nat):bl (2*x)<=bl x+1:=fA.mpr (by
 have:=jT x;rw[qQ];omega)
theorem Gx{x y:Nat}(h:x<=y):bl x<=bl y:=fA.mpr (zE h (jT y))
def al(a:Nat):Bool:=decide (2<=a)&&(aI (2 ^ ((bl a-1)/2+1)-2)).all λi=>md a (2+i) != 0
theorem cj8{a:Nat}(h:a<2):al a=false:=by
 unfold al;rw[decide_eq_false (by omega)];rfl
theorem cD1{a:Nat}(h:2<=a)(k:∀i,i<2 ^ ((bl a-1)/2+1)-2->md a (2+i)≠0):al a=true:=by
 unfold al;rw[decide_eq_true h,qS,cU];intro i hi;have:=k i (cJ.mp hi);simpa using this
theorem ci9{a i:Nat}(k:i<2 ^ ((bl a-1)/2+1)-2)(z:md a (2+i)=0):al a=false:=by
 unfold al;rw[Bool.and_eq_false_iff];right;rw[List.all_eq_false];exact⟨i,cJ.mpr k,by simp[z]⟩
theorem ce2{a:Nat}(h:2<=a){b:Nat}(hb:b<2 ^ ((bl a-1)/2+1)):b<a/\2*bl b<=bl a+1:=by
 have h2:2<=bl a:=by
  have:=Gq.mpr (show 2 ^ 1<=a by omega);omega
 have l:=fA.mpr hb;refine⟨cY hb (ff (zC (by decide) ?_) (M4 (by omega))),by omega⟩;omega
end Mf
namespace L2
open PySem PySem.Spec PyProof.Rows Mf
theorem de:bootBuiltins "len"=some (.builtin "len"):=by decide +kernel
theorem Gz:bootBuiltins "isinstance"=some (.builtin "isinstance"):=by decide +kernel
theorem ug:bootBuiltins "min"=some (.builtin "min"):=by decide +kernel
theorem uh:bootBuiltins "all"=some (.builtin "all"):=by decide +kernel
theorem Nq:bootBuiltins "any"=some (.builtin "any"):=by decide +kernel
theorem cI0:bootBuiltins "abs"=some (.builtin "abs"):=by decide +kernel
theorem cR1:bootBuiltins "sum"=some (.builtin "sum"):=by decide +kernel
theorem GA:bootBuiltins "int"=some (.type "int"):=by decide +kernel
theorem Nr:bootBuiltins "bool"=some (.type "bool"):=by decide +kernel
theorem ui:bootBuiltins "list"=some (.type "list"):=by decide +kernel
theorem bE3:bootBuiltins "ValueError"=some (.type "ValueError"):=by decide +kernel
section
variable{X:Cx}{a b o:Expr}{ta tb to:TE}{pos apos bK:Pos}
theorem Nt(i:Int):Builtin.Int.intBits i=bl i.natAbs:=by
 unfold Builtin.Int.intBits bl;by_cases h:i=0
 ·subst h;rfl
 ·have h':¬ i.natAbs=0:=by omega
  rw[if_neg h',if_neg (by simpa using h)]
def Nu:V->List V->Hp->VK->Prop:=λx vs H Q=>∃i,x=.int i/\vs=[]/\Q (.int (bl i.natAbs:Nat)) H
theorem b47:Ai X "int.bit_length" Nu:=by
 intro pins s σ H x xs v us Q I rx rs h;obtain⟨i,rfl,rfl,q⟩:=h;obtain⟨t,rfl⟩:=rx;cases rs;refine call_int_bit_length ?_;rw[Nt];exact⟨.int _,H,I.tok _,⟨_,rfl⟩,q⟩
theorem b82(ho:PE X o to)(mB:attributeBase o "bit_length" X.env (eval o X.env)=eval o X.env:=by rfl)(mC:(apos.endLine==bK.line)=true:=by rfl) :
  PE X (.Call (.Attribute o "bit_length" apos) [] [] bK) (MR X.K "int" Nu to) :=
 cI9 PySem.F.plainAttrs_int PySem.F.slot_int_bit_length PySem.F.type_int_bit_length b47 ho mB mC
def Nv(i j:Int):Prop:=0<=j/\((bl i.natAbs:Nat):Int)+j<=134217728
theorem cG7:cL X (binaryOp .LShift) (rI Nv λi j=>.int (i*2 ^ j.toNat)):=xy λi j _ _ _ _ _ hc q =>
 lshift_int hc.1 (by rw[Nt];exact Int.le_trans hc.2 (by decide)) q
theorem Nw{x:Str}{n:String}(hg:Gl X x)(hm:X.mg x=none)(hv:bootBuiltins x=some (.type n))(hn:x≠"__name__":=by decide)(hd:(x==("__debug__":Str))=false:=by decide):PE X (.Name x pos) (tC (.ty n)) :=
 θ hg hm hv rfl hn hd
def c46(K:PySem.W.Frag):List V->Hp->VK->Prop:=λxs H Q=>∃x n t b,xs=[x,.ty n]/\iW K H x t/\PySem.W.kitOne K t (.type n)=some b/\Q (.bl b) H
theorem bu8:gw X (.builtin "isinstance") (c46 X.K):=by
 intro pins s σ H xs us Q I r h;obtain⟨x,n,t,b,rfl,ty,e,q⟩:=h;obtain⟨u,v,rfl,ru,rv⟩:=r.two;cases(show v=Value.type n from rv);exact Mv I ru ty e λtk=>⟨.bl b,H,I.tok _,rfl,q⟩
end
theorem cG0(b i:Nat):decide (V.int (qM ((b:Int)/2 ^ ((0:Int)+(i:Int)).toNat) 1)=V.int 1)=b.testBit i:=by
 have e:((0:Int)+(i:Int)).toNat=((i:Int)).toNat:=by omega
 rw[e,cw3,show(1:Int)=((1:Nat):Int) from rfl,Nm,qT,decide_eq_true_iff,<- cF9];constructor
 ·intro h;injection h with h;omega
 ·intro h;rw[h]
theorem ci8{a b i:Nat}(h:b.testBit i=true):qN ((P a b i:Nat):Int) ((a:Int)*2 ^ ((0:Int)+(i:Int)).toNat)=((P a b (i+1):Nat):Int):=by
 have e:((0:Int)+(i:Int)).toNat=((i:Int)).toNat:=by omega
 rw[e,xK,pz];show _=((P a b i ^^^ (if b.testBit i then a <<< i else 0):Nat):Int);rw[if_pos h]
theorem bX9{a b i:Nat}(h:¬ b.testBit i=true):P a b (i+1)=P a b i:=by
 show P a b i ^^^ (if b.testBit i then a <<< i else 0)=_;rw[if_neg h,nF]
theorem dI{i j:Int}:decide (V.int i=V.int j)=true↔i=j:=by
 rw[decide_eq_true_iff];exact⟨λh=>by injection h,λh=>by rw[h]⟩
end L2
namespace L2
open PySem PySem.Spec PyProof.Rows
section
variable{X:Cx}
end
def CW(X:Cx)(scope:Scope)(N:List Str)(cl:List (Str × Addr))(C:Addr)(s:Shared)(H:Hp)(fp:List Addr):Cx where
 prog:=X.prog
 w:=X.w
 K:=X.K
 mg:=X.mg
 base:=X.base
 A:=X.A
 N:=N
 cK:=s
 ly:=H
 env:=compEnvC scope cl C X.env
 outer:=X.stack
 stack:=X.stack
 ex:=fp
 fn:=λ_=>false
 calm:=X.calm
 pn:=[]
 xe:=λ_ _=>False
def mD(X:Cx)(scope:Scope)(cl:List (Str × Addr)):List (Str × Nat)->Prop
 | []=>True
 | (y,i)::r=>(X.N[i]?=some y/\(X.env.scope.names.lookup y=some .cell\/X.env.scope.names.lookup y=some .free)/\((relabel scope X.env).names.lookup y=some .cell\/(relabel scope X.env).names.lookup y=some .free)/\∃c,cl.lookup y=some c/\X.env.cells.lookup y=some c)/\mD X scope cl r
theorem mD.at{X:Cx}{scope:Scope}{cl:List (Str × Addr)}:∀{aE:List (Str × Nat)},mD X scope cl aE->∀p∈aE,X.N[p.2]?=some p.1/\(X.env.scope.names.lookup p.1=some .cell\/X.env.scope.names.lookup p.1=some .free)/\((relabel scope X.env).names.lookup p.1=some .cell\/(relabel scope X.env).names.lookup p.1=some .free)/\∃c,cl.lookup p.1=some c/\X.env.cells.lookup p.1=some c
 | [],_,p,hp=>absurd hp (by simp)
 | (y,i)::r,h,p,hp=>by
  rcases cO.mp hp with e | e
  ·subst e;exact h.1
  ·exact mD.at h.2 p e
def mE(Y:Cx)(ifs:List Expr)(t:TT):Prop :=
 ∀(pins:List (Addr × Obj)) (s:Shared) (σ:St) (H:Hp) (Q:Bool->Hp->Prop),Inv Y pins σ H s->t σ H Q ->
  wpAny (model Y.prog Y.w) Y.A (forIn ifs true λc r=>if r=true then do let ok<-isTrue c Y.env (eval c Y.env);pure (Fd ok)else pure (Fd r)) (TP Y pins σ Q) Y.xe s
def c37:TT:=λ_ H Q=>Q true H
theorem cG2{Y:Cx}:mE Y [] c37:=λ_ _ _ H _ I h=>wpAny_tests_nil ⟨H,I,h⟩
theorem cu7{Y:Cx}{c:Expr}{t:TT}(h:PT Y c t):mE Y [c] t:=λpins s σ H Q I q=>wpAny_tests_one (h pins s σ H Q I q)
section
variable{X:Cx}{elt iter:Expr}{x:Str}{px pos:Pos}{ifs:List Expr}{scope:Scope}{cl:List (Str × Addr)}{aE:List (Str × Nat)}{wi:TI}{tt:TT}{te:TE}
end
section
variable{prog:Program}{w:World}{A:Around}{R:Result->Shared->Prop}{s:Shared}
theorem bH5{elt target iter:Expr}{ifs:List Expr}{scope:Scope}{pos:Pos}{it acc:Value}{env:Env}(Iv:Nat->Shared->Prop)
  (turn:∀n s,Iv n s->wpAny (model prog w) A (pyNext it) (λr s1=>match r with
   | none=>R (.ok .next) s1
   | some v=>wpAny (model prog w) A (letOwnedTupleGo target it v) (λ_ t1=>wpAny (model prog w) A (assign target env v) (λ_ s2 =>
     wpAny (model prog w) A (forIn ifs true λc r=>if r=true then do let ok<-isTrue c env (eval c env);pure (Fd ok)else pure (Fd r)) (λok s3 =>
      if ok=true then wpAny (model prog w) A (eval elt env) (λy s4=>wpAny (model prog w) A (call (.builtin "list.append") [acc,y]) (λ_ s5=>∃m,m<n/\Iv m s5) (λ_ _=>False) s4) (λ_ _=>False) s3
      else ∃m,m<n/\Iv m s3) (λ_ _=>False) s2) (λ_ _=>False) t1) (λ_ _=>False) s1) (λ_ _=>False) s)
  (n:Nat) (h:Iv n s):codeAny (model prog w) A (.compLoop (.ListComp elt [⟨target,iter,ifs,0⟩] scope pos) 0 it acc env) R s:=by
 refine codeAny_loop rfl Iv (λn s hI=>?_) n h;change wpAny _ A (Sem.onRaise (compTurn (.ListComp elt [⟨target,iter,ifs,0⟩] scope pos) 0 it acc env) λx=>do noteFrame x env;theTreesLotGoes x) _ _ s;refine wpAny_noted (wpAny_mono (E:=λ_ _=>False) ?_ (λ_ _ q=>q) λ_ _ z=>z.elim);rw[compTurn_list];refine wpAny_bind (wpAny_standAt (wpAny_bind (aU (turn n s hI) λr s1 h1=>?_)))
 cases r with
 | none=>exact wpAny_pure h1
 | some v =>
  refine wpAny_bind (aU h1 λ_ t1 k1=>wpAny_bind (aU k1 λ_ s2 h2=>wpAny_bind (aU h2 λok s3 h3=>?_)))
  cases ok with
  | false=>exact wpAny_pure ⟨rfl,h3⟩
  | true=>exact wpAny_bind (wpAny_bind (aU h3 λy s4 h4=>wpAny_bind (aU h4 λ_ s5 h5=>wpAny_pure (wpAny_pure ⟨rfl,h5⟩))))
end
section
variable{X:Cx}{elt iter:Expr}{x:Str}{px pos:Pos}{ifs:List Expr}{scope:Scope}{cl:List (Str × Addr)}{aE:List (Str × Nat)}{wi:TI}{tt:TT}{te:TE}
end
section
variable{X:Cx}
theorem cL3:cL X (compareOp .Is) (λx y H Q=>∃a b,x=.bl a/\y=.bl b/\Q (.bl (a==b)) H):=by
 intro pins s σ H x y v u Q I rx ry h;obtain⟨a,b,rfl,rfl,q⟩:=h;cases rx;cases ry;exact is_bool ⟨.bl _,H,I,rfl,q⟩
theorem Nx{bs:List Bool}{us:List Value}(r:Vals (bs.map V.bl) us):bs.length=us.length/\∀(i:Nat) (v:Value),us[i]?=some v->∃b,bs[i]?=some b/\v=.bool b:=by
 have l:=r.length;rw[bq]at l;refine⟨l,λi v e=>?_⟩;have hi:i<us.length:=(jh.mp e).1;have hb:i<bs.length:=by omega
 obtain⟨u,e2,q⟩:=r.get (i:=i) (x:=V.bl bs[i]) (by rw[cy,aV hb];rfl);rw[e]at e2;cases e2;exact⟨bs[i],aV hb,q⟩
theorem GB{s:Shared}{h':Heap}{o:Obj}(hk:∀b x,b ∉ [s.heap.objs.size]->(s.heap.push o).get? b=some x->h'.get? b=some x)(b:Addr)(x:Obj)(e:s.heap.get? b=some x):h'.get? b=some x :=
 hk b x (λhm=>g7 _ (by have:=bM e;rw[eT.mp hm]at this;exact this)) (eC _ e)
theorem cm0(bs:List Bool):((aI bs.length).all λi=>(bs[i]?).getD true)=bs.all id:=by
 rw[qT,cU,cU];constructor
 ·intro h b hb;obtain⟨i,hi,rfl⟩:=ki hb;have:=h i (cJ.mpr hi)
  rwa [aV hi]at this
 ·intro h i hi;have ie:=cJ.mp hi;rw[aV ie];exact h _ (eU ie)
theorem ck8(bs:List Bool):((aI bs.length).any λi=>(bs[i]?).getD false)=bs.any id:=by
 rw[qT,Cm,Cm];constructor
 ·rintro⟨i,hi,h⟩;have ie:=cJ.mp hi;rw[aV ie]at h;exact⟨_,eU ie,h⟩
 ·rintro⟨b,hb,h⟩;obtain⟨i,hi,rfl⟩:=ki hb;exact⟨i,cJ.mpr hi,by rw[aV hi];exact h⟩
theorem cg4(hc:X.calm=true):gw X (.builtin "all") (λxs H Q=>∃(p:Addr) (bs:List Bool),xs=[.ref p]/\bN X.K H p (bs.map V.bl)/\Q (.bl (bs.all id)) H):=by
 intro pins s σ H xs us Q I r h;obtain⟨p,bs,rfl,hS,q⟩:=h;obtain⟨u,rfl,ru⟩:=r.one;cases ru;obtain⟨its,rv,pl,hz⟩:=I.list hS;obtain⟨hlen,GC⟩:=Nx rv;have hl:=pl.isList;have gy:p<s.heap.objs.size:=by obtain⟨_,e,_⟩:=hl;exact bM e
 refine call_all_walk (wpAny_pyIter_list hl ?_);refine⟨s.heap.objs.size,[s.heap.objs.size,p],[s.heap.objs.size],its.toArray.size,_,_,λi=>(bs[i]?).getD true,rfl,Walks.list (A:=X.A.in1) (I.ok.hd hc) _ p (eI gy) its.toArray,
  ⟨⟨_,g8 _ rfl,rfl,rfl⟩,hl.push _⟩,λi v s' Q' E' hP hQ=>?_,λh' tk hk=>?_⟩
 ·obtain⟨b,e,rfl⟩:=GC i v (by simpa using hP);simp only[e,tP]at hQ;exact wpAny_truthy_bool hQ
 ·have e:((aI its.toArray.size).all λi=>(bs[i]?).getD true)=bs.all id:=by
   rw[eJ,<- hlen];exact cm0 bs
  rw[e];exact⟨.bl _,H,I.kept (h':=h') (t':=tk) (GB hk),rfl,q⟩
theorem cj5(hc:X.calm=true):gw X (.builtin "any") (λxs H Q=>∃(p:Addr) (bs:List Bool),xs=[.ref p]/\bN X.K H p (bs.map V.bl)/\Q (.bl (bs.any id)) H):=by
 intro pins s σ H xs us Q I r h;obtain⟨p,bs,rfl,hS,q⟩:=h;obtain⟨u,rfl,ru⟩:=r.one;cases ru;obtain⟨its,rv,pl,hz⟩:=I.list hS;obtain⟨hlen,GC⟩:=Nx rv;have hl:=pl.isList;have gy:p<s.heap.objs.size:=by obtain⟨_,e,_⟩:=hl;exact bM e
 refine call_any_walk (wpAny_pyIter_list hl ?_);refine⟨s.heap.objs.size,[s.heap.objs.size,p],[s.heap.objs.size],its.toArray.size,_,_,λi=>(bs[i]?).getD false,rfl,Walks.list (A:=X.A.in1) (I.ok.hd hc) _ p (eI gy) its.toArray,
  ⟨⟨_,g8 _ rfl,rfl,rfl⟩,hl.push _⟩,λi v s' Q' E' hP hQ=>?_,λh' tk hk=>?_⟩
 ·obtain⟨b,e,rfl⟩:=GC i v (by simpa using hP);simp only[e,tP]at hQ;exact wpAny_truthy_bool hQ
 ·have e:((aI its.toArray.size).any λi=>(bs[i]?).getD false)=bs.any id:=by
   rw[eJ,<- hlen];exact ck8 bs
  rw[e];exact⟨.bl _,H,I.kept (h':=h') (t':=tk) (GB hk),rfl,q⟩
end
def mF(X:Cx):List (Str × Addr)->Prop
 | []=>True
 | (y,c)::r=>X.env.cells.lookup y=some c/\mF X r
theorem mF.all{X:Cx}:∀{cl:List (Str × Addr)},mF X cl->∀y c,cl.lookup y=some c->X.env.cells.lookup y=some c
 | [],_,y,c,h=>by simp at h
 | (z,d)::r,h,y,c,e=>by
  rw[iC]at e
  cases q:y==z with
  | true =>
   rw[q]at e;cases e;rw[eq_of_beq q];exact h.1
  | false =>
   rw[q]at e;exact mF.all h.2 y c e
def mG(cl:List (Str × Addr)):List (Str × NameKind)->Prop
 | []=>True
 | (y,k)::r=>(k=.local\/k=.globalImplicit\/∃c,cl.lookup y=some c)/\mG cl r
theorem mG.all{cl:List (Str × Addr)}:∀{ns:List (Str × NameKind)},mG cl ns->∀y,(ns.lookup y=some .cell\/ns.lookup y=some .free)->∃c,cl.lookup y=some c
 | [],_,y,h=>by simp at h
 | (z,k)::r,h,y,e=>by
  rw[iC]at e
  cases q:y==z with
  | true =>
   rw[q]at e;rw[eq_of_beq q];rcases h.1 with g | g | g
   ·rw[g]at e;rcases e with e | e<;>cases e
   ·rw[g]at e;rcases e with e | e<;>cases e
   ·exact g
  | false =>
   rw[q]at e;exact mG.all h.2 y e
section
variable{X:Cx}{elt iter:Expr}{x:Str}{px pos:Pos}{ifs:List Expr}{scope:Scope}{cl:List (Str × Addr)}{wi:TI}{tt:TT}{te:TE}
end
end L2
namespace L2
open PySem PySem.Spec PyProof.Rows Mf
end L2
namespace L2
end L2
namespace L2
open PySem PySem.Spec PyProof.Rows
def iY(aE:List (Str × Nat))(n:Nat)(σ:L2.St):St:=(aE.map λp=>(σ[p.2]?).getD none)++aM n none
def Ny(J:It)(aE:List (Str × Nat))(n:Nat)(g:TG)(tt:TT)(te:TE)(σ:L2.St)(H1:Hp)(Q:VK):Prop:=∀D,H1 D=none->∃W:Nat->Nat->List V->Hp->Prop,(∃m,W 0 m [] (upd H1 D (.lst []))) /\
 ∀i m acc H2,W i m acc H2->H2 D=some (.lst acc)/\((J.stop i H2/\Q (.ref D) H2)\/(J.go i H2/\∀x H3,J.kr i H2 x H3->H3 D=some (.lst acc)/\g x (iY aE n σ) H3 λiG H4 =>
  (iG.length=(iY aE n σ).length/\∀j,j<aE.length->iG[j]?=(iY aE n σ)[j]?)/\tt iG H4 λb H5=>H5 D=some (.lst acc) /\
  if b=true then te iG H5 λy H6=>H6 D=some (.lst acc)/\acc.length<sizeLine/\∃m',m'<m/\W (i+1) m' (acc++[y]) (upd H6 D (.lst (acc++[y])))else ∃m',m'<m/\W (i+1) m' acc H5))
def CY(wi:TI)(aE:List (Str × Nat))(n:Nat)(g:TG)(tt:TT)(te:TE):TE:=λσ H Q=>wi σ H λJ H1=>Ny J aE n g tt te σ H1 Q
section
variable{X:Cx}{elt iter tg:Expr}{pos:Pos}{ifs:List Expr}{scope:Scope}{cl:List (Str × Addr)}{wi:TI}{tt:TT}{te:TE}{g:TG}
end
section
variable{X:Cx}{tg:Expr}
end
def GD(h:Heap)(a T:Addr)(cls fl:Value)(dc:Option Addr):Prop :=
 ∃oe vs oT ts,h.get? a=some oe/\oe.cls=cls/\oe.dict=dc/\oe.data=.fields vs/\vs[1]?=some (.ref T)/\T≠a/\h.get? T=some oT/\oT.data=.fields ts/\ts[3]?=some fl
abbrev gM(h:Heap)(a T:Addr)(cls:Value)(dc:Option Addr):Prop:=GD h a T cls .none dc
def Av(h:Heap)(a:Addr)(cls:Value)(dc:Option Addr):Prop :=
 ∃oe vs,h.get? a=some oe/\oe.cls=cls/\oe.dict=dc/\oe.data=.fields vs/\vs[1]?=some .none
theorem by1(o:Obj)(f:Array Value->Array Value):(o.mapFields f).dict=o.dict:=by
 obtain⟨c,d,dt,sl⟩:=o;cases dt<;>rfl
section
variable{M:Model}{A:Around}{E:Value->Shared->Prop}{s:Shared}{base:Heap}{env:Env}{outer:List Env}{L a T:Addr}{cls:Value}{dc:Option Addr}{oe:Obj}{vs:Array Value}{Q:Unit->Shared->Prop}
structure Ent(fs:List Addr)(h h':Heap)(a T:Addr)(oe:Obj)(L:Addr):Prop where
 new:h.get? T=none
 ne:T≠a
 keep:∀b o,b≠a->b ∉ fs->h.get? b=some o->h'.get? b=some o
 slot:∀b o,b≠a->h.get? b=some o->∃sl,h'.get? b=some { o with slots:=sl }
 exc:h'.get? a=some (oe.mapFields λz=>z.setIfInBounds 1 (.ref T))
 ent:∃oT ts,h'.get? T=some oT/\oT.data=.fields ts/\ts[3]?=some (rawInt L)
theorem Nz(dz:A.frames=some (env::outer))(hl:s.heap.FunFrames base (env::outer))(hf:env.frame=some L)(he:s.heap.get? a=some oe)(hd:oe.data=.fields vs)(nL:1<vs.size)
  (na:a ∉ (env::outer).filterMap (·.frame)) (k:∀h' T',Ent ((env::outer).filterMap (·.frame)) s.heap h' a T' oe L->Q () { s with heap:=h' }) :
  wpAny M A (do let x<-frameOf env;let pl<-entryPlaceOf L eu0;let b<-EntryCells.newEntry head x .none (rawInt L) .none pl;setField (.ref a) 1 b) Q E s:=by
 refine wpAny_bind (wpAny_frameOf_fun dz hl hf λg1 so=>wpAny_bind (wpAny_entryPlaceOf λpl ip=>?_));unfold EntryCells.newEntry newFields;have e1:g1.get? a=some oe:=(so.2.1 a na).trans he;refine wpAny_bind (wpAny_newObj_type ?_ (ip.sizeOk5 _ _ _ _ _));generalize NA:({ cls:=.type "traceback",dict:=none,data:=.fields ([head,cN L,.none,rawInt L,.none]++(if pl.isEmpty then aM 6 qJ else pl)).toArray }:Obj)=te;have e2:(g1.push te).get? a=some oe:=eC te e1;have hda:te.data=.fields ([head,cN L,.none,rawInt L,.none]++(if pl.isEmpty then aM 6 qJ else pl)).toArray:=by rw[<-NA]
 have nf:te.isFreed=false:=by rw[<-NA];rfl
 refine wpAny_setField e2 hd nL ?_;have d3:=Fe hd λz=>z.setIfInBounds 1 (cN g1.objs.size);have nT:g1.objs.size≠a:=Le (bM e1);refine k _ g1.objs.size ⟨?_,nT,λb o hb hz q=>?_,λb o hb q=>?_,zA _ e2 (Ll d3),⟨te,_,?_,hda,?_⟩⟩
 ·cases q:s.heap.get? g1.objs.size with
  | none=>rfl
  | some o=>obtain⟨sl,z⟩:=so.2.2 _ _ q;exact absurd (bM z) (g7 _)
 ·rw[nD _ _ (fg hb)];exact eC te ((so.2.1 b hz).trans q)
 ·obtain⟨sl,z⟩:=so.2.2 b o q;refine⟨sl,?_⟩;rw[nD _ _ (fg hb)];exact eC te z
 ·rw[nD _ _ (fg nT)];exact g8 g1 nf
 ·first | (simp;done) | (rcases ip with rfl | ⟨_,_,_,_,_,_,_,rfl⟩<;>simp)
structure NB(fs Z:List Addr)(h h':Heap)(a T:Addr)(cls:Value)(dc:Option Addr):Prop where
 new:h.get? T=none
 keep:∀b o,b ∉ Z->b ∉ fs->h.get? b=some o->h'.get? b=some o
 slot:∀b o,b ∉ Z->h.get? b=some o->∃sl,h'.get? b=some { o with slots:=sl }
 xN:gM h' a T cls dc
theorem GF{fl:Value}(tr:GD s.heap a T cls fl dc)(k:∀h',(∀b o,b≠T->s.heap.get? b=some o->h'.get? b=some o)->gM h' a T cls dc->Q () { s with heap:=h' }):wpAny M A (setFlight (.ref a) none) Q E s:=by
 obtain⟨oe,vs,oT,ts,h1,h2,h3,h4,h5,h6,h7,h8,h9⟩:=tr;have sz:3<ts.size:=(Ff.mp h9).1;unfold setFlight;refine wpAny_bind (wpAny_field h1 h4 h5 ?_);rw[if_pos (by simp)];refine wpAny_setField h7 h8 sz (k _ (λb o hb q=>(nD _ _ (fg hb)).trans q) ?_);have d:=Fe h8 λz=>z.setIfInBounds 3 ((none:Option Addr).elim qJ λf=>rawInt f);exact⟨oe,vs,_,_,(nD _ _ h6).trans h1,h2,h3,h4,h5,h6,zA _ h7 (Ll d),d,by simp[sz]⟩
theorem Ent.fin{fs:List Addr}(e:Ent fs h h' a T oe L)(hd:oe.data=.fields vs)(nL:1<vs.size)(GG:oe.dict=dc):GD h' a T oe.cls (rawInt L) dc:=by
 obtain⟨oT,ts,e1,e2,e3⟩:=e.ent;exact⟨_,_,oT,ts,e.exc,Obj.cls_mapFields _ _,by rw[by1];exact GG,Fe hd _,by simp[nL],e.ne,e1,e2,e3⟩
theorem NC(dz:A.frames=some (env::outer))(hl:s.heap.FunFrames base (env::outer))(hf:env.frame=some L)(na:a ∉ (env::outer).filterMap (·.frame))(tr:gM s.heap a T cls dc)
  (k:∀h' T',NB ((env::outer).filterMap (·.frame)) [a,T] s.heap h' a T' cls dc->Q () { s with heap:=h' }):wpAny M A (noteFrame (.ref a) env) (λ_ f7=>wpAny M A (setFlight (.ref a) none) Q E f7) E s:=by
 obtain⟨oe,vs,oT,ts,h1,h2,h3,h4,h5,h6,h7,h8,h9⟩:=tr;have s1:1<vs.size:=(Ff.mp h5).1;have s3:3<ts.size:=(Ff.mp h9).1;unfold noteFrame;simp only[hf];refine wpAny_bind (wpAny_field h1 h4 h5 ?_);rw[if_pos (by simp)];refine wpAny_bind (wpAny_field h7 h8 h9 ?_);rw[if_neg (by simp[rawInt])];refine wpAny_bind (wpAny_setField h7 h8 s3 ?_);generalize hg:s.heap.update T (Obj.mapFields λz=>z.setIfInBounds 3 qJ)=g;have uj:∀b,b≠T->g.get? b=s.heap.get? b:=λb hb=>by rw[<-hg];exact nD _ _ (fg hb)
 have bT:∀b o,s.heap.get? b=some o->(∀ws,o.data≠.fields ws)->b≠T:=λb o q hn z=>by subst z;rw[h7]at q;cases q;exact hn ts h8
 have gT:∃oT',g.get? T=some oT':=⟨_,by rw[<-hg];exact zA _ h7 (Ll (Fe h8 _))⟩;refine Nz (s:={ s with heap:=g }) dz (hl.of_keeps λb o q hn=>⟨o,(uj b (bT b o q hn)).trans q,rfl⟩) hf ((uj a (fg h6)).trans h1) h4 s1 na λh' T' en=>?_;have nT':T'≠T:=λz=>by subst z;obtain⟨o,q⟩:=gT;rw[en.new]at q;cases q
 refine GF (s:={ s with heap:=h' }) (h2 ▸ en.fin h4 s1 h3) λGH kp GI=>?_;refine k GH T' ⟨(uj T' nT').symm.trans en.new,λb o hz hb q=>?_,λb o hz q=>?_,GI⟩
 ·have z1:b≠a:=λz=>hz (by simp[z]);have z2:b≠T:=λz=>hz (by simp[z]);have z3:b≠T':=λz=>by have:=en.new;rw[<-z,uj b z2,q]at this;cases this
  exact kp b o z3 (en.keep b o z1 hb ((uj b z2).trans q))
 ·have z1:b≠a:=λz=>hz (by simp[z]);have z2:b≠T:=λz=>hz (by simp[z]);have z3:b≠T':=λz=>by have:=en.new;rw[<-z,uj b z2,q]at this;cases this
  obtain⟨sl,r⟩:=en.slot b o z1 ((uj b z2).trans q);exact⟨sl,kp b _ z3 r⟩
theorem bN2(dz:A.frames=some (env::outer))(hl:s.heap.FunFrames base (env::outer))(hf:env.frame=some L)(na:a ∉ (env::outer).filterMap (·.frame))(hx:Av s.heap a cls dc)
  (k:∀h' T',NB ((env::outer).filterMap (·.frame)) [a] s.heap h' a T' cls dc->Q () { s with heap:=h' }):wpAny M A (noteFrame (.ref a) env) (λ_ f7=>wpAny M A (setFlight (.ref a) none) Q E f7) E s:=by
 obtain⟨oe,vs,e1,e2,e3,e4,e5⟩:=hx;have s1:1<vs.size:=(Ff.mp e5).1;unfold noteFrame;simp only[hf];refine wpAny_bind (wpAny_field e1 e4 e5 ?_);rw[if_neg (by decide)];refine Nz dz hl hf e1 e4 s1 na λh' T' en=>?_;refine GF (s:={ s with heap:=h' }) (e2 ▸ en.fin e4 s1 e3) λGH kp GI=>?_;have bT:∀b o,s.heap.get? b=some o->b≠T':=λb o q z=>by rw[z,en.new]at q;cases q
 refine k GH T' ⟨en.new,λb o hz hb q=>kp b o (bT b o q) (en.keep b o (by simpa using hz) hb q),λb o hz q=>?_,GI⟩;obtain⟨sl,r⟩:=en.slot b o (by simpa using hz) q;exact⟨sl,kp b _ (bT b o q) r⟩
theorem ch7(hx:Fg h h1 a cls args):Av h1 a cls none:=by
 obtain⟨t,e1,_,_⟩:=hx.there;exact⟨_,_,e1,rfl,rfl,rfl,rfl⟩
end
theorem dv.there{P:Program}(x:dv P w H h a o):∃u,h.get? a=some u:=by
 cases o with
 | lst xs=>obtain⟨_,_,_,_,e⟩:=x;exact⟨_,e⟩
 | tup xs=>obtain⟨_,_,_,o,e,_⟩:=x;exact⟨o,e⟩
 | dK eD=>obtain⟨_,_,_,_,o,_,_,e,_⟩:=x;exact⟨_,e⟩
 | dT eD=>obtain⟨_,_,_,_,o,_,_,e,_⟩:=x;exact⟨_,e⟩
 | set S n=>obtain⟨o,_,_,_,e,_⟩:=x;exact⟨_,e⟩
 | ins C dx fs=>obtain⟨_,_,_,e,_⟩:=x;exact⟨_,e⟩
 | own y=>exact x
 | xd fs=>obtain⟨_,⟨_,_,_,e,_⟩,_⟩:=x;exact⟨_,e⟩
 | zY lo hi=>obtain⟨_,_,_,e⟩:=x;exact⟨_,e⟩
 | cV ob u=>obtain⟨e,_⟩:=x;exact⟨_,e⟩
 | dF ps=>exact⟨_,show h.get? a=some _ from x.1⟩
 | met f y=>exact⟨_,show h.get? a=some _ from x⟩
 | ext φ=>obtain⟨_,e,_⟩:=x;exact e
theorem da.none{P:Program}(x:da P w H h)(e:h.get? a=.none):H a=.none:=by
 cases q:H a with
 | none=>rfl
 | some u=>obtain⟨o,z⟩:=(x a u q).there;rw[e]at z;cases z
structure Apart(X:Cx)(pins:List (Addr × Obj))(H:Hp)(b:Addr):Prop where
 old:X.cK.heap.get? b=none
 free:H b=none
 loc:b≠X.env.locals
 cell:∀x c,X.env.cells.lookup x=some c->c≠b
 pin:∀p∈X.pn++pins,p.1≠b
 fr:b ∉ eN X.stack
section
variable{X:Cx}{pins:List (Addr × Obj)}{σ:St}{H H':Hp}{s:Shared}{a T b:Addr}{cls:Value}{dc:Option Addr}{M:Model}{Q:Unit->Shared->Prop}{E:Value->Shared->Prop}{h':Heap}
theorem bM9(I:Inv X pins σ H s)(hb:b∈eN X.stack):∃o,s.heap.get? b=some o/\∀vs,o.data≠.fields vs:=(I.stack.mem hb).2
theorem Inv.old(I:Inv X pins σ H s)(hex:X.ex=[])(e:s.heap.get? b=none):X.cK.heap.get? b=none:=by
 cases q:X.cK.heap.get? b with
 | none=>rfl
 | some o=>obtain⟨o',z⟩:=I.base.there b o q (by rw[hex];simp);rw[e]at z;cases z
theorem Inv.apart(I:Inv X pins σ H s)(hex:X.ex=[])(e:s.heap.get? b=none)(n:H' b=none):Apart X pins H' b where
 old:=I.old hex e
 free:=n
 loc:=λz=>by obtain⟨m,⟨o,_,_,ho,_⟩,_⟩:=I.loc;rw[z,ho]at e;cases e
 cell:=λx c hc z=>by obtain⟨v,o,ho,_⟩:=I.cell x c hc;rw[z,e]at ho;cases ho
 pin:=λp hp z=>by have:=(I.pin p hp).1;rw[z,e]at this;cases this
 fr:=λhb=>by obtain⟨o,ho,_⟩:=bM9 I hb;rw[e]at ho;cases ho
theorem ND(I:Inv X pins σ H s)(bG:X.stack=X.env::X.outer)(hex:X.ex=[])(hf:X.env.frame=some X.env.locals)(Z:List Addr)(hZ:∀b∈Z,X.cK.heap.get? b=none/\H b=none)
  (keep:∀b o,b ∉ Z->b ∉ eN X.stack->s.heap.get? b=some o->h'.get? b=some o) (slots:∀b o,b ∉ Z->s.heap.get? b=some o->∃sl,h'.get? b=some { o with slots:=sl }) :
  Un (eN X.outer) [] X.ly H X.cK.heap h'/\da X.prog X.w H h':=by
 have uk:∀b o,X.cK.heap.get? b=some o->b ∉ Z:=λb o e z=>by rw[(hZ b z).1]at e;cases e
 have sub:∀b,b∈eN X.stack->b=X.env.locals\/b∈eN X.outer:=λb hb=>by
  rw[bG]at hb;unfold eN at hb;rw[Ca,hf]at hb;exact cO.mp hb
 have sup:∀b,b∈eN X.outer->b∈eN X.stack:=λb hb=>by
  rw[bG];unfold eN;rw[Ca,hf];exact iB _ hb
 have xq:∀b o,X.cK.heap.get? b=some o->b≠X.env.locals:=λb o e=>eI (cY (bM e) I.ok.above);have nx:∀b:Addr,b ∉ X.ex:=λb=>by rw[hex];simp
 refine⟨⟨λb o e n hb _=>?_,λb o e n hb _=>?_,λb o e n _=>I.base.free b o e n (nx b),λb o e _=>?_,I.base.iE,I.base.hJ,I.base.gv⟩,λb ob e=>?_⟩
 ·exact keep b o (uk b o e) (λz=>(sub b z).elim (xq b o e) hb) (I.base.keep b o e n hb (nx b))
 ·obtain⟨sl,e1⟩:=I.base.slot b o e n hb (nx b);exact(slots b _ (uk b o e) e1).imp λsl h=>h
 ·obtain⟨o',e1⟩:=I.base.there b o e (nx b);exact(slots b o' (uk b o e) e1).elim λsl q=>⟨_,q⟩
 ·refine(I.aH b ob e).jj (λc u hc q=>keep c u (λz=>?_) (λz=>?_) q) (λ_ q=>q) (λ_ _ q=>q) λ_ _ q=>q
  ·have n:=(hZ c z).2;rcases hc with rfl | hc
   ·rw[n]at e;cases e
   ·rw[n]at hc;cases hc
  ·have n:=I.CC c z;rcases hc with rfl | hc
   ·rw[n]at e;cases e
   ·rw[n]at hc;cases hc
structure NF(X:Cx)(H:Hp)(h':Heap)(a T:Addr)(cls:Value)(dc:Option Addr):Prop where
 un:Un (eN X.outer) [] X.ly H X.cK.heap h'
 aH:da X.prog X.w H h'
 xN:gM h' a T cls dc
 a0:X.cK.heap.get? a=none
 a1:H a=none
 t0:X.cK.heap.get? T=none
 t1:H T=none
theorem b59(I:Inv X pins σ H s)(bG:X.stack=X.env::X.outer)(hex:X.ex=[])(hf:X.env.frame=some X.env.locals)(tr:gM s.heap a T cls dc)(pa:Apart X pins H a)(pT:Apart X pins H T)
  (hQ:∀h' T',NF X H h' a T' cls dc->Q () { s with heap:=h' }):wpAny M X.A (leaving X.env (.ref a)) Q E s:=by
 have hZ:∀b∈[a,T],X.cK.heap.get? b=none/\H b=none:=λb hb=>by
  rcases cO.mp hb with rfl | hb
  ·exact⟨pa.old,pa.free⟩
  ·rw[eT.mp hb];exact⟨pT.old,pT.free⟩
 have na:a ∉ (X.env::X.outer).filterMap (·.frame):=by have:=pa.fr;rw[bG]at this;exact this
 refine wpAny_bind (NC (base:=X.base) (by rw[I.ok.frames,bG]) (bG ▸ I.stack) hf na tr λh' T' st=>?_);have kp:∀b o,b ∉ [a,T]->b ∉ eN X.stack->s.heap.get? b=some o->h'.get? b=some o:=λb o hz hb q=>st.keep b o hz (by rw[bG]at hb;exact hb) q;obtain⟨un,aH⟩:=ND (h':=h') I bG hex hf [a,T] hZ kp st.slot;exact hQ h' T' ⟨un,aH,st.xN,pa.old,pa.free,I.old hex st.new,I.aH.none st.new⟩
theorem b87(I:Inv X pins σ H s)(bG:X.stack=X.env::X.outer)(hex:X.ex=[])(hf:X.env.frame=some X.env.locals)(hx:Av s.heap a cls dc)(pa:Apart X pins H a)
  (hQ:∀h' T',NF X H h' a T' cls dc->Q () { s with heap:=h' }):wpAny M X.A (leaving X.env (.ref a)) Q E s:=by
 have hZ:∀b∈[a],X.cK.heap.get? b=none/\H b=none:=λb hb=>by rw[eT.mp hb];exact⟨pa.old,pa.free⟩
 have na:a ∉ (X.env::X.outer).filterMap (·.frame):=by have:=pa.fr;rw[bG]at this;exact this
 refine wpAny_bind (bN2 (base:=X.base) (by rw[I.ok.frames,bG]) (bG ▸ I.stack) hf na hx λh' T' st=>?_);obtain⟨un,aH⟩:=ND (h':=h') I bG hex hf [a] hZ (λb o hz hb q=>st.keep b o hz (by rw[bG]at hb;exact hb) q) st.slot;exact hQ h' T' ⟨un,aH,st.xN,pa.old,pa.free,I.old hex st.new,I.aH.none st.new⟩
end
def gz(P:Program)(w:World):eW:=λouter H s E e s'=>∃a T cls dc H',e=.ref a/\s'.os=s.os/\AllBare s'.gens/\Un (eN outer) [] H H' s.heap s'.heap/\da P w H' s'.heap/\gM s'.heap a T cls dc /\
 s.heap.get? a=none/\H' a=none/\s.heap.get? T=none/\H' T=none/\E cls dc H'
section
variable{X:Cx}{pins:List (Addr × Obj)}{σ:St}{H H':Hp}{s:Shared}{a T b:Addr}{cls:Value}{dc:Option Addr}{M:Model}{Q:Unit->Shared->Prop}{E:Value->Shared->Prop}{h':Heap}
theorem Inv.CZ(I:Inv X pins σ H s)(hex:X.ex=[])(Z:List Addr)(hZ:∀b∈Z,Apart X pins H b)
  (keep:∀b o,b ∉ Z->b ∉ eN X.stack->s.heap.get? b=some o->h'.get? b=some o) (slots:∀b o,b ∉ Z->s.heap.get? b=some o->∃sl,h'.get? b=some { o with slots:=sl }) (g':Array GenState) (t':Nat) (d':Drawn) (hg:AllBare g') :
  Inv X pins σ H { s with heap:=h',gens:=g',toks:=t',drawn:=d' }:=by
 have nx:∀b:Addr,b ∉ X.ex:=λb=>by rw[hex];simp
 have any:=slots;have uk:∀b o,X.cK.heap.get? b=some o->b ∉ Z:=λb o e z=>by rw[(hZ b z).old]at e;cases e
 have xq:∀b o,X.cK.heap.get? b=some o->b≠X.env.locals:=λb o e=>eI (cY (bM e) I.ok.above);have cz:∀x c,X.env.cells.lookup x=some c->c ∉ Z:=λx c e z=>(hZ c z).cell x c e rfl;have cellK:∀x c,X.env.cells.lookup x=some c->∀v,s.heap.IsCell c v->h'.IsCell c v:=λx c e v zz=>by
  obtain⟨o,ho,hd⟩:=zz;obtain⟨sl,q⟩:=any c o (cz x c e) ho;exact⟨_,q,hd⟩
 have NG:∀b,b ∉ X.fs->b≠X.env.locals->b ∉ eN X.stack:=λb h1 h2 h3=>(cO.mp (I.z4 b h3)).elim h2 h1;refine⟨I.ok,I.os,hg,⟨λb o e n hb hx=>?_,λb o e n hb hx=>?_,I.base.free,λb o e hx=>?_,I.base.iE,I.base.hJ,I.base.gv⟩,?_,λx c e=>?_,I.free,I.fh,λp hp=>?_,λb ob e=>?_,I.len⟩
 ·exact keep b o (uk b o e) (NG b hb (xq b o e)) (I.base.keep b o e n hb hx)
 ·obtain⟨sl,e1⟩:=I.base.slot b o e n hb hx;obtain⟨z6,e2⟩:=any b _ (uk b o e) e1;exact⟨z6,e2⟩
 ·obtain⟨o',e1⟩:=I.base.there b o e hx;obtain⟨sl,e2⟩:=any b o' (uk b o e) e1;exact⟨_,e2⟩
 ·obtain⟨m,hn,hl⟩:=I.loc;obtain⟨o,es,ep,ho,hd,r⟩:=id hn;obtain⟨sl,q⟩:=slots _ o (λz=>(hZ _ z).loc rfl) ho;refine⟨m,⟨_,es,ep,q,hd,r⟩,λi x v e1 e2 e3=>?_⟩;obtain⟨u,r,l⟩:=hl i x v e1 e2 e3;refine⟨u,r,?_⟩;rcases l with l | ⟨k,c,e,z⟩
  ·exact .inl l
  ·exact .inr ⟨k,c,e,cellK x c e _ z⟩
 ·obtain⟨v,z⟩:=I.cell x c e;exact⟨v,cellK x c e v z⟩
 ·obtain⟨e,n,ne,nf,d⟩:=I.pin p hp;exact⟨keep p.1 p.2 (λz=>(hZ _ z).pin p hp rfl) (NG _ nf ne) e,n,ne,nf,d⟩
 ·refine(I.aH b ob e).jj (λc u hc q=>keep c u (λz=>?_) (λz=>?_) q) (λ_ q=>q) (λ_ _ q=>q) λ_ _ q=>q
  ·have n:=(hZ c z).free;rcases hc with rfl | hc
   ·rw[n]at e;cases e
   ·rw[n]at hc;cases hc
  ·have n:=I.CC c z;rcases hc with rfl | hc
   ·rw[n]at e;cases e
   ·rw[n]at hc;cases hc
theorem ca3(pa:Apart X pins H a)(pT:Apart X pins H T):∀b∈[a,T],Apart X pins H b:=λb hb=>by
 rcases cO.mp hb with rfl | hb
 ·exact pa
 ·rw[eT.mp hb];exact pT
theorem c26(I:Inv X pins σ H s)(bG:X.stack=X.env::X.outer)(hex:X.ex=[])(hf:X.env.frame=some X.env.locals)(tr:gM s.heap a T cls dc)(pa:Apart X pins H a)(pT:Apart X pins H T)
  (hQ:∀h' T',Inv X pins σ H { s with heap:=h' }->gM h' a T' cls dc->Apart X pins H T'->Q () { s with heap:=h' }) :
  wpAny M X.A (noteFrame (.ref a) X.env) (λ_ f7=>wpAny M X.A (setFlight (.ref a) none) Q E f7) E s:=by
 have na:a ∉ (X.env::X.outer).filterMap (·.frame):=by have:=pa.fr;rw[bG]at this;exact this
 refine NC (base:=X.base) (by rw[I.ok.frames,bG]) (bG ▸ I.stack) hf na tr λh' T' st=>?_;exact hQ h' T' (I.CZ hex [a,T] (ca3 pa pT) (λb o hz hb q=>st.keep b o hz (by rw[bG]at hb;exact hb) q) st.slot s.gens s.toks s.drawn I.bare) st.xN (I.apart hex st.new (I.aH.none st.new))
theorem cF4(I:Inv X pins σ H s)(hex:X.ex=[])(tr:gM s.heap a T cls dc)(pT:Apart X pins H T)
  (hQ:∀h',Inv X pins σ H { s with heap:=h' }->gM h' a T cls dc->Q () { s with heap:=h' }):wpAny M A (setFlight (.ref a) none) Q E s:=by
 refine GF tr λh' kp GJ=>hQ h' (I.CZ hex [T] (λb hb=>by rw[eT.mp hb];exact pT) (λb o hz _ q=>kp b o (by simpa using hz) q) (λb o hz q=>⟨o.slots,kp b o (by simpa using hz) q⟩) s.gens s.toks s.drawn I.bare) GJ
theorem b56{pos:Pos}(I:Inv X pins σ H s)(hN:X.N.Nodup)(hi:X.N[i]?=some n)(hl:X.env.kindOf n=some .local)
  (hQ:∀s',Inv X pins (σ.set i none) H s'->Q () s'):wpAny M A (do bindName X.env n .none;unbindBehindTheSuite X.env n pos) Q E s:=by
 obtain⟨m,hn,hlk⟩:=id I.loc;have lC:=I.lC;refine PySem.wpAny_nameGoes_keeps hl hn (by rw[I.ok.kind];rfl) λh' v xv hs=>hQ _ ?_;obtain⟨oL,_,_,L4,_⟩:=id hn;refine⟨I.ok,I.os,I.bare,⟨λb o e n' hb hx=>?_,λb o e n' hb hx=>?_,I.base.free,λb o e hx=>?_,I.base.iE,I.base.hJ,I.base.gv⟩,⟨_,xv,λj y w e1 e2 e3=>?_⟩,λy c e=>?_,I.free,I.fh,λp hp=>?_,λb ob e=>?_,by simpa using I.len⟩
 ·exact(hs.2 b (eI (cY (bM e) I.ok.above))).trans (I.base.keep b o e n' hb hx)
 ·obtain⟨sl,e1⟩:=I.base.slot b o e n' hb hx;exact⟨sl,(hs.2 b (eI (cY (bM e) I.ok.above))).trans e1⟩
 ·obtain⟨o',e1⟩:=I.base.there b o e hx;exact⟨o',(hs.2 b (eI (cY (bM e) I.ok.above))).trans e1⟩
 ·by_cases hj:j=i
  ·subst hj;rw[List.getElem?_set_self']at e2;cases q:σ[j]?<;>rw[q]at e2<;>cases e2
  ·rw[qL (fg hj)]at e2;obtain⟨u',r',q⟩:=hlk j y w e1 e2 e3;refine⟨u',r',?_⟩;rcases q with⟨k,e⟩ | ⟨k,c,e,z⟩
   ·refine .inl ⟨k,?_⟩;have:y≠n:=λe=>hj (FK hN e1 (e ▸ hi));simp[this,e]
   ·exact .inr ⟨k,c,e,z.sameBut hs (lC y c e)⟩
 ·obtain⟨w',z⟩:=I.cell y c e;exact⟨w',z.sameBut hs (lC y c e)⟩
 ·obtain⟨e,n',ne,nf,d⟩:=I.pin p hp;exact⟨(hs.2 p.1 ne).trans e,n',ne,nf,d⟩
 ·refine(I.aH b ob e).jj (λc w' hc q=>(hs.2 c ?_).trans q) (λ_ q=>q) (λ_ _ q=>q) λ_ _ q=>q;rintro rfl;rcases hc with rfl | hc
  ·rw[I.free]at e;cases e
  ·rw[I.free]at hc;cases hc
end
end L2
namespace L2
open PySem PySem.W PySem.Spec PySem.Calls PyProof.Rows
section
variable{prog:Program}{w:World}{A:Around}{E:Value->Shared->Prop}{s:Shared}{K:Frag}{x D:Addr}{ox:Obj}{kz:Option Obj}
theorem b61(X:K.In s.heap)(I:PySem.W.InstAt s.heap x ox D kz)(hf:findObj K D kz "__class__"=some (.bind (.builtin "getset_descriptor.__get__") (.builtin "object.__class__")))(hm:mroIn K D (.type "object")=some true)
  (hq:Q (.done (.ret (.ref D))) s):wpAny (model prog w) A (Builtin.«object.__getattribute__» ⟨[.ref x,.str "__class__" tk],[]⟩) Q E s:=by
 have cg:=λ(R:Result->Shared->Prop) (hR:R (.ok (.ret (.ref D))) s) (A:Around)=>PySem.W.class_get (prog:=prog) (w:=w) (A:=A) (R:=R) (tp:=.ref D) X I hm hR;obtain⟨hh,g,d,t,os⟩:=s;have L0:=I.type (M:=model prog w);have L1:=looks_find (M:=model prog w) X I hf;unfold Builtin.«object.__getattribute__»
 repeat (any_goals (first | assumption | refine wpAny_bind (L0.at ?_) | refine wpAny_bind (L1.at ?_) | wp_step))
 exact cg _ (wpAny_pure hq) _
theorem NH(X:K.In s.heap)(I:PySem.W.InstAt s.heap x ox D kz)(hb:mroIn K D (.type "BaseException")=some true)(hq:Q () s) :
  wpAny M A (checkBuiltinCall "BaseException.__getattribute__" ⟨[.ref x,do2],[]⟩) Q E s:=by
 obtain⟨hh,g,d,t,os⟩:=s;have L0:=I.type (M:=M);have L1:=looks_mroIn (M:=M) X hb;have hk:builtinKind "BaseException.__getattribute__"=some .slot:=by decide +kernel
 have do3:splitId "BaseException.__getattribute__"=some ("BaseException","__getattribute__"):=by decide +kernel
 have ha:=F.args_bexc_ga (.ref x) do2;simp only[checkBuiltinCall,hk,do3];refine wpAny_bind ?_
 ·unfold isInstance
  repeat (first | refine wpAny_bind (L0.at ?_) | refine wpAny_bind (L1.at ?_) | refine L1.at ?_ | wp_step)
  exact hq
theorem ch6{R:Result->Shared->Prop}(X:K.In s.heap)(I:PySem.W.InstAt s.heap x ox D kz)(hf:findObj K D kz "__class__"=some (.bind (.builtin "getset_descriptor.__get__") (.builtin "object.__class__")))(hm:mroIn K D (.type "object")=some true)(hb:mroIn K D (.type "BaseException")=some true)
  (hq:R (.ok (.ret (.ref D))) s):codeAny (model prog w) A (.call (.builtin "BaseException.__getattribute__") ⟨[.ref x,.str "__class__" tk],[]⟩) R s :=
 codeAny_call_builtin (by decide +kernel) F.entry_bexc_ga (NH X I hb (b61 X I hf hm hq))
end
section
variable{prog:Program}{w:World}{A:Around}{E:Value->Shared->Prop}{s:Shared}{K:Frag}{x D:Addr}{ox:Obj}{kz:Option Obj}
theorem NI(X:K.In s.heap)(I:PySem.W.InstAt s.heap x ox D kz)(GK:findIn K (.ref D) "__getattribute__"=some (some (.builtin "BaseException.__getattribute__")))(GL:findIn K (.ref D) "__getattr__"=some none)
  (hf:findObj K D kz "__class__"=some (.bind (.builtin "getset_descriptor.__get__") (.builtin "object.__class__"))) (hm:mroIn K D (.type "object")=some true) (hb:mroIn K D (.type "BaseException")=some true)
  (h:Q (some (.ref D)) { s with toks:=s.toks+1 }):wpAny (model prog w) A (getAttr? (.ref x) "__class__") Q E s:=by
 have xc:=λ(R:Result->Shared->Prop) (tk:Tok) (hR:R (.ok (.ret (.ref D))) { s with toks:=s.toks+1 }) (A:Around)=>ch6 (prog:=prog) (w:=w) (A:=A) (R:=R) (tk:=tk) (s:={ s with toks:=s.toks+1 }) X I hf hm hb hR;obtain⟨hh,g,d,t,os⟩:=s;have L0:=I.type (M:=model prog w);have L1:=looks_findIn (M:=model prog w) X GK;have L2:=looks_findIn (M:=model prog w) X GL;have f3:=(F.excAttr_ValueError).ga.bind (.ref x);have Aw:(qU "BaseException.__getattribute__"==qU "object.__getattribute__")=false:=by decide +kernel
 have iZ:(onTheHeap (cN D)&&qU "BaseException.__getattribute__"==qU "object.__getattribute__")=false:=by rw[Aw];rfl
 unfold getAttr? getAttrBy? getAttrBy;refine wpAny_bind (wpAny_mkText (wpAny_bind (wpAny_attempt (wpAny_holding (wpAny_bind (L0.at (wpAny_bind (L1.at ?_))))))));dsimp only;rw[iZ];simp only[mh,if_false];unfold getAttrByItsOwn
 repeat (any_goals (first | assumption | refine wpAny_bind (L0.at ?_) | refine wpAny_bind (L2.at ?_) | wp_step))
 refine xc _ t ?_ _;show wpAny _ _ (handedOut (.ref D)) _ _ _;exact handed_on rfl (wpAny_pure h)
structure jn(K:Frag)(C:Addr):Prop where
 cls:(clsIn K C).isSome=true
 ga:findIn K (.ref C) "__getattribute__"=some (some (.builtin "BaseException.__getattribute__"))
 gt:findIn K (.ref C) "__getattr__"=some none
 ca:findIn K (.ref C) "__class__"=some (some (.builtin "object.__class__"))
 hn:specialIn K (.builtin "object.__class__") "__get__"=some (some (.builtin "getset_descriptor.__get__"))
 tk:takesIn K (.builtin "object.__class__")=some true
 mo:mroIn K C (.type "object")=some true
 mb:mroIn K C (.type "BaseException")=some true
def nQ(a C:Addr)(h:Heap):Prop:=∃o,h.get? a=some o/\o.cls=.ref C/\notCls o=true/\o.dict=none
theorem NJ(hc:(clsIn K C).isSome=true)(ha:findIn K (.ref C) name=some (some a))(hg:specialIn K a "__get__"=some (some g))(ht:takesIn K a=some true):findObj K C od name=some (.bind g a):=by
 obtain⟨cd,hc⟩:=Ce.mp hc;unfold findObj;rw[hc,Zw,ha,Zw];simp[hg,ht]
theorem NK(p:nQ a C h):∃ox,PySem.W.InstAt h a ox C none:=by
 obtain⟨o,h1,h2,h3,h4⟩:=p;exact⟨o,h1,h2,h3,by rw[h4];trivial⟩
theorem jn.xO(c:jn K C)(X:K.In h):Looks M h (isType (.ref C)) true:=by
 obtain⟨xP,mw⟩:=Ce.mp c.cls;unfold clsIn at mw;split at mw
 ·rename_i c' d' cd' z6 ho;intro A' Q' E' s' k q;unfold isType loadHead;exact wpAny_bind (wpAny_loadPart (k _ _ (X _ _ ho)) (wpAny_pure q))
 ·cases mw
theorem NL(c:jn K C):KitX K (.ref a) (.ref C) (nQ a C) where
 ty:=λ_ _ _ p=>let⟨_,I⟩:=NK p;I.type
 it:=λ_ _ X _=>c.xO X
 ne:=λh tp dd its n sl X htp=>by
  obtain⟨xP,mw⟩:=Ce.mp c.cls;refine Bool.eq_false_iff.mpr λq=>?_;have e:C=tp:=Value.ref.inj (beq_iff_eq.mp q);subst e;unfold clsIn at mw;split at mw
  ·rename_i c' d' cd' z6 ho;have z:=(X _ _ ho).symm.trans htp;cases z
  ·cases mw
 ca:=λX p k=>let⟨_,I⟩:=NK p;NI X I c.ga c.gt (NJ c.cls c.ca c.hn c.tk) c.mo c.mb k
end
end L2
namespace L2
open PySem PySem.Spec PyProof.Rows
section
variable{X:Cx}{pins:List (Addr × Obj)}{σ:St}{H:Hp}{s:Shared}{h':Heap}{its:List Addr}{T:Addr}{o:HO}{t':Nat}
theorem Inv.C2(I:Inv X pins σ H s)(k:∀b o,b ∉ its->s.heap.get? b=some o->h'.get? b=some o)(hf:∀b∈its,jR X pins H b):Inv X pins σ H { s with heap:=h',toks:=t' }:=by
 have q9:∀b u,H b=some u->b ∉ its:=λb u e z=>by have:=(hf b z).1;rw[this]at e;cases e
 refine I.step (g':=s.gens) (d':=s.drawn) (ch:=its) (λb hb=>?_) (λb o _ _ hc e _=>k b o hc e) (λb o _ _ hc e _=>⟨o.slots,k b o hc e⟩) (λ_ _ _ _ n=>n)
  (λb o hc e=>⟨o,k b o hc e⟩) (λ_ _ e=>e) (λ_ _ _ e=>e) (λb ps e=>⟨#[],by rw[e];simp⟩) (λm hm=>?_) (λb u e=>?_) I.bare
 ·obtain⟨_,h1,_,h2,h3,h4⟩:=hf b hb;exact⟨h2,h1,h3,h4⟩
 ·obtain⟨o,es,ep,ho,r⟩:=hm;exact⟨o,es,ep,k _ o (λz=>(hf _ z).2.1 rfl) ho,r⟩
 ·refine(I.aH b u e).jj (λc v hc q=>k c v ?_ q) (λ_ q=>q) (λ_ _ q=>q) λ_ _ q=>q;rcases hc with z | z
  ·rw[z];exact q9 b u e
  ·exact q9 c _ z
theorem Inv.NM(I:Inv X pins σ H s)(k:∀b o,b ∉ its->s.heap.get? b=some o->h'.get? b=some o)(hf:∀b∈its,jR X pins H b)(hT:s.heap.objs.size<=T)(new:dv X.prog X.w (upd H T o) h' T o) :
  Inv X pins σ (upd H T o) { s with heap:=h',toks:=t' }:=by
 have q9:∀b u,H b=some u->b ∉ its:=λb u e z=>by have:=(hf b z).1;rw[this]at e;cases e
 have fT:H T=none:=I.aH.fresh hT;have neT:∀b u,H b=some u->b≠T:=λb u e z=>by rw[z,fT]at e;cases e
 have neS:∀b u,s.heap.get? b=some u->b≠T:=λb u e z=>absurd (cY (bM e) hT) (by rw[z];exact g7 _);refine I.step (g':=s.gens) (d':=s.drawn) (ch:=its) (λb hb=>?_) (λb o _ _ hc e _=>k b o hc e) (λb o _ _ hc e _=>⟨o.slots,k b o hc e⟩) (λb u _ e n=>by rw[aZ (neS b u e)];exact n)
  (λb o hc e=>⟨o,k b o hc e⟩) (λb _ e=>by rw[aZ (neT b _ e)];exact e) (λb _ _ e=>by rw[aZ (neT b _ e)];exact e) (λb ps e=>⟨#[],by rw[aZ (neT b _ e),e];simp⟩) (λm hm=>?_) (λb u e=>?_) I.bare
 ·obtain⟨_,h1,_,h2,h3,h4⟩:=hf b hb;exact⟨h2,h1,h3,h4⟩
 ·obtain⟨o,es,ep,ho,r⟩:=hm;exact⟨o,es,ep,k _ o (λz=>(hf _ z).2.1 rfl) ho,r⟩
 ·by_cases hb:b=T
  ·subst hb;rw[dm]at e;cases e;exact new
  ·rw[aZ hb]at e;refine(I.aH b u e).jj (λc v hc q=>k c v ?_ q) (λc q=>by rw[aZ (neT c _ q)];exact q) (λc _ q=>by rw[aZ (neT c _ q)];exact q) λc _ q=>by rw[aZ (neT c _ q)];exact q
   rcases hc with z | z
   ·rw[z];exact q9 b u e
   ·exact q9 c _ z
def GN(K:PySem.W.Frag)(a b:Addr):It :=
 ⟨λi H=>∃xs ys x y,bN K H a xs/\bN K H b ys/\xs[i]?=some x/\ys[i]?=some y,
  λi H v H'=>∃T x y,v=.ref T/\H T=none/\H'=upd H T (.tup [x,y])/\(∀xs,bN K H a xs->xs[i]?=some x)/\∀ys,bN K H b ys->ys[i]?=some y,
  λi H=>∃xs ys,bN K H a xs/\bN K H b ys/\(xs.length<=i\/ys.length<=i)⟩
theorem rl{K:PySem.W.Frag}{a c:Addr}{xs:List V}(hk:X.K=K)(I:Inv X pins σ H s)(h:bN K H a xs)(hf:jR X pins H c)(ho:∃o,s.heap.get? c=some o/\o.cls≠.type "list"):a≠c:=by
 subst hk;obtain⟨its,rv,p,hz⟩:=I.list h;obtain⟨o,e,d⟩:=ho;obtain⟨o',e',c',_⟩:=p.isList;intro z;subst z;rw[e]at e';cases e';exact d c'
theorem cf7{P:Program}{w:World}{K:PySem.W.Frag}{elts:List Expr}{k:Nat}{pos:Pos}(a b z TI TO i1 i2:Addr)(D5:[z,TI,TO,i1,i2].Nodup) :
  Turn P w K (.Tuple elts k pos) (GN K a b) [z,TI,TO,i1,i2] z (λi h=>IsZip h z TI TO .none/\IsPair h TI (.ref i1) (.ref i2)/\(∃u v,IsPair h TO u v)/\h.IsListIter i1 a i/\h.IsListIter i2 b i):=by
 have ap:∀(X:Cx) (pins:List (Addr × Obj)) (s:Shared) (σ:St) (H:Hp) (i:Nat) (xs ys:List V),X.K=K->Inv X pins σ H s->(∀b∈[z,TI,TO,i1,i2],jR X pins H b)->IsZip s.heap z TI TO .none->(∃u v,IsPair s.heap TO u v)->s.heap.IsListIter i1 a i->s.heap.IsListIter i2 b i ->
   bN K H a xs->bN K H b ys->ZipApart z TI TO i1 i2 a b:=by
  intro X pins s σ H i xs ys hK I hf hz jU h1 h2 hx hy;simp only[qP,cO,not_or,iD,not_false_eq_true,and_true]at D5;obtain⟨⟨d1,d2,d3,d4⟩,⟨d5,d6,d7⟩,⟨d8,d9⟩,d10,_⟩:=D5;have oz:∃o,s.heap.get? z=some o/\o.cls≠.type "list":=⟨_,hz,by intro q;exact absurd (Fh q) (by decide)⟩;have NN:∃o,s.heap.get? TO=some o/\o.cls≠.type "list":=by obtain⟨u,v,e⟩:=jU;exact⟨_,e,by intro q;exact absurd (Fh q) (by decide)⟩
  have o1:∃o,s.heap.get? i1=some o/\o.cls≠.type "list":=by obtain⟨o,e,c,d⟩:=h1;exact⟨_,e,by rw[c];intro q;exact absurd (Fh q) (by decide)⟩
  have o2:∃o,s.heap.get? i2=some o/\o.cls≠.type "list":=by obtain⟨o,e,c,d⟩:=h2;exact⟨_,e,by rw[c];intro q;exact absurd (Fh q) (by decide)⟩
  exact⟨fg d1,fg d2,fg d3,fg d4,d5,d6,d7,d8,d9,d10,
   rl hK I hx (hf z (by simp)) oz,rl hK I hx (hf TO (by simp)) NN,rl hK I hx (hf i1 (by simp)) o1,rl hK I hx (hf i2 (by simp)) o2,
   rl hK I hy (hf z (by simp)) oz,rl hK I hy (hf TO (by simp)) NN,rl hK I hy (hf i1 (by simp)) o1,rl hK I hy (hf i2 (by simp)) o2⟩
 refine⟨by simp,λi h st c hc=>?_,λi h h' st kk=>?_,?_,?_,λ_ _ _ _ _ st h=>wpAny_pyIter_zip st.1 h⟩
 ·obtain⟨hz,mH,⟨u,v,jU⟩,⟨o1,e1,c1,d1⟩,⟨o2,e2,c2,d2⟩⟩:=st;simp only[cO,iD,or_false]at hc;rcases hc with rfl | rfl | rfl | rfl | rfl
  ·exact⟨_,hz,λv q=>by cases q⟩
  ·exact⟨_,mH,λv q=>by cases q⟩
  ·exact⟨_,jU,λv q=>by cases q⟩
  ·exact⟨_,e1,λv q=>by rw[d1]at q;cases q⟩
  ·exact⟨_,e2,λv q=>by rw[d2]at q;cases q⟩
 ·obtain⟨hz,mH,⟨u,v,jU⟩,h1,h2⟩:=st;exact⟨kk _ (by simp) _ hz,kk _ (by simp) _ mH,⟨u,v,kk _ (by simp) _ jU⟩,h1.at λo e=>kk _ (by simp) o e,h2.at λo e=>kk _ (by simp) o e⟩
 ·intro X hP hw hK hc i pins s σ H E I hf st hg;obtain⟨xs,ys,x,y,hx,hy,ex,ey⟩:=hg;obtain⟨hz,mH,⟨u,v,jU⟩,h1,h2⟩:=st;have D:=ap X pins s σ H i xs ys hK I hf hz ⟨u,v,jU⟩ h1 h2 hx hy;subst hP hw hK;obtain⟨as,ra,pa,_⟩:=I.list hx;obtain⟨bs,rb,pb,_⟩:=I.list hy;obtain⟨ux,GO,rx⟩:=ra.get ex;obtain⟨uy,euy,ry⟩:=rb.get ey;refine wpAny_pyNext_zip_item D hz mH jU h1 h2 pa.isList pb.isList (x:=ux) (y:=uy) (by simpa using GO) (by simpa using euy) λh' z' TO' lK kA T' sz kk=>?_;have fT:H s.heap.objs.size=none:=I.aH.fresh (bR _);have I1:Inv X pins σ (upd H s.heap.objs.size (.tup [x,y])) { s with heap:=h',toks:=s.toks }:=I.NM (its:=[z,TO,i1,i2]) (λc o hc e=>kk c o (λq=>hc (by simp[q])) (λq=>hc (by simp[q])) (λq=>hc (by simp[q])) (λq=>hc (by simp[q])) e)
   (λc hc=>hf c (by simp only[cO,iD,or_false]at hc ⊢;rcases hc with rfl | rfl | rfl | rfl<;>simp)) (bR _) ⟨by show 2<=sizeLine;decide,[ux,uy],.cons rx (.cons ry .nil),⟨_,T',rfl,_,rfl⟩⟩
  have nT:∀c∈[z,TI,TO,i1,i2],c≠s.heap.objs.size:=λc hc q=>by
   have:∃o,s.heap.get? c=some o:=by
    simp only[cO,iD,or_false]at hc;rcases hc with rfl | rfl | rfl | rfl | rfl
    ·exact⟨_,hz⟩
    ·exact⟨_,mH⟩
    ·exact⟨_,jU⟩
    ·obtain⟨o,e,_⟩:=h1;exact⟨o,e⟩
    ·obtain⟨o,e,_⟩:=h2;exact⟨o,e⟩
   obtain⟨o,e⟩:=this;exact absurd (bM e) (by rw[q];exact g7 _)
  refine⟨_,rfl,wpAny_letOwnedTupleGo_zip z' λGP GQ sb=>?_⟩;have GR:∀c∈[z],jR X pins (upd H s.heap.objs.size (.tup [x,y])) c:=λc hc=>by
   have e:c=z:=by simpa using hc
   subst e;obtain⟨f0,fr⟩:=hf c (by simp);exact⟨by rw[aZ (nT c (by simp))];exact f0,fr⟩
  have I2:=Inv.C2 (h':=GP) (its:=[z]) (t':=s.toks) I1 (λc o hc e=>sb.extBut _ _ (λq=>hc (by simp[q])) e) GR;refine⟨.ref s.heap.objs.size,_,I2,rfl,⟨_,x,y,rfl,fT,rfl,λbC gA=>by rw[I.z8 gA hx];exact ex,λNO hy'=>by rw[I.z8 hy' hy];exact ey⟩,⟨GQ,sb.extBut _ _ D.TIz (kk _ _ D.TIz D.TITO D.TIi1 D.TIi2 mH),⟨ux,uy,sb.extBut _ _ D.TOz TO'⟩,lK.extBut sb.extBut D.i1z,kA.extBut sb.extBut D.i2z⟩,λc hc=>?_⟩;rw[aZ (nT c hc)];exact(hf c hc).1
 ·intro X hP hw hK hc i pins s σ H E I hf st hg;obtain⟨xs,ys,hx,hy,hl⟩:=hg;obtain⟨hz,mH,⟨u,v,jU⟩,h1,h2⟩:=st;have D:=ap X pins s σ H i xs ys hK I hf hz ⟨u,v,jU⟩ h1 h2 hx hy;subst hP hw hK;obtain⟨as,ra,pa,_⟩:=I.list hx;obtain⟨bs,rb,pb,_⟩:=I.list hy;have la:=ra.length;have lb:=rb.length;refine wpAny_pyNext_zip_end (I.ok.hd hc) D hz mH jU h1 h2 pa.isList pb.isList (hl.imp (λq=>by simp;omega) λq=>by simp;omega) λh' kk=>⟨rfl,?_⟩;exact I.C2 (its:=[z,TO,i1,i2]) (t':=s.toks) (λc o hc e=>kk c o (λq=>hc (by simp[q])) (λq=>hc (by simp[q])) (λq=>hc (by simp[q])) (λq=>hc (by simp[q])) e)
   (λc hc=>hf c (by simp only[cO,iD,or_false]at hc ⊢;rcases hc with rfl | rfl | rfl | rfl<;>simp))
def GS(K:PySem.W.Frag)(a:Addr):It :=
 ⟨λi H=>∃xs x,bN K H a xs/\xs[i]?=some x,
  λi H v H'=>∃T x,v=.ref T/\H T=none/\H'=upd H T (.tup [.int i,x])/\∀xs,bN K H a xs->xs[i]?=some x,
  λi H=>∃xs,bN K H a xs/\xs.length<=i⟩
theorem b89{P:Program}{w:World}{K:PySem.W.Frag}{elts:List Expr}{k:Nat}{pos:Pos}(a z it:Addr)(fj:z≠it) :
  Turn P w K (.Tuple elts k pos) (GS K a) [z,it] z (λi h=>(∃old,IsEnum h z it i old)/\h.IsListIter it a i):=by
 refine⟨by simp,λi h st c hc=>?_,λi h h' st kk=>?_,?_,?_,λ_ _ _ _ _ st h=>by obtain⟨⟨old,e⟩,_⟩:=st;exact wpAny_pyIter_enum e h⟩
 ·obtain⟨⟨old,hz⟩,⟨o1,e1,c1,d1⟩⟩:=st;simp only[cO,iD,or_false]at hc;rcases hc with rfl | rfl
  ·exact⟨_,hz,λv q=>by cases q⟩
  ·exact⟨_,e1,λv q=>by rw[d1]at q;cases q⟩
 ·obtain⟨⟨old,hz⟩,h1⟩:=st;exact⟨⟨old,kk _ (by simp) _ hz⟩,h1.at λo e=>kk _ (by simp) o e⟩
 ·intro X hP hw hK hc i pins s σ H E I hf st hg;subst hP hw hK;obtain⟨xs,x,hx,ex⟩:=hg;obtain⟨⟨old,hz⟩,h1⟩:=st;obtain⟨as,ra,pa,_⟩:=I.list hx;obtain⟨ux,GO,rx⟩:=ra.get ex;refine wpAny_pyNext_enum_item hz h1 pa.isList (x:=ux) (by simpa using GO) fj λh' z' lK T' sz kk=>?_;have fT:H s.heap.objs.size=none:=I.aH.fresh (bR _);have I1:Inv X pins σ (upd H s.heap.objs.size (.tup [.int i,x])) { s with heap:=h',toks:=s.toks+1 }:=I.NM (its:=[z,it]) (λc o hc e=>kk c o (λq=>hc (by simp[q])) (λq=>hc (by simp[q])) e)
   (λc hc=>hf c hc) (bR _) ⟨by show 2<=sizeLine;decide,[.int i s.toks,ux],.cons ⟨_,rfl⟩ (.cons rx .nil),⟨_,T',rfl,_,rfl⟩⟩
  have nT:∀c∈[z,it],c≠s.heap.objs.size:=λc hc q=>by
   have:∃o,s.heap.get? c=some o:=by
    simp only[cO,iD,or_false]at hc;rcases hc with rfl | rfl
    ·exact⟨_,hz⟩
    ·obtain⟨o,e,_⟩:=h1;exact⟨o,e⟩
   obtain⟨o,e⟩:=this;exact absurd (bM e) (by rw[q];exact g7 _)
  refine⟨_,rfl,wpAny_letOwnedTupleGo_enum z' λGP GQ sb=>?_⟩;have GR:∀c∈[z],jR X pins (upd H s.heap.objs.size (.tup [.int i,x])) c:=λc hc=>by
   have e:c=z:=by simpa using hc
   subst e;obtain⟨f0,fr⟩:=hf c (by simp);exact⟨by rw[aZ (nT c (by simp))];exact f0,fr⟩
  have I2:=Inv.C2 (h':=GP) (its:=[z]) (t':=s.toks+1) I1 (λc o hc e=>sb.extBut _ _ (λq=>hc (by simp[q])) e) GR;refine⟨.ref s.heap.objs.size,_,I2,rfl,⟨_,x,rfl,fT,rfl,λbC gA=>by rw[I.z8 gA hx];exact ex⟩,⟨⟨ux,by simpa using GQ⟩,lK.extBut sb.extBut (fg fj)⟩,λc hc=>?_⟩;rw[aZ (nT c hc)];exact(hf c hc).1
 ·intro X hP hw hK hc i pins s σ H E I hf st hg;subst hP hw hK;obtain⟨xs,hx,hl⟩:=hg;obtain⟨⟨old,hz⟩,h1⟩:=st;obtain⟨as,ra,pa,_⟩:=I.list hx;have la:=ra.length;refine wpAny_pyNext_enum_end (I.ok.hd hc) hz h1 pa.isList (by simp;omega) λh' kk=>⟨rfl,?_⟩;exact I.C2 (its:=[it]) (t':=s.toks) (λc o hc e=>kk c o (λq=>hc (by simp[q])) e) (λc hc=>hf c (by simp at hc ⊢;simp[hc]))
end
section
variable{X:Cx}{a b:Expr}{ta:TA}{p pos nM:Pos}{elts:List Expr}{x1:Nat}
def c36(K:PySem.W.Frag)(ta:TA):TI:=λσ H R=>ta σ H λvs H1=>∃a b,vs=[.ref a,.ref b]/\(∃xs,bN K H1 a xs)/\(∃ys,bN K H1 b ys)/\R (GN K a b) H1
theorem ce4:bootBuiltins "zip"=some (.type "zip"):=by decide +kernel
theorem cM1(hg:Gl X "zip")(hm:X.mg "zip"=none)(ha:PA X [a,b] ta)(hs:starEach [a,b] X.env=[(false,eval a X.env),(false,eval b X.env)]:=by rfl)(fw:starEach [b] X.env=[(false,eval b X.env)]:=by rfl) :
  PI X (.Tuple elts x1 nM) (.Call (.Name "zip" p) [a,b] [] pos) (c36 X.K ta):=by
 intro pins s σ H R I h;refine Call_ (rf I hg hm ce4 (zy (aU (ha pos pins s σ H _ I h) λus s1 zq=>?_) (by rw[hs,fw]) (by rw[fw];rfl)));obtain⟨vs,H1,I1,r1,q1⟩:=zq;obtain⟨a,b,e,⟨xs,hx⟩,⟨ys,hy⟩,q⟩:=q1;subst e
 cases r1 with
 | cons r rr =>
  cases rr with
  | cons r2 rr =>
   cases rr;cases r;cases r2;obtain⟨as,ra,pa,_⟩:=I1.list hx;obtain⟨bs,rb,pb,_⟩:=I1.list hy;refine call_zip_2 pa.isList pb.isList λh' hz mH jU h1 h2 sz kk=>wpAny_pyIter_zip hz ?_;refine⟨_,[s1.heap.objs.size+4,s1.heap.objs.size+2,s1.heap.objs.size+3,s1.heap.objs.size,s1.heap.objs.size+1],_,_,H1,rfl,I1.kept (t':=s1.toks) kk,cf7 a b _ _ _ _ _ (by simp),⟨hz,mH,⟨_,_,jU⟩,h1,h2⟩,λc hc=>?_,q⟩;have hle:s1.heap.objs.size<=c:=by
    simp only[cO,iD,or_false]at hc;rcases hc with rfl | rfl | rfl | rfl | rfl<;>omega
   exact I1.z9 hle (I1.aH.fresh hle)
def cU9(K:PySem.W.Frag)(ta:TA):TI:=λσ H R=>ta σ H λvs H1=>∃a,vs=[.ref a]/\(∃xs,bN K H1 a xs)/\R (GS K a) H1
theorem by2:bootBuiltins "enumerate"=some (.type "enumerate"):=by decide +kernel
theorem cw0(hg:Gl X "enumerate")(hm:X.mg "enumerate"=none)(ha:PA X [a] ta)(hs:starEach [a] X.env=[(false,eval a X.env)]:=by rfl) :
  PI X (.Tuple elts x1 nM) (.Call (.Name "enumerate" p) [a] [] pos) (cU9 X.K ta):=by
 intro pins s σ H R I h;refine Call_ (rf I hg hm by2 (zy (aU (ha pos pins s σ H _ I h) λus s1 zq=>?_) hs rfl));obtain⟨vs,H1,I1,r1,q1⟩:=zq;obtain⟨a,e,⟨xs,hx⟩,q⟩:=q1;subst e
 cases r1 with
 | cons r rr =>
  cases rr;cases r;obtain⟨as,ra,pa,_⟩:=I1.list hx;refine call_enumerate_list pa.isList λh' hz h1 sz kk=>wpAny_pyIter_enum hz ?_;refine⟨_,[s1.heap.objs.size+1,s1.heap.objs.size],_,_,H1,rfl,I1.kept (t':=s1.toks) kk,b89 a (s1.heap.objs.size+1) s1.heap.objs.size (Nat.succ_ne_self _),⟨⟨_,hz⟩,h1⟩,λc hc=>?_,q⟩;have hle:s1.heap.objs.size<=c:=by
   simp only[cO,iD,or_false]at hc;rcases hc with rfl | rfl<;>omega
  exact I1.z9 hle (I1.aH.fresh hle)
end
end L2
namespace L2
open PySem PySem.Spec PyProof.Rows PySem.W PySem.Calls
section
variable{X:Cx}
def xQ{α:Type}(xs:List α)(lo hi:Option Int):List α:=(xs.drop (HT.dG xs.length 0 lo)).take (HT.dG xs.length xs.length hi-HT.dG xs.length 0 lo)
theorem b71(x:Str)(lo hi:Option Int):Txt.slice x lo hi=⟨(xQ x.cps.toList lo hi).toArray⟩:=by
 have hx:x.length=x.cps.size:=rfl;have e:(Fj lo hi 1 x.length).filterMap (x.cps[·]?)=xQ x.cps.toList lo hi:=by
  obtain⟨h1,h2,h3⟩:=Gh lo hi x.length;have e0:Fj lo hi 1 x.length=sliceRange (sliceBounds lo hi none x.length).1 (sliceBounds lo hi none x.length).2.1 1:=by
   cases lo<;>cases hi<;>rfl
  rw[e0,h1,h2];simp only[sliceRange_one,pick_run];unfold xQ;rw[hx,zw]
 unfold Txt.slice;split
 ·rename_i h;have hl:(Fj lo hi 1 x.length).length=x.length:=by
   rw[cA]at h;exact eq_of_beq h.2
  have hs:(xQ x.cps.toList lo hi)=x.cps.toList:=by
   have e2:HT.dG x.cps.toList.length x.cps.toList.length hi-HT.dG x.cps.toList.length 0 lo=x.length:=by
    obtain⟨h1,h2,h3⟩:=Gh lo hi x.length;have e0:Fj lo hi 1 x.length=sliceRange (sliceBounds lo hi none x.length).1 (sliceBounds lo hi none x.length).2.1 1:=by
     cases lo<;>cases hi<;>rfl
    rw[e0,h1,h2]at hl;simp only[sliceRange_one,bq,bW]at hl;rw[zw,<- hx];omega
   unfold xQ;have le:HT.dG x.cps.toList.length x.cps.toList.length hi<=x.cps.toList.length:=by
    cases hi with
    | none=>simp[HT.dG]
    | some i=>simp only[HT.dG];split<;>omega
   have le2:HT.dG x.cps.toList.length 0 lo<=x.cps.toList.length:=by
    cases lo with
    | none=>simp[HT.dG]
    | some i=>simp only[HT.dG];split<;>omega
   rw[zw,<- hx]at e2 le le2 ⊢;have z:HT.dG x.length 0 lo=0:=by omega
   have z2:HT.dG x.length x.length hi=x.length:=by omega
   rw[z,z2,List.drop_zero,Nat.sub_zero,hx,<- zw,xh]
  rw[hs]
 ·rw[e]
theorem cK1:ue X (λx lo hi H Q=>∃z,x=.str z/\z.length<=sizeLine/\Q (.str ⟨(xQ z.cps.toList lo hi).toArray⟩) H):=by
 intro pins s σ H x v vl vu lo hi sl Q I rx hs pl pu h;obtain⟨z,rfl,hz,q⟩:=h;obtain⟨t,rfl⟩:=rx;refine⟨"str",_,F.slot_str_getitem.lookup,typeIs_str _ _ _,?_⟩;have fin:∀(l u:Option (Int × Tok)),l.map (·.1)=lo->u.map (·.1)=hi->partValue l=vl->partValue u=vu->wpAny (model X.prog X.w) X.A (getItem (.str z t) (.ref sl)) (EP X pins σ Q) X.xe s:=by
  intro l u h1 h2 h3 h4;obtain⟨o,e1,e2,e3⟩:=hs;refine wpAny_getItem_str_slice (l:=l) (u:=u) (st:=none) ⟨o,e1,e2,by rw[e3,h3,h4];rfl⟩ rfl ?_;have e:Txt.slice z lo hi=(if(((none:Option (Int × Tok)).map (·.1)).getD 1==1&&(slicePicked z l u none).length==z.length)=true then z else⟨((slicePicked z l u none).filterMap (z.cps[·]?)).toArray⟩):=by
   unfold Txt.slice slicePicked;rw[h1,h2];rfl
  refine post_val_or_str ⟨?_,λt' k=>?_⟩
  ·rw[<-e];exact ff (Txt.slice_le z _ _) hz
  ·rw[<-e,b71];exact⟨.str _,H,I.tok _,⟨_,rfl⟩,q⟩
 cases pl with
 | none =>
  cases pu with
  | none=>exact fin none none rfl rfl rfl rfl
  | int j tj=>exact fin none (some (j,tj)) rfl rfl rfl rfl
 | int i ti =>
  cases pu with
  | none=>exact fin (some (i,ti)) none rfl rfl rfl rfl
  | int j tj=>exact fin (some (i,ti)) (some (j,tj)) rfl rfl rfl rfl
end
end L2
namespace L3
open PySem L2
def jo:HO->Bool
 | .dF _=>false
 | _=>true
structure ah(H H':Hp):Prop where
 get:∀b o,H b=some o->(h:jo o=true:=by rfl)->H' b=some o
 tb:∀b ps,H b=some (.dF ps)->∃more,H' b=some (.dF (ps++more))
instance {H H':Hp}:CoeFun (ah H H') λ_=>∀b o,H b=some o->(h:jo o=true:=by rfl)->H' b=some o:=⟨λs=>@ah.get _ _ s⟩
theorem GU(h:jo o=false):∃ps,o=.dF ps:=by
 cases o with
 | dF ps=>exact⟨ps,rfl⟩
 | _=>cases h
theorem ah.of(h:∀b o,H b=some o->H' b=some o):ah H H':=⟨λb o e _=>h b o e,λb ps e=>⟨#[],by rw[h b _ e];simp⟩⟩
theorem ah.refl(H:Hp):ah H H:=.of λ_ _ h=>h
theorem ah.trans(a:ah H H1)(b:ah H1 H2):ah H H2 :=
 ⟨λc o h n=>b.get c o (a.get c o h n) n,λc ps h=>by
  obtain⟨m1,e1⟩:=a.tb c ps h;obtain⟨m2,e2⟩:=b.tb c _ e1;exact⟨m1++m2,by rw[e2,zu]⟩⟩
theorem ah.any(e:ah H H')(h:H l=some o):∃o',H' l=some o':=by
 cases n:jo o with
 | true=>exact⟨o,e.get l o h n⟩
 | false =>
  obtain⟨ps,rfl⟩:=GU n;obtain⟨m,q⟩:=e.tb l ps h;exact⟨_,q⟩
theorem ah.free(e:ah H H')(h:H' l=Option.none):H l=Option.none:=by
 cases q:H l with
 | none=>rfl
 | some o =>
  obtain⟨o',z⟩:=e.any q;rw[z]at h;cases h
inductive pB where
 | ext (φ:Addr->Heap->Prop)
 | lam (of oc:Obj) (c k:Addr)
 | nR (C:Addr) (nm:Str) (n:Int)
instance:Coe (Addr->Heap->Prop) pB:=⟨.ext⟩
def GV(H:Hp)(k:Addr):Prop:=∃ψ,H k=some (.ext ψ)/\∀h,ψ h->∃q,h.CodeRec (.ref k) q
def kB(of oc:Obj)(c p:Addr):Heap->Prop:=λh=>h.get? p=some of/\h.get? c=some oc
structure Az(H:Hp)(p:Addr)(of oc:Obj)(c k:Addr):Prop where
 fn:H p=some (.ext (kB of oc c p))
 cell:H c=some (.own p)
 NP:GV H k
def rm(a C dx:Addr)(h:Heap):Prop:=∃o,h.get? a=some o/\o.cls=.ref C/\PySem.W.notCls o=true/\o.dict=some dx
def kC(nm:Str)(n:Int)(dx:Addr)(h:Heap):Prop:=∃od tk,h.get? dx=some od/\PySem.W.lookIn nm od=some (some (.int n tk))
def lL(H:Hp)(p:Addr):pB->Prop
 | .ext φ=>H p=some (.ext (φ p))
 | .lam of oc c k=>Az H p of oc c k
 | .nR C nm n=>∃dx,H p=some (.ext (rm p C dx))/\H dx=some (.ext (kC nm n dx))
theorem lL.mono:∀{z:pB},lL H p z->(∀a o,H a=some o->(∀ws,o≠.lst ws)->jo o=true->H' a=some o)->lL H' p z
 | .ext φ,x,k=>k _ _ x (λws q=>by cases q) rfl
 | .lam of oc c k',x,k=>⟨k _ _ x.fn (λws q=>by cases q) rfl,k _ _ x.cell (λws q=>by cases q) rfl,let⟨ψ,e,h⟩:=x.NP;⟨ψ,k _ _ e (λws q=>by cases q) rfl,h⟩⟩
 | .nR C nm n,⟨dx,x,y⟩,k=>⟨dx,k _ _ x (λws q=>by cases q) rfl,k _ _ y (λws q=>by cases q) rfl⟩
inductive D where
 | aA | bl (b:Bool) | int (i:Int) | str (x:Str)
 | lst (o:Bool) (xs:List D)
 | tup (xs:List D)
 | obj (C:Addr) (ns:List Str) (xs:List D)
 | fz (xs:List D)
 | bt (z:pB)
 deriving Inhabited
def D.pl:D->Bool
 | .lst o xs=>!o&&AA xs
 | .tup xs=>AA xs
 | _=>true
where AA:List D->Bool
 | []=>true
 | d::ds=>d.pl&&AA ds
def D.fr:D->Bool
 | .lst o xs=>o&&AB xs
 | .tup xs=>AB xs
 | .obj _ _ _=>false
 | .fz _=>false
 | _=>true
where AB:List D->Bool
 | []=>true
 | d::ds=>d.fr&&AB ds
def D.sh:D->D
 | .lst _ xs=>.lst false (AD xs)
 | .tup xs=>.tup (AD xs)
 | d=>d
where AD:List D->List D
 | []=>[]
 | d::ds=>d.sh::AD ds
theorem NQ(ds:List D):D.pl.AA ds=ds.all D.pl:=by induction ds with | nil=>rfl | cons d ds ih=>simp[D.pl.AA,ih]
theorem NR(ds:List D):D.fr.AB ds=ds.all D.fr:=by induction ds with | nil=>rfl | cons d ds ih=>simp[D.fr.AB,ih]
theorem NS(ds:List D):D.sh.AD ds=ds.map D.sh:=by induction ds with | nil=>rfl | cons d ds ih=>simp[D.sh.AD,ih]
theorem eO(o:Bool)(xs:List D):(D.lst o xs).pl=(!o&&xs.all D.pl):=by simp[D.pl,NQ]
theorem kD(xs:List D):(D.tup xs).pl=xs.all D.pl:=by simp[D.pl,NQ]
theorem kE(o:Bool)(xs:List D):(D.lst o xs).fr=(o&&xs.all D.fr):=by simp[D.fr,NR]
theorem rn(xs:List D):(D.tup xs).fr=xs.all D.fr:=by simp[D.fr,NR]
theorem dX(o:Bool)(xs:List D):(D.lst o xs).sh=.lst false (xs.map D.sh):=by simp[D.sh,NS]
theorem mI(xs:List D):(D.tup xs).sh=.tup (xs.map D.sh):=by simp[D.sh,NS]
inductive R(F H:Hp):List D->List V->List Addr->Prop
 | nil:R F H [] [] []
 | aA {ds vs B}:R F H ds vs B->R F H (.aA::ds) (.aA::vs) B
 | bl {b ds vs B}:R F H ds vs B->R F H (.bl b::ds) (.bl b::vs) B
 | int {i ds vs B}:R F H ds vs B->R F H (.int i::ds) (.int i::vs) B
 | str {x ds vs B}:R F H ds vs B->R F H (.str x::ds) (.str x::vs) B
 | shr {p ws xs ds vs B}:F p=some (.lst ws)->R F H xs ws []->R F H ds vs B->R F H (.lst false xs::ds) (.ref p::vs) B
 | own {p ws xs A ds vs B}:H p=some (.lst ws)->F p=none->R F H xs ws A->R F H ds vs B->R F H (.lst true xs::ds) (.ref p::vs) (p::(A++B))
 | tup {p ws xs A ds vs B}:H p=some (.tup ws)->R F H xs ws A->R F H ds vs B->R F H (.tup xs::ds) (.ref p::vs) (A++B)
 | obj {p C dx ns ws xs ds vs B}:H p=some (.ins C dx (ns.zip ws))->ns.length=ws.length->R F H xs ws []->R F H ds vs B->R F H (.obj C ns xs::ds) (.ref p::vs) B
 | fz {p o ws xs ds vs B}:F p=some (.cV o (.lst ws))->R F H xs ws []->R F H ds vs B->R F H (.fz xs::ds) (.ref p::vs) B
 | bt {p z ds vs B}:lL H p z->R F H ds vs B->R F H (.bt z::ds) (.ref p::vs) B
inductive S(F H:Hp):List D->List V->Prop
 | nil:S F H [] []
 | aA {ds vs}:S F H ds vs->S F H (.aA::ds) (.aA::vs)
 | bl {b ds vs}:S F H ds vs->S F H (.bl b::ds) (.bl b::vs)
 | int {i ds vs}:S F H ds vs->S F H (.int i::ds) (.int i::vs)
 | str {x ds vs}:S F H ds vs->S F H (.str x::ds) (.str x::vs)
 | shr {p ws xs ds vs}:F p=some (.lst ws)->R F H xs ws []->S F H ds vs->S F H (.lst false xs::ds) (.ref p::vs)
 | own {p ws xs ds vs}:H p=some (.lst ws)->S F H xs ws->S F H ds vs->S F H (.lst true xs::ds) (.ref p::vs)
 | tup {p ws xs ds vs}:H p=some (.tup ws)->S F H xs ws->S F H ds vs->S F H (.tup xs::ds) (.ref p::vs)
 | obj {p C dx ns ws xs ds vs}:H p=some (.ins C dx (ns.zip ws))->ns.length=ws.length->R F H xs ws []->S F H ds vs->S F H (.obj C ns xs::ds) (.ref p::vs)
 | fz {p o ws xs ds vs}:F p=some (.cV o (.lst ws))->R F H xs ws []->S F H ds vs->S F H (.fz xs::ds) (.ref p::vs)
 | bt {p z ds vs}:lL H p z->S F H ds vs->S F H (.bt z::ds) (.ref p::vs)
section
variable{F F' H H':Hp}{d:D}{ds es:List D}{v:V}{vs ws:List V}{A B:List Addr}
theorem R.length(r:R F H ds vs A):ds.length=vs.length:=by
 induction r<;>simp_all
theorem S.length(r:S F H ds vs):ds.length=vs.length:=by
 induction r<;>simp_all
theorem R.mJ(r:R F H [] vs A):vs=[]/\A=[]:=by cases r;exact⟨rfl,rfl⟩
def Rv(F H:Hp)(ds:List D)(v:V)(vs:List V)(B:List Addr):D->Prop
 | .lst true xs=>∃p ws A B',v=.ref p/\H p=some (.lst ws)/\F p=none/\R F H xs ws A/\R F H ds vs B'/\B=p::(A++B')
 | .tup xs=>∃p ws A B',v=.ref p/\H p=some (.tup ws)/\R F H xs ws A/\R F H ds vs B'/\B=A++B'
 | _=>R F H ds vs B
theorem R.rv{ds:List D}(r:R F H (d::ds) (v::vs) B):Rv F H ds v vs B d:=by
 cases r with
 | aA q=>exact q
 | bl q=>exact q
 | int q=>exact q
 | str q=>exact q
 | shr _ _ q=>exact q
 | own h f x q=>exact⟨_,_,_,_,rfl,h,f,x,q,rfl⟩
 | tup h x q=>exact⟨_,_,_,_,rfl,h,x,q,rfl⟩
 | obj _ _ _ q=>exact q
 | fz _ _ q=>exact q
 | bt _ q=>exact q
theorem R.cons(r:R F H [d] [v] A)(q:R F H ds vs B):R F H (d::ds) (v::vs) (A++B):=by
 cases r with
 | aA r=>rw[r.mJ.2];exact .aA q
 | bl r=>rw[r.mJ.2];exact .bl q
 | int r=>rw[r.mJ.2];exact .int q
 | str r=>rw[r.mJ.2];exact .str q
 | shr h x r=>rw[r.mJ.2];exact .shr h x q
 | own h f x r=>rw[r.mJ.2,fY];exact R.own h f x q
 | tup h x r=>rw[r.mJ.2,fY];exact R.tup h x q
 | obj h l x r=>rw[r.mJ.2];exact .obj h l x q
 | fz h x r=>rw[r.mJ.2];exact .fz h x q
 | bt h r=>rw[r.mJ.2];exact .bt h q
theorem R.dA(r:R F H (d::ds) vs A):∃v cW A1 A2,vs=v::cW/\A=A1++A2/\R F H [d] [v] A1/\R F H ds cW A2:=by
 cases r with
 | aA r=>exact⟨_,_,[],_,rfl,rfl,.aA .nil,r⟩
 | bl r=>exact⟨_,_,[],_,rfl,rfl,.bl .nil,r⟩
 | int r=>exact⟨_,_,[],_,rfl,rfl,.int .nil,r⟩
 | str r=>exact⟨_,_,[],_,rfl,rfl,.str .nil,r⟩
 | shr h x r=>exact⟨_,_,[],_,rfl,rfl,.shr h x .nil,r⟩
 | @own p _ _ A1 _ _ B1 h f x r=>exact⟨_,_,p::A1,B1,rfl,rfl,by simpa using R.own h f x .nil,r⟩
 | @tup p _ _ A1 _ _ B1 h x r=>exact⟨_,_,A1,B1,rfl,rfl,by simpa using R.tup h x .nil,r⟩
 | obj h l x r=>exact⟨_,_,[],_,rfl,rfl,.obj h l x .nil,r⟩
 | fz h x r=>exact⟨_,_,[],_,rfl,rfl,.fz h x .nil,r⟩
 | bt h r=>exact⟨_,_,[],_,rfl,rfl,.bt h .nil,r⟩
theorem S.cons(r:S F H [d] [v])(q:S F H ds vs):S F H (d::ds) (v::vs):=by
 cases r with
 | aA r=>exact .aA q
 | bl r=>exact .bl q
 | int r=>exact .int q
 | str r=>exact .str q
 | shr h x r=>exact .shr h x q
 | own h x r=>exact .own h x q
 | tup h x r=>exact .tup h x q
 | obj h l x r=>exact .obj h l x q
 | fz h x r=>exact .fz h x q
 | bt h r=>exact .bt h q
theorem S.dA(r:S F H (d::ds) vs):∃v cW,vs=v::cW/\S F H [d] [v]/\S F H ds cW:=by
 cases r with
 | aA r=>exact⟨_,_,rfl,.aA .nil,r⟩
 | bl r=>exact⟨_,_,rfl,.bl .nil,r⟩
 | int r=>exact⟨_,_,rfl,.int .nil,r⟩
 | str r=>exact⟨_,_,rfl,.str .nil,r⟩
 | shr h x r=>exact⟨_,_,rfl,.shr h x .nil,r⟩
 | own h x r=>exact⟨_,_,rfl,.own h x .nil,r⟩
 | tup h x r=>exact⟨_,_,rfl,.tup h x .nil,r⟩
 | obj h l x r=>exact⟨_,_,rfl,.obj h l x .nil,r⟩
 | fz h x r=>exact⟨_,_,rfl,.fz h x .nil,r⟩
 | bt h r=>exact⟨_,_,rfl,.bt h .nil,r⟩
theorem R.append:∀{ds:List D} {vs:List V} {A:List Addr},R F H ds vs A->R F H es ws B->R F H (ds++es) (vs++ws) (A++B)
 | [],_,_,r,q=>by cases r;exact q
 | d::ds,_,_,r,q=>by
  obtain⟨v,cW,A1,A2,rfl,rfl,h1,h2⟩:=r.dA;simpa using h1.cons (R.append h2 q)
theorem S.append:∀{ds:List D} {vs:List V},S F H ds vs->S F H es ws->S F H (ds++es) (vs++ws)
 | [],_,r,q=>by cases r;exact q
 | d::ds,_,r,q=>by
  obtain⟨v,cW,rfl,h1,h2⟩:=r.dA;exact h1.cons (S.append h2 q)
theorem R.split:∀{ds:List D} {vs:List V} {A:List Addr},R F H (ds++es) vs A->∃v1 v2 A1 A2,vs=v1++v2/\A=A1++A2/\R F H ds v1 A1/\R F H es v2 A2
 | [],vs,A,r=>⟨[],vs,[],A,rfl,rfl,.nil,r⟩
 | d::ds,_,_,r=>by
  obtain⟨v,cW,A1,A2,rfl,rfl,h1,h2⟩:=R.dA (ds:=ds++es) r;obtain⟨v1,v2,B1,B2,rfl,rfl,h3,h4⟩:=R.split (ds:=ds) h2;exact⟨v::v1,v2,A1++B1,B2,rfl,by simp,h1.cons h3,h4⟩
theorem R.get:∀{ds:List D} {vs:List V} {A:List Addr} {i:Nat},R F H ds vs A->ds[i]?=some d->∃v A1,vs[i]?=some v/\R F H [d] [v] A1/\A1 ⊆ A
 | [],_,_,_,_,e=>by simp at e
 | d'::ds,_,_,i,r,e=>by
  obtain⟨v,cW,A1,A2,rfl,rfl,h1,h2⟩:=r.dA
  cases i with
  | zero=>simp at e;subst e;exact⟨v,A1,rfl,h1,by simp⟩
  | succ i =>
   obtain⟨w,B1,e2,q,sb⟩:=R.get (ds:=ds) (i:=i) h2 (by simpa using e);exact⟨w,B1,by simpa using e2,q,λx hx=>fN _ (sb hx)⟩
theorem S.get:∀{ds:List D} {vs:List V} {i:Nat},S F H ds vs->ds[i]?=some d->∃v,vs[i]?=some v/\S F H [d] [v]
 | [],_,_,_,e=>by simp at e
 | d'::ds,_,i,r,e=>by
  obtain⟨v,cW,rfl,h1,h2⟩:=r.dA
  cases i with
  | zero=>simp at e;subst e;exact⟨v,rfl,h1⟩
  | succ i =>
   obtain⟨w,e2,q⟩:=S.get (ds:=ds) (i:=i) h2 (by simpa using e);exact⟨w,by simpa using e2,q⟩
theorem S.get':∀{ds:List D} {vs:List V} {i:Nat},S F H ds vs->vs[i]?=some v->∃d,ds[i]?=some d/\S F H [d] [v]
 | [],_,_,r,e=>by cases r;simp at e
 | d'::ds,_,i,r,e=>by
  obtain⟨v,cW,rfl,h1,h2⟩:=r.dA
  cases i with
  | zero=>simp at e;subst e;exact⟨d',rfl,h1⟩
  | succ i =>
   obtain⟨w,e2,q⟩:=S.get' (ds:=ds) (i:=i) h2 (by simpa using e);exact⟨w,by simpa using e2,q⟩
theorem S.take:∀{ds:List D} {vs:List V} (n:Nat),S F H ds vs->S F H (ds.take n) (vs.take n)
 | _,_,0,r=>by simpa using S.nil
 | [],_,n+1,r=>by cases r;exact .nil
 | d::ds,_,n+1,r=>by
  obtain⟨v,cW,rfl,h1,h2⟩:=r.dA;exact h1.cons (S.take n h2)
theorem S.drop:∀{ds:List D} {vs:List V} (n:Nat),S F H ds vs->S F H (ds.drop n) (vs.drop n)
 | _,_,0,r=>by simpa using r
 | [],_,n+1,r=>by cases r;exact .nil
 | d::ds,_,n+1,r=>by
  obtain⟨v,cW,rfl,h1,h2⟩:=r.dA;exact S.drop n h2
theorem ig(h:Rd F p o)(s:ah F F')(n:jo o=true:=by rfl):Rd F' p o:=by
 rcases h with h | ⟨u,h⟩
 ·exact .inl (s.get _ _ h n)
 ·exact .inr ⟨u,s _ _ h⟩
theorem R.s(r:R F H ds vs A):S F H ds vs:=by
 induction r with
 | nil=>exact .nil
 | aA _ ih=>exact .aA ih
 | bl _ ih=>exact .bl ih
 | int _ ih=>exact .int ih
 | str _ ih=>exact .str ih
 | shr h x _ _ ih=>exact .shr h x ih
 | own h f _ _ i1 i2=>exact .own h i1 i2
 | tup h _ _ i1 i2=>exact .tup h i1 i2
 | obj h l x _ _ ih=>exact .obj h l x ih
 | fz h x _ _ ih=>exact .fz h x ih
 | bt h _ ih=>exact .bt h ih
structure jV(W:List Addr)(H H':Hp):Prop where
 get:∀a o,H a=some o->a ∉ W->(h:jo o=true:=by rfl)->H' a=some o
instance {W:List Addr} {H H':Hp}:CoeFun (jV W H H') λ_=>∀a o,H a=some o->a ∉ W->(h:jo o=true:=by rfl)->H' a=some o:=⟨λs=>@jV.get _ _ _ s⟩
def lM(W:List Addr)(H:Hp):Prop:=∀a∈W,∃ws,H a=some (.lst ws)
theorem R.keep(hf:ah F F')(hb:jV W H H')(hl:lM W H)(r:R F H ds vs A)(hn:∀a∈A,F' a=none)(hd:∀a∈A,a ∉ W):R F' H' ds vs A:=by
 induction r with
 | nil=>exact .nil
 | aA _ ih=>exact .aA (ih hn hd)
 | bl _ ih=>exact .bl (ih hn hd)
 | int _ ih=>exact .int (ih hn hd)
 | str _ ih=>exact .str (ih hn hd)
 | shr h x _ i1 ih=>exact .shr (hf _ _ h) (i1 (by simp) (by simp)) (ih hn hd)
 | own h f _ _ i1 i2 =>
  refine .own (hb _ _ h (hd _ (by simp))) (hn _ (by simp)) (i1 (λa ha=>hn a ?_) λa ha=>hd a ?_) (i2 (λa ha=>hn a ?_) λa ha=>hd a ?_)<;>simp[ha]
 | @tup p ws _ _ _ _ _ h _ _ i1 i2 =>
  refine .tup (hb _ _ h λz=>?_) (i1 (λa ha=>hn a ?_) λa ha=>hd a ?_) (i2 (λa ha=>hn a ?_) λa ha=>hd a ?_)<;>try simp[ha]
  obtain⟨q,e⟩:=hl _ z;rw[h]at e;cases e
 | obj h l x _ i1 ih =>
  refine .obj (hb _ _ h λz=>?_) l (i1 (by simp) (by simp)) (ih hn hd);obtain⟨q,e⟩:=hl _ z;rw[h]at e;cases e
 | fz h x _ i1 ih=>exact .fz (hf _ _ h) (i1 (by simp) (by simp)) (ih hn hd)
 | bt h _ ih =>
  exact .bt (h.mono λa o e n t=>hb.get a o e (λz=>by
   obtain⟨q,e'⟩:=hl _ z;rw[e]at e';cases e';exact n _ rfl) t) (ih hn hd)
theorem jV.same(h:ah H H'):jV [] H H':=⟨λa o e _ n=>h.get a o e n⟩
theorem lM.nil:lM [] H:=λa h=>absurd h (by simp)
theorem R.grow(hf:ah F F')(hb:ah H H')(r:R F H ds vs A)(hn:∀a∈A,F' a=none):R F' H' ds vs A :=
 r.keep hf (jV.same hb) lM.nil hn (by simp)
theorem R.shared(hf:ah F F')(hb:ah H H')(r:R F H ds vs []):R F' H' ds vs []:=r.grow hf hb (by simp)
theorem S.mono(hf:ah F F')(hb:ah H H')(r:S F H ds vs):S F' H' ds vs:=by
 induction r with
 | nil=>exact .nil
 | aA _ ih=>exact .aA ih
 | bl _ ih=>exact .bl ih
 | int _ ih=>exact .int ih
 | str _ ih=>exact .str ih
 | shr h x _ ih=>exact .shr (hf _ _ h) (x.shared hf hb) ih
 | own h _ _ i1 i2=>exact .own (hb _ _ h) i1 i2
 | tup h _ _ i1 i2=>exact .tup (hb _ _ h) i1 i2
 | obj h l x _ ih=>exact .obj (hb _ _ h) l (x.shared hf hb) ih
 | fz h x _ ih=>exact .fz (hf _ _ h) (x.shared hf hb) ih
 | bt h _ ih=>exact .bt (h.mono λa o e _ t=>hb.get a o e t) ih
theorem S.r(s:S F H ds vs)(p:ds.all D.pl=true):R F H ds vs []:=by
 induction s with
 | nil=>exact .nil
 | aA _ ih=>exact .aA (ih (by simpa[D.pl]using p))
 | bl _ ih=>exact .bl (ih (by simpa[D.pl]using p))
 | int _ ih=>exact .int (ih (by simpa[D.pl]using p))
 | str _ ih=>exact .str (ih (by simpa[D.pl]using p))
 | shr h x _ ih=>exact .shr h x (ih (by simp[eO]at p;simpa using p.2))
 | own h _ _ i1 i2=>simp[eO]at p
 | tup h _ _ i1 i2 =>
  rw[bB,kD,cA]at p;simpa using R.tup h (i1 p.1) (i2 p.2)
 | obj h l x _ ih=>exact .obj h l x (ih (by simpa[D.pl]using p))
 | fz h x _ ih=>exact .fz h x (ih (by simpa[D.pl]using p))
 | bt h _ ih=>exact .bt h (ih (by simpa[D.pl]using p))
theorem R.pl(r:R F H ds vs []):ds.all D.pl=true:=by
 generalize e:([]:List Addr)=A at r
 induction r with
 | nil=>rfl
 | aA _ ih=>simp[D.pl];simpa using ih e
 | bl _ ih=>simp[D.pl];simpa using ih e
 | int _ ih=>simp[D.pl];simpa using ih e
 | str _ ih=>simp[D.pl];simpa using ih e
 | shr h x _ i1 ih=>simp only[bB,eO,i1 rfl,ih e];rfl
 | own h f _ _ i1 i2=>cases e
 | tup h _ _ i1 i2 =>
  obtain⟨e1,e2⟩:=Fl.mp e.symm;simp only[bB,kD,i1 e1.symm,i2 e2.symm];rfl
 | obj h l x _ i1 ih=>simp[D.pl];simpa using ih e
 | fz h x _ i1 ih=>simp[D.pl];simpa using ih e
 | bt h _ ih=>simp[D.pl];simpa using ih e
theorem D.C3:∀{d:D},d.pl=true->d.sh=d
 | .aA,_=>rfl
 | .bl _,_=>rfl
 | .int _,_=>rfl
 | .str _,_=>rfl
 | .obj _ _ _,_=>rfl
 | .fz _,_=>rfl
 | .bt _,_=>rfl
 | .lst o xs,h=>by
  rw[eO,cA]at h;have:∀(l:List D),(∀x∈l,x∈xs)->l.all D.pl=true->l.map D.sh=l:=by
   intro l hl hp
   induction l with
   | nil=>rfl
   | cons x l ih =>
    simp only[bB,cA]at hp;have hx:x∈xs:=hl x (by simp);rw[dN,D.C3 hp.1,ih (λy hy=>hl y (by simp[hy])) hp.2]
  rw[dX,this xs (λ_ h=>h) h.2];cases o<;>simp_all
 | .tup xs,h=>by
  rw[kD]at h;have:∀(l:List D),(∀x∈l,x∈xs)->l.all D.pl=true->l.map D.sh=l:=by
   intro l hl hp
   induction l with
   | nil=>rfl
   | cons x l ih =>
    simp only[bB,cA]at hp;have hx:x∈xs:=hl x (by simp);rw[dN,D.C3 hp.1,ih (λy hy=>hl y (by simp[hy])) hp.2]
  rw[mI,this xs (λ_ h=>h) h]
termination_by d=>sizeOf d
theorem mK{l:List D}(h:l.all D.pl=true):l.map D.sh=l:=by
 induction l with
 | nil=>rfl
 | cons x l ih =>
  simp only[bB,cA]at h;rw[dN,D.C3 h.1,ih h.2]
theorem S.frozen(e:ah F H)(s:S F H ds vs):R H H (ds.map D.sh) vs []:=by
 induction s with
 | nil=>exact .nil
 | aA _ ih=>exact .aA ih
 | bl _ ih=>exact .bl ih
 | int _ ih=>exact .int ih
 | str _ ih=>exact .str ih
 | shr h x _ ih =>
  rw[dN,dX,mK x.pl];exact .shr (e _ _ h) (x.shared e (ah.refl _)) ih
 | own h _ _ i1 i2=>rw[dN,dX];exact .shr h i1 i2
 | tup h _ _ i1 i2=>rw[dN,mI];simpa using R.tup h i1 i2
 | obj h l x _ ih=>exact .obj h l (x.shared e (ah.refl _)) ih
 | fz h x _ ih=>exact .fz (e _ _ h) (x.shared e (ah.refl _)) ih
 | bt h _ ih=>exact .bt h ih
def cV(F H:Hp)(A:List Addr):Hp:=λa=>if a∈A then H a else F a
theorem pE(e:ah F H):ah F (cV F H A):=⟨λa o h n=>by unfold cV;split;exact e.get _ _ h n;exact h,λa ps h=>by unfold cV;split;exact e.tb _ _ h;exact⟨#[],by rw[h];simp⟩⟩
theorem cw4(e:ah F H):ah (cV F H A) H:=⟨λa o h n=>by unfold cV at h;split at h;exact h;exact e.get _ _ h n,λa ps h=>by unfold cV at h;split at h;exact⟨#[],by rw[h];simp⟩;exact e.tb _ _ h⟩
theorem NT(h:a ∉ A):cV F H A a=F a:=by unfold cV;rw[if_neg h]
theorem cP1(h:a∈A):cV F H A a=H a:=by unfold cV;rw[if_pos h]
theorem R.cV(e:ah F H)(r:R F H ds vs A):∀A',A ⊆ A'->R (L3.cV F H A') H (ds.map D.sh) vs []:=by
 induction r with
 | nil=>exact λ_ _=>.nil
 | aA _ ih=>exact λA' h=>.aA (ih A' h)
 | bl _ ih=>exact λA' h=>.bl (ih A' h)
 | int _ ih=>exact λA' h=>.int (ih A' h)
 | str _ ih=>exact λA' h=>.str (ih A' h)
 | shr h x _ i1 ih =>
  intro A' hA;rw[dN,dX,mK x.pl];exact .shr (pE e _ _ h) (x.shared (pE e) (ah.refl _)) (ih A' hA)
 | own h f _ _ i1 i2 =>
  intro A' hA;rw[dN,dX];exact .shr ((cP1 (hA (by simp))).trans h) (i1 A' λa ha=>hA (by simp[ha])) (i2 A' λa ha=>hA (by simp[ha]))
 | tup h _ _ i1 i2 =>
  intro A' hA;rw[dN,mI];simpa using R.tup h (i1 A' λa ha=>hA (by simp[ha])) (i2 A' λa ha=>hA (by simp[ha]))
 | obj h l x _ i1 ih=>exact λA' hA=>.obj h l (x.shared (pE e) (ah.refl _)) (ih A' hA)
 | fz h x _ i1 ih=>exact λA' hA=>.fz (pE e _ _ h) (x.shared (pE e) (ah.refl _)) (ih A' hA)
 | bt h _ ih=>exact λA' hA=>.bt h (ih A' hA)
theorem R.lists(r:R F H ds vs A):∀a∈A,(∃ws,H a=some (.lst ws))/\F a=none:=by
 induction r with
 | nil=>simp
 | aA _ ih=>exact ih
 | bl _ ih=>exact ih
 | int _ ih=>exact ih
 | str _ ih=>exact ih
 | shr h x _ i1 ih=>exact ih
 | own h f _ _ i1 i2 =>
  intro a ha;rcases cO.mp ha with rfl | ha
  ·exact⟨⟨_,h⟩,f⟩
  ·exact(cZ.mp ha).elim (i1 a) (i2 a)
 | tup h _ _ i1 i2=>exact λa ha=>(cZ.mp ha).elim (i1 a) (i2 a)
 | obj h l x _ i1 ih=>exact ih
 | fz h x _ i1 ih=>exact ih
 | bt h _ ih=>exact ih
theorem R.GW(r:R F H ds vs A)(hd:ds.all D.fr=true)(e:ah F' F):R F' H ds vs A:=by
 induction r with
 | nil=>exact .nil
 | aA _ ih=>exact .aA (ih (by simpa[D.fr]using hd))
 | bl _ ih=>exact .bl (ih (by simpa[D.fr]using hd))
 | int _ ih=>exact .int (ih (by simpa[D.fr]using hd))
 | str _ ih=>exact .str (ih (by simpa[D.fr]using hd))
 | shr h x _ i1 ih=>simp[kE]at hd
 | own h f _ _ i1 i2 =>
  rw[bB,kE,cA,qS]at hd;exact .own h (e.free f) (i1 hd.1) (i2 hd.2)
 | tup h _ _ i1 i2 =>
  rw[bB,rn,cA]at hd;exact .tup h (i1 hd.1) (i2 hd.2)
 | obj h l x _ i1 ih=>simp[D.fr]at hd
 | fz h x _ i1 ih=>simp[D.fr]at hd
 | bt h _ ih=>exact .bt h (ih (by simpa[D.fr]using hd))
theorem R.inj(r:R F H ds vs A):∀{B:List Addr},R F H ds vs B->A=B:=by
 induction r with
 | nil=>exact λq=>q.mJ.2.symm
 | aA _ ih=>exact λq=>ih q.rv
 | bl _ ih=>exact λq=>ih q.rv
 | int _ ih=>exact λq=>ih q.rv
 | str _ ih=>exact λq=>ih q.rv
 | shr h x _ i1 ih=>exact λq=>ih q.rv
 | own h f _ _ i1 i2 =>
  intro B q;obtain⟨p,ws,A,B',e,h',f',x',q',rfl⟩:=q.rv;cases e;rw[h]at h';cases h';rw[i1 x',i2 q']
 | tup h _ _ i1 i2 =>
  intro B q;obtain⟨p,ws,A,B',e,h',x',q',rfl⟩:=q.rv;cases e;rw[h]at h';cases h';rw[i1 x',i2 q']
 | obj h l x _ i1 ih=>exact λq=>ih q.rv
 | fz h x _ i1 ih=>exact λq=>ih q.rv
 | bt h _ ih=>exact λq=>ih q.rv
theorem R.perm{ps qs:List (D × V)}(hp:ps.Perm qs):∀{A:List Addr},R F H (ps.map (·.1)) (ps.map (·.2)) A->∃A',R F H (qs.map (·.1)) (qs.map (·.2)) A'/\A.Perm A':=by
 induction hp with
 | nil=>exact λr=>⟨_,r,.refl _⟩
 | cons x _ ih =>
  intro A r;obtain⟨v,cW,A1,A2,e,rfl,h1,h2⟩:=R.dA r;obtain⟨rfl,rfl⟩:=mi e;obtain⟨A',r',p⟩:=ih h2;exact⟨A1++A',h1.cons r',p.append_left _⟩
 | swap x y l =>
  intro A r;obtain⟨v,cW,A1,A2,e,rfl,h1,h2⟩:=R.dA r;obtain⟨rfl,rfl⟩:=mi e;obtain⟨v2,NU,B1,B2,e,rfl,h3,h4⟩:=R.dA h2;obtain⟨rfl,rfl⟩:=mi e;exact⟨B1++(A1++B2),h3.cons (h1.cons h4),by rw[<-dk,<- dk];exact qV.append_right _⟩
 | trans _ _ i1 i2 =>
  intro A r;obtain⟨A',r',p⟩:=i1 r;obtain⟨A2,r2,p2⟩:=i2 r';exact⟨A2,r2,p.trans p2⟩
def Full(F H:Hp):Prop:=∀a o,H a=some o->(∀ws,o≠.lst ws)->F a=some o
theorem Full.refl(H:Hp):Full H H:=λ_ _ h _=>h
theorem R.full(hF:Full F H)(hs:ah F H')(r:R F H ds vs A)(e:A=[]):R F H' ds vs []:=by
 induction r with
 | nil=>exact .nil
 | aA _ ih=>exact .aA (ih e)
 | bl _ ih=>exact .bl (ih e)
 | int _ ih=>exact .int (ih e)
 | str _ ih=>exact .str (ih e)
 | shr h x _ i1 ih=>exact .shr h (i1 rfl) (ih e)
 | own h f _ _ i1 i2=>cases e
 | tup h _ _ i1 i2 =>
  obtain⟨e1,e2⟩:=Fl.mp e;exact R.tup (A:=[]) (B:=[]) (hs _ _ (hF _ _ h (by intro ws z;cases z))) (i1 e1) (i2 e2)
 | obj h l x _ i1 ih=>exact .obj (hs _ _ (hF _ _ h (by intro ws z;cases z))) l (i1 rfl) (ih e)
 | fz h x _ i1 ih=>exact .fz h (i1 rfl) (ih e)
 | bt h _ ih=>exact .bt (h.mono λa o e n t=>hs.get a o (hF a o e n) t) (ih e)
open Classical in
def snap(F H:Hp):Hp:=λa=>if(∃o,H a=some o/\∀ws,o≠.lst ws)then H a else F a
theorem um:Full (snap F H) H:=λa o h n=>by unfold snap;rw[if_pos ⟨o,h,n⟩];exact h
theorem rq(e:ah F H):ah F (snap F H):=⟨λa o h n=>by
 unfold snap;split
 ·exact e.get a o h n
 ·exact h,λa ps h=>by
 unfold snap;split
 ·exact e.tb a ps h
 ·exact⟨#[],by rw[h];simp⟩⟩
theorem ch8(e:ah F H):ah (snap F H) H:=⟨λa o h n=>by
 unfold snap at h;split at h
 ·exact h
 ·exact e.get a o h n,λa ps h=>by
 unfold snap at h;split at h
 ·exact⟨#[],by rw[h];simp⟩
 ·exact e.tb a ps h⟩
theorem cc8(e:ah F H)(h:snap F H a=some (.lst ws)):F a=some (.lst ws):=by
 unfold snap at h;split at h
 ·rename_i z;obtain⟨o,h1,h2⟩:=z;rw[h]at h1;exact absurd (dr h1).symm (h2 ws)
 ·exact h
theorem b84(h:H a=some (.lst ws))(n:F a=none):snap F H a=none:=by
 unfold snap;split
 ·rename_i z;obtain⟨o,h1,h2⟩:=z;rw[h]at h1;exact absurd (dr h1).symm (h2 ws)
 ·exact n
end
abbrev Dl:=List (Option D)
inductive RS(F H:Hp):Dl->St->List Addr->Prop
 | nil:RS F H [] [] []
 | aA {δ σ o C}:RS F H δ σ C->RS F H (none::δ) (o::σ) C
 | gO {d v A δ σ C}:R F H [d] [v] A->RS F H δ σ C->RS F H (some d::δ) (some v::σ) (A++C)
theorem jW{A B:List Addr}:(A++B).Nodup↔A.Nodup/\B.Nodup/\∀a∈A,a ∉ B:=by
 rw[List.nodup_append];constructor
 ·rintro⟨h1,h2,h3⟩;exact⟨h1,h2,λa ha hb=>h3 a ha a hb rfl⟩
 ·rintro⟨h1,h2,h3⟩;exact⟨h1,h2,λa ha b hb e=>h3 a ha (e ▸ hb)⟩
section
variable{F F' H H':Hp}{d:D}{v:V}{δ:Dl}{σ:St}{A C:List Addr}{i:Nat}
theorem RS.length(r:RS F H δ σ C):δ.length=σ.length:=by induction r<;>simp_all
theorem RS.pick:∀{δ:Dl} {σ:St} {C:List Addr} {i:Nat},RS F H δ σ C->δ[i]?=some (some d)->∃v A C',σ[i]?=some (some v)/\R F H [d] [v] A/\RS F H (δ.set i none) σ C'/\C.Perm (A++C')
 | _,_,_,_,.nil,e=>by simp at e
 | _,_,_,i,.aA r,e=>by
  cases i with
  | zero=>simp at e
  | succ i =>
   obtain⟨v,A,C',e1,h1,h2,p⟩:=RS.pick r (by simpa using e);exact⟨v,A,C',by simpa using e1,h1,.aA h2,p⟩
 | _,_,_,i,.gO (A:=A0) (C:=C0) h r,e=>by
  cases i with
  | zero =>
   simp at e;subst e;exact⟨_,A0,C0,rfl,h,.aA r,.refl _⟩
  | succ i =>
   obtain⟨v,A,C',e1,h1,h2,p⟩:=RS.pick r (by simpa using e);refine⟨v,A,A0++C',by simpa using e1,h1,.gO h h2,(p.append_left A0).trans ?_⟩;rw[<-dk,<- dk];exact qV.append_right _
theorem RS.fill:∀{δ:Dl} {σ:St} {C:List Addr} {i:Nat},RS F H δ σ C->δ[i]?=some none->σ[i]?=some (some v)->R F H [d] [v] A->∃C',RS F H (δ.set i (some d)) σ C'/\C'.Perm (A++C)
 | _,_,_,_,.nil,e,_,_=>by simp at e
 | _,_,_,i,.aA r,e,e2,h=>by
  cases i with
  | zero=>simp at e2;subst e2;exact⟨_,.gO h r,.refl _⟩
  | succ i =>
   obtain⟨C',h1,p⟩:=RS.fill r (by simpa using e) (by simpa using e2) h;exact⟨C',.aA h1,p⟩
 | _,_,_,i,.gO (A:=A0) (C:=C0) h0 r,e,e2,h=>by
  cases i with
  | zero=>simp at e
  | succ i =>
   obtain⟨C',h1,p⟩:=RS.fill r (by simpa using e) (by simpa using e2) h;refine⟨A0++C',.gO h0 h1,(p.append_left A0).trans ?_⟩;rw[<-dk,<- dk];exact qV.append_right _
theorem RS.drop:∀{δ:Dl} {σ:St} {C:List Addr} (i:Nat),RS F H δ σ C->∃C',RS F H (δ.set i none) σ C'/\C'.Sublist C
 | _,_,_,_,.nil=>⟨_,.nil,.refl _⟩
 | _,_,_,i,.aA r=>by
  cases i with
  | zero=>exact⟨_,.aA r,.refl _⟩
  | succ i=>obtain⟨C',h,s⟩:=RS.drop i r;exact⟨C',.aA h,s⟩
 | _,_,_,i,.gO (A:=A0) h0 r=>by
  cases i with
  | zero=>exact⟨_,.aA r,List.sublist_append_right _ _⟩
  | succ i=>obtain⟨C',h,s⟩:=RS.drop i r;exact⟨_,.gO h0 h,(Lm A0).append s⟩
theorem RS.xR:∀{δ:Dl} {σ:St} {C:List Addr} {i:Nat} (o:Option V),RS F H δ σ C->(δ[i]?=some none\/δ[i]?=none)->RS F H δ (σ.set i o) C
 | _,_,_,_,_,.nil,_=>.nil
 | _,_,_,i,_,.aA r,e=>by
  cases i with
  | zero=>exact .aA r
  | succ i=>exact .aA (RS.xR _ r (by simpa using e))
 | _,_,_,i,_,.gO h0 r,e=>by
  cases i with
  | zero=>simp at e
  | succ i=>exact .gO h0 (RS.xR _ r (by simpa using e))
theorem RS.keep(hf:ah F F')(hb:jV W H H')(hl:lM W H)(r:RS F H δ σ C)(hn:∀a∈C,F' a=none)(hd:∀a∈C,a ∉ W):RS F' H' δ σ C:=by
 induction r with
 | nil=>exact .nil
 | aA _ ih=>exact .aA (ih hn hd)
 | gO h _ ih=>exact .gO (h.keep hf hb hl (λa ha=>hn a (by simp[ha])) λa ha=>hd a (by simp[ha])) (ih (λa ha=>hn a (by simp[ha])) λa ha=>hd a (by simp[ha]))
theorem RS.lists(r:RS F H δ σ C):∀a∈C,(∃ws,H a=some (.lst ws))/\F a=none:=by
 induction r with
 | nil=>simp
 | aA _ ih=>exact ih
 | gO h _ ih=>exact λa ha=>(cZ.mp ha).elim (h.lists a) (ih a)
end
structure Bs where
 H0:Hp
 F0:Hp
inductive dq8(H0 F H:Hp)(σ:St)(δ:Dl)(ts:List (D × V)):Prop
 | mk (A C) (r:R F H (ts.map (·.1)) (ts.map (·.2)) A) (s:RS F H δ σ C) (nd:(A++C).Nodup) (fr:∀a∈A++C,H0 a=none)
structure ax(B:Bs)(F H:Hp)(σ:St)(δ:Dl)(ts:List (D × V)):Prop where
 ext:ah F H
 b1:ah B.H0 H
 b2:ah B.F0 F
 b3:∀a ws,F a=some (.lst ws)->B.F0 a=some (.lst ws)\/B.H0 a=none
 own:dq8 B.H0 F H σ δ ts
section
variable{B:Bs}{F F' H H':Hp}{d:D}{v:V}{δ:Dl}{σ:St}{ts ps:List (D × V)}{A C W:List Addr}{i:Nat}{p:Addr}{xs ys:List D}{vs ws:List V}
theorem ax.look(c:ax B F H σ δ ts)(e:δ[i]?=some (some d)):∃v,σ[i]?=some (some v)/\S F H [d] [v]:=by
 obtain⟨A,C,r,s,nd,fr⟩:=c.own;obtain⟨v,A',C',e1,h1,h2,p⟩:=s.pick e;exact⟨v,e1,h1.s⟩
theorem ax.len(c:ax B F H σ δ ts):δ.length=σ.length:=let⟨_,_,_,s,_,_⟩:=c.own;s.length
theorem ax.grow(c:ax B F H σ δ ts)(h:ah H H'):ax B F H' σ δ ts:=by
 obtain⟨A,C,r,s,nd,fr⟩:=c.own;exact⟨c.ext.trans h,c.b1.trans h,c.b2,c.b3,A,C,r.grow (ah.refl _) h λa ha=>(r.lists a ha).2,s.keep (ah.refl _) (jV.same h) lM.nil (λa ha=>(s.lists a ha).2) (by simp),nd,fr⟩
theorem ax.pop(c:ax B F H σ δ ((d,v)::ts)):ax B F H σ δ ts:=by
 obtain⟨A,C,r,s,nd,fr⟩:=c.own;obtain⟨w,cW,A1,A2,e,rfl,h1,h2⟩:=R.dA r;obtain⟨rfl,rfl⟩:=mi e;refine⟨c.ext,c.b1,c.b2,c.b3,A2,C,h2,s,?_,λa ha=>fr a (by simp at ha ⊢;exact .inr ha)⟩;rw[dk]at nd;exact(jW.mp nd).2.1
theorem ax.top(c:ax B F H σ δ ((d,v)::ts)):S F H [d] [v]:=by
 obtain⟨A,C,r,s,nd,fr⟩:=c.own;obtain⟨w,cW,A1,A2,e,rfl,h1,h2⟩:=R.dA r;obtain⟨rfl,rfl⟩:=mi e;exact h1.s
theorem ax.pushS(c:ax B F H σ δ ts)(s:S F H [d] [v])(pl:d.pl=true):ax B F H σ δ ((d,v)::ts):=by
 obtain⟨A,C,r,q,nd,fr⟩:=c.own;exact⟨c.ext,c.b1,c.b2,c.b3,A,C,(s.r (by simp[pl])).cons r,q,nd,fr⟩
theorem ah.upd(h:H p=none):ah H (upd H p o):=.of λb u e=>by rw[aZ (dQ e h)];exact e
theorem ax.pack(c:ax B F H σ δ (ps++ts))(hs:ah H H')(k:∀A1,R F H' (ps.map (·.1)) (ps.map (·.2)) A1->A1.Nodup->∃A',R F H' [d] [v] A'/\A'.Nodup/\∀a∈A',a∈A1\/H a=none):ax B F H' σ δ ((d,v)::ts):=by
 obtain⟨A,C,r,s,nd,fr⟩:=c.own;rw[eV,eV]at r;obtain⟨v1,v2,A1,A2,e,rfl,h1,h2⟩:=R.split r;have l1:(ps.map (·.2)).length=v1.length:=by rw[<-h1.length];simp
 obtain⟨rfl,rfl⟩:=Fp e l1;rw[dk]at nd fr;obtain⟨n1,n2,n3⟩:=jW.mp nd;have g1:=h1.grow (ah.refl F) hs λa ha=>(h1.lists a ha).2;have g2:=h2.grow (ah.refl F) hs λa ha=>(h2.lists a ha).2;have gs:=s.keep (ah.refl F) (jV.same hs) lM.nil (λa ha=>(s.lists a ha).2) (by simp);obtain⟨A',r',GX,sub⟩:=k A1 g1 n1;refine⟨c.ext.trans hs,c.b1.trans hs,c.b2,c.b3,A'++A2,C,r'.cons g2,gs,?_,?_⟩
 ·rw[dk];refine jW.mpr ⟨GX,n2,λa ha hb=>?_⟩;rcases sub a ha with z | z
  ·exact n3 a z hb
  ·rcases cZ.mp hb with y | y
   ·obtain⟨⟨_,q⟩,_⟩:=h2.lists a y;rw[z]at q;cases q
   ·obtain⟨⟨_,q⟩,_⟩:=s.lists a y;rw[z]at q;cases q
 ·intro a ha;rw[dk]at ha;rcases cZ.mp ha with y | y
  ·rcases sub a y with z | z
   ·exact fr a (by simp[z])
   ·exact c.b1.free z
  ·exact fr a (fN _ y)
theorem ax.C4(c:ax B F H σ δ ts)(hs:ah H H')(r:R F H' [d] [v] A)(nd:A.Nodup)(fr:∀a∈A,H a=none):ax B F H' σ δ ((d,v)::ts) :=
 ax.pack (ps:=[]) c hs λ_ _ _=>⟨A,r,nd,λa ha=>.inr (fr a ha)⟩
theorem ax.rA(c:ax B F H σ δ ts)(hp:H p=none)(s:S F H xs vs)(pl:xs.all D.pl=true):ax B F (upd H p (.lst vs)) σ δ ((.lst true xs,.ref p)::ts) :=
 c.C4 (ah.upd hp) (A:=[p]) (by simpa using R.own dm (c.ext.free hp) ((s.r pl).shared (ah.refl _) (ah.upd hp)) .nil) (by simp) (by simp[hp])
theorem ax.dq9(c:ax B F H σ δ (ps++ts))(hp:H p=none):ax B F (upd H p (.lst (ps.map (·.2)))) σ δ ((.lst true (ps.map (·.1)),.ref p)::ts):=by
 refine c.pack (ah.upd hp) λA1 r nd=>⟨p::A1,by simpa using R.own dm (c.ext.free hp) r .nil,qP.mpr ⟨λh=>?_,nd⟩,λa ha=>?_⟩
 ·obtain⟨A,C,r0,_,_,_⟩:=c.own;rw[eV,eV]at r0;obtain⟨v1,v2,B1,B2,e,rfl,h1,h2⟩:=R.split r0;have l1:(ps.map (·.2)).length=v1.length:=by rw[<-h1.length];simp
  obtain⟨rfl,rfl⟩:=Fp e l1;have g1:=h1.grow (ah.refl F) (ah.upd (o:=.lst (ps.map (·.2))) hp) λa ha=>(h1.lists a ha).2;have:A1=B1:=R.inj r g1;subst this;obtain⟨⟨_,q⟩,_⟩:=h1.lists p h;rw[hp]at q;cases q
 ·rcases cO.mp ha with rfl | h
  ·exact .inr hp
  ·exact .inl h
theorem ax.NV(c:ax B F H σ δ (ps++ts))(hp:H p=none):ax B F (upd H p (.tup (ps.map (·.2)))) σ δ ((.tup (ps.map (·.1)),.ref p)::ts) :=
 c.pack (ah.upd hp) λA1 r nd=>⟨A1,by simpa using R.tup (F:=F) dm r .nil,nd,λa ha=>.inl ha⟩
theorem ax.perm(c:ax B F H σ δ ps)(h:ps.Perm ts):ax B F H σ δ ts:=by
 obtain⟨A,C,r,s,nd,fr⟩:=c.own;obtain⟨A',r',p⟩:=r.perm h;have pp:=p.append_right C;exact⟨c.ext,c.b1,c.b2,c.b3,A',C,r',s,pp.nodup_iff.mp nd,λa ha=>fr a (pp.mem_iff.mpr ha)⟩
theorem ax.move(c:ax B F H σ δ ts)(e:δ[i]?=some (some d)):∃v,σ[i]?=some (some v)/\ax B F H σ (δ.set i none) ((d,v)::ts):=by
 obtain⟨A,C,r,s,nd,fr⟩:=c.own;obtain⟨v,A',C',e1,h1,h2,p⟩:=s.pick e;have pp:(A++C).Perm ((A'++A)++C'):=by
  refine(p.append_left A).trans ?_;rw[<-dk];exact qV.append_right _
 exact⟨v,e1,c.ext,c.b1,c.b2,c.b3,A'++A,C',h1.cons r,h2,pp.nodup_iff.mp nd,λa ha=>fr a (pp.mem_iff.mpr ha)⟩
theorem ax.forget(c:ax B F H σ δ ts)(i:Nat):ax B F H σ (δ.set i none) ts:=by
 obtain⟨A,C,r,s,nd,fr⟩:=c.own;obtain⟨C',h,sb⟩:=s.drop i;exact⟨c.ext,c.b1,c.b2,c.b3,A,C',r,h,nd.sublist ((Lm A).append sb),λa ha=>fr a (((Lm A).append sb).subset ha)⟩
theorem ax.fill(c:ax B F H σ δ ((d,v)::ts))(e:δ[i]?=some none)(e2:σ[i]?=some (some v)):ax B F H σ (δ.set i (some d)) ts:=by
 obtain⟨A,C,r,s,nd,fr⟩:=c.own;obtain⟨w,cW,A1,A2,e',rfl,h1,h2⟩:=R.dA r;obtain⟨rfl,rfl⟩:=mi e';obtain⟨C',s',p⟩:=s.fill e e2 h1;have pp:((A1++A2)++C).Perm (A2++C'):=by
  refine((qV (l₁:=A1) (l₂:=A2)).append_right C).trans ?_;rw[dk];exact(p.symm).append_left A2
 exact⟨c.ext,c.b1,c.b2,c.b3,A2,C',h2,s',pp.nodup_iff.mp nd,λa ha=>fr a (pp.mem_iff.mpr ha)⟩
theorem ax.xR(c:ax B F H σ δ ts)(o:Option V)(e:δ[i]?=some none\/δ[i]?=none):ax B F H (σ.set i o) δ ts:=by
 obtain⟨A,C,r,s,nd,fr⟩:=c.own;exact⟨c.ext,c.b1,c.b2,c.b3,A,C,r,s.xR o e,nd,fr⟩
theorem ax.store(c:ax B F H σ δ ((d,v)::ts))(i:Nat):ax B F H (σ.set i (some v)) (δ.set i (some d)) ts:=by
 by_cases hi:i<δ.length
 ·have c1:=c.forget i;have hs:i<σ.length:=by rw[<-c.len];exact hi
  have e:(δ.set i none)[i]?=some none:=by simp[hi]
  have c2:=(c1.xR (some v) (.inl e)).fill (i:=i) e (by simp[hs])
  rwa [xi]at c2
 ·have hs:¬ i<σ.length:=by rw[<-c.len];exact hi
  rw[Zx (by omega),Zx (by omega)];exact c.pop
theorem ax.mut(c:ax B F H σ δ (ps++ts))(e:δ[i]?=some (some (.lst true xs)))(e2:σ[i]?=some (some (.ref p)))
  (k:∀ws A1 A2,H p=some (.lst ws)->R F H xs ws A1->R F H (ps.map (·.1)) (ps.map (·.2)) A2->(A1++A2).Nodup->∃A',R F H ys vs A'/\A'.Nodup/\∀a∈A',a∈A1++A2) :
  ax B F (upd H p (.lst vs)) σ (δ.set i (some (.lst true ys))) ts:=by
 have hi:i<δ.length:=(jh.mp e).1;obtain⟨v,e3,c1⟩:=c.move e;rw[e2]at e3;cases e3;obtain⟨A,C,r,s,nd,fr⟩:=c1.own;have r':R F H (([.lst true xs]++ps.map (·.1))++ts.map (·.1)) ((.ref p::ps.map (·.2))++ts.map (·.2)) A:=by simpa using r
 obtain⟨v1,v2,A1,A2,e4,rfl,h1,h2⟩:=R.split r';have l1:(V.ref p::ps.map (·.2)).length=v1.length:=by rw[<-h1.length];simp
 obtain⟨rfl,rfl⟩:=Fp e4 l1;obtain⟨p',GY,B1,B2,ep,hH,hF,hx,hr,rfl⟩:=h1.rv;cases ep
 ·skip
  rw[dk]at nd fr;obtain⟨n1,n2,n3⟩:=jW.mp nd;obtain⟨m1,m2⟩:=qP.mp n1;obtain⟨A',ra,nda,sub⟩:=k GY B1 B2 hH hx hr m2;have pA:p ∉ A':=λz=>m1 (sub _ z);have pR:p ∉ A2++C:=λz=>n3 p (by simp) z;have but:jV [p] H (upd H p (.lst vs)):=⟨λa o q z _=>by rw[aZ (by simpa using z)];exact q⟩;have hl:lM [p] H:=λa ha=>by rw[eT.mp ha];exact⟨_,hH⟩
  have g1:=ra.keep (ah.refl F) but hl (λa ha=>(ra.lists a ha).2) λa ha z=>pA (by rw[<-eT.mp z];exact ha);have g2:=h2.keep (ah.refl F) but hl (λa ha=>(h2.lists a ha).2) λa ha z=>pR (by rw[<-eT.mp z];exact gE _ ha);have gs:=s.keep (ah.refl F) but hl (λa ha=>(s.lists a ha).2) λa ha z=>pR (by rw[<-eT.mp z];exact fN _ ha);have fp:B.H0 p=none:=fr p (by simp);have b1:ah B.H0 (upd H p (.lst vs)):=⟨λa o q n=>by
   rw[aZ (λz=>by rw[z,fp]at q;cases q)];exact c1.b1.get a o q n,λa ps q=>by
   rw[aZ (λz=>by rw[z,fp]at q;cases q)];exact c1.b1.tb a ps q⟩
  have ext:ah F (upd H p (.lst vs)):=⟨λa o q n=>by
   rw[aZ (λz=>by rw[z,hF]at q;cases q)];exact c1.ext.get a o q n,λa ps q=>by
   rw[aZ (λz=>by rw[z,hF]at q;cases q)];exact c1.ext.tb a ps q⟩
  have c2:ax B F (upd H p (.lst vs)) σ (δ.set i none) ((.lst true ys,.ref p)::ts):=by
   refine⟨ext,b1,c1.b2,c1.b3,(p::A')++A2,C,R.cons (by simpa using R.own dm hF g1 .nil) g2,gs,?_,?_⟩
   ·rw[dk];refine jW.mpr ⟨qP.mpr ⟨pA,nda⟩,n2,λa ha hb=>?_⟩;rcases cO.mp ha with rfl | ha
    ·exact pR hb
    ·exact n3 a (iB _ (sub a ha)) hb
   ·intro a ha;rw[dk]at ha;rcases cZ.mp ha with z | z
    ·rcases cO.mp z with rfl | z
     ·exact fp
     ·exact fr a (gE _ (iB _ (sub a z)))
    ·exact fr a (fN _ z)
  have c3:=c2.fill (i:=i) (by simp[hi]) e2
  rwa [xi]at c3
theorem ax.C5(c:ax B F H σ δ ((d,v)::ts)):∃F',ah F F'/\ax B F' H σ δ ((d.sh,v)::ts):=by
 obtain⟨A,C,r,s,nd,fr⟩:=c.own;obtain⟨w,cW,A1,A2,e',rfl,h1,h2⟩:=R.dA r;obtain⟨rfl,rfl⟩:=mi e';rw[dk]at nd fr;obtain⟨n1,n2,n3⟩:=jW.mp nd;have out:∀a∈A2++C,cV F H A1 a=F a:=λa ha=>NT λz=>n3 a z ha;have b3:∀a o,cV F H A1 a=some (.lst o)->B.F0 a=some (.lst o)\/B.H0 a=none:=λa o q=>by
  by_cases z:a∈A1
  ·exact .inr (fr a (gE _ z))
  ·rw[NT z]at q;exact c.b3 a o q
 refine⟨cV F H A1,pE c.ext,cw4 c.ext,c.b1,c.b2.trans (pE c.ext),b3,A2,C,?_,?_,n2,λa ha=>fr a (fN _ ha)⟩
 ·have g1:=h1.cV c.ext A1 (λ_ h=>h);exact R.cons (A:=[]) g1 (h2.keep (pE c.ext) (jV.same (ah.refl H)) lM.nil (λa ha=>by rw[out a (gE _ ha)];exact(h2.lists a ha).2) (by simp))
 ·exact s.keep (pE c.ext) (jV.same (ah.refl H)) lM.nil (λa ha=>by rw[out a (fN _ ha)];exact(s.lists a ha).2) (by simp)
theorem ax.freeze(c:ax B F H σ δ ts)(e:δ[i]?=some (some d)):∃F',ah F F'/\ax B F' H σ (δ.set i (some d.sh)) ts:=by
 have hi:i<δ.length:=(jh.mp e).1;obtain⟨v,e2,c1⟩:=c.move e;obtain⟨F',s,c2⟩:=c1.C5;refine⟨F',s,?_⟩;have c3:=c2.fill (i:=i) (by simp[hi]) e2
 rwa [xi]at c3
theorem ax.rebase(c:ax B F H σ δ ts):ax ⟨B.H0,F⟩ F H σ δ ts:=⟨c.ext,c.b1,ah.refl _,λ_ _ q=>.inl q,c.own⟩
theorem ax.dr1(c:ax ⟨B.H0,F1⟩ F H σ δ ts)(h:ah B.F0 F1)(h3:∀a ws,F1 a=some (.lst ws)->B.F0 a=some (.lst ws)\/B.H0 a=none):ax B F H σ δ ts :=
 ⟨c.ext,c.b1,h.trans c.b2,λa o q=>(c.b3 a o q).elim (h3 a o) .inr,c.own⟩
theorem ax.call(c:ax B F H σ δ ts)(hs:ah H H')(hf:ah F F')(he:ah F' H')(h3:∀a ws,F' a=some (.lst ws)->F a=some (.lst ws)\/H a=none)(r:R F' H' [d] [v] A)(nd:A.Nodup)(fr:∀a∈A,H a=none) :
  ax B F' H' σ δ ((d,v)::ts):=by
 obtain⟨A0,C,r0,s,nd0,fr0⟩:=c.own;have no:∀a,(∃ws,H a=some (.lst ws))/\F a=none->F' a=none:=λa zz=>by
  obtain⟨⟨ws,e⟩,n⟩:=zz
  cases q:F' a with
  | none=>rfl
  | some o =>
   have q2:H' a=some o:=by
    cases n:jo o with
    | true=>exact he.get a o q n
    | false =>
     obtain⟨ps,rfl⟩:=GU n;obtain⟨m,z⟩:=he.tb a ps q;rw[hs a _ e]at z;cases z
   rw[hs a _ e]at q2;cases q2;rcases h3 a ws q with z | z
   ·rw[n]at z;cases z
   ·rw[e]at z;cases z
 refine⟨he,c.b1.trans hs,c.b2.trans hf,λa o q=>(h3 a o q).elim (c.b3 a o) λz=>.inr (c.b1.free z),A++A0,C,R.cons r (r0.grow hf hs λa ha=>no a (r0.lists a ha)),
  s.keep hf (jV.same hs) lM.nil (λa ha=>no a (s.lists a ha)) (by simp),?_,?_⟩
 ·rw[dk];refine jW.mpr ⟨nd,nd0,λa ha hb=>?_⟩;have z:=fr a ha;rcases cZ.mp hb with y | y
  ·obtain⟨⟨_,q⟩,_⟩:=r0.lists a y;rw[z]at q;cases q
  ·obtain⟨⟨_,q⟩,_⟩:=s.lists a y;rw[z]at q;cases q
 ·intro a ha;rw[dk]at ha;rcases cZ.mp ha with y | y
  ·exact c.b1.free (fr a y)
  ·exact fr0 a y
theorem ax.inS(c:ax B F H σ δ ((d,v)::ts)):ax B F H (some v::σ) (some d::δ) ts:=by
 obtain⟨A,C,r,s,nd,fr⟩:=c.own;obtain⟨w,cW,A1,A2,e',rfl,h1,h2⟩:=R.dA r;obtain⟨rfl,rfl⟩:=mi e';have pp:((A1++A2)++C).Perm (A2++(A1++C)):=by
  rw[<-dk];exact qV.append_right C
 exact⟨c.ext,c.b1,c.b2,c.b3,A2,A1++C,h2,.gO h1 s,pp.nodup_iff.mp nd,λa ha=>fr a (pp.mem_iff.mpr ha)⟩
theorem ax.dr5(c:ax B F H (some w::σ) (some d::δ) ts):ax B F H σ δ ((d,w)::ts):=by
 obtain⟨A,C,r,s,nd,fr⟩:=c.own
 cases s with
 | @gO _ _ A1 _ _ C1 h1 s =>
  have pp:(A++(A1++C1)).Perm ((A1++A)++C1):=by
   rw[<-dk];exact qV.append_right C1
  exact⟨c.ext,c.b1,c.b2,c.b3,A1++A,C1,R.cons h1 r,s,pp.nodup_iff.mp nd,λa ha=>fr a (pp.mem_iff.mpr ha)⟩
theorem ax.dr6(c:ax B F H σ δ ((d,v)::(.lst true xs,.ref p)::ts))(hp:H p=some (.lst ws)):ax B F (upd H p (.lst (ws++[v]))) σ δ ((.lst true (xs++[d]),.ref p)::ts):=by
 have c1:=(c.perm (List.Perm.swap _ _ _)).inS;refine(ax.mut (ps:=[(d,v)]) (i:=0) (ys:=xs++[d]) (vs:=ws++[v]) c1 rfl rfl λeP A1 A2 h r1 r2 nd=>?_).dr5;rw[hp]at h;cases h;exact⟨A1++A2,r1.append r2,nd,λa ha=>ha⟩
theorem ax.app(c:ax B F H σ δ ((d,v)::ts))(e:δ[i]?=some (some (.lst true xs)))(e2:σ[i]?=some (some (.ref p)))(hp:H p=some (.lst ws)) :
  ax B F (upd H p (.lst (ws++[v]))) σ (δ.set i (some (.lst true (xs++[d])))) ts :=
 ax.mut (ps:=[(d,v)]) c e e2 λeP A1 A2 h r1 r2 nd=>by
  rw[hp]at h;cases h;exact⟨A1++A2,r1.append r2,nd,λa ha=>ha⟩
theorem R.NW:∀{xs:List D} {ws:List V} {A1 A2:List Addr} (j:Nat),R F H xs ws A1->R F H [d] [v] A2->(A1++A2).Nodup->∃A',R F H (xs.set j d) (ws.set j v) A'/\A'.Nodup/\∀a∈A',a∈A1++A2
 | [],_,A1,A2,j,r,q,nd=>by cases r;exact⟨[],.nil,by simp,by simp⟩
 | x::xs,_,A1,A2,j,r,q,nd=>by
  obtain⟨w,eP,B1,B2,rfl,rfl,h1,h2⟩:=r.dA;rw[dk]at nd;obtain⟨n1,n2,n3⟩:=jW.mp nd
  cases j with
  | zero =>
   refine⟨A2++B2,q.cons h2,(qV (l₁:=B2) (l₂:=A2)).nodup_iff.mp n2,λa ha=>?_⟩;simp only[cZ]at ha ⊢;rcases ha with z | z
   ·exact .inr z
   ·exact .inl (.inr z)
  | succ j =>
   obtain⟨A',r',GX,sub⟩:=R.NW j h2 q n2;refine⟨B1++A',h1.cons r',jW.mpr ⟨n1,GX,λa ha hb=>n3 a ha (sub a hb)⟩,λa ha=>?_⟩;rcases cZ.mp ha with z | z
   ·simp[z]
   ·have:=sub a z;simp only[cZ]at this ⊢;rcases this with z | z
    ·exact .inl (.inr z)
    ·exact .inr z
theorem ax.dr7(c:ax B F H σ δ ((d,v)::ts))(e:δ[i]?=some (some (.lst true xs)))(e2:σ[i]?=some (some (.ref p)))(hp:H p=some (.lst ws))(j:Nat) :
  ax B F (upd H p (.lst (ws.set j v))) σ (δ.set i (some (.lst true (xs.set j d)))) ts :=
 ax.mut (ps:=[(d,v)]) c e e2 λeP A1 A2 h r1 r2 nd=>by
  rw[hp]at h;cases h;exact r1.NW j r2 nd
theorem ax.ownAt(c:ax B F H σ δ ts)(e:δ[i]?=some (some (.lst true xs))):∃p ws,σ[i]?=some (some (.ref p))/\H p=some (.lst ws)/\xs.length=ws.length:=by
 obtain⟨v,e1,s⟩:=c.look e
 cases s with
 | own h x _=>exact⟨_,_,e1,h,x.length⟩
theorem RS.start{ds:List D}(r:R F H ds vs [])(n:Nat):RS F H (ds.map some++aM n none) (vs.map some++aM n none) []:=by
 have z:∀n,RS F H (aM n none) (aM n none) []:=λn=>by
  induction n with
  | zero=>exact .nil
  | succ n ih=>exact .aA ih
 have:∀(ds:List D) (vs:List V),R F H ds vs []->RS F H (ds.map some++aM n none) (vs.map some++aM n none) []:=by
  intro ds
  induction ds with
  | nil=>intro vs r;cases r;exact z n
  | cons d ds ih =>
   intro vs r;obtain⟨v,cW,A1,A2,rfl,e,h1,h2⟩:=r.dA;obtain⟨rfl,rfl⟩:=Fl.mp e.symm;exact .gO (A:=[]) h1 (ih _ h2)
 exact this ds vs r
theorem ax.start{ds:List D}(e:ah F H)(r:R F H ds vs [])(n:Nat):ax ⟨H,F⟩ F H (vs.map some++aM n none) (ds.map some++aM n none) [] :=
 ⟨e,ah.refl _,ah.refl _,λ_ _ q=>.inl q,[],[],.nil,RS.start r n,by simp,by simp⟩
theorem ax.snap(c:ax B F H σ δ ts):ax B (L3.snap F H) H σ δ ts:=by
 obtain⟨A,C,r,s,nd,fr⟩:=c.own;have no:∀a,(∃ws,H a=some (.lst ws))/\F a=none->L3.snap F H a=none:=λa ⟨⟨ws,e⟩,n⟩=>b84 e n;exact⟨ch8 c.ext,c.b1,c.b2.trans (rq c.ext),λa ws q=>c.b3 a ws (cc8 c.ext q),A,C,r.grow (rq c.ext) (ah.refl _) λa ha=>no a (r.lists a ha),
  s.keep (rq c.ext) (jV.same (ah.refl _)) lM.nil (λa ha=>no a (s.lists a ha)) (by simp),nd,fr⟩
end
end L3
namespace L3
open PySem L2 PySem.Spec PyProof.Rows
abbrev aK:=Dl->(D->Dl->Prop)->Prop
abbrev fB:=Dl->(Bool->Dl->Prop)->Prop
abbrev b8:=Dl->(List D->Dl->Prop)->Prop
structure XC where
 C:Addr
 C6:Option (Str × Int)
instance:Coe Addr XC:=⟨λC=>⟨C,none⟩⟩
def XD(H:Hp)(c:XC)(dc:Option Addr):Prop:=match c.C6 with
 | none=>dc=none
 | some z=>∃dx,dc=some dx/\H dx=some (.ext (kC z.1 z.2 dx))
structure GZ where
 nx:Dl->Prop
 rt:D->Prop
 bk:Dl->Prop:=λ_=>False
 ct:Dl->Prop:=λ_=>False
 xc:XC->Dl->Prop:=λ_ _=>False
 xr:XC->Dl->Prop:=λ_ _=>False
abbrev bO:=GZ->Dl->Prop
inductive lE(t:aK)(σ:L2.St)(H:Hp)(Q:VK):Prop
 | mk (B F δ ts Qd) (c:ax B F H σ δ ts) (q:t δ Qd) (k:∀d ag v F' H',Qd d ag->ah F F'->ah H H'->ax B F' H' σ ag ((d,v)::ts)->Q v H')
inductive lB(t:aK)(σ:L2.St)(H:Hp)(Q:VK):Prop
 | mk (B F δ ts Qd) (c:ax B F H σ δ ts) (q:t δ Qd) (k:∀d ag v F' H',Qd d ag->ah F F'->ah H H'->ax B F' H' σ ag ts->S F' H' [d] [v]->Q v H')
inductive lT(t:fB)(σ:L2.St)(H:Hp)(Q:Bool->Hp->Prop):Prop
 | mk (B F δ ts Qd) (c:ax B F H σ δ ts) (q:t δ Qd) (k:∀b ag F' H',Qd b ag->ah F F'->ah H H'->ax B F' H' σ ag ts->Q b H')
inductive lA(t:b8)(σ:L2.St)(H:Hp)(Q:List V->Hp->Prop):Prop
 | mk (B F δ ts Qd) (c:ax B F H σ δ ts) (q:t δ Qd) (k:∀ds ag vs F' H',Qd ds ag->ah F F'->ah H H'->ax B F' H' σ ag ts->S F' H' ds vs->Q vs H')
inductive lO(t:b8)(σ:L2.St)(H:Hp)(Q:List V->Hp->Prop):Prop
 | mk (B F δ ts Qd) (c:ax B F H σ δ ts) (q:t δ Qd) (k:∀(ps:List (D × V)) ag F' H',Qd (ps.map (·.1)) ag->ah F F'->ah H H'->ax B F' H' σ ag (ps++ts)->Q (ps.map (·.2)) H')
def XL(X:Cx)(B:Bs)(Dd:GZ):Prop :=
 (∀c dc ag pins aJ F' H' s' a T,Dd.xc c ag->ax B F' H' aJ ag []->Inv X pins aJ H' s'->XD H' c dc->gM s'.heap a T (.ref c.C) dc->Apart X pins H' a->Apart X pins H' T->X.xe (.ref a) s') /\
 (∀c dc ag pins aJ F' H' s' a,Dd.xr c ag->ax B F' H' aJ ag []->Inv X pins aJ H' s'->XD H' c dc->Av s'.heap a (.ref c.C) dc->Apart X pins H' a->X.xe (.ref a) s')
theorem XL.none(h1:∀C δ,¬ Dd.xc C δ)(h2:∀C δ,¬ Dd.xr C δ):XL X B Dd:=⟨λC _ δ _ _ _ _ _ _ _ h=>absurd h (h1 C δ),λC _ δ _ _ _ _ _ _ h=>absurd h (h2 C δ)⟩
structure LK(X:Cx)(B:Bs)(Dd:GZ)(D:Ends):Prop where
 k1:∀ag aJ F' H',Dd.nx ag->ax B F' H' aJ ag []->D.nx aJ H'
 k2:∀d v ag aJ F' H',Dd.rt d->ax B F' H' aJ ag [(d,v)]->D.rt v H'
 k3:∀ag aJ F' H',Dd.bk ag->ax B F' H' aJ ag []->D.bk aJ H'
 k4:(∀ag aJ F' H',Dd.ct ag->ax B F' H' aJ ag []->D.ct aJ H')/\XL X B Dd
inductive lS(X:Cx)(t:bO)(D:Ends)(σ:L2.St)(H:Hp):Prop
 | mk (B F δ Dd) (c:ax B F H σ δ []) (q:t Dd δ) (k:LK X B Dd D)
section
variable{X:Cx}{e a b c:Expr}{es:List Expr}{pos:Pos}{st:Stmt}{kq:List Stmt}
theorem df{t t':TE}(h:PE X e t)(m:∀σ H Q,t' σ H Q->t σ H Q):PE X e t':=λpins s σ H Q I q=>h pins s σ H Q I (m σ H Q q)
theorem G0{t t':TT}(h:PT X e t)(m:∀σ H Q,t' σ H Q->t σ H Q):PT X e t':=λpins s σ H Q I q=>h pins s σ H Q I (m σ H Q q)
theorem NX{t t':TT}(h:PW X e t)(m:∀σ H Q,t' σ H Q->t σ H Q):PW X e t':=λwh pins s σ H Q I q=>h wh pins s σ H Q I (m σ H Q q)
theorem AE{t t':TA}(h:PA X es t)(m:∀σ H Q,t' σ H Q->t σ H Q):PA X es t':=λp pins s σ H Q I q=>h p pins s σ H Q I (m σ H Q q)
theorem jq{t t':TS}(h:PS X st t)(m:∀D σ H,t' D σ H->t D σ H):PS X st t':=λpins s σ H D I q=>h pins s σ H D I (m D σ H q)
theorem xS{t t':TS}(h:PSs X kq t)(m:∀D σ H,t' D σ H->t D σ H):PSs X kq t':=λpins s σ H D I q=>h pins s σ H D I (m D σ H q)
variable{t u ta tb tc:aK}
theorem aa(h:PE X e (lE t)):PE X e (lB t):=df h λσ H Q zq=>by
 obtain⟨B,F,δ,ts,Qd,c,q,k⟩:=zq;exact⟨B,F,δ,ts,Qd,c,q,λd ag v F' H' hd sf sh c'=>k d ag v F' H' hd sf sh c'.pop c'.top⟩
def rB(t:aK):aK:=λδ Q=>t δ λd ag=>d.pl=true/\Q d ag
theorem bH(h:PE X e (lB t)):PE X e (lE (rB t)):=df h λσ H Q zq=>by
 obtain⟨B,F,δ,ts,Qd,c,q,k⟩:=zq;exact⟨B,F,δ,ts,_,c,q,λd ag v F' H' hd sf sh c' s=>k d ag v F' H' hd.2 sf sh (c'.pushS s hd.1)⟩
def mL(i:Nat):aK:=λδ Q=>match δ[i]? with
 | some (some d)=>Q d δ
 | _=>False
def pF(i:Nat):aK:=λδ Q=>match δ[i]? with
 | some (some d)=>Q d (δ.set i none)
 | _=>False
theorem cw8(h:mL i δ Q):∃d,δ[i]?=some (some d)/\Q d δ:=by
 unfold mL at h;split at h
 ·rename_i d e;exact⟨d,e,h⟩
 ·exact h.elim
theorem cg0(h:pF i δ Q):∃d,δ[i]?=some (some d)/\Q d (δ.set i none):=by
 unfold pF at h;split at h
 ·rename_i d e;exact⟨d,e,h⟩
 ·exact h.elim
def dC(d:D):aK:=λδ Q=>Q d δ
theorem bv(i:Nat){x:Str}(hN:X.N[i]?=some x:=by rfl)(hv:km X.env.scope x:=by first | exact ao rfl | exact bg (ao rfl) | exact bg (bg rfl))(hd:(x==("__debug__":Str))=false:=by decide)
  (bZ:(x==("__classdict__":Str))=false:=by decide):PE X (.Name x pos) (lB (mL i)):=df (nJ hN hv hd bZ) λσ H Q zq=>by
 obtain⟨B,F,δ,ts,Qd,c,q,k⟩:=zq;obtain⟨d,e,q⟩:=cw8 q;obtain⟨v,e1,s⟩:=c.look e;exact⟨v,e1,k d δ v F H q (ah.refl _) (ah.refl _) c s⟩
theorem em(i:Nat){x:Str}(hN:X.N[i]?=some x:=by rfl)(hv:km X.env.scope x:=by first | exact ao rfl | exact bg (ao rfl) | exact bg (bg rfl))(hd:(x==("__debug__":Str))=false:=by decide)
  (bZ:(x==("__classdict__":Str))=false:=by decide):PE X (.Name x pos) (lE (pF i)):=df (nJ hN hv hd bZ) λσ H Q zq=>by
 obtain⟨B,F,δ,ts,Qd,c,q,k⟩:=zq;obtain⟨d,e,q⟩:=cg0 q;obtain⟨v,e1,c'⟩:=c.move e;exact⟨v,e1,k d _ v F H q (ah.refl _) (ah.refl _) c'⟩
theorem C7{B:Bs}{F H:Hp}{σ:L2.St}{δ:Dl}{ts:List (D × V)}{Qd:D->Dl->Prop}{Q:VK}{d:D}{v:V}(c:ax B F H σ δ ts)(q:Qd d δ)(s:S F H [d] [v])(p:d.pl=true)
  (k:∀d ag v F' H',Qd d ag->ah F F'->ah H H'->ax B F' H' σ ag ((d,v)::ts)->Q v H'):Q v H:=k d δ v F H q (ah.refl _) (ah.refl _) (c.pushS s p)
theorem aj{i j}:PE X (.Constant (.int i) j pos) (lE (dC (.int i))):=df L8 λσ H Q ⟨B,F,δ,ts,Qd,c,q,k⟩=>C7 c q (.int .nil) rfl k
theorem kF{i j}:PE X (.Constant (.bool i) j pos) (lE (dC (.bl i))):=df ζ λσ H Q ⟨B,F,δ,ts,Qd,c,q,k⟩=>C7 c q (.bl .nil) rfl k
theorem fk{j}:PE X (.Constant .none j pos) (lE (dC .aA)):=df η λσ H Q ⟨B,F,δ,ts,Qd,c,q,k⟩=>C7 c q (.aA .nil) rfl k
theorem G1{x j}:PE X (.Constant (.str x) j pos) (lE (dC (.str x))):=df L9 λσ H Q ⟨B,F,δ,ts,Qd,c,q,k⟩=>C7 c q (.str .nil) rfl k
abbrev eB:=D->D->(D->Prop)->Prop
def C8(r:R2)(rd:eB):Prop:=∀{B:Bs} {F H:Hp} {σ:L2.St} {δ:Dl} {ts:List (D × V)} {x y:D} {v w:V} {Q:VK} {Qd:D->Prop},ax B F H σ δ ts->S F H [x] [v]->S F H [y] [w]->rd x y Qd ->
 (∀d z H',Qd d->ah H H'->ax B F H' σ δ ((d,z)::ts)->Q z H')->r v w H Q
def bQ(X:Cx)(f:Value->Value->Sem Value)(rd:eB):Prop:=∃r,cL X f r/\C8 r rd
theorem bQ.or(h1:bQ X f r1)(h2:bQ X f r2):bQ X f λx y Q=>r1 x y Q\/r2 x y Q:=by
 obtain⟨q1,a1,b1⟩:=h1;obtain⟨q2,a2,b2⟩:=h2;refine⟨_,a1.or a2,λ{B F H σ δ ts x y v w Q Qd} c sx sy h k=>?_⟩;rcases h with h | h
 ·exact .inl (b1 c sx sy h k)
 ·exact .inr (b2 c sx sy h k)
theorem bQ.imp(h1:bQ X f r1)(h:∀x y Q,r2 x y Q->r1 x y Q):bQ X f r2:=by
 obtain⟨q1,a1,b1⟩:=h1;exact⟨q1,a1,λ{B F H σ δ ts x y v w Q Qd} c sx sy h2 k=>b1 c sx sy (h _ _ _ h2) k⟩
def nS(rd:eB)(ta tb:aK):aK:=λδ Q=>ta δ λx aq=>tb aq λy aR=>rd x y λd=>Q d aR
theorem G2{r:R2}(hl:C8 r rd):∀σ H Q,lE (nS rd ta tb) σ H Q->Ae r (lB ta) (lB tb) σ H Q:=λσ H Q ⟨B,F,δ,ts,Qd,c,q,k⟩ =>
 ⟨B,F,δ,ts,_,c,q,λx aq v F1 H1 q1 f1 h1 c1 s1=>⟨B,F1,aq,ts,_,c1,q1,λy aR w F2 H2 q2 f2 h2 c2 s2 =>
  hl c2 (s1.mono f2 h2) s2 q2 λd z H' hd hs c3=>k d aR z F2 H' hd (f1.trans f2) ((h1.trans h2).trans hs) c3⟩⟩
theorem az(ho:bQ X (binaryOp op) rd)(ha:PE X a (lB ta))(hb:PE X b (lB tb)):PE X (.BinOp a op b pos) (lE (nS rd ta tb)):=by
 obtain⟨r,h1,h2⟩:=ho;exact df (Mo h1 ha hb) (G2 h2)
theorem pG(ho:bQ X (compareOp op) rd)(ha:PE X a (lB ta))(hb:PE X b (lB tb))(hm:behindInMarks op b=false):PE X (.Compare a [op] [b] pos) (lE (nS rd ta tb)):=by
 obtain⟨r,h1,h2⟩:=ho;exact df (cy2 h1 ha hb hm) (G2 h2)
def dT(t:aK):fB:=λδ Q=>t δ λd ag=>∃k,d=.bl k/\Q k ag
theorem cj9(h:∀σ H Q,lE t σ H Q->te σ H Q):∀σ H Q,lT (dT t) σ H Q->Mq te σ H Q:=λσ H Q zz=>by
 obtain⟨B,F,δ,ts,Qd,c,q,k⟩:=zz;refine h σ H _ ⟨B,F,δ,ts,_,c,q,λd ag v F' H' hd sf sh c'=>?_⟩;obtain⟨b,rfl,qb⟩:=hd;have s:=c'.top
 cases s with
 | bl _=>exact⟨b,rfl,k b ag F' H' qb sf sh c'.pop⟩
theorem bj(ho:bQ X (compareOp op) rd)(ha:PE X a (lB ta))(hb:PE X b (lB tb))(hm:behindInMarks op b=false):PT X (.Compare a [op] [b] pos) (lT (dT (nS rd ta tb))):=by
 obtain⟨r,h1,h2⟩:=ho;exact G0 (cw1 h1 ha hb hm) (cj9 (G2 h2))
def rC(r r':eB)(ta tb tc:aK):aK:=λδ Q=>ta δ λx aq=>tb aq λy aR=>r x y λd=>∃k,d=.bl k/\if k=true then tc aR λz jr=>r' y z λd'=>Q d' jr else Q (.bl false) aR
theorem fC(h:PE X e (lB t))(he:∀whole,isTrue e X.env whole=(do let v<-whole;standAt e.pos;holding [v] (truthy v)):=by intro _;rfl):PT X e (lT (dT t)) :=
 G0 (ι h he) λσ H Q zq=>by
 obtain⟨B,F,δ,ts,Qd,c,q,k⟩:=zq;exact⟨B,F,δ,ts,_,c,q,λd ag v F' H' hd sf sh c' s=>by
  obtain⟨b,rfl,qb⟩:=hd
  cases s with
  | bl _=>exact⟨b,rfl,k b ag F' H' qb sf sh c'⟩⟩
variable{tA tB:fB}{rest:List Expr}
def uo(t u:fB):fB:=λδ Q=>t δ λc aq=>if c=true then u aq Q else Q false aq
def uq(t u:fB):fB:=λδ Q=>t δ λc aq=>if c=true then Q true aq else u aq Q
def ur(t:fB):fB:=λδ Q=>t δ λc aq=>Q (!c) aq
theorem xT(ha:PT X a (lT tA))(hb:PW X (.BoolOp .And (b::rest) pos) (lT tB)):PW X (.BoolOp .And (a::b::rest) pos) (lT (uo tA tB)) :=
 NX (π ha hb) λσ H Q zq=>by
 obtain⟨B,F,δ,ts,Qd,c,q,k⟩:=zq;exact⟨B,F,δ,ts,_,c,q,λb aq F1 H1 q1 f1 h1 c1=>by
  cases b with
  | true=>exact rh ⟨B,F1,aq,ts,Qd,c1,by simpa using q1,λb ag F' H' hd sf sh c'=>k b ag F' H' hd (f1.trans sf) (h1.trans sh) c'⟩
  | false=>exact pk (k false aq F1 H1 (by simpa using q1) f1 h1 c1)⟩
theorem pH(ha:PT X a (lT tA))(hb:PW X (.BoolOp .Or (b::rest) pos) (lT tB)):PW X (.BoolOp .Or (a::b::rest) pos) (lT (uq tA tB)) :=
 NX (ρ ha hb) λσ H Q zq=>by
 obtain⟨B,F,δ,ts,Qd,c,q,k⟩:=zq;exact⟨B,F,δ,ts,_,c,q,λb aq F1 H1 q1 f1 h1 c1=>by
  cases b with
  | true=>exact rh (k true aq F1 H1 (by simpa using q1) f1 h1 c1)
  | false=>exact pk ⟨B,F1,aq,ts,Qd,c1,by simpa using q1,λb ag F' H' hd sf sh c'=>k b ag F' H' hd (f1.trans sf) (h1.trans sh) c'⟩⟩
theorem mM(ha:PT X a (lT tA)):PT X (.UnaryOp .Not a pos) (lT (ur tA)) :=
 G0 (τ ha) λσ H Q zq=>by
 obtain⟨B,F,δ,ts,Qd,c,q,k⟩:=zq;exact⟨B,F,δ,ts,_,c,q,λb aq F1 H1 q1 f1 h1 c1=>k _ aq F1 H1 q1 f1 h1 c1⟩
def uu(ta tb:aK):aK:=λδ Q=>ta δ λx aq=>∃c,x=.bl c/\if c=true then tb aq Q else Q (.bl false) aq
def uv(ta:aK):aK:=λδ Q=>ta δ λx aq=>∃c,x=.bl c/\Q (.bl (!c)) aq
theorem rD(ha:PE X a (lB ta))(hb:PE X (.BoolOp .And (b::rest) pos) (lE tb)):PE X (.BoolOp .And (a::b::rest) pos) (lE (uu ta tb)) :=
 df (ω ha hb) λσ H Q zq=>by
 obtain⟨B,F,δ,ts,Qd,c,q,k⟩:=zq;exact⟨B,F,δ,ts,_,c,q,λd aq v F1 H1 q1 f1 h1 c1 s1=>by
  obtain⟨b,rfl,qb⟩:=q1
  cases s1 with
  | bl _ =>
   refine⟨b,rfl,?_⟩
   cases b with
   | true=>exact rh ⟨B,F1,aq,ts,Qd,c1,by simpa using qb,λd ag v F' H' hd sf sh c'=>k d ag v F' H' hd (f1.trans sf) (h1.trans sh) c'⟩
   | false=>exact pk (k _ aq _ F1 H1 (by simpa using qb) f1 h1 (c1.pushS (.bl .nil) rfl))⟩
theorem NY(ha:PE X a (lB ta)):PE X (.UnaryOp .Not a pos) (lE (uv ta)) :=
 df (Γ ha) λσ H Q zq=>by
 obtain⟨B,F,δ,ts,Qd,c,q,k⟩:=zq;exact⟨B,F,δ,ts,_,c,q,λd aq v F1 H1 q1 f1 h1 c1 s1=>by
  obtain⟨b,rfl,qb⟩:=q1
  cases s1 with
  | bl _=>exact⟨b,rfl,k _ aq _ F1 H1 qb f1 h1 (c1.pushS (.bl .nil) rfl)⟩⟩
def uw(t:fB)(ta tb:aK):aK:=λδ Q=>t δ λc aq=>if c=true then ta aq Q else tb aq Q
theorem AF(hc:PT X c (lT tA))(ha:PE X a (lE ta))(hb:PE X b (lE tb)):PE X (.IfExp c a b pos) (lE (uw tA ta tb)) :=
 df (Θ hc ha hb) λσ H Q zq=>by
 obtain⟨B,F,δ,ts,Qd,c,q,k⟩:=zq;exact⟨B,F,δ,ts,_,c,q,λb aq F1 H1 q1 f1 h1 c1=>by
  cases b with
  | true=>exact rh ⟨B,F1,aq,ts,Qd,c1,by simpa using q1,λd ag v F' H' hd sf sh c'=>k d ag v F' H' hd (f1.trans sf) (h1.trans sh) c'⟩
  | false=>exact pk ⟨B,F1,aq,ts,Qd,c1,by simpa using q1,λd ag v F' H' hd sf sh c'=>k d ag v F' H' hd (f1.trans sf) (h1.trans sh) c'⟩⟩
def pI:b8:=λδ Q=>Q [] δ
def pJ(t:aK)(r:b8):b8:=λδ Q=>t δ λd aq=>r aq λds aR=>Q (d::ds) aR
theorem ai:PA X [] (lA pI):=AE mx λσ H Q ⟨B,F,δ,ts,Qd,c,q,k⟩=>k [] δ [] F H q (ah.refl _) (ah.refl _) c .nil
variable{tr:b8}
theorem ae(ha:PE X e (lB t))(hr:PA X es (lA tr))(hs:starEach (e::es) X.env=(false,eval e X.env)::starEach es X.env:=by rfl):PA X (e::es) (lA (pJ t tr)) :=
 AE (gI ha hr hs) λσ H Q zq=>by
 obtain⟨B,F,δ,ts,Qd,c,q,k⟩:=zq;exact⟨B,F,δ,ts,_,c,q,λd aq v F1 H1 q1 f1 h1 c1 s1=>⟨B,F1,aq,ts,_,c1,q1,λds aR vs F2 H2 q2 f2 h2 c2 s2 =>
  k (d::ds) aR (v::vs) F2 H2 q2 (f1.trans f2) (h1.trans h2) c2 ((s1.mono f2 h2).cons s2)⟩⟩
theorem bP:PA X [] (lO pI):=AE mx λσ H Q ⟨B,F,δ,ts,Qd,c,q,k⟩=>k [] δ F H q (ah.refl _) (ah.refl _) c
theorem bI(ha:PE X e (lE t))(hr:PA X es (lO tr))(hs:starEach (e::es) X.env=(false,eval e X.env)::starEach es X.env:=by rfl):PA X (e::es) (lO (pJ t tr)) :=
 AE (gI ha hr hs) λσ H Q zq=>by
 obtain⟨B,F,δ,ts,Qd,c,q,k⟩:=zq;exact⟨B,F,δ,ts,_,c,q,λd aq v F1 H1 q1 f1 h1 c1=>⟨B,F1,aq,(d,v)::ts,_,c1,q1,λps aR F2 H2 q2 f2 h2 c2 =>
  k ((d,v)::ps) aR F2 H2 q2 (f1.trans f2) (h1.trans h2) (c2.perm (List.perm_middle))⟩⟩
def rE(t:b8):aK:=λδ Q=>t δ λds ag=>ds.length<=sizeLine/\Q (.lst true ds) ag
def uz(t:b8):aK:=λδ Q=>t δ λds ag=>ds.length<=sizeLine/\Q (.tup ds) ag
theorem cX(h:PA X es (lO tr)):PE X (.List es pos) (lE (rE tr)) :=
 df (Mx h) λσ H Q zq=>by
 obtain⟨B,F,δ,ts,Qd,c,q,k⟩:=zq;exact⟨B,F,δ,ts,_,c,q,λps aq F1 H1 q1 f1 h1 c1=>⟨by simpa using q1.1,λp hp=>k _ aq _ F1 _ q1.2 f1 (h1.trans (ah.upd hp)) (c1.dq9 hp)⟩⟩
theorem kG{x1}(h:PA X es (lO tr)):PE X (.Tuple es x1 pos) (lE (uz tr)) :=
 df (Mw h) λσ H Q zq=>by
 obtain⟨B,F,δ,ts,Qd,c,q,k⟩:=zq;exact⟨B,F,δ,ts,_,c,q,λps aq F1 H1 q1 f1 h1 c1=>⟨by simpa using q1.1,λp hp=>k _ aq _ F1 _ q1.2 f1 (h1.trans (ah.upd hp)) (c1.NV hp)⟩⟩
end
abbrev aX:=List D->(D->Prop)->Prop
inductive aY(sp:aX)(vs:List V)(H:Hp)(Q:VK)(E:XK):Prop
 | mk (F ds Qd) (e:ah F H) (r:R F H ds vs []) (q:sp ds Qd) (k:∀d v F' H' A,Qd d->ah H H'->ah F F'->ah F' H'->(∀a ws,F' a=some (.lst ws)->F a=some (.lst ws)\/H a=none)->R F' H' [d] [v] A->A.Nodup->(∀a∈A,H a=none)->Q v H')
def mO(sp:aX)(t:b8):aK:=λδ Q=>t δ λds ag=>sp (ds.map D.sh) λd=>(ds.all D.pl||d.fr)=true/\Q d ag
theorem xU{B:Bs}{F H:Hp}{σ:L2.St}{δ:Dl}{ts:List (D × V)}{Qd:D->Prop}{Q:VK}{E:XK}{ds:List D}{vs:List V}{sp:aX}(c:ax B F H σ δ ts)(s:S F H ds vs)(q:sp (ds.map D.sh) λd=>(ds.all D.pl||d.fr)=true/\Qd d)
  (k:∀d v F' H',Qd d->ah F F'->ah H H'->ax B F' H' σ δ ((d,v)::ts)->Q v H'):aY sp vs H Q E:=by
 by_cases hp:ds.all D.pl=true
 ·rw[mK hp]at q;exact⟨F,ds,_,c.ext,s.r hp,q,λd v F' H' A hd hs hf he h3 r nd fr=>k d v F' H' hd.2 hf hs (c.call hs hf he h3 r nd fr)⟩
 ·refine⟨H,ds.map D.sh,_,ah.refl _,s.frozen c.ext,q,λd v F' H' A hd hs hf he h3 r nd fr=>?_⟩;have dz:d.fr=true:=by
   have:=hd.1;rw[Bool.or_eq_true]at this;exact this.resolve_left hp
  exact k d v F H' hd.2 (ah.refl _) hs (c.C4 hs (r.GW (by simp[dz]) (c.ext.trans hf)) nd fr)
section
variable{X:Cx}{CX:eW}{n:Nat}{f:Addr}{fd:FuncData}{ps:List Str}{sp:aX}{E:XK}{x:Str}{p pos:Pos}{e:Expr}{es:List Expr}{t:b8}
theorem AG(F:aF X.prog X.w X.K X.mg X.base CX n f fd ps (aY sp))(hr:bJ n X.A)(hg:Gl X x)(hm:X.mg x=some (.ref f))(hk:PySem.W.keepIn X.K (.ref f)=true)(hb:Binds X.K fd ps [])(hx:my CX X E)
  (ha:PA X (e::es) (lA t)) (cM:(x==("__debug__":Str))=false:=by decide) (he:starEach (e::es) X.env=(false,eval e X.env)::starEach es X.env:=by rfl) (bh:(backTo pos (starEach es X.env)).any (·.1)=false:=by rfl) :
  PE X (.Call (.Name x p) (e::es) [] pos) (lE (mO sp t)) :=
 df (Mz F hr hg hm hk hb .nil hx ha cM he bh) λσ H Q zq=>by
 obtain⟨B,F,δ,ts,Qd,c,q,k⟩:=zq;exact⟨B,F,δ,ts,_,c,q,λds aq vs F1 H1 q1 f1 h1 c1 s1=>by
  show aY sp (vs++[]) H1 Q E;rw[fY];exact xU c1 s1 q1 λd v F' H' hd hf hs c'=>k d aq v F' H' hd (f1.trans hf) (h1.trans hs) c'⟩
end
def iK(N:List Str)(ds:List D):Dl:=ds.map some++aM (N.length-ds.length) none
section
variable{P:Program}{w:World}{K:PySem.W.Frag}{mg:Str->Option Value}{base:Heap}
theorem bf{x qual:Str}{st:Stmt}{f:Addr}{fd:FuncData}{N ps:List Str}{k:Nat}{sp:aX}(F:iJ K x qual st f fd)(S:aS N ps (aG st))(len:∀ds Q,sp ds Q->ds.length=ps.length)
  (fi:∀(aC:Value) (A:Around) (outer:List Env) (s:Shared) (H:Hp) (E:XK),bJ k (A.deeper (envOfC qual (aG st) s.heap.objs.size f aC)) ->
   ∃t:bO,PSs (hV aN P w K mg base N qual (aG st) f aC A outer s H E).fZ (gL st) (lS (hV aN P w K mg base N qual (aG st) f aC A outer s H E).fZ t)/\∀ds Q,sp ds Q->t { nx:=λ_=>Q .aA,rt:=Q } (iK N ds)):aF P w K mg base aN (k+1) f fd ps (aY sp):=by
 refine F.ok S (λvs H Q E ⟨F,ds,Qd,e,r,h,_⟩=>by rw[<-r.length];exact len ds Qd h) λaC A outer s H vs Q E hr zz=>?_;obtain⟨F,ds,Qd,e,r,h,k⟩:=zz;obtain⟨t,ht,hq⟩:=fi aC A outer s H E hr;have fin:∀d v ag aJ F' H',Qd d->ax ⟨H,F⟩ F' H' aJ ag [(d,v)]->Q v H':=λd v ag aJ F' H' hd c=>by
  obtain⟨A,C,r',s',nd,fr⟩:=c.own;exact k d v F' H' A hd c.b1 c.b2 c.ext c.b3 r' (jW.mp nd).1 λa ha=>fr a (gE _ ha)
 have e1:L2.start N vs=vs.map some++aM (N.length-ds.length) none:=by unfold L2.start;rw[r.length]
 refine⟨_,ht,⟨H,F⟩,F,iK N ds,_,?_,hq ds Qd h,λag aJ F' H' hd c=>fin .aA .aA ag aJ F' H' hd (c.pushS (.aA .nil) rfl),fin,λ_ _ _ _ z=>z.elim,λ_ _ _ _ z=>z.elim,XL.none (λ_ _ z=>z) λ_ _ z=>z⟩;rw[e1];exact ax.start e r _
end
section
variable{X:Cx}{e a b c:Expr}{es:List Expr}{pos:Pos}{st:Stmt}{kq rest:List Stmt}{t u:bO}{te:aK}{tt:fB}
def uA:bO:=λD δ=>D.nx δ
def G3(t u:bO):bO:=λD δ=>t { D with nx:=u D } δ
theorem au{t u:bO}(h:∀U:Dl->Prop,(∀ag,u En ag->U ag)->t { En with nx:=U } δ):G3 t u En δ:=h (u En) λ_ z=>z
theorem bD:PSs X [] (lS X uA):=xS FL λD σ H ⟨B,F,δ,Dd,c,q,k⟩=>k.k1 δ σ F H q c
theorem aw(h1:PS X st (lS X t))(h2:PSs X rest (lS X u)):PSs X (st::rest) (lS X (G3 t u)) :=
 xS (FN h1 h2) λD σ H zq=>by
 obtain⟨B,F,δ,Dd,c,q,k1,k2,k3,k4⟩:=zq;exact⟨B,F,δ,{ Dd with nx:=u Dd },c,q,λag aJ F' H' hq c'=>⟨B,F',ag,Dd,c',hq,k1,k2,k3,k4⟩,k2,k3,k4⟩
theorem aB(h1:PS X st (lS X t)):PSs X [st] (lS X t):=FP h1
theorem nU:PSs X kq (lS X λ_ _=>False):=xS Mc λD σ H ⟨_,_,_,_,_,q,_⟩=>q.elim
def pK(i:Nat)(t:bO):bO:=λD δ=>∃d,δ[i]?=some (some d)/\t D (δ.set i (some d.sh))
theorem xV(i:Nat)(h:PSs X kq (lS X t)):PSs X kq (lS X (pK i t)):=xS h λD σ H zz=>by
 obtain⟨B,F,δ,Dd,c,⟨d,e,q⟩,k⟩:=zz;obtain⟨F',s,c'⟩:=c.freeze e;exact⟨B,F',_,Dd,c',q,k⟩
def mP(i:Nat)(t:aK):bO:=λD δ=>t δ λd ag=>D.nx (ag.set i (some d))
theorem aQ{x:Str}(hN:X.N.Nodup)(hi:X.N[i]?=some x)(hx:Loc X.env.scope x)(he:PE X e (lE te))(hs:swapsWith e (some (.Name x pos')) pos.line X.env=pure false:=by rfl)
  (hf:X.fn x=true\/X.env.scope.names.lookup x=some .local:=by first | exact .inl rfl | exact .inr rfl | assumption):PS X (.Assign [.Name x pos'] e pos) (lS X (mP i te)) :=
 jq (FT hN hi hx he hs hf) λD σ H zq=>by
 obtain⟨B,F,δ,Dd,c,q,k1,k2,k3,k4⟩:=zq;exact⟨B,F,δ,[],_,c,q,λd ag v F' H' hd sf sh c'=>k1 _ _ F' H' hd (c'.store i)⟩
def uB(t:aK):bO:=λD δ=>t δ λd _=>D.rt d
theorem aO(he:PE X e (lE te)):PS X (.Return (some e) pos) (lS X (uB te)) :=
 jq (cJ5 he) λD σ H zq=>by
 obtain⟨B,F,δ,Dd,c,q,k1,k2,k3,k4⟩:=zq;exact⟨B,F,δ,[],_,c,q,λd ag v F' H' hd sf sh c'=>k2 d v ag σ F' H' hd c'⟩
def uC(tc:fB)(t u:bO):bO:=λD δ=>tc δ λb ag=>if b=true then t D ag else u D ag
theorem bx{l r:List Stmt}(hc:PT X c (lT tt))(ha:PSs X l (lS X t))(hb:PSs X r (lS X u)):PS X (.If c l r pos) (lS X (uC tt t u)) :=
 jq (Mb hc ha hb) λD σ H zq=>by
 obtain⟨B,F,δ,Dd,c,q,k⟩:=zq;exact⟨B,F,δ,[],_,c,q,λb ag F' H' hq sf sh c'=>by
  cases b with
  | true=>exact rh ⟨B,F',ag,Dd,c',by simpa using hq,k⟩
  | false=>exact pk ⟨B,F',ag,Dd,c',by simpa using hq,k⟩⟩
def uD(i:Nat)(rd:eB)(t:aK):bO:=λD δ=>∃x,δ[i]?=some (some x)/\t δ λy aq=>rd x y λz=>D.nx (aq.set i (some z))
theorem xW{x:Str}(hN:X.N.Nodup)(hi:X.N[i]?=some x)(hx:Loc X.env.scope x)(he:PE X e (lB te))(ho:bQ X (inplaceOp op) rd)
  (hf:X.fn x=true\/X.env.scope.names.lookup x=some .local:=by first | exact .inl rfl | exact .inr rfl | assumption):PS X (.AugAssign (.Name x pos') op e pos) (lS X (uD i rd te)):=by
 obtain⟨r,h1,h2⟩:=ho;refine jq (cL7 hN hi hx he (ti:=r) h1 hf) λD σ H zz=>?_;obtain⟨B,F,δ,Dd,c,⟨d0,e0,q⟩,k1,k2,k3,k4⟩:=zz;obtain⟨v0,e1,s0⟩:=c.look e0;exact⟨v0,e1,B,F,δ,[],_,c,q,λd ag v F' H' hd sf sh c' s=>h2 c' (s0.mono sf sh) s hd λz w H2 hz h3 c3=>k1 _ _ F' H2 hz (c3.store i)⟩
def uE(tc:fB)(tb:bO):bO:=λD δ=>∃W:Nat->Dl->Prop,(∃m,W m δ)/\∀m δ,W m δ->tc δ λb ag=>if b=true then tb { D with nx:=λag=>∃m',m'<m/\W m' ag,ct:=λag=>∃m',m'<m/\W m' ag,bk:=D.nx } ag else D.nx ag
theorem xX(hp:PassesOwn (model X.prog X.w) X.A X.env X.xe)(hc:PT X c (lT tt))(hb:PSs X body (lS X t)):PS X (.While c body [] pos) (lS X (uE tt t)) :=
 jq (cj7 hp hc hb) λD σ H zz=>by
  obtain⟨B,F,δ,Dd,c,⟨W,⟨m0,w0⟩,hw⟩,k1,k2,k3,k4⟩:=zz;refine⟨λm σ H=>∃F δ,ax B F H σ δ []/\W m δ,⟨m0,F,δ,c,w0⟩,λm σ H ⟨F,δ,c,w⟩=>⟨B,F,δ,[],_,c,hw m δ w,λb ag F' H' hq sf sh c'=>?_⟩⟩
  cases b with
  | true =>
   refine rh ⟨λaJ H'=>∃m',m'<m/\∃F δ,ax B F H' aJ δ []/\W m' δ,λaJ H' z=>z,B,F',ag,{ Dd with nx:=λag=>∃m',m'<m/\W m' ag,ct:=λag=>∃m',m'<m/\W m' ag,bk:=Dd.nx },c',by simpa using hq,λaR ku F2 H2 ⟨m',hm,w2⟩ c2=>⟨m',hm,F2,aR,c2,w2⟩,k2,λaR ku F2 H2 z c2=>k1 aR ku F2 H2 z c2,λaR ku F2 H2 ⟨m',hm,w2⟩ c2=>⟨m',hm,F2,aR,c2,w2⟩,k4.2⟩
  | false=>exact pk (k1 ag σ F' H' (by simpa using hq) c')
end
structure JD(J:It)(F:Hp)(xs:List D):Prop where
 go:∀i H,ah F H->i<xs.length->J.go i H
 kr:∀i H x H',ah F H->i<xs.length->J.kr i H x H'->∃d,xs[i]?=some d/\ah H H'/\R F H' [d] [x] []
 stop:∀i H,ah F H->xs.length<=i->J.stop i H
abbrev js:=Dl->(Bool->List D->Dl->Prop)->Prop
inductive lI(t:js)(σ:L2.St)(H:Hp)(Rr:It->Hp->Prop):Prop
 | mk (B F δ ts Qd) (c:ax B F H σ δ ts) (q:t δ Qd) (k:∀g xs ag J F' H',Qd g xs ag->ah F F'->ah H H'->ax B F' H' σ ag ts->JD J H' (xs.map D.sh)->(g=true->xs.all D.pl=true/\JD J F' xs)->Rr J H')
abbrev jX:=D->Dl->(Dl->Prop)->Prop
inductive lG(m:Nat)(t:jX)(v:V)(σ:L2.St)(H:Hp)(Q:L2.St->Hp->Prop):Prop
 | mk (B F δ ts d Qd) (c:ax B F H σ δ ((d,v)::ts)) (q:t d δ Qd) (k:∀ag aJ,Qd ag->aJ.length=σ.length->(∀j,j<m->aJ[j]?=σ[j]?)->ax B F H aJ ag ts->Q aJ H)
def jt:D->Option (List D)
 | .lst _ xs=>some xs
 | .fz xs=>some xs
 | _=>none
section
variable{B:Bs}{F H F1:Hp}{σ:L2.St}{δ:Dl}{ts:List (D × V)}
end
section
variable{X:Cx}{e a b c tg l iter:Expr}{es:List Expr}{pos:Pos}{t u:bO}{te:aK}{tt:fB}{ta:b8}{m:Nat}
theorem uF(h:PI X tg iter w)(m:∀σ H Q,w' σ H Q->w σ H Q):PI X tg iter w':=λpins s σ H Q I q=>h pins s σ H Q I (m σ H Q q)
theorem NZ(h:PG X tg w)(m:∀v σ H Q,w' v σ H Q->w v σ H Q):PG X tg w':=λpins s σ H v u Q I r q=>h pins s σ H v u Q I r (m v σ H Q q)
def gN(i:Nat):jX:=λd δ Q=>Q (δ.set i (some d))
theorem i5{x:Str}(hN:X.N.Nodup)(hi:X.N[i]?=some x)(hx:Loc X.env.scope x)(hm:m<=i:=by decide)(hf:X.fn x=true\/X.env.scope.names.lookup x=some .local:=by first | exact .inl rfl | exact .inr rfl | assumption):PG X (.Name x pos) (lG m (gN i)) :=
 NZ (CK hN hi hx hf) λv σ H Q ⟨B,F,δ,ts,d,Qd,c,q,k⟩=>k _ _ q (by simp) (λj hj=>by rw[qL (by omega)]) (c.store i)
theorem pL{K:PySem.W.Frag}{F H:Hp}{p:Addr}{xs:List D}{ws:List V}(hp:Rd F p (.lst ws))(r:R F H xs ws [])(hF:Full F H):JD (FW K p) F xs where
 go:=λi H' hs hi=>by
  have l:=r.length;have ie:i<ws.length:=by omega
  exact⟨ws,ws[i],.inl (ig hp hs),aV ie⟩
 kr:=λi H' x H2 hs hi zz=>by
  obtain⟨e,y⟩:=zz;subst e;have hx:=y ws (.inl (ig hp hs));obtain⟨v,A1,e2,r1,sub⟩:=(r.full hF hs rfl).get (aV hi);rw[hx]at e2;cases e2;have:A1=[]:=Zy.mpr λa ha=>by simpa using sub ha
  subst this;exact⟨_,aV hi,ah.refl _,r1⟩
 stop:=λi H' hs hi=>⟨ws,.inl (ig hp hs),by have:=r.length;omega⟩
theorem C9(lo:Int)(n:Nat):JD (Aa lo n) F ((aI n).map λ(k:Nat)=>D.int (lo+(k:Int))) where
 go:=λi H' hs hi=>by
  have ie:i<n:=by simpa using hi
  exact ie
 kr:=λi H' x H2 hs hi zz=>by
  obtain⟨e,y⟩:=zz;subst e y;have ie:i<n:=by simpa using hi
  exact⟨.int (lo+i),by simp[kj ie],ah.refl _,.int .nil⟩
 stop:=λi H' hs hi=>by
  have ie:n<=i:=by simpa using hi
  exact ie
def uG(t:aK):js:=λδ Q=>t δ λd ag=>∃xs,jt d=some xs/\Q true (xs.map D.sh) ag
theorem c45(xs:List D)(r:R F H (xs.map D.sh) ws []):(xs.map D.sh).map D.sh=xs.map D.sh:=mK r.pl
theorem xY(h:PE X l (lE te)):PI X tg l (lI (uG te)) :=
 uF (Mj h) λσ H Q zq=>by
 obtain⟨B,F,δ,ts,Qd,c,q,k⟩:=zq;exact⟨B,F,δ,ts,_,c,q,λd aq v F1 H1 hd f1 h1 c1=>by
  obtain⟨xs,e,hq⟩:=hd;obtain⟨F2,f2,c2⟩:=c1.C5;have tp:=c2.top;have c3:=c2.pop.snap;have e2:=c2.ext;have sn:=rq e2
  cases d with
  | lst o ys =>
   obtain rfl:=dr e;rw[dX]at tp
   cases tp with
   | @shr p ws _ _ _ hp r _ =>
    have r3:=r.shared sn (ah.refl _);refine⟨p,rfl,⟨ws,bN.of (e2 _ _ hp)⟩,k true _ aq _ _ H1 hq ((f1.trans f2).trans sn) h1 c3 ?_ λ_=>⟨r.pl,pL (.inl (sn _ _ hp)) r3 um⟩⟩;rw[c45 _ r];exact pL (.inl (e2 _ _ hp)) (r.shared e2 (ah.refl _)) (Full.refl _)
  | fz ys =>
   obtain rfl:=dr e
   cases tp with
   | @fz p o ws _ _ _ hp r _ =>
    have r3:=r.shared sn (ah.refl _);have es:=mK r.pl;rw[es]at hq;refine⟨p,rfl,⟨ws,.inl (.inr ⟨o,e2 _ _ hp⟩)⟩,k true _ aq _ _ H1 hq ((f1.trans f2).trans sn) h1 c3 ?_ λ_=>⟨r.pl,pL (.inr ⟨o,sn _ _ hp⟩) r3 um⟩⟩;rw[es];exact pL (.inr ⟨o,e2 _ _ hp⟩) (r.shared e2 (ah.refl _)) (Full.refl _)
  | aA=>cases e
  | bl _=>cases e
  | int _=>cases e
  | str _=>cases e
  | tup _=>cases e
  | obj _ _ _=>cases e
  | bt _=>cases e⟩
def rF(t:aK):js:=λδ Q=>t δ λd ag=>∃xs,jt d=some xs/\Q d.pl xs ag
theorem fQ(h:PE X l (lB te)):PI X tg l (lI (rF te)) :=
 uF (Mj h) λσ H Q zq=>by
 obtain⟨B,F,δ,ts,Qd,c,q,k⟩:=zq;exact⟨B,F,δ,ts,_,c,q,λd aq v F1 H1 hd f1 h1 c1 s=>by
  obtain⟨xs,e,hq⟩:=hd;have c3:=c1.snap;have e2:=c1.ext;have sn:=rq e2
  cases s with
  | @shr p ws ys _ _ hp r _ =>
   obtain rfl:=dr e;refine⟨p,rfl,⟨ws,bN.of (e2 _ _ hp)⟩,k _ _ aq _ _ H1 hq (f1.trans sn) h1 c3 ?_ λ_=>⟨r.pl,pL (.inl (sn _ _ hp)) (r.shared sn (ah.refl _)) um⟩⟩;rw[mK r.pl];exact pL (.inl (e2 _ _ hp)) (r.shared e2 (ah.refl _)) (Full.refl _)
  | @own p ws ys _ _ hp r _ =>
   obtain rfl:=dr e;refine⟨p,rfl,⟨ws,bN.of hp⟩,k _ _ aq _ _ H1 hq (f1.trans sn) h1 c3 (pL (.inl hp) (r.frozen e2) (Full.refl _)) λz=>by simp[eO]at z⟩
  | @fz p o ws ys _ _ hp r _ =>
   obtain rfl:=dr e;refine⟨p,rfl,⟨ws,.inl (.inr ⟨o,e2 _ _ hp⟩)⟩,k _ _ aq _ _ H1 hq (f1.trans sn) h1 c3 ?_ λ_=>⟨r.pl,pL (.inr ⟨o,sn _ _ hp⟩) (r.shared sn (ah.refl _)) um⟩⟩;rw[mK r.pl];exact pL (.inr ⟨o,e2 _ _ hp⟩) (r.shared e2 (ah.refl _)) (Full.refl _)
  | aA _=>cases e
  | bl _=>cases e
  | int _=>cases e
  | str _=>cases e
  | tup _ _ _=>cases e
  | obj _ _ _ _=>cases e
  | bt _ _=>cases e⟩
theorem uH(f:Nat->Int)(l:List Nat):(l.map λk=>D.int (f k)).map D.sh=l.map λk=>D.int (f k):=by simp[D.sh]
theorem N0(f:Nat->Int)(l:List Nat):(l.map λk=>D.int (f k)).all D.pl=true:=by simp[D.pl]
def uI(t:b8):js:=λδ Q=>t δ λds ag=>∃j:Int,ds=[.int j]/\(-(2 ^ 62)<=j/\j<2 ^ 62)/\Q true ((aI j.toNat).map λ(k:Nat)=>D.int (0+(k:Int))) ag
theorem gP(hg:Gl X "range")(hm:X.mg "range"=none)(ha:PA X [a] (lA ta))(hs:starEach [a] X.env=[(false,eval a X.env)]:=by rfl):PI X tg (.Call (.Name "range" p) [a] [] pos) (lI (uI ta)) :=
 uF (b72 hg hm ha hs) λσ H Q zq=>by
 obtain⟨B,F,δ,ts,Qd,c,q,k⟩:=zq;exact⟨B,F,δ,ts,_,c,q,λds aq vs F1 H1 hd f1 h1 c1 s=>by
  obtain⟨j,rfl,⟨b1,b2⟩,hq⟩:=hd
  cases s with
  | int s =>
   cases s;refine⟨j,rfl,b1,b2,k true _ aq _ _ H1 hq f1 h1 c1 ?_ λ_=>⟨N0 _ _,C9 0 _⟩⟩;rw[uH];exact C9 0 _⟩
def uJ(t:b8):js:=λδ Q=>t δ λds ag=>∃i j:Int,ds=[.int i,.int j]/\(-(2 ^ 62)<=i/\i<2 ^ 62/\-(2 ^ 62)<=j/\j<2 ^ 62)/\Q true ((aI (j-i).toNat).map λ(k:Nat)=>D.int (i+(k:Int))) ag
theorem xZ(hg:Gl X "range")(hm:X.mg "range"=none)(ha:PA X [a,b] (lA ta))(hs:starEach [a,b] X.env=[(false,eval a X.env),(false,eval b X.env)]:=by rfl)(fw:starEach [b] X.env=[(false,eval b X.env)]:=by rfl) :
  PI X tg (.Call (.Name "range" p) [a,b] [] pos) (lI (uJ ta)) :=
 uF (cd0 hg hm ha hs fw) λσ H Q zq=>by
 obtain⟨B,F,δ,ts,Qd,c,q,k⟩:=zq;exact⟨B,F,δ,ts,_,c,q,λds aq vs F1 H1 hd f1 h1 c1 s=>by
  obtain⟨i,j,rfl,bd,hq⟩:=hd
  cases s with
  | int s =>
   cases s with
   | int s =>
    cases s;refine⟨i,j,rfl,bd,k true _ aq _ _ H1 hq f1 h1 c1 ?_ λ_=>⟨N0 _ _,C9 i _⟩⟩;rw[uH];exact C9 i _⟩
def fm(xs:List D)(g:jX)(tb:bO):bO:=λEn aq=>∃Iv:Nat->Dl->Prop,Iv 0 aq /\
 (∀i d ag,xs[i]?=some d->Iv i ag->g d ag λaR=>tb { En with nx:=Iv (i+1),ct:=Iv (i+1),bk:=En.nx } aR)/\∀ag,Iv xs.length ag->En.nx ag
theorem fm.mk{tb:bO}(Iv:Nat->Dl->Prop)(h0:Iv 0 δ)(ht:∀i d ag,xs[i]?=some d->Iv i ag->g d ag λaR=>tb { En with nx:=Iv (i+1),ct:=Iv (i+1),bk:=En.nx } aR)
  (hf:∀ag,Iv xs.length ag->En.nx ag):fm xs g tb En δ:=⟨Iv,h0,ht,hf⟩
def uK(ti:js)(g:jX)(tb:bO):bO:=λEn δ=>ti δ λsh xs aq=>sh=true/\fm xs g tb En aq
theorem fo(hp:PassesOwn (model X.prog X.w) X.A X.env X.xe)(hc:X.calm=true)(hi:PI X tg iter (lI ti))(hg:PG X tg (lG 0 g))(hb:PSs X body (lS X t))
  (hs:∀x,foldedSetIterable iter X.env x=pure x:=by intro _;rfl):PS X (.For tg iter body [] pos) (lS X (uK ti g t)) :=
 jq (cP8 hp hc hi hg hb hs) λEn σ H zq=>by
 obtain⟨B,F,δ,Dd,c,q,k1,k2,k3,k4⟩:=zq;exact⟨B,F,δ,[],_,c,q,λsh xs aq J F1 H1 hq f1 h1 c1 _ jd=>by
  obtain⟨An,Iv,i0,turn,fin⟩:=hq;obtain⟨bh,jd⟩:=jd An;have un:∀{F' H':Hp} {aJ:L2.St} {ag:Dl} {ts:List (D × V)},ax ⟨B.H0,F1⟩ F' H' aJ ag ts->ax B F' H' aJ ag ts:=λc'=>c'.dr1 c1.b2 c1.b3;refine⟨λi m σ H=>m=xs.length-i/\i<=xs.length/\∃F δ,ax ⟨B.H0,F1⟩ F H σ δ []/\Iv i δ,⟨_,rfl,iT _,F1,aq,c1.rebase,i0⟩,?_⟩;rintro i m ku H2 ⟨rfl,hi,F2,aR,c2,iv⟩;have s2:ah F1 H2:=c2.b2.trans c2.ext;by_cases gy:i<xs.length
  ·refine .inr ⟨jd.go i H2 s2 gy,λaJ H'=>∃F δ,ax ⟨B.H0,F1⟩ F H' aJ δ []/\Iv (i+1) δ,λaJ H' z=>⟨xs.length-(i+1),by omega,rfl,gy,z⟩,λx H3 y=>?_⟩;obtain⟨d,e,s3,r⟩:=jd.kr i H2 x H3 s2 gy y;have c3:=(c2.grow s3).pushS (d:=d) (v:=x) ((r.s).mono c2.b2 (ah.refl _)) (by have:=r.pl;simpa using this);refine⟨⟨B.H0,F1⟩,F2,aR,[],d,_,c3,turn i d aR e iv,λag aJ hq _ _ c4=>?_⟩;exact⟨⟨B.H0,F1⟩,F2,ag,_,c4,hq,λkH pM F5 H5 h5 c5=>⟨F5,kH,c5,h5⟩,λd5 v5 kH pM F5 H5 h5 c5=>k2 d5 v5 kH pM F5 H5 h5 (un c5),λkH pM F5 H5 h5 c5=>k1 kH pM F5 H5 h5 (un c5),λkH pM F5 H5 h5 c5=>⟨F5,kH,c5,h5⟩,⟨λC dc kH pins pM F5 H5 s5 a T h5 c5=>k4.2.1 C dc kH pins pM F5 H5 s5 a T h5 (un c5),λC dc kH pins pM F5 H5 s5 a h5 c5=>k4.2.2 C dc kH pins pM F5 H5 s5 a h5 (un c5)⟩⟩
  ·have e:i=xs.length:=by omega
   subst e;exact .inl ⟨jd.stop _ H2 s2 (bR _),k1 aR ku F2 H2 (fin aR iv) (un c2)⟩⟩
end
def jY(δ:Dl)(q:Str × Nat):Option D:=(δ[q.2]?).getD none
def ij(δ:Dl)(q:Str × Nat):Bool:=match jY δ q with
 | some d=>d.pl
 | none=>true
def fR(aE:List (Str × Nat))(n:Nat)(δ:Dl):Dl:=(aE.map λq=>(jY δ q).map D.sh)++aM n none
def pO(sh:Bool)(xs:List D)(aE:List (Str × Nat))(n:Nat)(g:jX)(tt:fB)(te:aK)(aq:Dl)(Q:D->Dl->Prop):Prop:=∃(p:D->Bool) (f:D->D),
 (∀x∈xs.map D.sh,g x (fR aE n aq) λaR=>tt aR λb jr=>b=p x/\(p x=true->te jr λd _=>d=f x)) /\
 ((sh&&aE.all (ij aq))=true\/∀x∈xs.map D.sh,p x=true->(f x).fr=true)/\xs.length<=sizeLine/\Q (.lst true (((xs.map D.sh).filter p).map f)) aq
def mQ(ti:js)(aE:List (Str × Nat))(n:Nat)(g:jX)(tt:fB)(te:aK):aK:=λδ Q=>ti δ λsh xs aq=>pO sh xs aE n g tt te aq Q
def jZ:fB:=λδ Q=>Q true δ
theorem ch0{sh:Bool}(f:D->D)(hx:∀x∈xs.map D.sh,te ((fR aE n aq).set m (some x)) λd _=>d=f x)
  (dz:(sh&&aE.all (ij aq))=true\/∀x∈xs.map D.sh,(f x).fr=true) (hl:xs.length<=sizeLine) (hq:Q (.lst true ((xs.map D.sh).map f)) aq):pO sh xs aE n (gN m) jZ te aq Q :=
 ⟨λ_=>true,f,λx h=>⟨rfl,λ_=>hx x h⟩,dz.imp id λh x hx _=>h x hx,hl,by rw[Fq.mpr (λ_ _=>rfl)];exact hq⟩
section
variable{B:Bs}{F H:Hp}{σ:L2.St}{δ:Dl}{ts:List (D × V)}
theorem N2(c:ax B F H σ δ ts)(n:Nat):∀(aE:List (Str × Nat)),aE.all (ij δ)=true->RS F H (fR aE n δ) (iY aE n σ) []
 | [],_=>by
  have z:∀n,RS F H (aM n none) (aM n none) []:=λn=>by
   induction n with
   | zero=>exact .nil
   | succ n ih=>exact .aA ih
  exact z n
 | q::r,h=>by
  rw[bB,cA]at h;have ih:=N2 c n r h.2;show RS F H ((jY δ q).map D.sh::fR r n δ) ((σ[q.2]?).getD none::iY r n σ) []
  cases e:jY δ q with
  | none=>exact .aA ih
  | some d =>
   have e2:δ[q.2]?=some (some d):=by
    unfold jY at e
    cases z:δ[q.2]? with
    | none=>rw[z]at e;cases e
    | some o=>rw[z]at e;exact congrArg some e
   have hp:d.pl=true:=by have:=h.1;unfold ij at this;rw[e]at this;exact this
   obtain⟨v,e3,s⟩:=c.look e2;rw[e3];show RS F H (some d.sh::_) (some v::_) [];rw[D.C3 hp];exact .gO (A:=[]) (s.r (by simp[hp])) ih
theorem N3(c:ax B F H σ δ ts)(n:Nat):∀(aE:List (Str × Nat)),RS H H (fR aE n δ) (iY aE n σ) []
 | []=>by
  have z:∀n,RS H H (aM n none) (aM n none) []:=λn=>by
   induction n with
   | zero=>exact .nil
   | succ n ih=>exact .aA ih
  exact z n
 | q::r=>by
  have ih:=N3 c n r;show RS H H ((jY δ q).map D.sh::fR r n δ) ((σ[q.2]?).getD none::iY r n σ) []
  cases e:jY δ q with
  | none=>exact .aA ih
  | some d =>
   have e2:δ[q.2]?=some (some d):=by
    unfold jY at e
    cases z:δ[q.2]? with
    | none=>rw[z]at e;cases e
    | some o=>rw[z]at e;exact congrArg some e
   obtain⟨v,e3,s⟩:=c.look e2;rw[e3];exact .gO (A:=[]) (s.frozen c.ext) ih
theorem N4(xs:List α)(p:α->Bool)(i:Nat)(x:α)(h:xs[i]?=some x):(xs.take (i+1)).filter p=(xs.take i).filter p++(if p x=true then [x]else []):=by
 rw[tQ,h,Zz];simp only[Ln];by_cases hp:p x=true<;>simp[hp]
end
section
variable{X:Cx}{elt iter tg:Expr}{pos:Pos}{ifs:List Expr}{scope:Scope}{cl:List (Str × Addr)}{ti:js}{tt:fB}{te:aK}{g:jX}
theorem G4{B:Bs}{F1 H1:Hp}{σ:L2.St}{aq:Dl}{ts:List (D × V)}{J:It}{Qd:D->Dl->Prop}{Q:VK}{xs:List D}{sh:Bool}{aE:List (Str × Nat)}{n:Nat}(c1:ax B F1 H1 σ aq ts)
  (pP:JD J H1 (xs.map D.sh)) (uL:sh=true->xs.all D.pl=true/\JD J F1 xs) (p:D->Bool) (f:D->D)
  (hx:∀x∈xs.map D.sh,g x (fR aE n aq) λaR=>tt aR λb jr=>b=p x/\(p x=true->te jr λd _=>d=f x))
  (dz:(sh&&aE.all (ij aq))=true\/∀x∈xs.map D.sh,p x=true->(f x).fr=true) (hlen:xs.length<=sizeLine) (hq:Qd (.lst true (((xs.map D.sh).filter p).map f)) aq)
  (k:∀d ag v F' H',Qd d ag->ah F1 F'->ah H1 H'->ax B F' H' σ ag ((d,v)::ts)->Q v H'):Ny J aE n (lG aE.length g) (lT tt) (lE te) σ H1 Q:=by
 intro Dp hD;have cD:ax B F1 (upd H1 Dp (.lst [])) σ aq ((.lst true [],.ref Dp)::ts):=c1.rA hD .nil rfl;refine⟨λi m acc H2=>m=xs.length-i/\i<=xs.length/\H2 Dp=some (.lst acc)/\ah H1 H2/\acc.length<=i/\∃F2,ah F1 F2 /\
  ax B F2 H2 σ aq ((.lst true ((((xs.map D.sh).take i).filter p).map f),.ref Dp)::ts),⟨xs.length,rfl,iT _,dm,ah.upd hD,bR _,F1,ah.refl _,by simpa using cD⟩,?_⟩
 rintro i m acc H2 ⟨rfl,hi,G5,AH,hal,F2,AI,c2⟩;refine⟨G5,?_⟩;by_cases gy:i<xs.length
 case neg =>
  have e:i=xs.length:=by omega
  subst e;refine .inl ⟨pP.stop _ H2 AH (by simp),k _ aq _ F2 H2 ?_ AI AH c2⟩;have:(xs.map D.sh).take xs.length=xs.map D.sh:=by rw[Fs (by simp)]
  rw[this];exact hq
 case pos =>
  refine .inr ⟨pP.go i H2 AH (by simpa using gy),λx H3 y=>?_⟩;obtain⟨d0,e0,G6,r0⟩:=pP.kr i H2 x H3 AH (by simpa using gy) y;have N5:d0∈xs.map D.sh:=w4 e0;have N6:H3 Dp=some (.lst acc):=G6 _ _ G5;have c3:=c2.grow G6;have G7:=AH.trans G6;refine⟨N6,?_⟩;have G8:=hx d0 N5;have turn:∀Fi,ah Fi H3->RS Fi H3 (fR aE n aq) (iY aE n σ) []->S Fi H3 [d0] [x]->d0.pl=true ->
    (∀d v F' H' A,d=f d0->p d0=true->ah H3 H'->ah Fi F'->ah F' H'->(∀a ws,F' a=some (.lst ws)->Fi a=some (.lst ws)\/H3 a=none)->R F' H' [d] [v] A->A.Nodup->(∀a∈A,H3 a=none) ->
     ∃F4,ah F2 F4/\ax B F4 H' σ aq ((d,v)::(.lst true ((((xs.map D.sh).take i).filter p).map f),.ref Dp)::ts)) ->
    lG aE.length g x (iY aE n σ) H3 λiG H4 =>
     (iG.length=(iY aE n σ).length/\∀j,j<aE.length->iG[j]?=(iY aE n σ)[j]?)/\lT tt iG H4 λb H5=>H5 Dp=some (.lst acc) /\
     if b=true then lE te iG H5 λy H6=>H6 Dp=some (.lst acc)/\acc.length<sizeLine/\∃m',m'<xs.length-i /\
      (m'=xs.length-(i+1)/\i+1<=xs.length/\upd H6 Dp (.lst (acc++[y])) Dp=some (.lst (acc++[y]))/\ah H1 (upd H6 Dp (.lst (acc++[y])))/\(acc++[y]).length<=i+1/\∃F2,ah F1 F2 /\
       ax B F2 (upd H6 Dp (.lst (acc++[y]))) σ aq ((.lst true ((((xs.map D.sh).take (i+1)).filter p).map f),.ref Dp)::ts))
     else ∃m',m'<xs.length-i/\(m'=xs.length-(i+1)/\i+1<=xs.length/\H5 Dp=some (.lst acc)/\ah H1 H5/\acc.length<=i+1/\∃F2,ah F1 F2 /\
       ax B F2 H5 σ aq ((.lst true ((((xs.map D.sh).take (i+1)).filter p).map f),.ref Dp)::ts)):=by
   intro Fi hFi hRS hS bh back;have ci:ax ⟨H3,Fi⟩ Fi H3 (iY aE n σ) (fR aE n aq) []:=⟨hFi,ah.refl _,ah.refl _,λ_ _ q=>.inl q,[],[],.nil,hRS,by simp,by simp⟩;refine⟨⟨H3,Fi⟩,Fi,fR aE n aq,[],d0,_,ci.pushS hS bh,G8,λag iG hq1 l1 k1 c4=>⟨⟨l1,k1⟩,⟨H3,Fi⟩,Fi,ag,[],_,c4,hq1,λb kH F5 H5 hb f5 h5 c5=>?_⟩⟩;obtain⟨hb,ht⟩:=hb;have Dc:H5 Dp=some (.lst acc):=h5 _ _ N6;refine⟨Dc,?_⟩;by_cases hp:p d0=true
   ·rw[hb,hp];refine rh ⟨⟨H3,Fi⟩,F5,kH,[],_,c5,ht hp,λd δ6 v F6 H6 hd f6 h6 c6=>?_⟩;have N7:H6 Dp=some (.lst acc):=h6 _ _ Dc;obtain⟨A,C,r,s,nd,fr⟩:=c6.own;obtain⟨F4,f24,c7⟩:=back d v F6 H6 A hd hp c6.b1 c6.b2 c6.ext c6.b3 r (jW.mp nd).1 λa ha=>fr a (gE _ ha);have c8:=c7.dr6 N7;refine⟨N7,by omega,xs.length-(i+1),by omega,rfl,gy,dm,?_,by simpa using hal,F4,AI.trans f24,?_⟩
    ·have N8:=G7.trans c6.b1;exact⟨λa o q n=>by rw[aZ (dQ q hD)];exact N8.get a o q n,λa ps q=>by rw[aZ (dQ q hD)];exact N8.tb a ps q⟩
    ·have e9:(((xs.map D.sh).take (i+1)).filter p).map f=(((xs.map D.sh).take i).filter p).map f++[d]:=by
      rw[N4 _ p i d0 e0,hp,hd];simp
     rw[e9];exact c8
   ·have De:p d0=false:=by simpa using hp
    rw[hb,De];refine pk ⟨xs.length-(i+1),by omega,rfl,gy,Dc,G7.trans h5,by omega,F2,AI,?_⟩;have e9:(((xs.map D.sh).take (i+1)).filter p).map f=(((xs.map D.sh).take i).filter p).map f:=by
     rw[N4 _ p i d0 e0,De];simp
    rw[e9];exact c3.grow h5
  by_cases hA:(sh&&aE.all (ij aq))=true
  ·rw[cA]at hA;obtain⟨bh,jd⟩:=uL hA.1;have An:=mK bh;rw[An]at e0;obtain⟨d1,e1,_,r1⟩:=jd.kr i H2 x H3 (AI.trans c2.ext) gy y;rw[e0]at e1;cases e1;have ds8:d0.pl=true:=by have:=r1.pl;simpa using this
   refine turn F2 c3.ext (N2 c3 n aE hA.2) ((r1.s).mono AI (ah.refl _)) ds8 λd v F' H' A hd hp hs hf he h3 r nd fr=>⟨F',hf,c3.call hs hf he h3 r nd fr⟩
  ·have ds9:=dz.resolve_left hA;refine turn H3 (ah.refl _) (N3 c3 n aE) ((r0.shared G7 (ah.refl _)).s) (by have:=r0.pl;simpa using this) λd v F' H' A hd hp hs hf he h3 r nd fr=>⟨F2,ah.refl _,?_⟩;exact c3.C4 hs (r.GW (by rw[hd];simp[ds9 d0 N5 hp]) (c3.ext.trans hf)) nd fr
theorem cQ:mE Y [] (lT jZ):=λ_ _ _ H _ I ⟨B,F,δ,ts,Qd,c,q,k⟩=>cG2 _ _ _ H _ I (k true δ F H q (ah.refl _) (ah.refl _) c)
theorem uM(h:PT Y c (lT tt)):mE Y [c] (lT tt):=cu7 h
end
section
variable{X:Cx}{F H:Hp}{v w:V}
def l2(rd:eB):R2:=λv w H Q=>∃B F σ δ ts x y Qd,ax B F H σ δ ts/\S F H [x] [v]/\S F H [y] [w]/\rd x y Qd/\∀d z H',Qd d->ah H H'->ax B F H' σ δ ((d,z)::ts)->Q z H'
theorem bQ.of(h:cL X f (l2 rd)):bQ X f rd:=⟨_,h,λ{B F H σ δ ts x y v w Q Qd} c sx sy q k=>⟨B,F,σ,δ,ts,x,y,Qd,c,sx,sy,q,k⟩⟩
theorem x6{gd:Int->Int->D}(ho:cL X f (rI C g))(hg:∀i j F H,S F H [gd i j] [g i j])(hp:∀i j,(gd i j).pl=true):bQ X f λx y Q=>∃i j,x=.int i/\y=.int j/\C i j/\Q (gd i j) :=
 ⟨_,ho,λ{B F H σ δ ts x y v w Q Qd} c sx sy h k=>by
  obtain⟨i,j,rfl,rfl,hc,q⟩:=h;cases sx;cases sy;exact⟨i,j,rfl,rfl,hc,k _ _ _ q (ah.refl _) (c.pushS (hg i j F H) (hp i j))⟩⟩
theorem nV{gd:Int->Int->D}(ho:cL X f (ky g))(hg:∀i j F H,S F H [gd i j] [g i j])(hp:∀i j,(gd i j).pl=true):bQ X f λx y Q=>∃i j,x=.int i/\y=.int j/\Q (gd i j) :=
 ⟨_,ho,λ{B F H σ δ ts x y v w Q Qd} c sx sy h k=>by
  obtain⟨i,j,rfl,rfl,q⟩:=h;cases sx;cases sy;exact⟨i,j,rfl,rfl,k _ _ _ q (ah.refl _) (c.pushS (hg i j F H) (hp i j))⟩⟩
theorem ju(s:S F H [.lst o xs] [v])(e:ah F H):∃p ws,v=.ref p/\H p=some (.lst ws)/\S F H xs ws:=by
 cases s with
 | shr h r _=>exact⟨_,_,rfl,e _ _ h,r.s⟩
 | own h r _=>exact⟨_,_,rfl,h,r⟩
theorem mR(s:S F H [.tup xs] [v]):∃p ws,v=.ref p/\H p=some (.tup ws)/\S F H xs ws:=by
 cases s with
 | tup h r _=>exact⟨_,_,rfl,h,r⟩
theorem mS(s:S F H [d] [v])(e:ah F H)(h:jt d=some xs):∃p ws,v=.ref p/\Rd H p (.lst ws)/\S F H xs ws:=by
 cases s with
 | shr h' r _=>cases h;exact⟨_,_,rfl,.inl (e _ _ h'),r.s⟩
 | own h' r _=>cases h;exact⟨_,_,rfl,.inl h',r⟩
 | fz h' r _=>cases h;exact⟨_,_,rfl,.inr ⟨_,e _ _ h'⟩,r.s⟩
 | aA _=>cases h
 | bl _=>cases h
 | int _=>cases h
 | str _=>cases h
 | tup _ _ _=>cases h
 | obj _ _ _ _=>cases h
 | bt _ _=>cases h
theorem S.rep(s:S F H xs ws):∀k:Nat,S F H (aM k xs).flatten (aM k ws).flatten
 | 0=>by simpa using S.nil
 | k+1=>by
  rw[tN,tN,w9,w9];exact s.append (S.rep s k)
def rG:eB:=λx y Q=>match x,y with
 | .int i,.int j=>Q (.int (i+j))
 | .str a,.str b=>a.length+b.length<=sizeLine/\Q (.str (a++b))
 | .lst _ xs,.lst _ ys=>(xs.length+ys.length<=sizeLine/\xs.all D.pl=true/\ys.all D.pl=true)/\Q (.lst true (xs++ys))
 | _,_=>False
theorem cX0:bQ X (binaryOp .Add) λx y Q=>∃o xs o' ys,x=.lst o xs/\y=.lst o' ys/\(xs.length+ys.length<=sizeLine/\xs.all D.pl=true/\ys.all D.pl=true)/\Q (.lst true (xs++ys)) :=
 ⟨_,MW,λ{B F H σ δ ts x y v w Q Qd} c sx sy h k=>by
  obtain⟨o,xs,o',ys,rfl,rfl,⟨hz,h1,h2⟩,q⟩:=h;obtain⟨p,ws,rfl,e1,s1⟩:=ju sx c.ext;obtain⟨p',eP,rfl,e2,s2⟩:=ju sy c.ext;refine⟨p,p',ws,eP,rfl,rfl,e1,e2,by rw[<-s1.length,<- s2.length];exact hz,λr hr=>?_⟩;exact k _ _ _ q (ah.upd hr) (c.rA hr (s1.append s2) (by simp[h1,h2]))⟩
theorem dt1:bQ X (binaryOp .Add) λx y Q=>∃i j,x=.str i/\y=.str j/\i.length+j.length<=sizeLine/\Q (.str (i++j)) :=
 ⟨_,bZ1,λ{B F H σ δ ts x y v w Q Qd} c sx sy h k=>by
  obtain⟨i,j,rfl,rfl,hz,q⟩:=h;cases sx;cases sy;exact⟨i,j,rfl,rfl,hz,k _ _ _ q (ah.refl _) (c.pushS (.str .nil) rfl)⟩⟩
theorem b9:bQ X (binaryOp .Add) rG:=((nV (gd:=λi j=>.int (i+j)) cQ0 (λ_ _ _ _=>.int .nil) λ_ _=>rfl).or (dt1.or cX0)).imp λx y Q h=>by
 unfold rG at h;split at h
 ·exact .inl ⟨_,_,rfl,rfl,h⟩
 ·exact .inr (.inl ⟨_,_,rfl,rfl,h.1,h.2⟩)
 ·exact .inr (.inr ⟨_,_,_,_,rfl,rfl,h.1,h.2⟩)
 ·exact h.elim
def iI(C:Int->Int->Prop)(g:Int->Int->D):eB:=λx y Q=>match x,y with
 | .int i,.int j=>C i j/\Q (g i j)
 | _,_=>False
def iM(g:Int->Int->D):eB:=λx y Q=>match x,y with
 | .int i,.int j=>Q (g i j)
 | _,_=>False
theorem AJ(h:bQ X f λx y Q=>∃i j,x=.int i/\y=.int j/\C i j/\Q (g i j)):bQ X f (iI C g):=h.imp λx y Q h=>by
 unfold iI at h;split at h
 ·exact⟨_,_,rfl,rfl,h.1,h.2⟩
 ·exact h.elim
theorem pQ(h:bQ X f λx y Q=>∃i j,x=.int i/\y=.int j/\Q (g i j)):bQ X f (iM g):=h.imp λx y Q h=>by
 unfold iM at h;split at h
 ·exact⟨_,_,rfl,rfl,h⟩
 ·exact h.elim
def uN:eB:=iM λi j=>.int (i-j)
theorem dh:bQ X (binaryOp .Sub) uN:=pQ (nV cK6 (λ_ _ _ _=>.int .nil) λ_ _=>rfl)
def G9(_ j:Int):Prop:=0<j/\j.natAbs.log2<9000
theorem jv(h1:0<j)(h2:j<1073741824):G9 i j:=⟨h1,by
 have h:j.natAbs<2 ^ 30:=by omega
 have:=(Nat.log2_lt (show j.natAbs≠0 by omega)).mpr h;omega⟩
theorem cg9:cL X (binaryOp .FloorDiv) (rI G9 λi j=>.int (i/j)):=xy λi j _ _ _ _ _ hc q =>
 floordiv_int (show j≠0 by have:=hc.1;omega) (by rw[Zo i (by have:=hc.1;omega)];exact q) (.inl (PyProof.noPylong_of_log2 hc.2))
def uO:eB:=iI G9 λi j=>.int (i/j)
theorem jw:bQ X (binaryOp .FloorDiv) uO:=AJ (x6 cg9 (λ_ _ _ _=>.int .nil) λ_ _=>rfl)
def uP:eB:=iI (λ_ j=>0<j) λi j=>.int (i%j)
theorem cC:bQ X (binaryOp .Mod) uP:=AJ (x6 cJ6 (λ_ _ _ _=>.int .nil) λ_ _=>rfl)
def uQ:eB:=iI Mp λi j=>.int (i ^ j.toNat)
theorem cV9:bQ X (binaryOp .Pow) uQ:=AJ (x6 cM6 (λ_ _ _ _=>.int .nil) λ_ _=>rfl)
def uR:eB:=iI Nv λi j=>.int (i*2 ^ j.toNat)
theorem uS:bQ X (binaryOp .LShift) uR:=AJ (x6 cG7 (λ_ _ _ _=>.int .nil) λ_ _=>rfl)
def uT:eB:=iI (λ_ j=>0<=j) λi j=>.int (i/2 ^ j.toNat)
theorem N9:bQ X (binaryOp .RShift) uT:=AJ (x6 cR9 (λ_ _ _ _=>.int .nil) λ_ _=>rfl)
def uU:eB:=iM λi j=>.int (qM i j)
theorem Oa:bQ X (binaryOp .BitAnd) uU:=pQ (nV cJ9 (λ_ _ _ _=>.int .nil) λ_ _=>rfl)
def uV:eB:=iM λi j=>.int (qN i j)
theorem AK:bQ X (binaryOp .BitXor) uV:=pQ (nV cT0 (λ_ _ _ _=>.int .nil) λ_ _=>rfl)
theorem cf9:cL X (binaryOp .Mult) (rI IntMulOk λi j=>.int (i*j)):=xy λ_ _ _ _ _ _ _ hc q=>mul_int q hc
def rH:eB:=λx y Q=>match x,y with
 | .int i,.int j=>IntMulOk i j/\Q (.int (i*j))
 | .lst _ xs,.int k=>(-(2 ^ 63)<=k/\k<2 ^ 63/\xs.length*k.toNat<=sizeLine/\xs.all D.pl=true)/\Q (.lst true (aM k.toNat xs).flatten)
 | _,_=>False
theorem cY2:bQ X (binaryOp .Mult) λx y Q=>∃o xs k,x=.lst o xs/\y=.int k/\(-(2 ^ 63)<=k/\k<2 ^ 63/\xs.length*k.toNat<=sizeLine/\xs.all D.pl=true)/\Q (.lst true (aM k.toNat xs).flatten) :=
 ⟨_,cM7,λ{B F H σ δ ts x y v w Q Qd} c sx sy h k=>by
  obtain⟨o,xs,n,rfl,rfl,⟨b1,b2,hz,h1⟩,q⟩:=h;obtain⟨p,ws,rfl,e1,s1⟩:=ju sx c.ext;cases sy;refine⟨p,n,ws,rfl,rfl,e1,b1,b2,by rw[<-s1.length];exact hz,λr hr=>?_⟩;refine k _ _ _ q (ah.upd hr) (c.rA hr (s1.rep _) ?_);rw[cU];intro x hx;obtain⟨l,hl,AL⟩:=List.mem_flatten.mp hx;rw[(qW.mp hl).2]at AL;exact cU.mp h1 x AL⟩
theorem fq:bQ X (binaryOp .Mult) rH:=((x6 (gd:=λi j=>.int (i*j)) cf9 (λ_ _ _ _=>.int .nil) λ_ _=>rfl).or cY2).imp λx y Q h=>by
 unfold rH at h;split at h
 ·exact .inl ⟨_,_,rfl,rfl,h.1,h.2⟩
 ·exact .inr ⟨_,_,_,rfl,rfl,h.1,h.2⟩
 ·exact h.elim
theorem Ob:bQ X (inplaceOp .Add) (iM λi j=>.int (i+j)):=pQ (nV cE8 (λ_ _ _ _=>.int .nil) λ_ _=>rfl)
theorem Df:bQ X (inplaceOp .BitXor) (iM λi j=>.int (qN i j)):=pQ (nV cy7 (λ_ _ _ _=>.int .nil) λ_ _=>rfl)
def uW:eB:=iM λi j=>.bl (decide (i<j))
def uX:eB:=iM λi j=>.bl (decide (i<=j))
def uY:eB:=iM λi j=>.bl (decide (j<i))
def uZ:eB:=iM λi j=>.bl (decide (j<=i))
theorem pS:bQ X (compareOp .Lt) uW:=pQ (nV cX6 (λ_ _ _ _=>.bl .nil) λ_ _=>rfl)
theorem mT:bQ X (compareOp .LtE) uX:=pQ (nV cZ9 (λ_ _ _ _=>.bl .nil) λ_ _=>rfl)
theorem pU:bQ X (compareOp .Gt) uY:=pQ (nV cV5 (λ_ _ _ _=>.bl .nil) λ_ _=>rfl)
theorem Oc:bQ X (compareOp .GtE) uZ:=pQ (nV cZ8 (λ_ _ _ _=>.bl .nil) λ_ _=>rfl)
def nW:D->Bool
 | .aA=>true
 | _=>false
def rJ:eB:=λx y Q=>match y with
 | .aA=>Q (.bl (nW x))
 | _=>False
def rK:eB:=λx y Q=>match y with
 | .aA=>Q (.bl (!nW x))
 | _=>False
theorem Od(s:S F H [d] [v]):decide (v=.aA)=nW d:=by cases s<;>simp[nW]
theorem u0:bQ X (compareOp .Is) rJ:=⟨_,cM3,λ{B F H σ δ ts x y v w Q Qd} c sx sy h k=>by
 unfold rJ at h;split at h
 ·cases sy;refine⟨rfl,?_⟩;rw[Od sx];exact k _ _ _ h (ah.refl _) (c.pushS (.bl .nil) rfl)
 ·exact h.elim⟩
theorem Dg:bQ X (compareOp .IsNot) rK:=⟨_,cC2,λ{B F H σ δ ts x y v w Q Qd} c sx sy h k=>by
 unfold rK at h;split at h
 ·cases sy;refine⟨rfl,?_⟩;rw[Od sx];exact k _ _ _ h (ah.refl _) (c.pushS (.bl .nil) rfl)
 ·exact h.elim⟩
def bS:D->D->Bool
 | .aA,.aA=>true
 | .bl a,.bl b=>a==b
 | .bl a,.int b=>(if a then 1 else 0)==b
 | .int a,.bl b=>a==(if b then 1 else 0)
 | .int a,.int b=>a==b
 | .str a,.str b=>a==b
 | .lst _ xs,.lst _ ys=>gB xs ys
 | .tup xs,.tup ys=>gB xs ys
 | _,_=>false
where gB:List D->List D->Bool
 | [],[]=>true
 | x::xs,y::ys=>bS x y&&gB xs ys
 | _,_=>false
def eE:Nat->D->Bool
 | _,.aA=>true
 | _,.bl _=>true
 | _,.int _=>true
 | _,.str _=>true
 | n+1,.lst _ xs=>xs.all (eE n)
 | n+1,.tup xs=>xs.all (eE n)
 | _,_=>false
theorem Ha:∀(xs ys:List D),xs.length=ys.length->bS.gB xs ys=(aI xs.length).all λj=>bS (xs.getD j .aA) (ys.getD j .aA)
 | [],[],_=>rfl
 | x::xs,y::ys,h=>by
  rw[jJ,ZA,bB,mj];show(bS x y&&bS.gB xs ys)=_;rw[Ha xs ys (by simpa using h)];rfl
theorem Hb:∀(xs ys:List D),xs.length≠ys.length->bS.gB xs ys=false
 | [],[],h=>absurd rfl h
 | [],_::_,_=>rfl
 | _::_,[],_=>rfl
 | x::xs,y::ys,h=>by
  show(bS x y&&bS.gB xs ys)=false;rw[Hb xs ys (by simpa using h),Lo]
def ofV:V->D
 | .bl b=>.bl b
 | .int i=>.int i
 | .str z=>.str z
 | _=>.aA
theorem AM{x:D}(h:eE 0 x=true)(s:S F H [x] [v]):x=ofV v:=by
 cases s with
 | aA _=>rfl
 | bl _=>rfl
 | int _=>rfl
 | str _=>rfl
 | _=>cases h
theorem Oe{x:D}(h:eE 0 x=true):bS x x=true:=by
 cases x with
 | aA=>rfl
 | bl b=>exact beq_self_eq_true b
 | int i=>exact beq_self_eq_true i
 | str z=>exact beq_self_eq_true z
 | _=>cases h
theorem rL{x:D}(h:eE (n+1) x=true):eE 0 x=true\/(∃o xs,x=.lst o xs/\xs.all (eE n)=true)\/∃xs,x=.tup xs/\xs.all (eE n)=true:=by
 cases x with
 | lst o xs=>exact .inr (.inl ⟨o,xs,rfl,h⟩)
 | tup xs=>exact .inr (.inr ⟨xs,rfl,h⟩)
 | obj _ _ _=>exact absurd h ji
 | fz _=>exact absurd h ji
 | bt _=>exact absurd h ji
 | _=>exact .inl rfl
theorem Dh{x:D}(h:eE 0 x=true)(s:S F H [x] [.ref p]):False:=by
 rw[AM h s]at s;cases s
theorem Of:∀(n:Nat) {xs ys:List D} {vs:List V},xs.all (eE n)=true->ys.all (eE n)=true->S F H xs vs->S F H ys vs->ah F H->bS.gB xs ys=true:=by
 intro n xs
 induction n generalizing xs with
 | zero =>
  induction xs with
  | nil=>intro ys vs _ _ s1 s2 _;cases s1;cases s2;rfl
  | cons x xs ih =>
   intro ys vs h1 h2 s1 s2 e;obtain⟨v,cW,rfl,q1,r1⟩:=s1.dA
   cases ys with
   | nil=>cases s2
   | cons y ys =>
    obtain⟨v',NU,ee,q2,r2⟩:=s2.dA;obtain⟨rfl,rfl⟩:=mi ee;rw[bB,cA]at h1 h2;show(bS x y&&bS.gB xs ys)=true;rw[ih h1.2 h2.2 r1 r2 e,mm,AM h2.1 q2,<- AM h1.1 q1];exact Oe h1.1
 | succ n Og =>
  induction xs with
  | nil=>intro ys vs _ _ s1 s2 _;cases s1;cases s2;rfl
  | cons x xs ih =>
   intro ys vs h1 h2 s1 s2 e;obtain⟨v,cW,rfl,q1,r1⟩:=s1.dA
   cases ys with
   | nil=>cases s2
   | cons y ys =>
    obtain⟨v',NU,ee,q2,r2⟩:=s2.dA;obtain⟨rfl,rfl⟩:=mi ee;rw[bB,cA]at h1 h2;show(bS x y&&bS.gB xs ys)=true;rw[ih h1.2 h2.2 r1 r2 e,mm];have h1:=h1.1;have h2:=h2.1;clear ih r1 r2 s1 s2;rcases rL h1 with k1 | ⟨o1,a1,rfl,k1⟩ | ⟨a1,rfl,k1⟩
    ·rcases rL h2 with k2 | ⟨o2,a2,rfl,k2⟩ | ⟨a2,rfl,k2⟩
     ·rw[AM k2 q2,<- AM k1 q1];exact Oe k1
     ·obtain⟨p,ws,rfl,_⟩:=ju q2 e;exact(Dh k1 q1).elim
     ·obtain⟨p,ws,rfl,_⟩:=mR q2;exact(Dh k1 q1).elim
    ·obtain⟨p,ws,rfl,e1,t1⟩:=ju q1 e;rcases rL h2 with k2 | ⟨o2,a2,rfl,k2⟩ | ⟨a2,rfl,k2⟩
     ·exact(Dh k2 q2).elim
     ·obtain⟨p2,Di,ev,e2,t2⟩:=ju q2 e;cases ev;cases e1.symm.trans e2;exact Og k1 k2 t1 t2 e
     ·obtain⟨p2,Di,ev,e2,t2⟩:=mR q2;cases ev;cases e1.symm.trans e2
    ·obtain⟨p,ws,rfl,e1,t1⟩:=mR q1;rcases rL h2 with k2 | ⟨o2,a2,rfl,k2⟩ | ⟨a2,rfl,k2⟩
     ·exact(Dh k2 q2).elim
     ·obtain⟨p2,Di,ev,e2,t2⟩:=ju q2 e;cases ev;cases e1.symm.trans e2
     ·obtain⟨p2,Di,ev,e2,t2⟩:=mR q2;cases ev;cases e1.symm.trans e2;exact Og k1 k2 t1 t2 e
end
structure Oh(A:Around)(s:Shared)(u w:Value)(b:Bool):Prop where
 rc:SeqAt.RcAt A s u w b
 ne:SeqAt.RcNeAt A s u w (!b)
 eq:E6 A s u w b
section
variable{X:Cx}{F H:Hp}{v w:V}
theorem Oi(r:Vals xs us)(h:j<us.toArray.size):∃x,xs[j]?=some x/\RelV x us.toArray[j]:=by
 have l:=r.length;have hj:j<xs.length:=by rw[l];simpa using h
 obtain⟨u,e,q⟩:=r.get (aV hj);obtain⟨_,z⟩:=jh.mp e;refine⟨_,aV hj,?_⟩;have:us.toArray[j]=u:=by simpa using z
 rw[this];exact q
theorem Oj{xs:List D}{j:Nat}{d:D}(h:xs[j]?=some d):xs.getD j .aA=d:=by rw[aT,h];rfl
theorem x8{x:D}(h:eE 0 x=true)(s:S F H [x] [v])(r:RelV v u):(x=.aA/\u=.none)\/(∃b,x=.bl b/\u=.bool b)\/(∃i t,x=.int i/\u=.int i t)\/∃z t,x=.str z/\u=.str z t:=by
 cases s with
 | aA _=>cases r;exact .inl ⟨rfl,rfl⟩
 | bl _=>cases r;exact .inr (.inl ⟨_,rfl,rfl⟩)
 | int _=>obtain⟨t,rfl⟩:=r;exact .inr (.inr (.inl ⟨_,t,rfl,rfl⟩))
 | str _=>obtain⟨t,rfl⟩:=r;exact .inr (.inr (.inr ⟨_,t,rfl,rfl⟩))
 | _=>exact absurd h ji
theorem Ol{x y:D}{s:Shared}(h1:(x=.aA/\u=.none)\/(∃b,x=.bl b/\u=.bool b)\/(∃i t,x=.int i/\u=.int i t)\/∃z t,x=.str z/\u=.str z t)(h2:(y=.aA/\u'=.none)\/(∃b,y=.bl b/\u'=.bool b)\/(∃i t,y=.int i/\u'=.int i t)\/∃z t,y=.str z/\u'=.str z t):Oh A s u u' (bS x y):=by
 rcases h1 with⟨rfl,rfl⟩ | ⟨a,rfl,rfl⟩ | ⟨a,t,rfl,rfl⟩ | ⟨a,t,rfl,rfl⟩<;>rcases h2 with⟨rfl,rfl⟩ | ⟨b,rfl,rfl⟩ | ⟨b,t',rfl,rfl⟩ | ⟨b,t',rfl,rfl⟩
 ·exact⟨.none_none,.none_none,.same _⟩
 ·exact⟨.none_bool _,.none_bool _,.none_bool _⟩
 ·exact⟨.none_int _ _,.none_int _ _,.none_int _ _⟩
 ·exact⟨.none_str _ _,.none_str _ _,.none_str _ _⟩
 ·exact⟨.bool_none _,.bool_none _,.bool_none _⟩
 ·exact⟨.bool_bool _ _,.bool_bool _ _,.bool_bool _ _⟩
 ·exact⟨.bool_int _ _ _,.bool_int _ _ _,.bool_int _ _ _⟩
 ·exact⟨.bool_str _ _ _,.bool_str _ _ _,.bool_str _ _ _⟩
 ·exact⟨.int_none _ _,.int_none _ _,.int_none _ _⟩
 ·exact⟨.int_bool _ _ _,.int_bool _ _ _,.int_bool _ _ _⟩
 ·exact⟨.int_int _ _ _ _,.int_int _ _ _ _,.int_int _ _ _ _⟩
 ·exact⟨.int_str _ _ _ _,.int_str _ _ _ _,.int_str _ _ _ _⟩
 ·exact⟨.str_none _ _,.str_none _ _,.str_none _ _⟩
 ·exact⟨.str_bool _ _ _,.str_bool _ _ _,.str_bool _ _ _⟩
 ·exact⟨.str_int _ _ _ _,.str_int _ _ _ _,.str_int _ _ _ _⟩
 ·exact⟨.str_str _ _ _ _,.str_str _ _ _ _,.str_str _ _ _ _⟩
theorem Om{pins:List (Addr × Obj)}{σ:L2.St}{s:Shared}(I:Inv X pins σ H s)(e:ah F H):∀(n:Nat) (x y:D) (v w:V) (u u':Value) (A:Around),eE n x=true->eE n y=true->S F H [x] [v]->S F H [y] [w]->RelV v u->RelV w u' ->
  A.units+n<cLine->Oh A s u u' (bS x y):=by
 intro n
 induction n with
 | zero =>
  intro x y v w u u' A hx hy sx sy rv gK hu;exact Ol (x8 hx sx rv) (x8 hy sy gK)
 | succ n ih =>
  intro x y v w u u' A hx hy sx sy rv gK hu;have bz:A.units<cLine:=zE (Nat.le_add_right ..) hu;have Oo:A.in1.units+n<cLine:=by show A.units+1+n<cLine;rw[Ft,Cg 1];exact hu
  have items:∀{xs ys:List D} {vs ws:List V} {us u3:List Value},xs.all (eE n)=true->ys.all (eE n)=true->S F H xs vs->S F H ys ws->Vals vs us->Vals ws u3 ->
    ∀j (h1:j<us.toArray.size) (h2:j<u3.toArray.size),E6 A.in1 s us.toArray[j] u3.toArray[j] (bS (xs.getD j .aA) (ys.getD j .aA)):=by
   intro xs ys vs ws us u3 hx hy sx sy r1 r2 j h1 h2;obtain⟨a,e1,q1⟩:=Oi r1 h1;obtain⟨b,e2,q2⟩:=Oi r2 h2;obtain⟨d1,g1,t1⟩:=sx.get' e1;obtain⟨d2,g2,t2⟩:=sy.get' e2;rw[Oj g1,Oj g2];exact(ih d1 d2 a b _ _ A.in1 (cU.mp hx d1 (w4 g1)) (cU.mp hy d2 (w4 g2)) t1 t2 q1 q2 Oo).eq
  clear ih hu Oo;rcases rL hx with k1 | ⟨o,xs,rfl,k1⟩ | ⟨xs,rfl,k1⟩
  ·have f:=x8 k1 sx rv;rcases rL hy with k2 | ⟨o',ys,rfl,k2⟩ | ⟨ys,rfl,k2⟩
   ·exact Ol f (x8 k2 sy gK)
   ·obtain⟨p',eP,rfl,e2,t2⟩:=ju sy e;cases gK;obtain⟨mU,r2,p2,z2⟩:=I.list (bN.of (K:=X.K) e2);have p2:=p2.isList;rcases f with⟨rfl,rfl⟩ | ⟨a,rfl,rfl⟩ | ⟨a,t,rfl,rfl⟩ | ⟨a,t,rfl,rfl⟩
    ·exact⟨.none_list p2 bz,.none_list p2 bz,.none_list p2 bz⟩
    ·exact⟨.bool_list _ p2 bz,.bool_list _ p2 bz,.bool_list _ p2 bz⟩
    ·exact⟨.int_list _ _ p2 bz,.int_list _ _ p2 bz,.int_list _ _ p2 bz⟩
    ·exact⟨.str_list _ _ p2 bz,.str_list _ _ p2 bz,.str_list _ _ p2 bz⟩
   ·obtain⟨p',eP,rfl,e2,t2⟩:=mR sy;cases gK;obtain⟨mU,r2,p2,z2⟩:=I.tuple (iF.of (K:=X.K) e2);rcases f with⟨rfl,rfl⟩ | ⟨a,rfl,rfl⟩ | ⟨a,t,rfl,rfl⟩ | ⟨a,t,rfl,rfl⟩
    ·exact⟨.none_tuple p2 bz,.none_tuple p2 bz,.none_tuple p2 bz⟩
    ·exact⟨.bool_tuple _ p2 bz,.bool_tuple _ p2 bz,.bool_tuple _ p2 bz⟩
    ·exact⟨.int_tuple _ _ p2 bz,.int_tuple _ _ p2 bz,.int_tuple _ _ p2 bz⟩
    ·exact⟨.str_tuple _ _ p2 bz,.str_tuple _ _ p2 bz,.str_tuple _ _ p2 bz⟩
  ·obtain⟨p,ws,rfl,e1,t1⟩:=ju sx e;cases rv;obtain⟨its,r1,p1,z1⟩:=I.list (bN.of (K:=X.K) e1);have p1:=p1.isList;rcases rL hy with k2 | ⟨o',ys,rfl,k2⟩ | ⟨ys,rfl,k2⟩
   ·rcases x8 k2 sy gK with⟨rfl,rfl⟩ | ⟨a,rfl,rfl⟩ | ⟨a,t,rfl,rfl⟩ | ⟨a,t,rfl,rfl⟩
    ·exact⟨.list_none p1 bz,.list_none p1 bz,.list_none p1 bz⟩
    ·exact⟨.list_bool _ p1 bz,.list_bool _ p1 bz,.list_bool _ p1 bz⟩
    ·exact⟨.list_int _ _ p1 bz,.list_int _ _ p1 bz,.list_int _ _ p1 bz⟩
    ·exact⟨.list_str _ _ p1 bz,.list_str _ _ p1 bz,.list_str _ _ p1 bz⟩
   ·obtain⟨p',eP,rfl,e2,t2⟩:=ju sy e;cases gK;obtain⟨mU,r2,p2,z2⟩:=I.list (bN.of (K:=X.K) e2);have p2:=p2.isList;have pV:xs.length=its.length:=t1.length.trans r1.length;have rM:ys.length=mU.length:=t2.length.trans r2.length;by_cases hl:xs.length=ys.length
    ·have nL:its.toArray.size=mU.toArray.size:=by rw[eJ,eJ,<- pV,<- rM];exact hl
     have ev:(aI its.toArray.size).all (λj=>bS (xs.getD j .aA) (ys.getD j .aA))=bS (.lst o xs) (.lst o' ys):=by
      show _=bS.gB xs ys;rw[Ha xs ys hl,eJ,<- pV]
     have a:=SeqAt.RcAt.lists (e:=λj=>bS (xs.getD j .aA) (ys.getD j .aA)) p1 p2 nL bz (items k1 k2 t1 t2 r1 r2);have b:=SeqAt.RcNeAt.lists (e:=λj=>bS (xs.getD j .aA) (ys.getD j .aA)) p1 p2 nL bz (items k1 k2 t1 t2 r1 r2);rw[ev]at a b;refine⟨a,b,?_⟩;by_cases u4:p=p'
     ·subst u4;cases e1.symm.trans e2;rw[show bS (.lst o xs) (.lst o' ys)=true from Of n k1 k2 t1 t2 e];exact .same _
     ·exact .of_refs u4 a
    ·have nL:(its.toArray.size != mU.toArray.size)=true:=bne_iff_ne.mpr (by rw[eJ,eJ,<- pV,<- rM];exact hl);rw[show bS (.lst o xs) (.lst o' ys)=false from Hb xs ys hl];have a:=SeqAt.RcAt.lists_lengths p1 p2 nL bz;refine⟨a,SeqAt.RcNeAt.lists_lengths p1 p2 nL bz,.of_refs (λu4=>?_) a⟩;subst u4;cases e1.symm.trans e2;exact hl (t1.length.trans t2.length.symm)
   ·obtain⟨p',eP,rfl,e2,t2⟩:=mR sy;cases gK;obtain⟨mU,r2,p2,z2⟩:=I.tuple (iF.of (K:=X.K) e2);exact⟨.list_tuple p1 p2 bz,.list_tuple p1 p2 bz,.list_tuple p1 p2 bz⟩
  ·obtain⟨p,ws,rfl,e1,t1⟩:=mR sx;cases rv;obtain⟨its,r1,p1,z1⟩:=I.tuple (iF.of (K:=X.K) e1);rcases rL hy with k2 | ⟨o',ys,rfl,k2⟩ | ⟨ys,rfl,k2⟩
   ·rcases x8 k2 sy gK with⟨rfl,rfl⟩ | ⟨a,rfl,rfl⟩ | ⟨a,t,rfl,rfl⟩ | ⟨a,t,rfl,rfl⟩
    ·exact⟨.tuple_none p1 bz,.tuple_none p1 bz,.tuple_none p1 bz⟩
    ·exact⟨.tuple_bool _ p1 bz,.tuple_bool _ p1 bz,.tuple_bool _ p1 bz⟩
    ·exact⟨.tuple_int _ _ p1 bz,.tuple_int _ _ p1 bz,.tuple_int _ _ p1 bz⟩
    ·exact⟨.tuple_str _ _ p1 bz,.tuple_str _ _ p1 bz,.tuple_str _ _ p1 bz⟩
   ·obtain⟨p',eP,rfl,e2,t2⟩:=ju sy e;cases gK;obtain⟨mU,r2,p2,z2⟩:=I.list (bN.of (K:=X.K) e2);have p2:=p2.isList;exact⟨.tuple_list p1 p2 bz,.tuple_list p1 p2 bz,.tuple_list p1 p2 bz⟩
   ·obtain⟨p',eP,rfl,e2,t2⟩:=mR sy;cases gK;obtain⟨mU,r2,p2,z2⟩:=I.tuple (iF.of (K:=X.K) e2);have pV:xs.length=its.length:=t1.length.trans r1.length;have rM:ys.length=mU.length:=t2.length.trans r2.length;have ev:((aI (min its.toArray.size mU.toArray.size)).all (λj=>bS (xs.getD j .aA) (ys.getD j .aA))&&its.toArray.size==mU.toArray.size)=bS (.tup xs) (.tup ys):=by
     show _=bS.gB xs ys;rw[eJ,eJ,<- pV,<- rM];by_cases hl:xs.length=ys.length
     ·rw[Ha xs ys hl,<- hl,Cn,beq_self_eq_true,mm]
     ·rw[Hb xs ys hl,beq_false_of_ne hl,Lo]
    have a:=SeqAt.RcAt.tuples (e:=λj=>bS (xs.getD j .aA) (ys.getD j .aA)) p1 p2 bz (items k1 k2 t1 t2 r1 r2);have b:=SeqAt.RcNeAt.tuples (e:=λj=>bS (xs.getD j .aA) (ys.getD j .aA)) p1 p2 bz (items k1 k2 t1 t2 r1 r2);rw[ev]at a b;refine⟨a,b,?_⟩;by_cases u4:p=p'
    ·subst u4;cases e1.symm.trans e2;rw[show bS (.tup xs) (.tup ys)=true from Of n k1 k2 t1 t2 e];exact .same _
    ·exact .of_refs u4 a
def u5:eB:=λx y Q=>(eE 6 x=true/\eE 6 y=true)/\Q (.bl (bS x y))
def u6:eB:=λx y Q=>(eE 6 x=true/\eE 6 y=true)/\Q (.bl (!bS x y))
theorem dB(hu:X.A.units+6<cLine):bQ X (compareOp .Eq) u5:=bQ.of λpins s σ H v w u u' Q I rv gK zz=>by
 obtain⟨B,F,aJ,δ,ts,x,y,Qd,c,sx,sy,⟨⟨hx,hy⟩,q⟩,k⟩:=zz;exact(Om I c.ext 6 x y v w u u' X.A hx hy sx sy rv gK hu).rc _ _ _ _ ⟨.bl _,H,I,rfl,k _ _ _ q (ah.refl _) (c.pushS (.bl .nil) rfl)⟩
theorem jx(hu:X.A.units+6<cLine):bQ X (compareOp .NotEq) u6:=bQ.of λpins s σ H v w u u' Q I rv gK zz=>by
 obtain⟨B,F,aJ,δ,ts,x,y,Qd,c,sx,sy,⟨⟨hx,hy⟩,q⟩,k⟩:=zz;exact(Om I c.ext 6 x y v w u u' X.A hx hy sx sy rv gK hu).ne _ _ _ _ ⟨.bl _,H,I,rfl,k _ _ _ q (ah.refl _) (c.pushS (.bl .nil) rfl)⟩
end
section
variable{X:Cx}{F H:Hp}{v w:V}{e a b c o:Expr}{es:List Expr}{pos p p2 apos bK:Pos}{t ta tb tc te:aK}{tr:b8}{x:Str}
theorem b30{r r':R2}(hl:C8 r rd)(jQ:C8 r' Hc):∀σ H Q,lE (rC rd Hc ta tb tc) σ H Q->Mr r r' (lB ta) (lB tb) (lB tc) σ H Q:=λσ H Q ⟨B,F,δ,ts,Qd,c,q,k⟩ =>
 ⟨B,F,δ,ts,_,c,q,λx aq v F1 H1 q1 f1 h1 c1 s1=>⟨B,F1,aq,ts,_,c1,q1,λy aR w F2 H2 q2 f2 h2 c2 s2=>by
  refine hl c2 (s1.mono f2 h2) s2 q2 λd z H' hd hs c3=>?_;obtain⟨b,rfl,qb⟩:=hd;have st:=c3.top
  cases st with
  | bl _ =>
   refine⟨b,rfl,?_⟩
   cases b with
   | true =>
    refine rh ⟨B,F2,aR,ts,_,c3.pop,by simpa using qb,λz jr w3 F3 H3 q3 f3 h3 c4 s3=>?_⟩;exact jQ c4 (s2.mono f3 (hs.trans h3)) s3 q3 λd z H' hd hs' c5=>k d jr z F3 H' hd ((f1.trans f2).trans f3) ((((h1.trans h2).trans hs).trans h3).trans hs') c5
   | false=>exact pk (k _ aR _ F2 H' (by simpa using qb) (f1.trans f2) ((h1.trans h2).trans hs) (c3.pop.pushS (.bl .nil) rfl))⟩⟩
theorem x9(ho:bQ X (compareOp op) rd)(mq:bQ X (compareOp xB) Hc)(ha:PE X a (lB ta))(hb:PE X b (lB tb))(hc:PE X c (lB tc))
  (hm:lastMarks [op,xB] [b,c]=false:=by with_unfolding_all rfl):PE X (.Compare a [op,xB] [b,c] pos) (lE (rC rd Hc ta tb tc)):=by
 obtain⟨r,h1,h2⟩:=ho;obtain⟨r',lK,kA⟩:=mq;exact df (cl6 h1 lK ha hb hc hm) (b30 h2 kA)
def u7(t:aK):aK:=λδ Q=>t δ λd ag=>match d with
 | .int i=>Q (.int (-i)) ag
 | _=>False
theorem u9(ha:PE X a (lB ta)):PE X (.UnaryOp .USub a pos) (lE (u7 ta)):=df (cU2 cL4 ha) λσ H Q zq=>by
 obtain⟨B,F,δ,ts,Qd,c,q,k⟩:=zq;exact⟨B,F,δ,ts,_,c,q,λd aq v F1 H1 q1 f1 h1 c1 s1=>by
 cases s1 with
 | int _=>exact⟨_,rfl,k _ aq _ F1 H1 q1 f1 h1 (c1.pushS (.int .nil) rfl)⟩
 | _=>exact q1.elim⟩
abbrev lQ:=List D->(D->Prop)->Prop
def lc(rd:lQ):List V->Hp->VK->Prop:=λvs H Q=>∃B F σ δ ts ds Qd,ax B F H σ δ ts/\S F H ds vs/\rd ds Qd/\∀d z H',Qd d->ah H H'->ax B F H' σ δ ((d,z)::ts)->Q z H'
def gh(X:Cx)(f:Value)(rd:lQ):Prop:=gw X f (lc rd)
theorem gh.of{r:List V->Hp->VK->Prop}(h:gw X f r)(m:∀vs H Q,lc rd vs H Q->r vs H Q):gh X f rd:=λpins s σ H xs us Q I r q=>h pins s σ H xs us Q I r (m xs H Q q)
def pW(rd:lQ)(t:b8):aK:=λδ Q=>t δ λds ag=>rd ds λd=>Q d ag
theorem Oq:∀σ H Q,lE (pW rd tr) σ H Q->Ge (lc rd) (lA tr) σ H Q:=λσ H Q zq=>by
 obtain⟨B,F,δ,ts,Qd,c,q,k⟩:=zq;exact⟨B,F,δ,ts,_,c,q,λds aq vs F1 H1 q1 f1 h1 c1 s1 =>
 ⟨B,F1,σ,aq,ts,ds,_,c1,s1,q1,λd z H' hd hs c'=>k d aq z F1 H' hd f1 (h1.trans hs) c'⟩⟩
theorem bL{id:String}{rd:lQ}(hc:gh X (.builtin id) rd)(hg:Gl X x)(hm:X.mg x=none)(hv:bootBuiltins x=some (.builtin id))(ha:PA X (e::es) (lA tr))(hn:x≠"__name__":=by decide)(cM:(x==("__debug__":Str))=false:=by decide)
  (he:starEach (e::es) X.env=(false,eval e X.env)::starEach es X.env:=by rfl) (bh:(backTo pos (starEach es X.env)).any (·.1)=false:=by rfl):PE X (.Call (.Name x p) (e::es) [] pos) (lE (pW rd tr)) :=
 df (CT hc hg hm hv ha hn cM he bh) Oq
theorem rN(hc:gh X (.type T) rd)(hg:Gl X x)(hm:X.mg x=none)(hv:bootBuiltins x=some (.type T))(ha:PA X (e::es) (lA tr))(hn:x≠"__name__":=by decide)(cM:(x==("__debug__":Str))=false:=by decide)
  (he:starEach (e::es) X.env=(false,eval e X.env)::starEach es X.env:=by rfl) (bh:(backTo pos (starEach es X.env)).any (·.1)=false:=by rfl):PE X (.Call (.Name x p) (e::es) [] pos) (lE (pW rd tr)) :=
 df (b77 hc hg hm hv ha hn cM he bh) Oq
theorem j5(s:S F H [d] vs):∃v,vs=[v]/\S F H [d] [v]:=by
 obtain⟨v,cW,rfl,h1,h2⟩:=s.dA;cases h2;exact⟨v,rfl,h1⟩
theorem cW5(s:S F H [d,d'] vs):∃v v',vs=[v,v']/\S F H [d] [v]/\S F H [d'] [v']:=by
 obtain⟨v,cW,rfl,h1,h2⟩:=s.dA;obtain⟨v',rfl,h3⟩:=j5 h2;exact⟨v,v',rfl,h1,h3⟩
theorem kI{K:PySem.W.Frag}{p:Addr}{ws:List V}(h:Rd H p (.lst ws)):bN K H p ws:=.inl h
def rO:lQ:=λds Q=>match ds with
 | [.lst _ xs]=>Q (.int xs.length)
 | [.fz xs]=>Q (.int xs.length)
 | [.tup xs]=>Q (.int xs.length)
 | [.str z]=>z.length<=sizeLine/\Q (.int z.length)
 | _=>False
theorem di:gh X (.builtin "len") rO:=gh.of (dg1.or bK7) λvs H Q zz=>by
 obtain⟨B,F,σ,δ,ts,ds,Qd,c,s,q,k⟩:=zz;unfold rO at q;split at q
 ·obtain⟨v,rfl,s1⟩:=j5 s;obtain⟨p,ws,rfl,h,t⟩:=mS s1 c.ext rfl;refine .inl ⟨p,ws,rfl,.inl (kI h),?_⟩;rw[<-t.length];exact k _ _ _ q (ah.refl _) (c.pushS (.int .nil) rfl)
 ·obtain⟨v,rfl,s1⟩:=j5 s;obtain⟨p,ws,rfl,h,t⟩:=mS s1 c.ext rfl;refine .inl ⟨p,ws,rfl,.inl (kI h),?_⟩;rw[<-t.length];exact k _ _ _ q (ah.refl _) (c.pushS (.int .nil) rfl)
 ·obtain⟨v,rfl,s1⟩:=j5 s;obtain⟨p,ws,rfl,h,t⟩:=mR s1;refine .inl ⟨p,ws,rfl,.inr (iF.of h),?_⟩;rw[<-t.length];exact k _ _ _ q (ah.refl _) (c.pushS (.int .nil) rfl)
 ·obtain⟨v,rfl,s1⟩:=j5 s;cases s1;exact .inr ⟨_,rfl,q.1,k _ _ _ q.2 (ah.refl _) (c.pushS (.int .nil) rfl)⟩
 ·exact q.elim
def rP:lQ:=λds Q=>match ds with
 | [.lst _ xs]=>xs.all D.pl=true/\Q (.lst true xs)
 | [.fz xs]=>Q (.lst true xs)
 | [.tup xs]=>xs.all D.pl=true/\Q (.lst true xs)
 | _=>False
theorem va:gh X (.type "list") rP:=gh.of bK1 λvs H Q zz=>by
 obtain⟨B,F,σ,δ,ts,ds,Qd,c,s,q,k⟩:=zz;unfold rP at q;split at q
 ·obtain⟨v,rfl,s1⟩:=j5 s;obtain⟨p,ws,rfl,h,t⟩:=mS s1 c.ext rfl;exact⟨p,ws,rfl,.inl (kI h),λl hl=>k _ _ _ q.2 (ah.upd hl) (c.rA hl t q.1)⟩
 ·obtain⟨v,rfl,s1⟩:=j5 s
  cases s1 with
  | fz h r _=>exact⟨_,_,rfl,.inl (kI (.inr ⟨_,c.ext _ _ h⟩)),λl hl=>k _ _ _ q (ah.upd hl) (c.rA hl r.s r.pl)⟩
 ·obtain⟨v,rfl,s1⟩:=j5 s;obtain⟨p,ws,rfl,h,t⟩:=mR s1;exact⟨p,ws,rfl,.inr (iF.of h),λl hl=>k _ _ _ q.2 (ah.upd hl) (c.rA hl t q.1)⟩
 ·exact q.elim
def ii(g:Int->Int->Int):lQ:=λds Q=>match ds with
 | [.int i,.int j]=>Q (.int (g i j))
 | _=>False
theorem cU8(h:gw X f (λxs H Q=>∃i j,xs=[.int i,.int j]/\Q (.int (g i j)) H)):gh X f (ii g):=gh.of h λvs H Q zz=>by
 obtain⟨B,F,σ,δ,ts,ds,Qd,c,s,q,k⟩:=zz;unfold ii at q;split at q
 ·obtain⟨v,v',rfl,s1,s2⟩:=cW5 s;cases s1;cases s2;exact⟨_,_,rfl,k _ _ _ q (ah.refl _) (c.pushS (.int .nil) rfl)⟩
 ·exact q.elim
theorem vb(hc:X.calm=true):gh X (.builtin "min") (ii λi j=>if j<i then j else i):=cU8 (b78 hc)
def mV(bs:List Bool):List D:=bs.map D.bl
theorem He:∀{bs:List Bool} {ws:List V},S F H (mV bs) ws->ws=bs.map V.bl
 | [],_,s=>by cases s;rfl
 | b::bs,_,s=>by
  cases s with
  | bl s=>rw[He s];rfl
def rQ:lQ:=λds Q=>match ds with
 | [.lst _ xs]=>∃bs,xs=mV bs/\Q (.bl (bs.all id))
 | _=>False
def rR:lQ:=λds Q=>match ds with
 | [.lst _ xs]=>∃bs,xs=mV bs/\Q (.bl (bs.any id))
 | _=>False
theorem vd(hc:X.calm=true):gh X (.builtin "all") rQ:=gh.of (cg4 hc) λvs H Q zz=>by
 obtain⟨B,F,σ,δ,ts,ds,Qd,c,s,q,k⟩:=zz;unfold rQ at q;split at q
 ·obtain⟨v,rfl,s1⟩:=j5 s;obtain⟨bs,rfl,q⟩:=q;obtain⟨p,ws,rfl,h,t⟩:=mS s1 c.ext rfl;rw[He t]at h;exact⟨p,bs,rfl,kI h,k _ _ _ q (ah.refl _) (c.pushS (.bl .nil) rfl)⟩
 ·exact q.elim
theorem Ot(hc:X.calm=true):gh X (.builtin "any") rR:=gh.of (cj5 hc) λvs H Q zz=>by
 obtain⟨B,F,σ,δ,ts,ds,Qd,c,s,q,k⟩:=zz;unfold rR at q;split at q
 ·obtain⟨v,rfl,s1⟩:=j5 s;obtain⟨bs,rfl,q⟩:=q;obtain⟨p,ws,rfl,h,t⟩:=mS s1 c.ext rfl;rw[He t]at h;exact⟨p,bs,rfl,kI h,k _ _ _ q (ah.refl _) (c.pushS (.bl .nil) rfl)⟩
 ·exact q.elim
def Dj:D->Option String
 | .int _=>some "int"
 | .bl _=>some "bool"
 | .aA=>some "NoneType"
 | .str _=>some "str"
 | .lst _ _=>some "list"
 | .fz _=>some "list"
 | .tup _=>some "tuple"
 | _=>none
def xO(k n:String):Option Bool:=([("int","int",true),("int","bool",false),("int","list",false),("int","tuple",false),("int","str",false),("bool","int",true),("bool","bool",true),("bool","list",false),("bool","tuple",false),("bool","str",false),
 ("NoneType","int",false),("NoneType","bool",false),("NoneType","list",false),("NoneType","tuple",false),("NoneType","str",false),("str","int",false),("str","bool",false),("str","list",false),("str","tuple",false),("str","str",true),
 ("list","int",false),("list","bool",false),("list","list",true),("list","tuple",false),("list","str",false),("tuple","int",false),("tuple","bool",false),("tuple","list",false),("tuple","tuple",true),("tuple","str",false)].find? λz=>z.1==k&&z.2.1==n).map (·.2.2)
def nX(n:String)(d:D):Option Bool:=(Dj d).bind λk=>xO k n
theorem cH8{K:PySem.W.Frag}{k n:String}{r:Bool}(h:xO k n=some r):PySem.W.kitOne K (.type k) (.type n)=some r:=by
 unfold xO at h;obtain⟨z,hz,rfl⟩:=tR.mp h;have hm:=Lp hz;have hp:=List.find?_some hz;rw[cA,beq_iff_eq,beq_iff_eq]at hp;obtain⟨rfl,rfl⟩:=hp;simp only[cO,iD,or_false]at hm
 repeat' (rcases hm with hm | hm)
 all_goals rfl
theorem pX{K:PySem.W.Frag}{d:D}(s:S F H [d] [v])(e:ah F H){k:String}(h:Dj d=some k):iW K H v (.type k):=by
 cases s with
 | int _=>cases h;exact .int _
 | bl _=>cases h;exact .bl _
 | aA _=>cases h;exact .aA
 | str _=>cases h;exact .str _
 | shr h' _ _=>cases h;exact .lst (e _ _ h')
 | own h' _ _=>cases h;exact .lst h'
 | fz h' _ _=>cases h;exact .cV (e _ _ h')
 | tup h' _ _=>cases h;exact .tup h'
 | obj _ _ _ _=>cases h
 | bt _ _=>cases h
theorem cW0{K:PySem.W.Frag}{d:D}(s:S F H [d] [v])(e:ah F H){n:String}{r:Bool}(h:nX n d=some r):∃t,iW K H v t/\PySem.W.kitOne K t (.type n)=some r:=by
 unfold nX at h
 cases hk:Dj d with
 | none=>rw[hk]at h;cases h
 | some k=>rw[hk]at h;exact⟨_,pX s e hk,cH8 h⟩
def ve(n:String)(t:aK):aK:=λδ Q=>t δ λd ag=>∃r,nX n d=some r/\Q (.bl r) ag
theorem Dk{n:String}{y:Str}{q:Pos}(hg:Gl X "isinstance")(hm:X.mg "isinstance"=none)(vf:Gl X y)(nY:X.mg y=none)(Hf:bootBuiltins y=some (.type n))(ha:PE X a (lB ta))
  (hn:y≠"__name__":=by decide) (hd:(y==("__debug__":Str))=false:=by decide)
  (hs:starEach [a,.Name y q] X.env=(false,eval a X.env)::starEach [.Name y q] X.env:=by rfl) (fw:starEach [.Name y q] X.env=(false,eval (.Name y q) X.env)::starEach [] X.env:=by rfl) (bh:(backTo pos (starEach [.Name y q] X.env)).any (·.1)=false:=by rfl) :
  PE X (.Call (.Name "isinstance" p) [a,.Name y q] [] pos) (lE (ve n ta)) :=
 df (CT bu8 hg hm Gz (gI ha (gI (Nw vf nY Hf hn hd) mx fw) hs) (by decide) (by decide) hs bh) λσ H Q zq=>by
 obtain⟨B,F,δ,ts,Qd,c,q,k⟩:=zq;exact⟨B,F,δ,ts,_,c,q,λd aq v F1 H1 q1 f1 h1 c1 s1=>by
  obtain⟨r,e,qr⟩:=q1;obtain⟨t,h2,h3⟩:=cW0 (K:=X.K) s1 c1.ext e;exact⟨v,n,t,r,rfl,h2,h3,k _ aq _ F1 H1 qr f1 h1 (c1.pushS (.bl .nil) rfl)⟩⟩
theorem Hg(s:S F H xs ws)(h:dW xs i=some d):∃v,dW ws i=some v/\S F H [d] [v]:=by
 unfold dW at h ⊢;rw[<-s.length]
 cases e:ib xs.length i with
 | none=>rw[e]at h;cases h
 | some j =>
  rw[e]at h;exact s.get h
def rS(x y:D)(Q:D->Prop):Prop:=match x,y with
 | .lst _ xs,.int i=>∃d,dW xs i=some d/\Q d
 | .fz xs,.int i=>∃d,dW xs i=some d/\Q d
 | .tup xs,.int i=>∃d,dW xs i=some d/\Q d
 | .str z,.int i=>z.length<=sizeLine/\∃ch,dW z.cps.toList i=some ch/\Q (.str ⟨#[ch]⟩)
 | _,_=>False
def vg(ta tb:aK):aK:=λδ Q=>ta δ λx aq=>tb aq λy aR=>rS x y λd=>Q d aR
theorem bu(ha:PE X a (lB ta))(hb:PE X b (lB tb))(hs:Gg b):PE X (.Subscript a b pos) (lB (vg ta tb)) :=
 df (MI cR7 ha hb hs) λσ H Q zq=>by
 obtain⟨B,F,δ,ts,Qd,c,q,k⟩:=zq;exact⟨B,F,δ,ts,_,c,q,λx aq v F1 H1 q1 f1 h1 c1 s1=>⟨B,F1,aq,ts,_,c1,q1,λy aR w F2 H2 q2 f2 h2 c2 s2=>by
  have mW:=s1.mono f2 h2;have fin:∀d z,Qd d aR->S F2 H2 [d] [z]->Q z H2:=λd z hd s=>k d aR z F2 H2 hd (f1.trans f2) (h1.trans h2) c2 s;unfold rS at q2;split at q2
  ·obtain⟨d,ed,qd⟩:=q2;cases s2;obtain⟨p,ws,rfl,h,t⟩:=mS mW c2.ext rfl;obtain⟨z,ez,sz⟩:=Hg t ed;exact .inl ⟨p,ws,_,z,rfl,rfl,kI h,ez,fin d z qd sz⟩
  ·obtain⟨d,ed,qd⟩:=q2;cases s2;obtain⟨p,ws,rfl,h,t⟩:=mS mW c2.ext rfl;obtain⟨z,ez,sz⟩:=Hg t ed;exact .inl ⟨p,ws,_,z,rfl,rfl,kI h,ez,fin d z qd sz⟩
  ·obtain⟨d,ed,qd⟩:=q2;cases s2;obtain⟨p,ws,rfl,h,t⟩:=mR mW;obtain⟨z,ez,sz⟩:=Hg t ed;exact .inr (.inl ⟨p,ws,_,z,rfl,rfl,iF.of h,ez,fin d z qd sz⟩)
  ·obtain⟨hz,ch,ec,qc⟩:=q2;cases mW;cases s2;exact .inr (.inr ⟨_,_,ch,rfl,rfl,hz,ec,fin _ _ qc (.str .nil)⟩)
  ·exact q2.elim⟩⟩
abbrev ya:=Dl->(Option Int->Dl->Prop)->Prop
inductive lP(t:ya)(σ:L2.St)(H:Hp)(Q:Option Int->Hp->Prop):Prop
 | mk (B F δ ts Qd) (c:ax B F H σ δ ts) (q:t δ Qd) (k:∀o ag F' H',Qd o ag->ah F F'->ah H H'->ax B F' H' σ ag ts->Q o H')
theorem Ou(h:PO X oe u)(m:∀σ H Q,u' σ H Q->u σ H Q):PO X oe u':=λpins s σ H Q I q=>h pins s σ H Q I (m σ H Q q)
def vh:ya:=λδ Q=>Q none δ
def vj(t:aK):ya:=λδ Q=>t δ λd ag=>match d with
 | .int i=>Q (some i) ag
 | _=>False
theorem yb:PO X none (lP vh):=Ou cz1 λσ H Q ⟨B,F,δ,ts,Qd,c,q,k⟩=>k none δ F H q (ah.refl _) (ah.refl _) c
theorem yd(h:PE X e (lB t)):PO X (some e) (lP (vj t)):=Ou (cx3 h) λσ H Q zq=>by
 obtain⟨B,F,δ,ts,Qd,c,q,k⟩:=zq;exact⟨B,F,δ,ts,_,c,q,λd aq v F1 H1 q1 f1 h1 c1 s1=>by
 cases s1 with
 | int _=>exact⟨_,rfl,k _ aq F1 H1 q1 f1 h1 c1⟩
 | _=>exact q1.elim⟩
def gi{α:Type}(xs:List α)(lo hi:Option Int):List α:=(xs.drop (HT.dG xs.length 0 lo)).take (HT.dG xs.length xs.length hi-HT.dG xs.length 0 lo)
theorem S.cut(s:S F H xs ws)(lo hi:Option Int):S F H (gi xs lo hi) (xG ws lo hi):=by
 unfold gi xG;rw[<-s.length];exact(s.drop _).take _
theorem Ov{xs:List D}{p:D->Bool}(h:xs.all p=true)(lo hi:Option Int):(gi xs lo hi).all p=true:=by
 rw[cU]at h ⊢;intro x hx;exact h x (qX (zF hx))
def vk(t:aK):aK:=λδ Q=>t δ λd ag=>match d with
 | .int i=>Q (.int (Mf.bl i.natAbs:Nat)) ag
 | _=>False
theorem mX(ho:PE X o (lB t))(mB:attributeBase o "bit_length" X.env (eval o X.env)=eval o X.env:=by rfl)(mC:(apos.endLine==bK.line)=true:=by rfl):PE X (.Call (.Attribute o "bit_length" apos) [] [] bK) (lE (vk t)) :=
 df (b82 ho mB mC) λσ H Q zq=>by
 obtain⟨B,F,δ,ts,Qd,c,q,k⟩:=zq;exact⟨B,F,δ,ts,_,c,q,λd aq v F1 H1 q1 f1 h1 c1 s1=>by
  cases s1 with
  | int _=>exact⟨rfl,_,rfl,rfl,k _ aq _ F1 H1 q1 f1 h1 (c1.pushS (.int .nil) rfl)⟩
  | _=>exact q1.elim⟩
end
section
variable{X:Cx}{F H:Hp}{v w:V}{e a b c o tg:Expr}{es:List Expr}{pos p p2 apos bK pos':Pos}{t ta tb tc te ti:aK}{tr:b8}{x:Str}{i:Nat}
def vm(i:Nat)(t:aK):bO:=λD δ=>(∃xs,δ[i]?=some (some (.lst true xs)))/\t δ λd ag=>∃xs,ag[i]?=some (some (.lst true xs))/\xs.length<sizeLine/\D.nx (ag.set i (some (.lst true (xs++[d]))))
theorem pY(hN:X.N[i]?=some x)(hv:km X.env.scope x)(he:PE X e (lE t))(hd:(x==("__debug__":Str))=false:=by decide)(bZ:(x==("__classdict__":Str))=false:=by decide)
  (mB:attributeBase (.Name x p) "append" X.env (eval (.Name x p) X.env)=eval (.Name x p) X.env:=by rfl)
  (Al:((backTo bK (starEach [e] X.env)).all (λx=>!x.1)&&(backToKw bK (keywordEach [] X.env)).all (λx=>x.1.isSome)
   && decide ([e].length+([]:List Keyword).length+(if([]:List Keyword).isEmpty then 0 else 1)<30))=true:=by rfl)
  (mC:(apos.endLine==bK.line)=true:=by rfl) (hs:starEach [e] X.env=(false,eval e X.env)::starEach [] X.env:=by rfl) (Am:(backTo bK (starEach [] X.env)).any (·.1)=false:=by rfl)
  (pZ:swapsWith (.Call (.Attribute (.Name x p) "append" apos) [e] [] bK) none pos.line X.env=pure false:=by rfl) :
  PS X (.Expr (.Call (.Attribute (.Name x p) "append" apos) [e] [] bK) pos) (lS X (vm i t)) :=
 jq (CH (MS PySem.F.plainAttrs_list PySem.F.slot_list_append PySem.F.type_list_append MV (nJ hN hv hd bZ) (gI he mx hs) mB Al mC hs Am) pZ) λEn σ H zz=>by
  obtain⟨B,F,δ,Dd,c,⟨⟨ys,ey⟩,q⟩,k1,k2,k3,k4⟩:=zz;obtain⟨p0,GY,g1,g2,g3⟩:=c.ownAt ey;refine⟨.ref p0,g1,.inl ⟨rfl,_,bN.of g2⟩,B,F,δ,[],_,c,q,λd ag v F' H' hd sf sh c'=>?_⟩;obtain⟨xs,ex,hl,hn⟩:=hd;obtain⟨p1,ws,r1,r2,r3⟩:=c'.ownAt ex;rw[g1]at r1;cases r1;exact⟨p0,ws,v,rfl,rfl,r2,by omega,k1 _ _ F' _ hn (c'.app ex g1 r2)⟩
def vn(i:Nat)(te ti:aK):bO:=λD δ=>te δ λd aq=>∃ys,aq[i]?=some (some (.lst true ys))/\rB ti aq λk aR=>match k with
 | .int n=>∃xs j,aR[i]?=some (some (.lst true xs))/\ib xs.length n=some j/\D.nx (aR.set i (some (.lst true (xs.set j d))))
 | _=>False
theorem nZ(hN:X.N[i]?=some x)(hv:km X.env.scope x)(he:PE X e (lE te))(hi:PE X b (lB ti))(hd:(x==("__debug__":Str))=false:=by decide)(bZ:(x==("__classdict__":Str))=false:=by decide)
  (ha:∀v,assign (.Subscript (.Name x p) b pos') X.env v=(do
   let ov<-holding [v] (eval (.Name x p) X.env)
   let iv<-holding [v,ov] (eval b X.env)
   standAt pos'
   holding [v,ov,iv] (setItem ov iv v)
   release [v,ov,iv] []):=by intro _;rfl)
  (hs:swapsWithSole [.Subscript (.Name x p) b pos'] e pos.line X.env=pure false:=by rfl) (hw:swappedStores [.Subscript (.Name x p) b pos'] e X.env=pure none:=by rfl)
  (h1:(assignEach [.Subscript (.Name x p) b pos'] X.env).map (·.2)=[assign (.Subscript (.Name x p) b pos') X.env]:=by rfl) :
  PS X (.Assign [.Subscript (.Name x p) b pos'] e pos) (lS X (vn i te ti)) :=
 jq (cO9 he (cQ8 (nJ hN hv hd bZ) (bH hi) cm5 ha) hs hw h1) λEn σ H zq=>by
 obtain⟨B,F,δ,Dd,c,q,k1,k2,k3,k4⟩:=zq;exact⟨B,F,δ,[],_,c,q,λd aq v F1 H1 hq f1 h1 c1=>by
  obtain⟨ys,ey,hq⟩:=hq;obtain⟨p0,GY,g1,g2,g3⟩:=c1.ownAt ey;refine⟨.ref p0,g1,B,F1,aq,[(d,v)],_,c1,hq,λkd aR kv F2 H2 hk f2 h2 c2=>?_⟩;have st:=c2.top;split at hk
  ·obtain⟨xs,j,ex,ej,hn⟩:=hk;cases st;have c3:=c2.pop;obtain⟨p1,ws,r1,r2,r3⟩:=c3.ownAt ex;rw[g1]at r1;cases r1;exact⟨p0,ws,_,j,rfl,rfl,r2,by rw[<-r3];exact ej,k1 _ _ F2 _ hn (c3.dr7 ex g1 r2 j)⟩
  ·exact hk.elim⟩
end
theorem bU{k:Nat}(hr:bJ k A):A.units+6<cLine:=by have:=hr.un;omega
def aP(ns:List Int):List D:=ns.map D.int
def Hh(o:Obj):Bool:=match o.cls with
 | .type n=>n != "list"
 | _=>true
def Hi:aX:=λds Q=>∃ns:List Int,ds=[.fz (aP ns)]/\ns.length<=63/\Q (.bl true)
theorem Ow:∀ns:List Int,R F H (aP ns) (ns.map V.int) []
 | []=>.nil
 | n::ns=>.int (Ow ns)
theorem bQ4{K:PySem.W.Frag}{a:Addr}{o:Obj}(h:K.lookup a=some o):(a,o)∈K:=by
 induction K with
 | nil=>cases h
 | cons p K ih =>
  obtain⟨b,u⟩:=p;rw[iC]at h;split at h
  ·rename_i z;have:a=b:=by simpa using z
   cases h;subst this;simp
  ·exact iB _ (ih h)
section
variable{B:Bs}{F H:Hp}{σ:L2.St}{δ:Dl}{ts ps:List (D × V)}{i k:Nat}{p q:Addr}{l1 l2 ys NO:List D}{ws u3:List V}
end
section
variable{X:Cx}{F H:Hp}{e b:Expr}{pos p pr apos bK Hj:Pos}{t ti te:aK}{x y:Str}{i j:Nat}
end
theorem ye(i:Int):(D.int i).pl=true:=rfl
theorem yf(i:Bool):(D.bl i).pl=true:=rfl
theorem yg(i:Str):(D.str i).pl=true:=rfl
theorem yh:D.aA.pl=true:=rfl
theorem yi(xs:List D):(D.fz xs).pl=true:=rfl
theorem yj(C:Addr)(ns:List Str)(xs:List D):(D.obj C ns xs).pl=true:=rfl
theorem vo(i:Int):(D.int i).fr=true:=rfl
theorem yk(i:Bool):(D.bl i).fr=true:=rfl
theorem ym(i:Str):(D.str i).fr=true:=rfl
theorem yn:D.aA.fr=true:=rfl
theorem p9(i:Int):(D.int i).sh=.int i:=rfl
theorem yo(i:Bool):(D.bl i).sh=.bl i:=rfl
theorem yp(i:Str):(D.str i).sh=.str i:=rfl
theorem yq:D.aA.sh=.aA:=rfl
theorem yr(xs:List D):(D.fz xs).sh=.fz xs:=rfl
theorem yt(C:Addr)(ns:List Str)(xs:List D):(D.obj C ns xs).sh=.obj C ns xs:=rfl
theorem yu(n:Nat)(x:α):(aM n [x]).flatten=aM n x:=by
 induction n with
 | zero=>rfl
 | succ n ih=>rw[tN,w9,ih];rfl
theorem lR(ns:List Int):(aP ns).length=ns.length:=by simp[aP]
theorem kJ(ns:List Int):(aP ns).all D.pl=true:=by simp[aP,D.pl]
theorem vp(ns:List Int):(aP ns).all D.fr=true:=by simp[aP,D.fr]
theorem j6(ns:List Int):(aP ns).map D.sh=aP ns:=by simp[aP,D.sh]
theorem rT(a b:List Int):aP a++aP b=aP (a++b):=by simp[aP]
theorem yv(n:Nat)(i:Int):aM n (D.int i)=aP (aM n i):=by simp[aP]
theorem rV(n:Nat)(i:Int):eE n (.int i)=true:=by cases n<;>rfl
theorem yw(n:Nat)(i:Str):eE n (.str i)=true:=by cases n<;>rfl
theorem jy(i j:Int):bS (.int i) (.int j)=decide (i=j):=by
 show(i==j)=_;rw[Bool.beq_eq_decide_eq]
theorem Ox:∀(a b:List Int),bS.gB (aP a) (aP b)=decide (a=b)
 | [],[]=>rfl
 | [],_::_=>by simp[aP,bS.gB]
 | _::_,[]=>by simp[aP,bS.gB]
 | x::xs,y::ys=>by
  show(bS (.int x) (.int y)&&bS.gB (aP xs) (aP ys))=_;rw[Ox xs ys,jy,qT];simp
theorem vq(o o':Bool)(a b:List Int):bS (.lst o (aP a)) (.lst o' (aP b))=decide (a=b):=Ox a b
theorem Oy{k:Nat}(h:k<ns.length):(aP ns)[k]?=some (.int ns[k]):=by simp[aP,h]
theorem n5{k:Int}(h0:0<=k)(h:k<ns.length):dW (aP ns) k=some (.int (ns.getD k.toNat 0)):=by
 unfold dW ib;rw[if_pos h0,lR,if_pos h];show(aP ns)[k.toNat]?=_;have hk:k.toNat<ns.length:=by omega
 rw[Oy hk,aT,aV hk];rfl
theorem vt(ns:List Int)(lo hi:Option Int):gi (aP ns) lo hi=aP (gi ns lo hi):=by simp[gi,aP,Lq,Lr]
theorem yx(i:Int):nX "int" (.int i)=some true:=by rfl
theorem yy(i:Int):nX "bool" (.int i)=some false:=by rfl
theorem yz(i:Int):nX "list" (.int i)=some false:=by rfl
theorem yA(o:Bool)(xs:List D):nX "list" (.lst o xs)=some true:=by rfl
theorem yB:nX "int" .aA=some false:=by rfl
theorem yC(x:Str):nX "str" (.str x)=some true:=by rfl
theorem yD(xs:List D):nX "tuple" (.tup xs)=some true:=by rfl
theorem sL:sizeLine=16777216:=rfl
theorem yE[Decidable p]:(decide p=true)=p:=by simp
theorem cz0(xs:List α)(a b:Nat):gi xs (some (a:Int)) (some (b:Int))=(xs.drop a).take (b-a):=by
 unfold gi;rw[HT.Gf,HT.Gf];by_cases h:a<=xs.length
 ·rw[Lu h];apply Lw;intro i;rw[ZC,ZC,Lx];by_cases hi:i<b-a
  ·rw[if_pos hi];by_cases hb:a+i<xs.length
   ·rw[if_pos (by omega)]
   ·rw[gu (by omega)];simp
  ·rw[if_neg hi,if_neg (by omega)]
 ·rw[Ly (show xs.length<=a by omega),Lz (bR _),Lz (show xs.length<=a by omega)];simp
end L3
namespace L2
open PySem PySem.Spec PyProof.Rows
section
variable{X:Cx}{e:Expr}{te:TE}{lo hi:Option Expr}{st:Expr}{tl th ts:TO}{pos p2:Pos}
theorem Oz(ns:List Int):∀k,k<=ns.length->preSum (λi=>ns.getD i 0) k=(ns.take k).sum
 | 0,_=>rfl
 | k+1,h=>by
  show preSum (λi=>ns.getD i 0) k+ns.getD k 0=_;rw[Oz ns k (by omega),tQ,aV (by omega),List.sum_append,aT,aV (by omega)];simp
theorem b05(hc:X.calm=true):gw X (.builtin "sum") (λxs H Q=>∃(p:Addr) (ns:List Int),xs=[.ref p]/\bN X.K H p (ns.map V.int)/\Q (.int ns.sum) H):=by
 intro pins s σ H xs us Q I r h;obtain⟨p,ns,rfl,hS,q⟩:=h;obtain⟨u,rfl,ru⟩:=r.one;cases ru;obtain⟨its,rv,pl,hz⟩:=I.list hS;have hi:=MG rv;have hlen:ns.length=its.length:=by have:=rv.length;simpa using this
 have hl:=pl.isList;have gy:p<s.heap.objs.size:=by obtain⟨_,e,_⟩:=hl;exact bM e
 refine call_sum_walkG (wpAny_pyIter_list hl ?_);refine⟨s.heap.objs.size,[s.heap.objs.size,p],[s.heap.objs.size],its.toArray.size,_,_,λi=>ns.getD i 0,rfl,Walks.list (A:=X.A.in1) (I.ok.hd hc) _ p (eI gy) its.toArray,
  ⟨⟨_,g8 _ rfl,rfl,rfl⟩,hl.push _⟩,λb hb=>?_,λi v hP=>?_,λh' tk t' hk=>?_⟩
 ·simp only[tJ];rcases cO.mp hb with rfl | hb
  ·exact Cd _
  ·rw[eT.mp hb];exact LA gy
 ·have e:its[i]?=some v:=by simpa using hP
  obtain⟨x,ex,q2⟩:∃x,(ns.map V.int)[i]?=some x/\RelV x v:=by
   have ie:i<its.length:=(jh.mp e).1;obtain⟨u,e2,q2⟩:=rv.get (i:=i) (x:=V.int ns[i]) (by rw[cy,aV (by omega)];rfl);rw[e]at e2;cases e2;exact⟨_,by rw[cy,aV (by omega)];rfl,q2⟩
  rw[cy]at ex;obtain⟨n,en,rfl⟩:=tR.mp ex;obtain⟨t,rfl⟩:=q2;exact⟨t,by show wW n t=wW (ns.getD i 0) t;rw[aT,en];rfl⟩
 ·rw[eJ,<- hlen,Oz ns _ (bR _),xh];exact⟨.int _,H,I.kept (h':=h') (t':=tk) (GB hk),⟨_,rfl⟩,q⟩
end
end L2
namespace L3
open PySem L2 PySem.Spec PyProof.Rows
section
variable{X:Cx}{F H:Hp}{e:Expr}{t:aK}{lo hi:Option Expr}{st:Expr}{tl th td:ya}{pos p2:Pos}
theorem OA:∀{a:List Int} {ws:List V},S F H (aP a) ws->ws=a.map V.int
 | [],_,s=>by cases s;rfl
 | b::bs,_,s=>by
  cases s with
  | int s=>rw[OA s];rfl
def n6:lQ:=λds Q=>match ds with
 | [.lst _ xs]=>∃a,xs=aP a/\Q (.int a.sum)
 | _=>False
theorem cX5(hc:X.calm=true):gh X (.builtin "sum") n6:=gh.of (b05 hc) λvs H Q zz=>by
 obtain⟨B,F,σ,δ,ts,ds,Qd,c,s,q,k⟩:=zz;unfold n6 at q;split at q
 ·obtain⟨v,rfl,s1⟩:=j5 s;obtain⟨a,rfl,q⟩:=q;obtain⟨p,ws,rfl,h,t⟩:=mS s1 c.ext rfl;rw[OA t]at h;exact⟨p,a,rfl,kI h,k _ _ _ q (ah.refl _) (c.pushS (.int .nil) rfl)⟩
 ·exact q.elim
def Hk:Expr->Option Int
 | .Constant (.int i) _ _=>some i
 | _=>none
def Dm:List Expr->Option (List Int)
 | []=>some []
 | e::es=>(Hk e).bind λi=>(Dm es).map (i :: ·)
theorem ck1(h:Hk e=some i):∃a b,e=.Constant (.int i) a b:=by
 cases e with
 | Constant c a b =>
  cases c with
  | int j=>cases h;exact⟨_,_,rfl⟩
  | _=>cases h
 | _=>cases h
def cV2(ns:List Int):b8:=λδ Q=>Q (aP ns) δ
theorem OB:∀(es:List Expr) (ns:List Int),Dm es=some ns->PA X es (lO (cV2 ns))
 | [],ns,h=>by cases h;exact bP
 | e::es,ns,h=>by
  obtain⟨i,hi,h2⟩:=Option.bind_eq_some_iff.mp (show(Hk e).bind (λi=>(Dm es).map (i :: ·))=some ns from h);obtain⟨ms,hm,rfl⟩:=tR.mp h2;obtain⟨a,b,rfl⟩:=ck1 hi;exact AE (bI (aj (i:=i)) (OB es ms hm)) λ_ _ _ q=>q
def vv(ns:List Int):aK:=λδ Q=>ns.length<=sizeLine/\Q (.lst true (aP ns)) δ
theorem OC(h:Dm es=some ns):PE X (.List es pos) (lE (vv ns)) :=
 df (cX (OB es ns h)) λ_ _ _ zq=>by
 obtain⟨B,F,δ,ts,Qd,c,q,k⟩:=zq;exact⟨B,F,δ,ts,Qd,c,by
  show(aP ns).length<=sizeLine/\_;rw[lR];exact q,k⟩
theorem b34(h:0<ns.length):dW (aP ns) (-1)=some (.int (ns.getD (ns.length-1) 0)):=by
 unfold dW ib;rw[if_neg (by decide),lR,if_pos (by omega)];have hk:((-1:Int)+ns.length).toNat=ns.length-1:=by omega
 show(aP ns)[((-1:Int)+ns.length).toNat]?=_;rw[hk,Oy (by omega),aT,aV (by omega)];rfl
theorem AN{tb:bO}(Iv:Nat->Dl->Prop)(h0:Iv 0 δ)(ht:∀k ag,k<n->Iv k ag->g (.int k) ag λaR=>tb { En with nx:=Iv (k+1),ct:=Iv (k+1),bk:=En.nx } aR)
  (hf:∀ag,Iv n ag->En.nx ag):fm (tS (λ(k:Nat)=>D.int (0+(k:Int))) (aI (n:Int).toNat)) g tb En δ:=by
 rw[gr];refine fm.mk Iv h0 (λi d ag hd iv=>?_) λag iv=>hf ag (by simpa using iv);rw[cy]at hd;obtain⟨k,hk,rfl⟩:=tR.mp hd;have hi:i<n:=by have:=(jh.mp hk).1;simpa using this
 rw[kj hi]at hk;cases hk;rw[LB];exact ht i ag hi iv
theorem ph{k:Int}(h0:0<=k)(h:xs[k.toNat]?=some d):dW xs k=some d:=by
 unfold dW ib;have hk:k.toNat<xs.length:=(jh.mp h).1;rw[if_pos h0,if_pos (by omega)];exact h
end
abbrev gQ:=List D->(D->Prop)->(XC->Prop)->Prop
inductive iN(sp:gQ)(vs:List V)(H:Hp)(Q:VK)(E:XK):Prop
 | mk (F ds Qd Ed) (e:ah F H) (r:R F H ds vs []) (q:sp ds Qd Ed) (k:∀d v F' H' A,Qd d->ah H H'->ah F F'->ah F' H'->(∀a ws,F' a=some (.lst ws)->F a=some (.lst ws)\/H a=none)->R F' H' [d] [v] A->A.Nodup->(∀a∈A,H a=none)->Q v H') (kx:∀c dc H',Ed c->ah H H'->XD H' c dc->E (.ref c.C) dc H')
section
variable{P:Program}{w:World}{K:PySem.W.Frag}{mg:Str->Option Value}{base:Heap}
theorem n8{x qual:Str}{st:Stmt}{f:Addr}{fd:FuncData}{N ps:List Str}{k:Nat}{sp:gQ}(F:iJ K x qual st f fd)(S:aS N ps (aG st))(len:∀ds Q E,sp ds Q E->ds.length=ps.length)
  (fi:∀(aC:Value) (A:Around) (outer:List Env) (s:Shared) (H:Hp) (E:XK),bJ k (A.deeper (envOfC qual (aG st) s.heap.objs.size f aC)) ->
   ∃t:bO,PSs (hV (gz P w) P w K mg base N qual (aG st) f aC A outer s H E) (gL st) (lS (hV (gz P w) P w K mg base N qual (aG st) f aC A outer s H E) t) /\
    ∀ds Q Ex,sp ds Q Ex->t { nx:=λ_=>Q .aA,rt:=Q,xc:=λC _=>Ex C,xr:=λC _=>Ex C } (iK N ds)):aF P w K mg base (gz P w) (k+1) f fd ps (iN sp):=by
 obtain⟨oc,od,kV,doc,pm,an,aC,ct,gJ,rfl,lk,bZ⟩:=F.ex;refine CS lk bZ S (λvs H Q E ⟨F,ds,Qd,Ed,e,r,h,_,_⟩=>by rw[<-r.length];exact len ds Qd Ed h) λA outer s H vs Q E hr zz=>?_;obtain⟨F,ds,Qd,Ed,e,r,h,k,kx⟩:=zz;obtain⟨t,ht,hq⟩:=fi aC A outer s H E hr;have fin:∀d v ag aJ F' H',Qd d->ax ⟨H,F⟩ F' H' aJ ag [(d,v)]->Q v H':=λd v ag aJ F' H' hd c=>by
  obtain⟨A,C,r',s',nd,fr⟩:=c.own;exact k d v F' H' A hd c.b1 c.b2 c.ext c.b3 r' (jW.mp nd).1 λa ha=>fr a (gE _ ha)
 have e1:L2.start N vs=vs.map some++aM (N.length-ds.length) none:=by unfold L2.start;rw[r.length]
 refine⟨_,ht,⟨H,F⟩,F,iK N ds,_,?_,hq ds Qd Ed h,λag aJ F' H' hd c=>fin .aA .aA ag aJ F' H' hd (c.pushS (.aA .nil) rfl),fin,λ_ _ _ _ z=>z.elim,λ_ _ _ _ z=>z.elim,λC dc ag pins aJ F' H' s' a T hx c I xd tr pa pT=>?_,λC dc ag pins aJ F' H' s' a hx c I xd hm pa=>?_⟩
 ·rw[e1];exact ax.start e r _
 ·exact b59 I rfl rfl rfl tr pa pT λh' T' g=>⟨a,T',.ref C.C,dc,H',rfl,I.os,I.bare,g.un,g.aH,g.xN,g.a0,g.a1,g.t0,g.t1,kx C dc H' hx c.b1 xd⟩
 ·exact b87 I rfl rfl rfl hm pa λh' T' g=>⟨a,T',.ref C.C,dc,H',rfl,I.os,I.bare,g.un,g.aH,g.xN,g.a0,g.a1,g.t0,g.t1,kx C dc H' hx c.b1 xd⟩
end
abbrev TEx:=L2.St->Hp->VK->(XC->Hp->Prop)->Prop
def PX(X:Cx)(e:Expr)(t:TEx):Prop:=∀(pins:List (Addr × Obj)) (s:Shared) (σ:L2.St) (H:Hp) (Q:VK) (Z:XC->Hp->Prop),Inv X pins σ H s ->
 (∀a T c dc H' s',Inv X pins σ H' s'->XD H' c dc->gM s'.heap a T (.ref c.C) dc->Apart X pins H' a->Apart X pins H' T->Z c H'->X.xe (.ref a) s')->t σ H Q Z->wpAny (model X.prog X.w) X.A (eval e X.env) (EP X pins σ Q) X.xe s
abbrev qa:=Dl->(D->Dl->Prop)->(XC->Dl->Prop)->Prop
inductive lX(t:qa)(σ:L2.St)(H:Hp)(Q:VK)(Z:XC->Hp->Prop):Prop
 | mk (B F δ Qd Zd) (c:ax B F H σ δ []) (q:t δ Qd Zd) (k:∀d ag v F' H',Qd d ag->ah F F'->ah H H'->ax B F' H' σ ag [(d,v)]->Q v H') (kx:∀C ag F' H',Zd C ag->ah F F'->ah H H'->ax B F' H' σ ag []->Z C H')
section
variable{X:Cx}{n:Nat}{f:Addr}{fd:FuncData}{ps:List Str}{sp:gQ}{x:Str}{p pos:Pos}{e:Expr}{es:List Expr}{t:b8}{tx:qa}
theorem OD{pins:List (Addr × Obj)}{σ:L2.St}{H:Hp}{s:Shared}{Q:VK}{E:XK}{us:List Value}{vs:List V}{sp:Sp}(F:aF X.prog X.w X.K X.mg X.base (gz X.prog X.w) n f fd ps sp)(hr:bJ n X.A)(hb:Binds X.K fd ps [])(hex:X.ex=[])
  (I:Inv X pins σ H s) (r:Vals vs us) (h:sp vs H Q E) (hx:∀a T cls dc H' s',Inv X pins σ H' s'->gM s'.heap a T cls dc->Apart X pins H' a->Apart X pins H' T->E cls dc H'->X.xe (.ref a) s'):wpAny (model X.prog X.w) X.A (call (.ref f) us) (EP X pins σ Q) X.xe s:=by
 have hl:(us++[]).length=ps.length:=by rw[fY,<- r.length];exact F.len _ _ _ _ h
 have lU:=hb s us I.bY hl;rw[fY]at lU;refine wpAny_call (codeAny_mono (F.run X.A X.stack s H ⟨us,[]⟩ us vs Q E hr I.ub lU r h) λr s' hq=>?_)
 cases r with
 | error e =>
  obtain⟨a,T,cls,dc,H',rfl,os,bare,un,aH,tr,a0,a1,t0,t1,hE⟩:=hq;exact hx a T cls dc H' s' (I.L6 (ch:=[]) os un aH bare λb z=>absurd z (by simp)) tr (I.apart hex a0 a1) (I.apart hex t0 t1) hE
 | ok fl =>
  cases fl with
  | ret u=>exact I.after hq
  | next=>exact eZ hq
  | brk=>exact eZ hq
  | cont=>exact eZ hq
def vw(sp:gQ)(t:b8):qa:=λδ Q Z=>t δ λds ag=>sp (ds.map D.sh) (λd=>(ds.all D.pl||d.fr)=true/\Q d ag) λC=>Z C ag
theorem OE{B:Bs}{F H:Hp}{σ:L2.St}{δ:Dl}{ts:List (D × V)}{Qd:D->Prop}{Ed:XC->Prop}{Q:VK}{E:XK}{ds:List D}{vs:List V}(c:ax B F H σ δ ts)(s:S F H ds vs)(q:sp (ds.map D.sh) (λd=>(ds.all D.pl||d.fr)=true/\Qd d) Ed)
  (k:∀d v F' H',Qd d->ah F F'->ah H H'->ax B F' H' σ δ ((d,v)::ts)->Q v H') (kx:∀c dc H',Ed c->ah H H'->XD H' c dc->E (.ref c.C) dc H'):iN sp vs H Q E:=by
 by_cases hp:ds.all D.pl=true
 ·rw[mK hp]at q;exact⟨F,ds,_,_,c.ext,s.r hp,q,λd v F' H' A hd hs hf he h3 r nd fr=>k d v F' H' hd.2 hf hs (c.call hs hf he h3 r nd fr),kx⟩
 ·refine⟨H,ds.map D.sh,_,_,ah.refl _,s.frozen c.ext,q,λd v F' H' A hd hs hf he h3 r nd fr=>?_,kx⟩;have dz:d.fr=true:=by
   have:=hd.1;rw[Bool.or_eq_true]at this;exact this.resolve_left hp
  exact k d v F H' hd.2 (ah.refl _) hs (c.C4 hs (r.GW (by simp[dz]) (c.ext.trans hf)) nd fr)
theorem vx(F:aF X.prog X.w X.K X.mg X.base (gz X.prog X.w) n f fd ps (iN sp))(hr:bJ n X.A)(hg:Gl X x)(hm:X.mg x=some (.ref f))(hk:PySem.W.keepIn X.K (.ref f)=true)(hb:Binds X.K fd ps [])(hex:X.ex=[])
  (ha:PA X (e::es) (lA t)) (cM:(x==("__debug__":Str))=false:=by decide) (he:starEach (e::es) X.env=(false,eval e X.env)::starEach es X.env:=by rfl) (bh:(backTo pos (starEach es X.env)).any (·.1)=false:=by rfl) :
  PX X (.Call (.Name x p) (e::es) [] pos) (lX (vw sp t)):=by
 intro pins s σ H Q Z I hz zz;obtain⟨B,F0,δ,Qd,Zd,c,q,k,kx⟩:=zz;refine wpAny_Call_Name_kw (pf I hg hm ?_ cM);refine PySem.W.callWith_K (h₀:=X.base) I.ok.mod.lu hk (aU (ha pos pins s σ H (λvs H1=>iN sp vs H1 Q λcls dc H'=>∃c:XC,cls=.ref c.C/\XD H' c dc/\Z c H') I ⟨B,F0,δ,[],_,c,q,λds aq vs F1 H1 q1 f1 h1 c1 s1=>?_⟩) λus s1 ⟨vs,H1,I1,r,q⟩=>⟨I1.bY,?_⟩) he bh
 ·exact OE c1 s1 q1 (λd v F' H' hd hf hs c'=>k d aq v F' H' hd (f1.trans hf) (h1.trans hs) c') λC dc H' hC hs xd=>⟨C,rfl,xd,kx C aq F1 H' hC f1 (h1.trans hs) (c1.grow hs)⟩
 ·exact OD F hr hb hex I1 r q λa T cls dc H' s' I' tr pa pT hE=>by
   obtain⟨c',rfl,xd,hZ⟩:=hE;exact hz a T c' dc H' s' I' xd tr pa pT hZ
theorem Hl{F H:Hp}(xl:XL X B Dd):∀a T c dc H' s',Inv X pins σ H' s'->XD H' c dc->gM s'.heap a T (.ref c.C) dc->Apart X pins H' a->Apart X pins H' T->(∃ag F',Dd.xc c ag/\ax B F' H' σ ag [])->X.xe (.ref a) s':=by
 rintro a T c dc H' s' I xd tr pa pT ⟨ag,F',hx,cu⟩;exact xl.1 c dc ag pins σ F' H' s' a T hx cu I xd tr pa pT
def vy(t:qa):bO:=λD δ=>t δ (λ_ ag=>D.nx ag) D.xc
theorem vz(he:PX X e (lX tx))(hs:swapsWith e none pos.line X.env=pure false:=by rfl):PS X (.Expr e pos) (lS X (vy tx)):=by
 intro pins s σ H D I zz;obtain⟨B,F,δ,Dd,c,q,k1,k2,k3,k4,xl⟩:=zz;refine wpAny_Expr_any (aU (he pins s σ H (λ_ H1=>D.nx σ H1) (λc H'=>∃ag F',Dd.xc c ag/\ax B F' H' σ ag []) I (Hl (H:=H) (F:=F) xl) ⟨B,F,δ,_,_,c,q,λd ag v F' H' hd _ _ c'=>k1 ag σ F' H' hd c'.pop,λC ag F' H' hC _ _ c'=>⟨ag,F',hC,c'⟩⟩) λv s1 ⟨x,H1,I1,r1,q1⟩=>⟨σ,H1,I1,q1⟩) I.quiet hs
def vA(t:qa):bO:=λD δ=>t δ (λd _=>D.rt d) D.xc
theorem Dn(he:PX X e (lX tx)):PS X (.Return (some e) pos) (lS X (vA tx)):=by
 intro pins s σ H D I zz;obtain⟨B,F,δ,Dd,c,q,k1,k2,k3,k4,xl⟩:=zz;refine wpAny_Return_some (aU (he pins s σ H D.rt (λc H'=>∃ag F',Dd.xc c ag/\ax B F' H' σ ag []) I (Hl (H:=H) (F:=F) xl) ⟨B,F,δ,_,_,c,q,λd ag v F' H' hd _ _ c'=>k2 d v ag σ F' H' hd c',λC ag F' H' hC _ _ c'=>⟨ag,F',hC,c'⟩⟩) λv s1 ⟨x,H1,I1,r1,q1⟩=>⟨x,σ,H1,I1,r1,q1⟩)
def vB(t:bO):bO:=λD δ=>t { D with xc:=λ_ _=>False,xr:=λ_ _=>False } δ
theorem cU7{st:Stmt}{u:bO}(h:PS X.fZ st (lS X.fZ u)):PS X st (lS X (vB u)):=by
 intro pins s σ H D I zz;obtain⟨B,F,δ,Dd,c,q,k1,k2,k3,k4,xl⟩:=zz;exact wpAny_mono (h pins s σ H D (I.lD _) ⟨B,F,δ,_,c,q,k1,k2,k3,k4,XL.none (λ_ _ z=>z) λ_ _ z=>z⟩) (λ_ _ q=>q.nK) λ_ _ z=>eZ z
def vC(C:Addr)(t:b8):bO:=λD δ=>t δ λds ag=>ds.length<=9/\D.xr ⟨C,none⟩ ag
structure Dq(K:PySem.W.Frag)(mg:Str->Option Value)(x:Str)(C:Addr):Prop where
 own:∀h:Heap,K.In h->h.Ns mainGlobals mg->∃newId Bn i6 vD B qe n9 ik,OwnCls x C ik newId mg h/\ExcBaseFacts Bn newId i6 vD/\ik.contains (.type Bn)=true/\ExcBaseFacts B qe n9 ik
theorem Hm(hm:Dq X.K X.mg x C)(hc:X.calm=true)(hg:Gl X x)(ha:PA X (e::es) (lA t))(cM:(x==("__debug__":Str))=false:=by decide)
  (he:starEach (e::es) X.env=(false,eval e X.env)::starEach es X.env:=by rfl) (bh:(backTo bK (starEach es X.env)).any (·.1)=false:=by rfl) (hex:X.ex=[]:=by rfl) :
  PS X (.Raise (some (.Call (.Name x np) (e::es) [] bK)) none pos) (lS X (vC C t)):=by
 intro pins s σ H D I zz;obtain⟨B,F,δ,Dd,c,q,k1,k2,k3,k4,xl⟩:=zz;obtain⟨newId,Bn,i6,vD,B',qe,n9,ik,O,Fn,Ho,FB⟩:=hm.own X.base I.ok.mod.lu I.ok.mod.glob;obtain⟨tl,N,nm,qn,bs,hdct,sn,sub,ab,col,dd,k0,pV,rM,Hq,k5,mN,hC,hN,iO,T⟩:=O.obj;refine wpAny_Raise_call_subU (k5:=k5) (k3:=Hq) (k2:=rM) (k1:=pV) (k0:=k0) (dd:=dd) (col:=col) (ab:=ab) (sub:=sub) (sn:=sn) (hdct:=hdct) (bs:=bs) (N:=N) (q:=qn) (nm:=nm) (C:=C) Fn Ho FB (mN:=mN) (T.hasType FB.hasBase) (I.ok.hd hc) (by rw[he];show(false||(backTo bK (starEach es X.env)).any (·.1))=false;rw[bh];rfl) iO (pf I hg O.bound ⟨rfl,?_⟩ cM);have rW:=ha bK pins s σ H (λvs H1=>vs.length<=9/\∃ag F',Dd.xr ⟨C,none⟩ ag/\ax B F' H1 σ ag []) I ⟨B,F,δ,[],_,c,q,λds aq vs F1 H1 q1 f1 h1 c1 s1=>⟨by rw[<-s1.length];exact q1.1,aq,F1,q1.2,c1⟩⟩;rw[he]at rW ⊢;refine Lg (wpAny_mono rW (λus s2 h2=>?_) λ_ _ y=>y);obtain⟨vs,H1,I1,r,hl,ag,F',hx,c'⟩:=h2;exact⟨rfl,by rw[<-r.length];exact ff hl (by decide),I1.bk _ _ hC,hN.keeps I1.bk,T.keeps I1.bk,λh' e' lV=>xl.2 ⟨C,none⟩ none ag pins σ F' H1 { s2 with heap:=h' } e' hx c' (I1.CZ hex [] (λ_ z=>absurd z (by simp)) (λb o _ _ q=>lV.keeps b o q) (λb o _ q=>⟨o.slots,lV.keeps b o q⟩) s2.gens s2.toks s2.drawn I1.bare) rfl (ch7 lV) (I1.apart hex lV.new (I1.aH.none lV.new))⟩
end
section
variable{X:Cx}{pins xu:List (Addr × Obj)}{σ:L2.St}{H:Hp}{s:Shared}{a:Addr}
abbrev tr(X:Cx)(xe:Value->Shared->Prop)(pn:List (Addr × Obj)):Cx:={ X with xe:=xe,pn:=pn }
abbrev yF(X:Cx)(A:Around)(xe:Value->Shared->Prop):Cx:={ X with A:=A,calm:=false,xe:=xe }
theorem cV3(ok:X.Ok)(xe:Value->Shared->Prop)(pn:List (Addr × Obj)):(tr X xe pn).Ok :=
 ⟨ok.mod,ok.kind,ok.glob,ok.blt,ok.above,ok.inj,ok.has,ok.oY,ok.hd,ok.frames,ok.tY,ok.tZ,ok.bs,ok.jO,ok.q0,ok.q8,ok.gF,ok.jP⟩
theorem cS0(I:Inv X pins σ H s)(xe:Value->Shared->Prop):Inv (tr X xe (X.pn++pins)) [] σ H s :=
 ⟨cV3 I.ok _ _,I.os,I.bare,I.base,I.loc,I.cell,I.free,I.fh,λp hp=>I.pin p (by simpa using hp),I.aH,I.len⟩
theorem AO(ok:X.Ok)(I:Inv (tr X xe (X.pn++pins)) xu σ H s):Inv X pins σ H s :=
 ⟨ok,I.os,I.bare,I.base,I.loc,I.cell,I.free,I.fh,λp hp=>I.pin p (gE _ hp),I.aH,I.len⟩
theorem OF(p:Apart (tr X xe (X.pn++pins)) xu H a):Apart X pins H a:=⟨p.old,p.free,p.loc,p.cell,λq hq=>p.pin q (gE _ hq),p.fr⟩
theorem cQ9(ok:X.Ok)(hA:A.frames=X.A.frames)(xe:Value->Shared->Prop):(yF X A xe).Ok :=
 ⟨ok.mod,ok.kind,ok.glob,ok.blt,ok.above,ok.inj,ok.has,ok.oY,(λh=>Bool.noConfusion h),hA.trans ok.frames,ok.tY,ok.tZ,ok.bs,ok.jO,ok.q0,ok.q8,ok.gF,ok.jP⟩
theorem OG(I:Inv X pins σ H s)(hA:A.frames=X.A.frames)(xe:Value->Shared->Prop):Inv (yF X A xe) pins σ H s :=
 ⟨cQ9 I.ok hA xe,I.os,I.bare,I.base,I.loc,I.cell,I.free,I.fh,I.pin,I.aH,I.len⟩
theorem b25(ok:X.Ok)(I:Inv (yF X A xe) pins σ H s):Inv X pins σ H s:=⟨ok,I.os,I.bare,I.base,I.loc,I.cell,I.free,I.fh,I.pin,I.aH,I.len⟩
theorem Hr(I:Inv X pins σ H s)(pa:Apart X pins H a)(ho:∃o,s.heap.get? a=some o)(h1:φ s.heap)(h2:∀g g':Heap,φ g->(∀o,g.get? a=some o->g'.get? a=some o)->φ g'):Inv X pins σ (upd H a (.ext φ)) s:=by
 have ne:∀{b:Addr} {u:HO},H b=some u->b≠a:=λ{b u} q=>dQ q pa.free;refine⟨I.ok,I.os,I.bare,⟨I.base.keep,I.base.slot,λb o e n hx=>?_,I.base.there,λb xs e=>?_,λb o xs e=>?_,λb ps e=>?_⟩,I.loc,I.cell,?_,λx c e=>?_,λp hp=>?_,λb u e=>?_,I.len⟩
 ·rw[aZ (λz=>by rw[z,pa.old]at e;cases e)];exact I.base.free b o e n hx
 ·have q:=I.base.iE b xs e;rw[aZ (ne q)];exact q
 ·have q:=I.base.hJ b o xs e;rw[aZ (ne q)];exact q
 ·obtain⟨m,q⟩:=I.base.gv b ps e;exact⟨m,by rw[aZ (ne q)];exact q⟩
 ·rw[aZ (fg pa.loc)];exact I.free
 ·rw[aZ (pa.cell x c e)];exact I.fh x c e
 ·obtain⟨q1,q2,q3,q4,q5⟩:=I.pin p hp;exact⟨q1,by rw[aZ (pa.pin p hp)];exact q2,q3,q4,q5⟩
 ·by_cases hb:b=a
  ·subst hb;rw[dm]at e;cases e;exact⟨h1,ho,λg g' p kk=>h2 g g' p λo q=>kk _ o (.inl rfl) q⟩
  ·rw[aZ hb]at e;exact(I.aH b u e).jj (λ_ _ _ q=>q) (λc q=>by rw[aZ (ne q)];exact q) (λc xs q=>by rw[aZ (ne q)];exact q) λc xs q=>by rw[aZ (ne q)];exact q
end
theorem ax.unset(c:ax B F H σ δ ts)(i:Nat):ax B F H (σ.set i none) (δ.set i none) ts:=by
 obtain⟨A,C,r,q,nd,fr⟩:=(c.forget i).own;refine⟨c.ext,c.b1,c.b2,c.b3,A,C,r,q.xR none ?_,nd,fr⟩;by_cases h:i<δ.length
 ·exact .inl (by rw[tH h])
 ·exact .inr (by rw[gu (by simpa using h)])
abbrev OH(c:XC):pB:=match c.C6 with
 | none=>.ext λa=>nQ a c.C
 | some z=>.nR c.C z.1 z.2
abbrev exc(c:XC):D:=.bt (OH c)
theorem cC1(t:gM h a T (.ref C) none):nQ a C h:=by
 obtain⟨oe,vs,oT,ts,h1,h2,h3,h4,_⟩:=t;exact⟨oe,h1,h2,by obtain⟨c,d,dt,sl⟩:=oe;cases h4;rfl,h3⟩
theorem OI(t:gM h a T cls dc):∃o,h.get? a=some o/\o.cls=cls:=by
 obtain⟨oe,vs,oT,ts,h1,h2,_⟩:=t;exact⟨oe,h1,h2⟩
theorem cm2(g g':Heap)(h:nQ a C g)(k:∀o,g.get? a=some o->g'.get? a=some o):nQ a C g':=let⟨o,h1,r⟩:=h;⟨o,k o h1,r⟩
theorem cN3(t:gM h a T (.ref c.C) dc)(x:XD H c dc) :
  ∃φ:Heap->Prop,φ h/\(∀g g',φ g->(∀o,g.get? a=some o->g'.get? a=some o)->φ g')/\∀H',ah H H'->H' a=some (.ext φ)->lL H' a (OH c):=by
 obtain⟨C,at_⟩:=c
 cases at_ with
 | none=>cases x;exact⟨nQ a C,cC1 t,λg g' z k=>cm2 g g' z k,λH' _ e=>e⟩
 | some z =>
  obtain⟨dx,rfl,hd⟩:=x;obtain⟨oe,vs,oT,ts,h1,h2,h3,h4,_⟩:=t;exact⟨rm a C dx,⟨oe,h1,h2,by obtain⟨c,d,dt,sl⟩:=oe;cases h4;rfl,h3⟩,λg g' ⟨o,e,r⟩ k=>⟨o,k o e,r⟩,λH' s e=>⟨dx,e,s.get _ _ hd rfl⟩⟩
section
variable{X:Cx}{tb th:bO}{body Hs:List Stmt}{Ht:Stmt}{K n:Str}{Kc:Addr}{i:Nat}{kp OJ pos:Pos}
def vE(K:PySem.W.Frag)(c:Value)(i:Nat)(tb th:bO):bO:=λD δ=>tb { D with
 xc:=λC ag=>PySem.W.exmOne K (.ref C.C) c=some true/\th { nx:=λaR=>D.nx (aR.set i none),rt:=λ_=>False } (ag.set i (some (exc C)))
 xr:=λ_ _=>False } δ
theorem c03(hb:∀xe pn,PSs (tr X xe pn) body (lS (tr X xe pn) tb))(hsu:∀A' xe,PSs (yF X A' xe) (Ht::Hs) (lS (yF X A' xe) th))(hg:Gl X K)(hm:X.mg K=some (.ref Kc))(hN:X.N.Nodup)(hi:X.N[i]?=some n)
  (hl:X.env.scope.names.lookup n=some .local) (hex:X.ex=[]) (bG:X.stack=X.env::X.outer) (hf:X.env.frame=some X.env.locals) (cM:(K==("__debug__":Str))=false:=by decide) :
  PS X (.Try body [.ExceptHandler (some (.Name K kp)) (some n) (Ht::Hs) OJ] [] [] pos) (lS X (vE X.K (.ref Kc) i tb th)):=by
 intro pins s σ H D I zz;obtain⟨B,F,δ,Dd,c,q,k1,k2,k3,k4,xl⟩:=zz;refine wpAny_Try_except (wpAny_mono (hb (λe s'=>∃a T C dc aJ F' H' ag,e=.ref a/\Inv X pins aJ H' s'/\XD H' C dc/\gM s'.heap a T (.ref C.C) dc/\Apart X pins H' a/\Apart X pins H' T/\ax B F' H' aJ ag []/\PySem.W.exmOne X.K (.ref C.C) (.ref Kc)=some true/\th { nx:=λaR=>Dd.nx (aR.set i none),rt:=λ_=>False } (ag.set i (some (exc C)))) (X.pn++pins) [] s σ H D (cS0 I _) ⟨B,F,δ,_,c,q,k1,k2,k3,k4,λC dc ag xu aJ F' H' s' a T hx c' I' xd GJ pa pT=>⟨a,T,C,dc,aJ,F',H',ag,rfl,AO I.ok I',xd,GJ,OF pa,OF pT,c',hx⟩,λ_ _ _ _ _ _ _ _ _ z=>z.elim⟩) (λf s1 hS=>?_) λe s1 hx=>?_)
 ·cases f with
  | next=>obtain⟨aJ,H',I',q'⟩:=hS;exact FL (X:=X) pins s1 aJ H' D (AO I.ok I') q'
  | brk=>obtain⟨aJ,H',I',q'⟩:=hS;exact⟨aJ,H',AO I.ok I',q'⟩
  | cont=>obtain⟨aJ,H',I',q'⟩:=hS;exact⟨aJ,H',AO I.ok I',q'⟩
  | ret u=>obtain⟨v,aJ,H',I',r',q'⟩:=hS;exact⟨v,aJ,H',AO I.ok I',r',q'⟩
 ·obtain⟨a,T,C,dc,aJ,F',H',ag,rfl,I1,xd,t1,pa,pT,c1,iZ,hth⟩:=hx;refine c26 I1 bG hex hf t1 pa pT λh2 T2 I2 t2 pT2=>?_;refine wpAny_handleBy_cons (codeAny_handlers_test (pf (X:=yF X (X.A.mark (some (.ref a))) X.xe) (OG (A:=X.A.mark (some (.ref a))) I2 rfl X.xe) hg hm ?_ cM)) (by intro z;cases z);obtain⟨o2,e2,hc2⟩:=OI t2;have LT:PySem.W.Looks (model X.prog X.w) h2 (typeOf (.ref a)) (.ref C.C):=hc2 ▸ (PySem.W.Looks.ld e2).andThen .now;refine(PySem.W.exm_one I2.bY LT iZ).here ?_;refine codeAny_handlers_suite_as (cF4 I2 hex t2 pT2 λh3 I3 t3=>?_);obtain⟨φ,x3,kp3,cl3⟩:=cN3 t3 xd;have I4:=Hr (φ:=φ) I3 pa ((OI t3).imp λo z=>z.1) x3 kp3;refine CD I4 hN hi (.inl hl) (v:=.ref a) rfl (λs5 I5=>?_) (.inr hl);refine wpAny_mono (hsu _ _ pins s5 _ _ { nx:=λku H2=>D.nx (ku.set i none) H2,rt:=λ_ _=>False } (OG (A:=X.A.mark (some (.ref a))) I5 rfl _) ⟨B,F',ag.set i (some (exc C)),_,?_,hth,λaR ku F2 H2 hn c2=>k1 _ _ F2 H2 hn (c2.unset i),λ_ _ _ _ _ _ z=>z.elim,λ_ _ _ _ z=>z.elim,λ_ _ _ _ z=>z.elim,XL.none (λ_ _ z=>z) λ_ _ z=>z⟩) (λf s6 hS=>?_) λ_ _ z=>z
  ·exact((c1.grow (ah.upd pa.free)).pushS (d:=exc C) (v:=.ref a) (.bt (cl3 _ (ah.upd pa.free) dm) .nil) rfl).store i
  ·cases f with
   | next =>
    obtain⟨CN,H6,I6,q6⟩:=hS;exact b56 (b25 I.ok I6) hN hi hl λs7 I7=>⟨_,H6,I7,q6⟩
   | brk=>obtain⟨_,_,_,z⟩:=hS;exact z.elim
   | cont=>obtain⟨_,_,_,z⟩:=hS;exact z.elim
   | ret u=>obtain⟨_,_,_,_,_,z⟩:=hS;exact z.elim
end
def Hu:V->Option Value
 | .ref a=>some (.ref a)
 | .ty n=>some (.type n)
 | _=>none
theorem cC4{u cv:Value}(h:Hu c=some cv)(r:RelV c u):u=cv:=by
 cases c<;>cases h<;>exact r
inductive AQ(K:PySem.W.Frag)(H:Hp):V->Value->Prop where
 | ty {v:V} {t:Value} (h:iW K H v t):AQ K H v t
 | exc {a C:Addr} (e:H a=some (.ext (nQ a C))) (x:jn K C):AQ K H (.ref a) (.ref C)
 | nR {a C dx:Addr} {nm:Str} {n:Int} (e:H a=some (.ext (rm a C dx))) (e2:H dx=some (.ext (kC nm n dx))) (x:jn K C):AQ K H (.ref a) (.ref C)
theorem Hv(p:rm a C dx h)(q:kC nm n dx h):∃ox od,PySem.W.InstAt h a ox C (some od)/\∃tk,PySem.W.lookIn nm od=some (some (.int n tk)):=by
 obtain⟨o,h1,h2,h3,h4⟩:=p;obtain⟨od,tk,h5,h6⟩:=q;exact⟨o,od,⟨h1,h2,h3,by rw[h4];exact h5⟩,tk,h6⟩
theorem cj0{K:PySem.W.Frag}{a C dx:Addr}{nm:Str}{n:Int}(c:jn K C):PySem.W.KitX K (.ref a) (.ref C) (λh=>rm a C dx h/\kC nm n dx h) where
 ty:=λ_ _ _ p=>let⟨_,_,I,_⟩:=Hv p.1 p.2;I.type
 it:=λ_ _ X _=>c.xO X
 ne:=(NL (a:=a) c).ne
 ca:=λX p k=>let⟨_,_,I,_⟩:=Hv p.1 p.2;NI X I c.ga c.gt (NJ c.cls c.ca c.hn c.tk) c.mo c.mb k
def c24(K:PySem.W.Frag):List V->Hp->VK->Prop:=λxs H Q=>∃x c cv t b,xs=[x,c]/\Hu c=some cv/\AQ K H x t/\PySem.W.kitOne K t cv=some b/\Q (.bl b) H
section
variable{X:Cx}{F H:Hp}{v:V}{a:Expr}{ta:aK}{p pos:Pos}
theorem OK:gw X (.builtin "isinstance") (c24 X.K):=by
 intro pins s σ H xs us Q I r h;obtain⟨x,c,cv,t,b,rfl,hv,ty,e,q⟩:=h;obtain⟨u,v,rfl,ru,rv⟩:=r.two;cases cC4 hv rv
 cases ty with
 | ty ty=>exact Mv I ru ty e λtk=>⟨.bl b,H,I.tok _,rfl,q⟩
 | @exc a C ea x =>
  cases(show u=cN a from ru);obtain⟨xa,_,_⟩:=(show dv X.prog X.w H s.heap a (.ext (nQ a C)) from I.aH a _ ea);exact PySem.W.kia_one (NL x) I.bY xa e (λz=>nomatch z) λtk=>⟨.bl b,H,I.tok _,rfl,q⟩
 | @nR a C dx nm n ea ed x =>
  cases(show u=cN a from ru);obtain⟨xa,_,_⟩:=(show dv X.prog X.w H s.heap a (.ext (rm a C dx)) from I.aH a _ ea);obtain⟨xd,_,_⟩:=(show dv X.prog X.w H s.heap dx (.ext (kC nm n dx)) from I.aH dx _ ed);exact PySem.W.kia_one (cj0 x) I.bY ⟨xa,xd⟩ e (λz=>nomatch z) λtk=>⟨.bl b,H,I.tok _,rfl,q⟩
def exT(φ:pB)(C:Addr):Prop:=(φ=.ext λa=>nQ a C)\/∃nm n,φ=.nR C nm n
def Dr(K:PySem.W.Frag)(cv:Value)(d:D)(r:Bool):Prop:=match d with
 | .bt φ=>∃C,exT φ C/\jn K C/\PySem.W.kitOne K (.ref C) cv=some r
 | d=>∃k,Dj d=some k/\PySem.W.kitOne K (.type k) cv=some r
theorem cK2{K:PySem.W.Frag}{cv:Value}{d:D}{r:Bool}(s:S F H [d] [v])(e:ah F H)(h:Dr K cv d r):∃t,AQ K H v t/\PySem.W.kitOne K t cv=some r:=by
 cases s with
 | bt h' _ =>
  obtain⟨C,z,x,k⟩:=h;rcases z with rfl | ⟨nm,n,rfl⟩
  ·exact⟨_,.exc h' x,k⟩
  ·obtain⟨dx,h1,h2⟩:=h';exact⟨_,.nR h1 h2 x,k⟩
 | int z=>obtain⟨k,hk,h⟩:=h;exact⟨_,.ty (pX (.int .nil) e hk),h⟩
 | bl z=>obtain⟨k,hk,h⟩:=h;exact⟨_,.ty (pX (.bl .nil) e hk),h⟩
 | aA z=>obtain⟨k,hk,h⟩:=h;exact⟨_,.ty (pX (.aA .nil) e hk),h⟩
 | str z=>obtain⟨k,hk,h⟩:=h;exact⟨_,.ty (pX (.str .nil) e hk),h⟩
 | shr h' q z=>obtain⟨k,hk,h⟩:=h;exact⟨_,.ty (pX (.shr h' q .nil) e hk),h⟩
 | own h' q z=>obtain⟨k,hk,h⟩:=h;exact⟨_,.ty (pX (.own h' q .nil) e hk),h⟩
 | fz h' q z=>obtain⟨k,hk,h⟩:=h;exact⟨_,.ty (pX (.fz h' q .nil) e hk),h⟩
 | tup h' q z=>obtain⟨k,hk,h⟩:=h;exact⟨_,.ty (pX (.tup h' q .nil) e hk),h⟩
 | obj _ _ _ _=>obtain⟨k,hk,h⟩:=h;cases hk
def qf(K:PySem.W.Frag)(cv:Value)(t:aK):aK:=λδ Q=>t δ λd ag=>∃r,Dr K cv d r/\Q (.bl r) ag
theorem OL{y:Str}{q:Pos}{c:V}{cv:Value}(hg:Gl X "isinstance")(hm:X.mg "isinstance"=none)(hc:PE X (.Name y q) (tC c))(hcv:Hu c=some cv)(ha:PE X a (lB ta))
  (hs:starEach [a,.Name y q] X.env=(false,eval a X.env)::starEach [.Name y q] X.env) (fw:starEach [.Name y q] X.env=(false,eval (.Name y q) X.env)::starEach [] X.env) (bh:(backTo pos (starEach [.Name y q] X.env)).any (·.1)=false) :
  PE X (.Call (.Name "isinstance" p) [a,.Name y q] [] pos) (lE (qf X.K cv ta)) :=
 df (CT OK hg hm Gz (gI ha (gI hc mx fw) hs) (by decide) (by decide) hs bh) λσ H Q zq=>by
 obtain⟨B,F,δ,ts,Qd,c,q,k⟩:=zq;exact⟨B,F,δ,ts,_,c,q,λd aq v F1 H1 q1 f1 h1 c1 s1=>by
  obtain⟨r,e,qr⟩:=q1;obtain⟨t,h2,h3⟩:=cK2 (K:=X.K) s1 c1.ext e;exact⟨v,_,_,t,r,rfl,hcv,h2,h3,k _ aq _ F1 H1 qr f1 h1 (c1.pushS (.bl .nil) rfl)⟩⟩
theorem AR(hg:Gl X "isinstance")(hm:X.mg "isinstance"=none)(vf:Gl X y)(nY:X.mg y=some (.ref C))(ha:PE X a (lB ta))(hd:(y==("__debug__":Str))=false:=by decide)
  (hs:starEach [a,.Name y q] X.env=(false,eval a X.env)::starEach [.Name y q] X.env:=by rfl) (fw:starEach [.Name y q] X.env=(false,eval (.Name y q) X.env)::starEach [] X.env:=by rfl) (bh:(backTo pos (starEach [.Name y q] X.env)).any (·.1)=false:=by rfl) :
  PE X (.Call (.Name "isinstance" p) [a,.Name y q] [] pos) (lE (qf X.K (.ref C) ta)) :=
 OL hg hm (Ma (v:=.ref C) vf nY rfl hd) rfl ha hs fw bh
theorem cI6(hg:Gl X "isinstance")(hm:X.mg "isinstance"=none)(vf:Gl X y)(nY:X.mg y=none)(Hf:bootBuiltins y=some (.type n))(ha:PE X a (lB ta))
  (hn:y≠"__name__":=by decide) (hd:(y==("__debug__":Str))=false:=by decide)
  (hs:starEach [a,.Name y q] X.env=(false,eval a X.env)::starEach [.Name y q] X.env:=by rfl) (fw:starEach [.Name y q] X.env=(false,eval (.Name y q) X.env)::starEach [] X.env:=by rfl) (bh:(backTo pos (starEach [.Name y q] X.env)).any (·.1)=false:=by rfl) :
  PE X (.Call (.Name "isinstance" p) [a,.Name y q] [] pos) (lE (qf X.K (.type n) ta)) :=
 OL hg hm (Nw vf nY Hf hn hd) rfl ha hs fw bh
end
section
variable{K:PySem.W.Frag}{mg:Str->Option Value}{x:Str}{C:Addr}
theorem dx4(hm:mg x=some (.ref C))(q:PySem.W.excIn K C [.type "ValueError",.type "Exception",.type "BaseException",.type "object"] "ValueError.__new__"=true):Dq K mg x C:=by
 refine⟨λh X G=>⟨"ValueError.__new__","ValueError",_,_,"ValueError",_,_,[.type "ValueError",.type "Exception",.type "BaseException",.type "object"],?_,PySem.F.excBase_ValueError,rfl,PySem.F.excBase_ValueError⟩⟩;refine⟨hm,?_⟩;unfold PySem.W.excIn at q;split at q
 ·rename_i dd cd sl ho;split at q
  ·rename_i C' bm k0 k1 k2 k3 n k5 hm hs;simp only[cA,beq_iff_eq,LC]at q;obtain⟨⟨⟨⟨⟨rfl,rfl⟩,AS⟩,ht⟩,aH⟩,iO⟩:=q;obtain⟨nm,bs,mro,ns,qn,hd,sn,sub,ab,col,del⟩:=cd;dsimp only at hm AS aH iO;subst hm AS;have Hw:sl=#[k0,k1,k2,k3,some (.builtin "ValueError.__new__"),k5]:=by
    obtain⟨l⟩:=sl;simp only at hs;rw[hs]
   subst Hw;exact⟨bm,ns,nm,qn,bs,hd,sn,sub,ab,col,dd,k0,k1,k2,k3,k5,_,X _ _ ho,.of_isNs (PySem.W.isNs_of_in X aH),PySem.W.nsMap_none_of_in X aH iO,PySem.W.tail_of_in X ht⟩
  ·cases q
 ·cases q
open PySem.W in
theorem dx5:kitOne K c c=some true:=by
 unfold kitOne;rw[if_pos (by simp)]
open PySem.W in
theorem kit_cls{t:Value}(fj:(t==.ref C)=false)(h1:(clsIn K C).isSome=true)(h2:typeIn K (.ref C)=some (.type "type"))(h3:subIn K t (.ref C)=some b):kitOne K t (.ref C)=some b:=by
 unfold kitOne kitCls;rw[fj];simp only[mh,if_false];rw[h1,h2,if_pos (by rfl),h3]
open PySem.W in
theorem dx6{t:Value}(fj:(t==.type n)=false)(h1:kitMeta n=true)(h3:subIn K t (.type n)=some b):kitOne K t (.type n)=some b:=by
 unfold kitOne kitCls;rw[fj];simp only[mh,if_false];rw[if_pos h1,h3]
open PySem.W in
theorem exm_cls{t:Value}(h1:(clsIn K C).isSome=true)(h2:typeIn K (.ref C)=some (.type "type"))(h0:subIn K (.ref C) (.type "BaseException")=some true)(h3:subIn K t (.ref C)=some b):exmOne K t (.ref C)=some b:=by
 unfold exmOne kitCls;rw[h0,if_pos (by rfl)];simp only;rw[h1,h2,if_pos (by rfl),h3]
end
theorem Hx{P:Program}:my (gz P w) X E0:=by
 rintro _ _ _ _ _ _ _ ⟨_,_,_,_,_,_,_,_,_,_,_,_,_,_,_,z⟩;exact z.elim
theorem Hy{P:Program}{w:World}{K:PySem.W.Frag}{mg:Str->Option Value}{base:Heap}{k:Nat}{f:Addr}{fd:FuncData}{ps:List Str}{sp:gQ}(h:aF P w K mg base (gz P w) k f fd ps (iN sp)) :
  aF P w K mg base (gz P w) k f fd ps (aY λds Q=>sp ds Q λ_=>False) :=
 h.imp λvs H Q E zq=>by
 obtain⟨F,ds,Qd,e,r,q,k⟩:=zq;exact⟨F,ds,Qd,_,e,r,q,k,λ_ _ _ z=>z.elim⟩
theorem vF{CX:eW}{P:Program}{w:World}{K:PySem.W.Frag}{mg:Str->Option Value}{base:Heap}{N:List Str}{q:Str}{sc:Scope}{f:Addr}{aC:Value}{A:Around}{outer:List Env}{s:Shared}{H:Hp}{E:XK}:(hV CX P w K mg base N q sc f aC A outer s H E).K=K:=rfl
theorem AU{K:PySem.W.Frag}{cv:Value}{C:Addr}{r:Bool}(x:jn K C)(h:PySem.W.kitOne K (.ref C) cv=some r):Dr K cv (exc ⟨C,none⟩) r:=⟨C,.inl rfl,x,h⟩
theorem AV{K:PySem.W.Frag}{cv:Value}{C:Addr}{nm:Str}{n:Int}{r:Bool}(x:jn K C)(h:PySem.W.kitOne K (.ref C) cv=some r):Dr K cv (.bt (.nR C nm n)) r:=⟨C,.inr ⟨_,_,rfl⟩,x,h⟩
theorem yG(φ:pB):(D.bt φ).pl=true:=rfl
theorem yH(φ:pB):(D.bt φ).sh=.bt φ:=rfl
theorem vG{X:Cx}:X.fZ.K=X.K:=rfl
def f9(xs ys:List D):List D:=dP (λx y=>D.tup [x,y]) xs ys
def fE(xs:List D):List D:=xs.mapIdx λi x=>D.tup [.int i,x]
theorem OM(xs ys:List D):(f9 xs ys).map D.sh=f9 (xs.map D.sh) (ys.map D.sh):=by
 unfold f9;rw[Fu,LD];congr 1
theorem cv7(h1:xs.all D.pl=true)(h2:ys.all D.pl=true):(f9 xs ys).all D.pl=true:=by
 unfold f9;rw[cU]at h1 h2 ⊢;intro d hd;obtain⟨i,hi,e⟩:=ki hd;rw[List.getElem_zipWith]at e;subst e;rw[kD];simp only[bB,e6,mm,cA];exact⟨h1 _ (eU _),h2 _ (eU _)⟩
theorem ck3(xs:List D):(fE xs).map D.sh=fE (xs.map D.sh):=by
 unfold fE;apply Lw;intro i;simp only[cy,zG,Option.map_map]
 cases xs[i]? with
 | none=>rfl
 | some x =>
  show some (D.sh (.tup [.int i,x]))=some (D.tup [.int i,x.sh]);rw[mI];rfl
theorem ch3(h1:xs.all D.pl=true):(fE xs).all D.pl=true:=by
 unfold fE;rw[cU]at h1 ⊢;intro d hd;obtain⟨i,hi,e⟩:=ki hd;rw[List.getElem_mapIdx]at e;subst e;rw[kD];simp only[bB,e6,mm,cA];exact⟨rfl,h1 _ (eU _)⟩
theorem jz(xs:List D):(fE xs).length=xs.length:=by simp[fE]
theorem Hz(xs ys:List D):(f9 xs ys).length=min xs.length ys.length:=by simp[f9]
section
variable{F H:Hp}{d:D}{v:V}{xs ys:List D}{ws us:List V}{p q:Addr}{K:PySem.W.Frag}
theorem Ds(s:S F H [d] [v])(e2:ah F H)(e:jt d=some xs):∃p ws,v=.ref p/\Rd H p (.lst ws)/\R H H (xs.map D.sh) ws []/\(d.pl=true->xs.all D.pl=true/\Rd F p (.lst ws)/\R F H xs ws []):=by
 cases s with
 | @shr p ws ys _ _ hp r _ =>
  obtain rfl:=dr e;refine⟨p,ws,rfl,.inl (e2 _ _ hp),?_,λ_=>⟨r.pl,.inl hp,r⟩⟩;rw[mK r.pl];exact r.shared e2 (ah.refl _)
 | @own p ws ys _ _ hp r _ =>
  obtain rfl:=dr e;exact⟨p,ws,rfl,.inl hp,r.frozen e2,λz=>by simp[eO]at z⟩
 | @fz p o ws ys _ _ hp r _ =>
  obtain rfl:=dr e;refine⟨p,ws,rfl,.inr ⟨o,e2 _ _ hp⟩,?_,λ_=>⟨r.pl,.inr ⟨o,hp⟩,r⟩⟩;rw[mK r.pl];exact r.shared e2 (ah.refl _)
 | aA _=>cases e
 | bl _=>cases e
 | int _=>cases e
 | str _=>cases e
 | tup _ _ _=>cases e
 | obj _ _ _ _=>cases e
 | bt _ _=>cases e
theorem Dt(r:R F H xs ws [])(hi:i<xs.length){x:V}(hx:ws[i]?=some x):R F H [xs[i]] [x] []:=by
 obtain⟨v,A1,e2,r1,sub⟩:=r.get (aV hi);rw[hx]at e2;cases e2;have:A1=[]:=Zy.mpr λa ha=>by simpa using sub ha
 subst this;exact r1
theorem ON(hp:Rd F p (.lst ws))(r:R F H xs ws [])(hq:Rd F q (.lst us))(t:R F H ys us [])(hF:Full F H):JD (GN K p q) F (f9 xs ys) where
 go:=λi H' hs hi=>by
  rw[Hz]at hi;have l1:=r.length;have l2:=t.length;exact⟨ws,us,_,_,.inl (ig hp hs),.inl (ig hq hs),aV (show i<ws.length by omega),aV (show i<us.length by omega)⟩
 kr:=λi H' v H2 hs hi zz=>by
  obtain⟨T,x,y,e1,e2,e3,hx,hy⟩:=zz;subst e1 e3;have og:=hi;rw[Hz]at og;have h1:=Dt (r.full hF hs rfl) (show i<xs.length by omega) (hx ws (.inl (ig hp hs)));have h2:=Dt (t.full hF hs rfl) (show i<ys.length by omega) (hy us (.inl (ig hq hs)));have sm:=ah.upd (o:=.tup [x,y]) e2;refine⟨_,aV hi,sm,?_⟩;have eg:(f9 xs ys)[i]=.tup [xs[i]'(by omega),ys[i]'(by omega)]:=by simp[f9]
  rw[eg];exact R.tup (A:=[]) (B:=[]) dm ((h1.shared (ah.refl _) sm).cons (h2.shared (ah.refl _) sm)) .nil
 stop:=λi H' hs hi=>by
  rw[Hz]at hi;have l1:=r.length;have l2:=t.length;exact⟨ws,us,.inl (ig hp hs),.inl (ig hq hs),by omega⟩
theorem OO(hp:Rd F p (.lst ws))(r:R F H xs ws [])(hF:Full F H):JD (GS K p) F (fE xs) where
 go:=λi H' hs hi=>by
  rw[jz]at hi;have l1:=r.length;exact⟨ws,_,.inl (ig hp hs),aV (show i<ws.length by omega)⟩
 kr:=λi H' v H2 hs hi zz=>by
  obtain⟨T,x,e1,e2,e3,hx⟩:=zz;subst e1 e3;have og:=hi;rw[jz]at og;have h1:=Dt (r.full hF hs rfl) og (hx ws (.inl (ig hp hs)));have sm:=ah.upd (o:=.tup [.int i,x]) e2;refine⟨_,aV hi,sm,?_⟩;have eg:(fE xs)[i]=.tup [.int i,xs[i]]:=by simp[fE]
  rw[eg];exact R.tup (A:=[]) (B:=[]) dm (.int (h1.shared (ah.refl _) sm)) .nil
 stop:=λi H' hs hi=>by
  rw[jz]at hi;have l1:=r.length;exact⟨ws,.inl (ig hp hs),by omega⟩
end
section
variable{X:Cx}{a b:Expr}{ta:b8}{p pos nM:Pos}{elts:List Expr}{x1:Nat}
def vH(t:b8):js:=λδ Q=>t δ λds ag=>match ds with
 | [d1,d2]=>∃xs ys,jt d1=some xs/\jt d2=some ys/\Q (d1.pl&&d2.pl) (f9 xs ys) ag
 | _=>False
theorem yI(hg:Gl X "zip")(hm:X.mg "zip"=none)(ha:PA X [a,b] (lA ta))(hs:starEach [a,b] X.env=[(false,eval a X.env),(false,eval b X.env)]:=by rfl)(fw:starEach [b] X.env=[(false,eval b X.env)]:=by rfl) :
  PI X (.Tuple elts x1 nM) (.Call (.Name "zip" p) [a,b] [] pos) (lI (vH ta)) :=
 uF (cM1 hg hm ha hs fw) λσ H Q zq=>by
 obtain⟨B,F,δ,ts,Qd,c,q,k⟩:=zq;exact⟨B,F,δ,ts,_,c,q,λds aq vs F1 H1 hd f1 h1 c1 s=>by
  match ds,hd,s with
  | [d1,d2],⟨xs,ys,i1,i2,hq⟩,s =>
   obtain⟨v1,cW,rfl,s1,s2⟩:=s.dA;obtain⟨v2,eu2,rfl,s2,s3⟩:=s2.dA;cases s3;have e2:=c1.ext;have sn:=rq e2;obtain⟨p1,w1,rfl,r1,t1,u1⟩:=Ds s1 e2 i1;obtain⟨p2,w2,rfl,r2,t2,u2⟩:=Ds s2 e2 i2;refine⟨p1,p2,rfl,⟨w1,.inl r1⟩,⟨w2,.inl r2⟩,k _ _ aq _ _ H1 hq (f1.trans sn) h1 c1.snap ?_ λz=>?_⟩
   ·rw[OM];exact ON r1 t1 r2 t2 (Full.refl _)
   ·rw[cA]at z;obtain⟨a1,a2,a3⟩:=u1 z.1;obtain⟨b1,b2,b3⟩:=u2 z.2;exact⟨cv7 a1 b1,ON (ig a2 sn) (a3.shared sn (ah.refl _)) (ig b2 sn) (b3.shared sn (ah.refl _)) um⟩⟩
def vI(t:b8):js:=λδ Q=>t δ λds ag=>match ds with
 | [d1]=>∃xs,jt d1=some xs/\Q d1.pl (fE xs) ag
 | _=>False
theorem oh(hg:Gl X "enumerate")(hm:X.mg "enumerate"=none)(ha:PA X [a] (lA ta))(hs:starEach [a] X.env=[(false,eval a X.env)]:=by rfl) :
  PI X (.Tuple elts x1 nM) (.Call (.Name "enumerate" p) [a] [] pos) (lI (vI ta)) :=
 uF (cw0 hg hm ha hs) λσ H Q zq=>by
 obtain⟨B,F,δ,ts,Qd,c,q,k⟩:=zq;exact⟨B,F,δ,ts,_,c,q,λds aq vs F1 H1 hd f1 h1 c1 s=>by
  match ds,hd,s with
  | [d1],⟨xs,i1,hq⟩,s =>
   obtain⟨v1,cW,rfl,s1,s2⟩:=s.dA;cases s2;have e2:=c1.ext;have sn:=rq e2;obtain⟨p1,w1,rfl,r1,t1,u1⟩:=Ds s1 e2 i1;refine⟨p1,rfl,⟨w1,.inl r1⟩,k _ _ aq _ _ H1 hq (f1.trans sn) h1 c1.snap ?_ λz=>?_⟩
   ·rw[ck3];exact OO r1 t1 (Full.refl _)
   ·obtain⟨a1,a2,a3⟩:=u1 z;exact⟨ch3 a1,OO (ig a2 sn) (a3.shared sn (ah.refl _)) um⟩⟩
end
section
variable{X:Cx}{F H:Hp}{e b:Expr}{pos p p2 p3 pr apos bK Hj:Pos}{t ti te:aK}{x y:Str}{i j:Nat}
theorem HA{α:Type}{xs:List α}{k:Nat}{v:α}(h:xs[k]?=some v):dW xs (k:Int)=some v:=by
 unfold dW ib;have hk:k<xs.length:=(jh.mp h).1;rw[if_pos (by omega),if_pos (by omega)];exact h
end
section
variable{X:Cx}{CX:eW}{k:Nat}{f:Addr}{fd:FuncData}{ps:List Str}{sp:aX}{E:XK}{fn x1 x2 y1 y2:Str}{i1 i2 j1 j2:Nat}{tk:Nat}
 {tp t1 t2 zp eu3 q1 q2 fp eu4 a1 a2 dy0 OP eu5 cp Hj pr apos bK eu6 pos:Pos}
end
theorem ax.dy1(c:ax B F H σ δ ((.tup [a,b],v)::ts)):∃p u w,v=.ref p/\H p=some (.tup [u,w])/\ax B F H σ δ ((a,u)::(b,w)::ts):=by
 obtain⟨A,C,r,s,nd,fr⟩:=c.own
 cases r with
 | @tup p ws xs A1 _ _ B1 hp r1 r2 =>
  obtain⟨u,eP,A2,A3,rfl,rfl,h1,h2⟩:=r1.dA;obtain⟨w,eu7,A4,A5,rfl,rfl,h3,h4⟩:=h2.dA;cases h4;refine⟨p,u,w,rfl,hp,c.ext,c.b1,c.b2,c.b3,A2++(A4++B1),C,h1.cons (h3.cons r2),s,?_,?_⟩
  ·simpa using nd
  ·intro a ha;exact fr a (by simpa using ha)
section
variable{X:Cx}{y1 y2:Str}{i1 i2 tk m:Nat}{t1 t2 tp:Pos}
def iq(i1 i2:Nat):jX:=λd δ Q=>match d with
 | .tup [a,b]=>Q ((δ.set i1 (some a)).set i2 (some b))
 | _=>False
theorem mY(hc:X.calm=true)(Du:X.N.Nodup)(m1:X.N[i1]?=some y1)(l1:Loc X.env.scope y1)(m2:X.N[i2]?=some y2)(l2:Loc X.env.scope y2)(OQ:m<=i1:=by decide)(nY:m<=i2:=by decide)
  (f1:X.fn y1=true\/X.env.scope.names.lookup y1=some .local:=by first | exact .inl rfl | exact .inr rfl | assumption) (f2:X.fn y2=true\/X.env.scope.names.lookup y2=some .local:=by first | exact .inl rfl | exact .inr rfl | assumption)
  (HB:(assignEach [.Name y1 t1,.Name y2 t2] X.env).map (·.2)=assign (.Name y1 t1) X.env::(assignEach [.Name y2 t2] X.env).map (·.2):=by rfl) (HC:(assignEach [.Name y2 t2] X.env).map (·.2)=assign (.Name y2 t2) X.env::(assignEach [] X.env).map (·.2):=by rfl)
  (hn:(assignEach [.Name y1 t1,.Name y2 t2] X.env).length=2:=by rfl) (bG:(assignEach [.Name y1 t1,.Name y2 t2] X.env).findIdx? (·.1)=none:=by rfl) :
  PG X (.Tuple [.Name y1 t1,.Name y2 t2] tk tp) (lG m (iq i1 i2)) :=
 NZ (cK3 hc (Mg (CK Du m1 l1 f1) (Mg (CK Du m2 l2 f2) cx8 HC) HB) hn bG) λv σ H Q zz=>by
  obtain⟨B,F,δ,ts,d,Qd,c,q,k⟩:=zz;obtain⟨a,b,rfl,q⟩:∃a b,d=D.tup [a,b]/\Qd ((δ.set i1 (some a)).set i2 (some b)):=by
   unfold iq at q;split at q
   ·exact⟨_,_,rfl,q⟩
   ·exact q.elim
  obtain⟨p,u,w,rfl,hp,c2⟩:=c.dy1;refine⟨p,[u,w],rfl,iF.of hp,rfl,u,[w],rfl,w,[],rfl,rfl,k _ _ q (by simp) (λj hj=>?_) ((c2.store i1).store i2)⟩;rw[qL (by omega),qL (by omega)]
end
open Classical in
theorem oj{sh:Bool}(l:List α)(e g:α->D)(i7:xs.map D.sh=l.map e)(inj:∀a b,e a=e b->a=b)
  (hx:∀a∈l,te ((fR aE n aq).set m (some (e a))) λd _=>d=g a) (dz:(sh&&aE.all (ij aq))=true\/∀a∈l,(g a).fr=true) (hl:l.length<=sizeLine) (hq:Q (.lst true (l.map g)) aq):pO sh xs aE n (gN m) jZ te aq Q:=by
 let f:D->D:=λx=>if h:∃a∈l,e a=x then g h.choose else .aA
 have hf:∀a∈l,f (e a)=g a:=λa ha=>by
  have h:∃b∈l,e b=e a:=⟨a,ha,rfl⟩;show(if h:∃b∈l,e b=e a then g h.choose else .aA)=g a;rw[dif_pos h];exact congrArg g (inj _ _ h.choose_spec.2)
 refine ch0 f (λx h=>?_) (dz.imp id λh x hx=>?_) ?_ ?_
 ·rw[i7]at h;obtain⟨a,ha,rfl⟩:=bE.mp h;rw[hf a ha];exact hx a ha
 ·rw[i7]at hx;obtain⟨a,ha,rfl⟩:=bE.mp hx;rw[hf a ha];exact h a ha
 ·have:=congrArg E5 i7;simp at this;omega
 ·rw[i7,cE,show l.map (f ∘ e)=l.map g from tT λa ha=>hf a ha];exact hq
theorem b63{xs:List D}{i:Nat}{d:D}(h:(fE xs)[i]?=some d):∃x,xs[i]?=some x/\d=.tup [.int i,x]:=by
 unfold fE at h;rw[zG]at h;obtain⟨x,hx,rfl⟩:=tR.mp h;exact⟨x,hx,rfl⟩
end L3
namespace L2
open PySem PySem.Spec PyProof.Rows
section
variable{X:Cx}
end
end L2
namespace L3
open PySem L2 PySem.Spec PyProof.Rows
abbrev tx(l:List Nat):D:=.str ⟨l.toArray⟩
section
variable{X:Cx}{F H:Hp}{e:Expr}{es:List Expr}{t:aK}{pos p p2 apos bK:Pos}
def rX(x:D)(lo hi:Option Int)(Q:D->Prop):Prop:=match x with
 | .lst _ xs=>xs.all D.pl=true/\Q (.lst true (gi xs lo hi))
 | .fz xs=>Q (.lst true (gi xs lo hi))
 | .str z=>z.length<=sizeLine/\Q (tx (gi z.cps.toList lo hi))
 | _=>False
def vJ(t:aK)(tl th:ya):aK:=λδ Q=>t δ λx aq=>tl aq λl aR=>th aR λu jr=>rX x l u λd=>Q d jr
theorem yJ{lo hi:Option Expr}{tl th:ya}(he:PE X e (lB t))(hl:PO X lo (lP tl))(hu:PO X hi (lP th)):PE X (.Subscript e (.Slice lo hi none p2) pos) (lE (vJ t tl th)) :=
 df (cf6 (df7.or cK1) he hl hu) λσ H Q zq=>by
 obtain⟨B,F,δ,ts,Qd,c,q,k⟩:=zq;exact⟨B,F,δ,ts,_,c,q,λx aq v F1 H1 q1 f1 h1 c1 s1=>⟨B,F1,aq,ts,_,c1,q1,λl aR F2 H2 q2 f2 h2 c2=>⟨B,F2,aR,ts,_,c2,q2,λu jr F3 H3 q3 f3 h3 c3=>by
  have mW:=s1.mono (f2.trans f3) (h2.trans h3);unfold rX at q3;split at q3
  ·obtain⟨p,ws,rfl,h,t⟩:=mS mW c3.ext rfl;exact .inl ⟨p,ws,rfl,kI h,λr hr=>k _ jr _ F3 _ q3.2 ((f1.trans f2).trans f3) (((h1.trans h2).trans h3).trans (ah.upd hr)) (c3.rA hr (t.cut _ _) (Ov q3.1 _ _))⟩
  ·obtain⟨p,ws,rfl,h,t⟩:=mS mW c3.ext rfl
   cases mW with
   | fz h' r _=>exact .inl ⟨_,_,rfl,kI (.inr ⟨_,c3.ext _ _ h'⟩),λr' hr=>k _ jr _ F3 _ q3 ((f1.trans f2).trans f3) (((h1.trans h2).trans h3).trans (ah.upd hr)) (c3.rA hr (r.s.cut _ _) (Ov r.pl _ _))⟩
  ·cases mW with
   | str _=>exact .inr ⟨_,rfl,q3.1,k _ jr _ F3 H3 q3.2 ((f1.trans f2).trans f3) ((h1.trans h2).trans h3) (c3.pushS (.str .nil) rfl)⟩
  ·exact q3.elim⟩⟩⟩
end
theorem yK(a:List Nat):(⟨a.toArray⟩:Str).length=a.length:=by show a.toArray.size=_;simp
def av(l:List Nat):List D:=aP (l.map λ(n:Nat)=>(n:Int))
theorem e7(l:List Nat):(av l).length=l.length:=by unfold av;rw[lR,bq]
theorem cj(l:List Nat):av l=l.map λ(n:Nat)=>D.int (n:Int):=by unfold av aP;rw[cE];rfl
theorem HD(l:List Nat):(av l).map D.sh=l.map λ(n:Nat)=>D.int (n:Int):=by unfold av;rw[j6];exact cj l
theorem rY(a b:Nat)(h:D.int (a:Int)=D.int (b:Int)):a=b:=by injection h with h;omega
theorem lW(l:List Nat):(av l).all D.pl=true:=kJ _
theorem qg(l:List Nat):(av l).map D.sh=av l:=j6 _
theorem om(a b:List Nat):av a++av b=av (a++b):=by unfold av;rw[rT,eV]
theorem yL(l:List Nat)(lo hi:Option Int):gi (av l) lo hi=av (gi l lo hi):=by
 unfold av;rw[vt];congr 1;unfold gi;rw[bq,Lr,Lq]
theorem OR(xs:List α)(b:Nat):gi xs none (some (b:Int))=xs.take b:=by
 have:=cz0 xs 0 b;unfold gi at this ⊢;simpa[HT.dG]using this
theorem Dv(xs:List α)(a:Nat):gi xs (some (a:Int)) none=xs.drop a:=by
 unfold gi;rw[HT.Gf];show(xs.drop (min a xs.length)).take (xs.length-min a xs.length)=_;by_cases h:a<=xs.length
 ·rw[Lu h,Fs (by rw[lh];exact bR _)]
 ·rw[Ly (by omega),List.drop_length,Lz (by omega)];simp
end L3
namespace L2
open PySem PySem.Spec PyProof.Rows
section
variable{X:Cx}{tg l o e:Expr}{tl to te:TE}{apos bK:Pos}
end
end L2
namespace L3
open PySem L2 PySem.Spec PyProof.Rows
section
variable{X:Cx}{F H:Hp}{tg l e:Expr}{te t tb:aK}{apos bK pos:Pos}
variable{o:Expr}
def i6:eB:=λx y Q=>match x,y with
 | .int i,.lst _ xs=>∃ns:List Int,xs=aP ns/\Q (.bl (decide (i∈ns)))
 | _,_=>False
theorem Dw:∀{ns:List Int} {ws:List V},S F H (aP ns) ws->ws=ns.map V.int
 | [],_,s=>by cases s;rfl
 | n::ns,_,s=>by
  cases s with
  | int s=>rw[Dw s];rfl
theorem cU1:bQ X (compareOp .In) i6 :=
 ⟨_,b50,λ{B F H σ δ ts x y v w Q Qd} c sx sy h k=>by
  unfold i6 at h;split at h
  ·rename_i i o xs;obtain⟨ns,rfl,q⟩:=h;obtain⟨p,ws,rfl,e1,s1⟩:=ju sy c.ext;have e:=Dw s1;subst e;cases sx;refine⟨p,_,rfl,.inl (bN.of e1),rfl,by simp[nN],?_⟩;have ei:uf (.int i) (ns.map V.int)=decide (i∈ns):=by
    unfold uf;rw[List.any_map,qT,Cm,decide_eq_true_iff];constructor
    ·rintro⟨x,hx,he⟩;have:x=i:=by simpa[lH]using he
     rw[<-this];exact hx
    ·intro hx;exact⟨i,hx,by simp[lH]⟩
   show Q (.bl (if false then _ else uf (.int i) (ns.map V.int))) H;rw[if_neg (by decide),ei];exact k _ _ _ q (ah.refl _) (c.pushS (.bl .nil) rfl)
  ·exact h.elim⟩
end
end L3
namespace L2
open PySem PySem.Spec PyProof.Rows
def Tb(ts:List Addr)(H:Hp):Prop:=∀P∈ts,∃ps,H P=some (.dF ps)
structure yM(ts:List Addr)(H:Hp):Prop where
 any:∀b,H b=none\/(∃o xs,H b=some (.cV o (.lst xs)))\/(b∈ts/\H b=some (.dF #[]))
 tab:∀P∈ts,H P=some (.dF #[])
theorem yM.tb(h:yM ts H):Tb ts H:=λP hP=>⟨#[],h.tab P hP⟩
def Bm(mg:Str->Option Value)(base:Heap):Prop:=∃bm o,mg "__builtins__"=some (.ref bm)/\bm≠builtinsNs/\bm≠mainGlobals/\base.get? bm=some o/\o.cls=.type "module"/\o.dict=some builtinsNs/\o.data=.plain
theorem b45{P:Program}{w:World}{K:PySem.W.Frag}{mg mb:Str->Option Value}{CX:eW}{k:Nat}{fa a:Addr}{fd:FuncData}{x:Str}{sp:Sp}{br:Shared}{vs:List Value}{ns:List Int}{ts:List Addr}
  (KX:K.In br.heap) (yN:br.heap.Ns mainGlobals mg) (hb:br.heap.Ns builtinsNs mb) (hbb:∀x:Str,x≠"__name__"->mb x=bootBuiltins x) (dy6:br.heap.NoLimit) (hg:br.gens=#[])
  (ht:∀P∈ts,br.heap.get? P=some (PySem.W.tabObj #[])) (HE:∀P∈ts,isCodeTable br.heap P) (hkt:∀P∈ts,K.lookup P=none)
  (ha:br.heap.get? a=some { cls:=.type "list",data:=.seq vs.toArray }) (hi:IntsAre vs ns) (hl:ns.length<=sizeLine) (hr:bJ k callerA)
  (vK:Bm mg br.heap) (F:∀base:Heap,K.In base->base.Ns mainGlobals mg->Bm mg base->aF P w K mg base CX k fa fd [x] sp) (dy8:∀(s:Shared) (u:Value),BindsTo s fd ⟨[u],[]⟩ [(x,u)])
  (eA:∀H:Hp,yM ts H->bN K H a (ns.map V.int)->sp [.ref a] H (λv _=>v=.bl true) λ_ _ _=>False)
  (HF:∀H e s',CX [] H br (λ_ _ _=>False) e s'->False) :
  codeAny (model P w) callerA (.call (.ref fa) ⟨[.ref a],[]⟩) (λr s'=>r=.ok (.ret (.bool true))/\OldK br.heap s'.heap/\s'.os=br.os/\AllBare s'.gens) br:=by
 have rv:=MY hi;have dy9:=hi.length;have nat:a ∉ ts:=λz=>by
  have:=ht a z;rw[ha]at this;cases this
 have core:∀H:Hp,yM ts H->bN K H a (ns.map V.int)->da P w H br.heap->(∀b,H b≠none->b=a\/b∈ts)->(H a≠none->K.lookup a=none) ->
   codeAny (model P w) callerA (.call (.ref fa) ⟨[.ref a],[]⟩) (λr s'=>r=.ok (.ret (.bool true))/\OldK br.heap s'.heap/\s'.os=br.os/\AllBare s'.gens) br:=by
  intro H hO hS aH hA hK;have HG:∀{b:Addr} {o:Obj},br.heap.get? b=some o->H b=none->(nH br.heap H).get? b=some o:=λe n=>Z5 e n;have Ah:∀{b:Addr} {o:Obj} {es:Array DictEntry} {ep:Nat},br.heap.get? b=some o->o.data=.dict es ep->H b=none:=λ{b o es ep} e d=>by
   cases q:H b with
   | none=>rfl
   | some u =>
    rcases hA b (by rw[q];simp)with e' | e'
    ·subst e';rw[ha]at e;cases e;have d':Data.seq vs.toArray _=Data.dict es ep:=d;cases d'
    ·rw[ht b e']at e;cases e;have d':zx #[]=Data.dict es ep:=d;cases d'
  have Dx:∀{b:Addr} {m:Str->Option Value},br.heap.Ns b m->(nH br.heap H).Ns b m:=λ{b m} ⟨o,es,ep,e,d,r⟩=>⟨o,es,ep,HG e (Ah e d),d,r⟩;have OS:K.In (nH br.heap H):=λb o e=>HG (KX b o e) (by
   cases q:H b with
   | none=>rfl
   | some u =>
    rcases hA b (by rw[q];simp)with e' | e'
    ·subst e';rw[hK (by rw[q];simp)]at e;cases e
    ·rw[hkt b e']at e;cases e)
  have hBm:Bm mg (nH br.heap H):=by
   obtain⟨bm,o,b1,b2,b3,b4,b5,b6,b7⟩:=vK;refine⟨bm,o,b1,b2,b3,HG b4 ?_,b5,b6,b7⟩
   cases q:H bm with
   | none=>rfl
   | some u =>
    rcases hA bm (by rw[q];simp)with e' | e'
    ·rw[e',ha]at b4;cases b4;have d':Data.seq vs.toArray _=Data.plain:=b7;cases d'
    ·rw[ht bm e']at b4;cases b4;have d':zx #[]=Data.plain:=b7;cases d'
  have hM:Mod K mg (nH br.heap H):=⟨OS,Dx yN,⟨mb,Dx hb,hbb⟩,let⟨mc,h1,h2⟩:=dy6;⟨mc,Dx h1,h2⟩⟩;have e0:jS P w K mg (nH br.heap H) callerA [] br H:=⟨rfl,hM,λb o e=>Z6 e,Cc (Z4 _ _),trivial,λb hb=>absurd (show b∈([]:List Addr) from hb) (by simp),aH,.of_eq hg⟩;refine codeAny_mono ((F _ OS (Dx yN) hBm).run callerA [] br H ⟨[.ref a],[]⟩ [.ref a] [.ref a] _ _ hr e0 (dy8 br (.ref a)) (.cons rfl .nil) (eA H hO hS)) λr s' h=>?_
  cases r with
  | error e=>exact(HF H e s' h).elim
  | ok fl =>
   cases fl with
   | next=>exact eZ h
   | brk=>exact eZ h
   | cont=>exact eZ h
   | ret u =>
    obtain⟨v,H',os,bare,un,OT,r',q⟩:=h;have q':v=.bl true:=q;subst q';obtain rfl:u=E2 true:=r';have each:∀b o,br.heap.get? b=some o->asItWas br.heap s'.heap b o/\∃o',s'.heap.get? b=some o':=λb o e=>by
     cases q:H b with
     | none =>
      have z:=un.keep b o e q (by intro z;exact absurd (show b∈([]:List Addr) from z) (by simp)) (by simp);exact⟨.inl z,o,z⟩
     | some u =>
      rcases hO.any b with z | ⟨ob,xs,z⟩ | ⟨kK,z⟩
      ·rw[q]at z;cases z
      ·have z2:=un.hJ b ob _ z;obtain⟨e1,_⟩:=aH b _ z;obtain⟨e2,_⟩:=OT b _ z2;rw[e]at e1;cases e1;exact⟨.inl e2,_,e2⟩
      ·obtain⟨more,z2⟩:=un.gv b _ z;have e2:=(OT b _ z2).1;rw[ht b kK]at e;cases e;exact⟨.inr (.inl ⟨HE b kK,rfl,#[],more,rfl,e2⟩),_,e2⟩
    exact⟨rfl,⟨λb o e=>(each b o e).1,λb o e=>(each b o e).2⟩,os,bare⟩
 have tok:∀(H:Hp) (b:Addr),b∈ts->dv P w H br.heap b (.dF #[]):=λH b hb=>⟨ht b hb,trivial,λpos cv q=>by cases q⟩
 cases hk:K.lookup a with
 | some o =>
  have e:=KX a o hk;rw[ha]at e;cases e;refine core (λb=>if b∈ts then some (.dF #[])else none) ⟨λb=>?_,λb hb=>if_pos hb⟩ (.inr ⟨_,vs.toArray,_,hk,rfl,rfl,rfl,by rw[eJ,dy9];exact hl,by simpa using rv⟩) (λb u z=>?_) (λb z=>?_) λz=>absurd (if_neg nat) z
  ·by_cases hb:b∈ts
   ·exact .inr (.inr ⟨hb,if_pos hb⟩)
   ·exact .inl (if_neg hb)
  ·by_cases hb:b∈ts
   ·have z':=(if_pos hb).symm.trans z;cases z';exact tok _ b hb
   ·have z':=(if_neg hb).symm.trans z;cases z'
  ·by_cases hb:b∈ts
   ·exact .inr hb
   ·exact absurd (if_neg hb) z
 | none =>
  refine core (λb=>if b=a then some (.cV { cls:=.type "list",data:=.seq vs.toArray } (.lst (ns.map V.int)))else if b∈ts then some (.dF #[])else none) ⟨λb=>?_,λb hb=>?_⟩ (.inl (.inr ⟨{ cls:=.type "list",data:=.seq vs.toArray },if_pos rfl⟩)) (λb u z=>?_) (λb z=>?_) λ_=>hk
  ·by_cases hb:b=a
   ·exact .inr (.inl ⟨_,_,if_pos hb⟩)
   ·by_cases kK:b∈ts
    ·exact .inr (.inr ⟨kK,(if_neg hb).trans (if_pos kK)⟩)
    ·exact .inl ((if_neg hb).trans (if_neg kK))
  ·have fj:b≠a:=λz=>nat (z ▸ hb);exact(if_neg fj).trans (if_pos hb)
  ·by_cases hb:b=a
   ·have z':=(if_pos hb).symm.trans z;cases z';subst hb;exact⟨ha,by rw[bq];exact hl,vs,_,rv,ha⟩
   ·by_cases kK:b∈ts
    ·have z':=((if_neg hb).trans (if_pos kK)).symm.trans z;cases z';exact tok _ b kK
    ·have z':=((if_neg hb).trans (if_neg kK)).symm.trans z;cases z'
  ·by_cases hb:b=a
   ·exact .inl hb
   ·by_cases kK:b∈ts
    ·exact .inr kK
    ·exact absurd ((if_neg hb).trans (if_neg kK)) z
theorem dz1{l:PySem.W.OpenLaw}{n k:Nat}{q:Program}{loose:List Str}{XP:(Str->Option Value)->Heap->Prop}{YP:World->Heap->Prop}{d:DefRec}{K:Params->PySem.W.Frag}{CX:World->eW}{sp:World->Sp}{x:Str}{ts:List Addr}
  (hn:l.most=some n) (xE:n<=sizeLine) (Ao:d.params.defaults=[]) (hr:bJ k callerA)
  (hY:∀(w:World) (h:Heap),YP w h->(K w.params).In h/\∀P∈ts,h.get? P=some (PySem.W.tabObj #[]))
  (hC:∀(w:World) (h:Heap),(K w.params).In h->∀P∈ts,(K w.params).lookup P=none/\∃c,PySem.W.CodeHd h c P)
  (F:∀(w:World) (mg:Str->Option Value) (fa:Addr) (h:Heap),(K w.params).In h->h.Ns mainGlobals mg->mg d.name=some (.ref fa) ->
   ∃fd:FuncData,(∀(s:Shared) (u:Value),BindsTo s fd ⟨[u],[]⟩ [(x,u)]) /\
    ∀base:Heap,(K w.params).In base->base.Ns mainGlobals mg->Bm mg base->aF l.prog w (K w.params) mg base (CX w) k fa fd [x] (sp w))
  (eA:∀(w:World) (H:Hp) (a:Addr) (ns:List Int),ns.length<=n->yM ts H->bN (K w.params) H a (ns.map V.int)->sp w [.ref a] H (λv _=>v=.bl true) λ_ _ _=>False)
  (HF:∀(w:World) (H:Hp) (s:Shared) (e:Value) (s':Shared),CX w [] H s (λ_ _ _=>False) e s'->False) :
  PySem.W.WalkO q loose XP YP l.row.toRowW d [] (λf vs=>PySem.call f vs):=by
 refine Att.di2 hn Ao λw cK br mg mb fa o pm cd doc a vs ns G Y ho hd bZ Ap Gm hints hlen hg=>?_;obtain⟨KX,hT⟩:=hY w _ Y;obtain⟨fd,hb,hF⟩:=F w mg fa _ KX G.T.g Ap;have HE:∀P∈ts,isCodeTable br.heap P:=λP hP=>by
  obtain⟨_,c,C⟩:=hC w _ KX P hP;exact(C.tab (hT P hP)).isCodeTable
 have vK:Bm mg br.heap:=by
  obtain⟨bm,ob,b1,b2,b3,b4,b5,b6⟩:=G.T.bmain;refine⟨bm,ob,b1,b2,λq=>?_,b3,b4,b5,b6⟩;obtain⟨o,es,ep,e,hd,_⟩:=G.T.g;rw[q,e]at b3;cases b3;rw[hd]at b6;cases b6
 exact b45 KX G.T.g G.T.b G.T.builtins G.T.nolimit hg hT HE (λP hP=>(hC w _ KX P hP).1) Gm hints (ff hlen xE) hr vK hF hb (λH hO hS=>eA w H a ns hlen hO hS) λH e s'=>HF w H br e s'
end L2
namespace L3
open PySem L2 PySem.Spec PyProof.Rows
def vL(ts:List Addr)(sp:Sp):Sp:=λvs H Q E=>Tb ts H/\sp vs H Q E
theorem OU{s:Shared}(I:Inv X pins σ H s)(h:Tb ts X.ly):Tb ts H:=λP hP=>by
 obtain⟨ps,e⟩:=h P hP;obtain⟨m,e2⟩:=I.base.gv P ps e;exact⟨_,e2⟩
def Dy(ts:List Addr)(K:PySem.W.Frag):Sp:=λvs H Q _=>∃(a:Addr) (ns:List Int),vs=[.ref a]/\yM ts H/\bN K H a (ns.map V.int)/\ns.length<=63/\∀H',Q (.bl true) H'
theorem ci1{ts:List Addr}{K:PySem.W.Frag}(nl:K.all (λp=>Hh p.2)=true){vs:List V}{H:Hp}{Q:VK}{E:XK}(h:Dy ts K vs H Q E):vL ts (aY Hi) vs H Q E:=by
 obtain⟨a,ns,rfl,hO,hS,hl,q⟩:=h;have hz:∃o,H a=some (.cV o (.lst (ns.map V.int))):=by
  rcases hS with (hS | hS) | ⟨o,its,n,hk,hc,_⟩
  ·rcases hO.any a with z | ⟨o,xs,z⟩ | ⟨_,z⟩
   ·rw[hS]at z;cases z
   ·rw[hS]at z;cases z
   ·rw[hS]at z;cases z
  ·exact hS
  ·have hm:=bQ4 hk;have:=cU.mp nl _ hm;simp[Hh,hc]at this
 obtain⟨o,ho⟩:=hz;refine⟨hO.tb,H,[.fz (aP ns)],λd=>d=.bl true,ah.refl _,.fz ho (Ow ns) .nil,⟨ns,rfl,hl,rfl⟩,λd v F' H' A hd hs hf he h3 r nd fr=>?_⟩;subst hd;cases r;exact q H'
end L3
namespace L2
open PySem PySem.Spec PyProof.Rows
def rem(H:Hp)(f c:Addr):Hp:=λb=>if b=f\/b=c then none else H b
def qh(H H':Hp)(f c:Addr):Hp:=λb=>if b=f\/b=c then H b else H' b
section
variable{P:Program}{w:World}{H H':Hp}{h:Heap}{a b f c:Addr}{o:HO}{of oc:Obj}
theorem HH:rem H f c f=none:=if_pos (.inl rfl)
theorem Dz:rem H f c c=none:=if_pos (.inr rfl)
theorem fS(h1:b≠f)(h2:b≠c):rem H f c b=H b:=if_neg (by simp[h1,h2])
theorem mZ(e:H b=none):rem H f c b=none:=by unfold rem;split;rfl;exact e
theorem vM(e:rem H f c b=some o):b≠f/\b≠c/\H b=some o:=by
 unfold rem at e;split at e
 ·cases e
 ·rename_i n;exact⟨λz=>n (.inl z),λz=>n (.inr z),e⟩
theorem rZ(h1:b≠f)(h2:b≠c):qh H H' f c b=H' b:=if_neg (by simp[h1,h2])
theorem OV:qh H H' f c f=H f:=if_pos (.inl rfl)
theorem HI:qh H H' f c c=H c:=if_pos (.inr rfl)
theorem dv.rem(x:dv P w H h a o)(ha:a≠f)(hf:H f=some (.ext φ))(hc:H c=some (.own f)\/H c=none)(vN:¬ ∀h',φ h'->∃q,h'.CodeRec (.ref f) q):dv P w (rem H f c) h a o:=by
 have own:∀b,H b=some (.own a)->L2.rem H f c b=some (.own a):=λb e=>by
  rw[fS (λz=>by subst z;rw[hf]at e;cases e) (λz=>by subst z;rcases hc with hc | hc<;>(rw[hc]at e;cases e);exact ha rfl)];exact e
 have tup:∀b xs,H b=some (.tup xs)->L2.rem H f c b=some (.tup xs):=λb xs e=>by
  rw[fS (λz=>by subst z;rw[hf]at e;cases e) (λz=>by subst z;rcases hc with hc | hc<;>(rw[hc]at e;cases e))];exact e
 induction o with
 | lst xs=>exact x
 | tup xs=>exact x
 | dK eD=>exact x
 | dT eD =>
  obtain⟨z,y,xs,r,ob⟩:=x;exact⟨z,y,xs,Paired.FH r λp q z=>⟨z.1,tup _ _ z.2.1,z.2.2⟩,ob⟩
 | set S n=>exact x
 | ins C dx fs =>
  obtain⟨d,r⟩:=x;exact⟨own _ d,r⟩
 | own y=>exact x
 | xd fs=>exact x
 | zY lo hi=>exact x
 | cV ob u ih=>obtain⟨e,q⟩:=x;exact⟨e,ih q⟩
 | dF ps =>
  obtain⟨e,t,cc⟩:=x;refine⟨e,t,λpos cv q=>?_⟩;obtain⟨d,φ,e1,e2,e3⟩:=cc pos cv q;refine⟨d,φ,e1,?_,e3⟩;rw[fS (λz=>?_) (λz=>by subst z;rcases hc with hc | hc<;>(rw[hc]at e2;cases e2))]
  ·exact e2
  ·subst z;rw[hf]at e2;cases e2;exact vN e3
 | met f y=>exact x
 | ext φ=>obtain⟨p,r,st⟩:=x;exact⟨p,r,λh1 h2 p1 kk=>st h1 h2 p1 λb o hb q=>kk b o (hb.imp id (own b)) q⟩
theorem OW{φ:Heap->Prop}{fd:FuncData}(p:φ h)(g:∀h',φ h'->h'.get? f=some of)(hd:of.data=.func fd):¬ ∀h',φ h'->∃q,h'.CodeRec (.ref f) q:=λz=>by
 obtain⟨q,k,ok,vs,t,q1,q2,q3,_⟩:=z h p;cases q1;rw[g h p]at q2;cases q2;rw[hd]at q3;cases q3
theorem da.lam(ok:da P w H h)(hf:H f=some (.ext (L3.kB of oc c f))):L3.kB of oc c f h:=(ok f _ hf).1
theorem da.rem{fd:FuncData}(ok:da P w H h)(hf:H f=some (.ext (L3.kB of oc c f)))(hc:H c=some (.own f))(hd:of.data=.func fd):da P w (rem H f c) h:=λb o e =>
 let⟨h1,_,h3⟩:=vM e;(ok b o h3).rem h1 hf (.inl hc) (OW (ok.lam hf) (λ_ p=>p.1) hd)
end
theorem jS.rem{P:Program}{w:World}{K:PySem.W.Frag}{mg:Str->Option Value}{base:Heap}{A:Around}{outer:List Env}{s:Shared}{H:Hp}{f c:Addr}{of oc:Obj}{fd:FuncData}(e:jS P w K mg base A outer s H)
  (hf:H f=some (.ext (L3.kB of oc c f))) (hc:H c=some (.own f)) (hd:of.data=.func fd):jS P w K mg base A outer s (rem H f c) :=
 ⟨e.frames,e.mod,λb o q=>⟨(e.bs b o q).1,mZ (e.bs b o q).2⟩,e.jO,e.gF,λb hb=>mZ (e.jP b hb),e.aH.rem hf hc hd,e.bare⟩
theorem CE.add{P:Program}{w:World}{K:PySem.W.Frag}{mg:Str->Option Value}{base:Heap}{A:Around}{outer:List Env}{s s':Shared}{H:Hp}{f c:Addr}{of oc:Obj}{Q Q':VK}{u:Value}(e0:jS P w K mg base A outer s H)
  (hf:H f=some (.ext (L3.kB of oc c f))) (hc:H c=some (.own f)) (h:CE outer P w (rem H f c) s Q u s') (hQ:∀v H',Q v H'->H' f=none->H' c=none->Q' v (qh H H' f c)):CE outer P w H s Q' u s':=by
 obtain⟨v,H',os,bare,un,aH,r,q⟩:=h;obtain⟨gf,gc⟩:=e0.aH.lam hf;have OX:∀{b o},H b=some o->b ∉ eN outer:=λ{b o} e z=>by rw[e0.jP b z]at e;cases e
 have nf:H' f=none:=un.free f _ gf HH (by simp);have nc:H' c=none:=un.free c _ gc Dz (by simp);have kf:=un.keep f _ gf HH (OX hf) (by simp);have kc:=un.keep c _ gc Dz (OX hc) (by simp);refine⟨v,qh H H' f c,os,bare,⟨λb o e n=>un.keep b o e (mZ n),λb o e n=>un.slot b o e (mZ n),λb o e n x=>?_,un.there,λb xs e=>?_,λb ob xs e=>?_,λb ps e=>?_⟩,λb o e=>?_,r,hQ v H' q nf nc⟩
 ·rw[rZ (λz=>by subst z;rw[hf]at n;cases n) (λz=>by subst z;rw[hc]at n;cases n)];exact un.free b o e (mZ n) x
 ·have n1:b≠f:=λz=>by subst z;rw[hf]at e;cases e
  have n2:b≠c:=λz=>by subst z;rw[hc]at e;cases e
  rw[rZ n1 n2];exact un.iE b xs (by rw[fS n1 n2];exact e)
 ·have n1:b≠f:=λz=>by subst z;rw[hf]at e;cases e
  have n2:b≠c:=λz=>by subst z;rw[hc]at e;cases e
  rw[rZ n1 n2];exact un.hJ b ob xs (by rw[fS n1 n2];exact e)
 ·have n1:b≠f:=λz=>by subst z;rw[hf]at e;cases e
  have n2:b≠c:=λz=>by subst z;rw[hc]at e;cases e
  rw[rZ n1 n2];exact un.gv b ps (by rw[fS n1 n2];exact e)
 ·by_cases z:b=f
  ·subst z;rw[OV,hf]at e;cases e;refine⟨⟨kf,kc⟩,⟨_,kf⟩,λh1 h2 p kk=>⟨kk b _ (.inl rfl) p.1,kk c _ (.inr ?_) p.2⟩⟩;rw[HI];exact hc
  ·by_cases z2:b=c
   ·subst z2;rw[HI,hc]at e;cases e;exact⟨_,kc⟩
   ·rw[rZ z z2]at e;have up:∀{b' o'},H' b'=some o'->qh H H' f c b'=some o':=λ{b' o'} q=>by
     rw[rZ (λz=>by subst z;rw[nf]at q;cases q) (λz=>by subst z;rw[nc]at q;cases q)];exact q
    exact(aH b o e).jj (λ_ _ _ q=>q) (λ_ q=>up q) (λ_ _ q=>up q) λ_ _ q=>up q
theorem ck7{R:Result->Shared->Prop}{s:Shared}(dz4:A.depth<recursionLimit)
  (ho:s.heap.get? a=some o)
  (zZ:o.data=.func fd) (hco:fd.scope.isCoroutine=false) (dz6:fd.scope.isGenerator=false) (fi:fd.body=.expr body) (bZ:s.heap.CodeRec fd.code q)
  (h:wpAny (model prog w) A.in1 (bindArgs fd args) (λbinds br =>
   wpAny (model prog w) A.in1 (newFunctionEnv fd.scope fd.globals fd.closure binds (q++".<locals>.") (some a) fd.code none fd.builtins)
    (λenv f7=>f7.heap.NoLimit/\codeAny (model prog w) A (.expr body env) R f7) (λe s'=>R (.error e) s') br) (λe s'=>R (.error e) s') s) :
  codeAny (model prog w) A (.call (.ref a) args) R s:=by
 refine codeAny_of_tree ?_;show wpAny _ A.in1 (callAny (.ref a) args) _ _ s;simp only[callAny];refine wpAny_bind (wpAny_load ho ?_);obtain⟨c,oc,vs,tq,hc,iV,HJ,hq⟩:=bZ;simp only[zZ,callFunction,hco,dz6,fi,hc];rw[hc]at h;refine wpAny_bind (m:=field (.ref c) 1) (wpAny_field iV HJ hq (wpAny_bind (wpAny_pure ?_)));exact wpAny_bind (wpAny_mono h (λbinds br oo=>wpAny_bind (wpAny_mono oo (λenv f7 yO=>wpAny_bind (wpAny_enterFrame yO.1 dz4
  (wpAny_pure (And.intro rfl yO.2)))) λ_ _ h'=>h')) λ_ _ h'=>h')
structure OY(p1 p2 x:Str)(sc:Scope):Prop where
 kind:sc.kind=.function
 co:sc.isCoroutine=false
 gen:sc.isGenerator=false
 nd:[p1,p2,x].Nodup
 l1:sc.names.lookup p1=some .local
 l2:sc.names.lookup p2=some .local
 OZ:∀y∈sc.names,y.2≠.cell
 only:∀y∈sc.names,y.2=.free->y.1=x
 lx:sc.names.lookup x=some .free
def vO(CX:eW)(P:Program)(w:World)(K:PySem.W.Frag)(mg:Str->Option Value)(base:Heap)(N:List Str)(qual:Str)(scope:Scope)(f:Addr)(cd:Value)(cl:List (Str × Addr))(A:Around)(outer:List Env)(s:Shared)(H:Hp)(E:XK):Cx where
 prog:=P
 w:=w
 K:=K
 mg:=mg
 base:=base
 A:=A.deeper (PySem.W.envX qual scope s.heap.objs.size f cd cl)
 N:=N
 cK:=s
 ly:=H
 env:=PySem.W.envX qual scope s.heap.objs.size f cd cl
 outer:=outer
 stack:=PySem.W.envX qual scope s.heap.objs.size f cd cl::outer
 ex:=[]
 calm:=true
 fn:=λ_=>false
 pn:=[]
 xe:=λe s'=>wpAny (model P w) (A.deeper (PySem.W.envX qual scope s.heap.objs.size f cd cl)) (leaving (PySem.W.envX qual scope s.heap.objs.size f cd cl) e) (λ_ ud=>CX outer H s E e ud) (λe' ud=>CX outer H s E e' ud) s'
theorem cD7{CX:eW}{P:Program}{w:World}{K:PySem.W.Frag}{mg:Str->Option Value}{base:Heap}{p1 p2 x qn q:Str}{params:Arguments}{body:Expr}{scope:Scope}{pm gR:Value}{f c c':Addr}{k:Nat}{A:Around}{outer:List Env}{s:Shared}{H:Hp}{E:XK}
  {u1 u2 uc:Value} {v1 v2 vc:V} {Q:VK} {t:TE} {args:Args} (S:OY p1 p2 x scope) (e0:jS P w K mg base A outer s H) (hr:bJ (k+1) A)
  (hf:s.heap.get? f=some (PySem.W.kla_obj "<lambda>" qn params body scope [(x,c)] pm c' gR)) (hc:s.heap.IsCell c (some uc)) (rc:RelV vc uc) (hH:H c=none) (bZ:s.heap.CodeRec (.ref c') q)
  (hb:bindArgs (PySem.W.kla_fn "<lambda>" qn params body scope [(x,c)] pm (.ref c') gR) args=pure [(p1,u1),(p2,u2)]) (r1:RelV v1 u1) (r2:RelV v2 u2)
  (ht:PE (vO CX P w K mg base [p1,p2,x] q scope f (.ref c') [(x,c)] A outer s H E) body t) (h:t [some v1,some v2,some vc] H Q) :
  codeAny (model P w) A (.call (.ref f) args) (CR CX outer P w H s Q E) s:=by
 have lim:s.heap.NoLimit:=e0.mod.nolimit.keeps λb o e=>(e0.bs b o e).1;refine ck7 hr.depth hf rfl S.co S.gen rfl bZ ?_;rw[hb];have dz8:∀y∈[(p1,u1),(p2,u2)],scope.names.lookup y.1=some .local:=λy hy=>by
  simp at hy;rcases hy with rfl | rfl
  ·exact S.l1
  ·exact S.l2
 refine wpAny_pure (wpAny_newFunctionEnv S.OZ dz8 (λoo yN O0=>⟨lim.fresh _ O0,?_⟩) S.kind);show codeAny _ _ (.expr body (PySem.W.envX q scope s.heap.objs.size f (.ref c') [(x,c)])) _ _;have hk:∀b o,s.heap.get? b=some o->oo.get? b=some o:=λb o e=>O0.extBut b o (eI (bM e)) (eC _ e);have iZ:p1≠p2/\p1≠x/\p2≠x:=by have:=S.nd;simp at this;exact⟨this.1.1,this.1.2,this.2⟩
 have look:∀y d,([(x,c)]:List (Str × Addr)).lookup y=some d->y=x/\d=c:=λy d e=>by
  rw[iC]at e;split at e
  ·rename_i z;exact⟨beq_iff_eq.mp z,(dr e).symm⟩
  ·cases e
 have I:Inv (vO CX P w K mg base [p1,p2,x] q scope f (.ref c') [(x,c)] A outer s H E) [] [some v1,some v2,some vc] H { s with heap:=oo,toks:=s.toks+[(p1,u1),(p2,u2)].length }:=by
  refine⟨⟨e0.mod,S.kind,rfl,rfl,bR _,λy z d h1 h2=>?_,λy hy=>?_,λy d z _=>absurd z (by simp[vO]),λ_=>hr.hd,Around.frames_deeper e0.frames,.inr ⟨rfl,rfl⟩,λb z=>absurd z (by simp[vO]),e0.bs,e0.jO,λb _ _=>by simp[vO],λb z=>absurd z (by simp[vO]),e0.gF,e0.jP⟩,
   rfl,e0.bare,Un.kept hk,⟨_,yN,λi y v h1 h2 h3=>?_⟩,λy d h=>?_,e0.aH.fresh (bR _),λy d h=>?_,λp hp=>absurd (show p∈([]:List (Addr × Obj)) from hp) (by simp),e0.aH.kept hk,rfl⟩
  ·exact(look y d h1).1.trans (look z d h2).1.symm
  ·have hy:scope.names.lookup y=some .cell\/scope.names.lookup y=some .free:=hy;rcases hy with hy | hy
   ·exact absurd rfl (S.OZ _ (PySem.mem_of_lookup hy))
   ·obtain rfl:y=x:=S.only _ (PySem.mem_of_lookup hy) rfl;exact⟨c,by show([(y,c)]:List (Str × Addr)).lookup y=_;rw[iC,beq_self_eq_true]⟩
  ·match i,h1,h2 with
   | 0,h1,h2 =>
    cases h1;cases h2;exact⟨u1,r1,.inl ⟨S.l1,by
     show([(p1,u1),(p2,u2)]:List (Str × Value)).reverse.lookup p1=_;simp[iC,beq_eq_false_iff_ne.mpr iZ.1]⟩⟩
   | 1,h1,h2 =>
    cases h1;cases h2;exact⟨u2,r2,.inl ⟨S.l2,by
     show([(p1,u1),(p2,u2)]:List (Str × Value)).reverse.lookup p2=_;simp[iC]⟩⟩
   | 2,h1,h2 =>
    cases h1;cases h2;exact⟨uc,rc,.inr ⟨.inr S.lx,c,by show([(x,c)]:List (Str × Addr)).lookup x=_;rw[iC,beq_self_eq_true],hc.keeps hk⟩⟩
   | n+3,h1,h2=>cases h2
  ·obtain⟨rfl,rfl⟩:=look y d h;exact⟨_,hc.keeps hk⟩
  ·obtain⟨rfl,rfl⟩:=look y d h;exact hH
 refine PySem.W.kla_codeExpr (wpAny_mono (ht [] _ _ H _ I h) (λu s' hs=>?_) λe s' hs=>hs);obtain⟨v,H',J,rv,q⟩:=hs;exact⟨v,H',J.os,J.bare,J.base,J.aH,rv,q⟩
end L2
namespace L3
open PySem L2 PySem.Spec PyProof.Rows
theorem ah.qh(h:ah (rem H f c) H')(h1:H f=some o1)(n1:jo o1=true)(h2:H c=some o2)(n2:jo o2=true):ah H (qh H H' f c) where
 get b o e n:=by
  by_cases z:b=f
  ·rw[z,OV,<- z];exact e
  ·by_cases z2:b=c
   ·rw[z2,HI,<- z2];exact e
   ·rw[rZ z z2];exact h.get b o (by rw[fS z z2];exact e) n
 tb b ps e:=by
  have z:b≠f:=λz=>by subst z;rw[h1]at e;cases e;cases n1
  have z2:b≠c:=λz=>by subst z;rw[h2]at e;cases e;cases n2
  rw[rZ z z2];exact h.tb b ps (by rw[fS z z2];exact e)
abbrev yP:=Int->Int->(Int->Prop)->Prop
structure AW(P:Program)(w:World)(K:PySem.W.Frag)(mg:Str->Option Value)(base:Heap)(n:Nat)(of oc:Obj)(c k:Addr)(sp:yP):Prop where
 fn:∃o1 od fd sl,of=⟨o1,od,.func fd,sl⟩
 run:∀(A:Around) (outer:List Env) (s:Shared) (H:Hp) (f:Addr) (t u:Tok) (i j:Int) (Qd:Int->Prop),bJ n A->jS P w K mg base A outer s H->s.heap.get? f=some of->s.heap.get? c=some oc->H c=none->(∃q,s.heap.CodeRec (.ref k) q)->sp i j Qd ->
  codeAny (model P w) A (.call (.ref f) ⟨[.int i t,.int j u],[]⟩) (CR aN outer P w H s (λv H'=>∃r,v=.int r/\Qd r/\ah H H') (λ_ _ _=>False)) s
def vP(L:Obj->Obj->Addr->Addr->yP->Prop)(i:Nat)(ta:b8):aK:=λδ Q=>∃of oc c k sp,δ[i]?=some (some (.bt (.lam of oc c k)))/\L of oc c k sp/\ta δ λds ag=>∃a b,ds=[.int a,.int b]/\sp a b λr=>Q (.int r) ag
theorem O1{x:Str}{p pos:Pos}(hN:X.N[i]?=some x)(hv:km X.env.scope x)(hr:bJ n X.A)(ha:PA X [e1,e2] (lA ta))
  (hd:(x==("__debug__":Str))=false:=by decide) (bZ:(x==("__classdict__":Str))=false:=by decide) (he:starEach [e1,e2] X.env=(false,eval e1 X.env)::starEach [e2] X.env:=by rfl) (bh:(backTo pos (starEach [e2] X.env)).any (·.1)=false:=by rfl) :
  PE X (.Call (.Name x p) [e1,e2] [] pos) (lE (vP (AW X.prog X.w X.K X.mg X.base n) i ta)):=by
 intro pins s σ H Q I zz;obtain⟨B,F,δ,ts,Qd,c,⟨of,oc,cc,k,sp,ed,L,q⟩,kk⟩:=zz;obtain⟨v,ev,sv⟩:=c.look ed;obtain⟨f,rfl,lam⟩:∃f,v=.ref f/\Az H f of oc cc k:=by
  cases sv with
  | bt h _=>exact⟨_,rfl,h⟩
 refine wpAny_Call_Name_kw (aU (nJ hN hv hd bZ pins s σ H (λv' H'=>v'=.ref f/\H'=H) I ⟨_,ev,rfl,rfl⟩) λu s1 zz=>?_);obtain⟨v',H',I1,r1,e1,e2⟩:=zz;subst e1 e2;obtain rfl:u=.ref f:=r1;have fnAt:∀{H1:Hp} {s2:Shared},Inv X pins σ H1 s2->Az H1 f of oc cc k->PySem.W.FnAt f s2.heap:=λ{H1 s2} J l=>by
  obtain⟨o1,od,fd,sl,e⟩:=L.fn;exact⟨o1,od,fd,sl,by rw[<-e];exact(J.aH.lam l.fn).1⟩
 refine PySem.W.callWith_F (fnAt I1 lam) (aU (ha pos pins s1 σ H' (λvs H2=>∃a b ag F',vs=[.int a,.int b]/\(sp a b λr=>Qd (.int r) ag)/\ah F F'/\ah H' H2/\ax B F' H2 σ ag ts) I1
  ⟨B,F,δ,ts,_,c,q,λds ag vs F' H2 ⟨a,b,eds,q2⟩ f1 h1 c1 s1=>?_⟩) λus s2 ⟨vs,H2,I2,r2,a,b,ag,F',evs,q2,f1,h1,c1⟩=>⟨fnAt I2 ((show lL H' f (.lam of oc cc k) from lam).mono λa o e _ t=>h1.get a o e t),?_⟩) he bh
 ·subst eds;refine⟨a,b,ag,F',?_,q2,f1,h1,c1⟩
  cases s1 with
  | int s1=>cases s1 with
   | int s1=>cases s1;rfl
 ·subst evs;have r6:Az H2 f of oc cc k:=(show lL H' f (.lam of oc cc k) from lam).mono λa o e _ t=>h1.get a o e t;obtain⟨o1,od,fd,sl,eof⟩:=L.fn;have HK:of.data=.func fd:=by rw[eof]
  obtain⟨gf,gc⟩:=I2.aH.lam r6.fn;obtain⟨ψ,eψ,HL⟩:=r6.NP;obtain⟨u1,u2,t1,t2,rfl⟩:∃(u1 u2:Unit) (t1 t2:Tok),us=[.int a t1,.int b t2]:=by
   cases r2 with
   | cons ra r2=>cases r2 with
    | cons rb r2 =>
     cases r2;obtain⟨t1,rfl⟩:=ra;obtain⟨t2,rfl⟩:=rb;exact⟨(),(),t1,t2,rfl⟩
  refine wpAny_call (codeAny_mono (L.run X.A X.stack s2 (rem H2 f cc) f t1 t2 a b _ hr (I2.ub.rem r6.fn r6.cell HK) gf gc Dz (HL _ (I2.aH k _ eψ).1) q2) λr s' hq=>?_)
  cases r with
  | error e=>exact hq.elim
  | ok fl =>
   cases fl with
   | ret u =>
    refine I2.after (CE.add I2.ub r6.fn r6.cell hq (Q':=Q) ?_);rintro v H3 ⟨r,rfl,hqd,hs⟩ nf nc;have sm:=hs.qh r6.fn rfl r6.cell rfl;exact kk _ ag _ F' _ hqd f1 (h1.trans sm) ((c1.grow sm).pushS (.int .nil) rfl)
   | next=>exact eZ hq
   | brk=>exact eZ hq
   | cont=>exact eZ hq
end L3
namespace L2
open PySem PySem.Spec PyProof.Rows
theorem bJ7{p:Pos}{c:Value}(l:List Value)(h:TriplesOk l):TriplesOk (l++[rawInt p.line,rawInt p.col,c]):=by
 fun_induction TriplesOk l with
 | case1=>simp[TriplesOk,rawInt]
 | case2 a b d e f rest ih=>exact ih h
 | case3=>exact h.elim
theorem bZ3{p q:Pos}{c cv:Value}(l:List Value)(h:TriplesOk l)(e:codeAmong q (l++[rawInt p.line,rawInt p.col,c])=some cv):codeAmong q l=some cv\/cv=c:=by
 fun_induction TriplesOk l with
 | case1 =>
  simp only[jL,rawInt,codeAmong]at e;split at e
  ·exact .inr (dr e).symm
  ·cases e
 | case2 a b d e' f rest ih =>
  simp only[lj,codeAmong]at e ⊢;split at e
  ·rename_i z;rw[if_pos z];exact .inl e
  ·rename_i z;rw[if_neg z];exact ih h e
 | case3=>exact h.elim
def qi(f:Addr)(o:Obj):Heap->Prop:=λh=>h.get? f=some o
def c25(P c:Addr)(x:Str)(params:Arguments)(body:Expr)(scope:Scope):TE:=λ_ H Q=>(∃ps,H P=some (.dF ps)) /\
 ∀f k qn pm gR H',H f=none->H' f=some (.ext (qi f (PySem.W.kla_obj "<lambda>" qn params body scope [(x,c)] pm k gR)))->L3.GV H' k->k≠f->L3.ah H H'->(∀a ws,H' a=some (.lst ws)->H a=some (.lst ws))->Q (.ref f) H'
theorem cI1{P c cc:Addr}{x:Str}{pos:Pos}(fF:closureFor scope X.env=pure [(x,c)])(r9:X.env.code=.ref cc)(hK:PySem.W.codeHdIn X.K cc P=true)(vK:Bm X.mg X.base)
  (HM:defaultsOf params X.env=([],[]):=by rfl):PE X (.Lambda params body scope pos) (c25 P c x params body scope):=by
 intro pins s σ H Q I zz;obtain⟨⟨ps,hP⟩,q⟩:=zz;obtain⟨bm,ob,b1,b2,b3,b4,b5,b6,b7⟩:=vK;have C:=PySem.W.codeHd_of_K I.bY hK;obtain⟨oP,DA,codes⟩:=I.aH P _ hP;have hg:=I.mod.glob.keeps I.bk;have O2:∀{b o},X.base.get? b=some o->b≠P:=λ{b o} e z=>by
  have:=(I.bs b o e).2;rw[z,hP]at this;cases this
 have hgP:mainGlobals≠P:=by
  obtain⟨o,es,ep,e,_⟩:=I.mod.glob;exact O2 e
 have O3:s.heap.BuiltinsAt X.mg P:=⟨bm,ob,b1,b2,b3,O2 b4,I.bk _ _ b4,b5,b6,b7⟩;refine PySem.W.kla_eval HM ?_;have fresh:∀{b:Addr},s.heap.objs.size<=b->H b=none:=λ{b} h=>I.aH.fresh h
 cases HN:codeAmong pos ps.toList with
 | none =>
  refine PySem.W.kla_makeFunction (mg:=X.mg) fF I.ok.glob hg r9 C oP DA HN hgP O3 λk gR h' tk hx AX gy dA8 O4=>?_;have HP:P<s.heap.objs.size:=bM oP;have hPk:k≠P:=λz=>by rw[z]at AX;exact absurd HP (zH.mpr AX)
  have vQ:s.heap.objs.size<=h'.objs.size:=ff AX (tG gy);have hPf:h'.objs.size≠P:=λz=>by rw[<-z]at HP;exact absurd HP (zH.mpr vQ)
  have O5:k≠h'.objs.size:=eI gy;generalize O6:PySem.W.kla_obj "<lambda>" (X.env.qual++"<lambda>") params body scope [(x,c)] ((X.mg "__name__").getD .none) k gR=obj;have dz:obj.isFreed=false:=by rw[<-O6];rfl
  have AY:∀b,b≠P->b≠k->b≠h'.objs.size->upd (upd (upd H P (.dF (ps++#[rawInt pos.line,rawInt pos.col,.ref k]))) k (.ext λh=>∃q,h.CodeRec (.ref k) q)) h'.objs.size (.ext (qi h'.objs.size obj)) b=H b:=λb n1 n2 n3=>by
   rw[aZ n3,aZ n2,aZ n1]
  have DB:upd (upd (upd H P (.dF (ps++#[rawInt pos.line,rawInt pos.col,.ref k]))) k (.ext λh=>∃q,h.CodeRec (.ref k) q)) h'.objs.size (.ext (qi h'.objs.size obj)) h'.objs.size=some (.ext (qi h'.objs.size obj)):=dm;have atK:upd (upd (upd H P (.dF (ps++#[rawInt pos.line,rawInt pos.col,.ref k]))) k (.ext λh=>∃q,h.CodeRec (.ref k) q)) h'.objs.size (.ext (qi h'.objs.size obj)) k=some (.ext λh=>∃q,h.CodeRec (.ref k) q):=by rw[aZ O5,dm]
  have DC:upd (upd (upd H P (.dF (ps++#[rawInt pos.line,rawInt pos.col,.ref k]))) k (.ext λh=>∃q,h.CodeRec (.ref k) q)) h'.objs.size (.ext (qi h'.objs.size obj)) P=some (.dF (ps++#[rawInt pos.line,rawInt pos.col,.ref k])):=by rw[aZ hPf.symm,aZ hPk.symm,dm]
  generalize hHn:upd (upd (upd H P (.dF (ps++#[rawInt pos.line,rawInt pos.col,.ref k]))) k (.ext λh=>∃q,h.CodeRec (.ref k) q)) h'.objs.size (.ext (qi h'.objs.size obj))=Hn at AY DB atK DC;have old:∀{b o},H b=some o->b≠P->Hn b=some o:=λ{b o} e n=>by
   have hb:b<s.heap.objs.size:=I.aH.lt e;rw[AY b n (λz=>absurd hb (zH.mpr (z ▸ AX))) (λz=>absurd hb (zH.mpr (z ▸ vQ)))];exact e
  have kept:∀b o,b≠P->s.heap.get? b=some o->(h'.push obj).get? b=some o:=λb o n e=>eC _ (hx b o n e);have un:Un X.fs [] H Hn s.heap (h'.push obj):=by
   refine⟨λb o e n _ _=>kept b o (λz=>by rw[z,hP]at n;cases n) e,λb o e n _ _=>⟨o.slots,kept b o (λz=>by rw[z,hP]at n;cases n) e⟩,λb o e n _=>?_,λb o e _=>?_,λb xs e=>old e (λz=>by rw[z,hP]at e;cases e),λb ob xs e=>old e (λz=>by rw[z,hP]at e;cases e),λb O7 e=>?_⟩
   ·have hb:=bM e;rw[AY b (λz=>by rw[z,hP]at n;cases n) (λz=>absurd hb (zH.mpr (z ▸ AX))) (λz=>absurd hb (zH.mpr (z ▸ vQ)))];exact n
   ·by_cases z:b=P
    ·rw[z];exact⟨_,eC _ O4⟩
    ·exact⟨o,kept b o z e⟩
   ·by_cases z:b=P
    ·subst z;rw[hP]at e;cases e;exact⟨_,DC⟩
    ·exact⟨#[],by rw[old e z];simp⟩
  have aH:da X.prog X.w Hn (h'.push obj):=λb o e=>by
   by_cases z1:b=h'.objs.size
   ·subst z1;rw[DB]at e;cases e;exact⟨g8 _ dz,⟨_,g8 _ dz⟩,λh1 h2 p kk=>kk _ _ (.inl rfl) p⟩
   ·by_cases z2:b=k
    ·subst z2;rw[atK]at e;cases e;have hr:=dA8.push obj;refine⟨⟨_,hr⟩,?_,λh1 h2 ⟨q,c1,o1,vs,t,e1,e2,r⟩ kk=>?_⟩
     ·obtain⟨c1,o1,vs,t,e1,e2,_⟩:=hr;cases e1;exact⟨o1,e2⟩
     ·cases e1;exact⟨q,_,o1,vs,t,rfl,kk _ _ (.inl rfl) e2,r⟩
    ·by_cases z3:b=P
     ·subst z3;rw[DC]at e;cases e;refine⟨eC _ O4,by rw[ZD];exact bJ7 _ DA,λp' cv e'=>?_⟩;rw[ZD]at e';rcases bZ3 _ DA e' with e' | e'
      ·obtain⟨d,φ,e1,e2,e3⟩:=codes p' cv e';exact⟨d,φ,e1,old e2 (λz=>by rw[z,hP]at e2;cases e2),e3⟩
      ·exact⟨k,_,e',atK,λh' p=>p⟩
     ·rw[AY b z3 z2 z1]at e;have nP:∀{b' o'},H b'=some o'->(∀ps,o'≠.dF ps)->b'≠P:=λ{b' o'} e n z=>by rw[z,hP]at e;cases e;exact n _ rfl
      refine(I.aH b o e).jj (λb' u lU e'=>kept b' u ?_ e') (λb' e'=>old e' (nP e' (λps z=>by cases z))) (λb' xs e'=>old e' (nP e' (λps z=>by cases z))) λb' φ e'=>old e' (nP e' (λps z=>by cases z));rcases lU with rfl | lU
      ·exact z3
      ·exact nP lU (λps z=>by cases z)
  refine⟨.ref h'.objs.size,Hn,I.un un aH,rfl,q _ k _ _ _ _ (fresh vQ) (by rw[O6];exact DB) ⟨_,atK,λh p=>p⟩ O5 ⟨λb o e n=>old e (λz=>by rw[z,hP]at e;cases e;cases n),λb O7 e=>?_⟩ λa ws e=>?_⟩
  ·exact un.gv b O7 e
  ·by_cases z1:a=h'.objs.size
   ·subst z1;rw[DB]at e;cases e
   ·by_cases z2:a=k
    ·subst z2;rw[atK]at e;cases e
    ·by_cases z3:a=P
     ·subst z3;rw[DC]at e;cases e
     ·rw[AY a z3 z2 z1]at e;exact e
 | some cv =>
  obtain⟨k,φ,rfl,hk,vN⟩:=codes pos cv HN;refine PySem.W.kla_makeFunctionHit (mg:=X.mg) fF I.ok.glob hg r9 C oP DA HN O3 λgR h' tk hx vQ=>?_;have hf:=fresh vQ;refine⟨.ref h'.objs.size,upd H h'.objs.size (.ext (qi h'.objs.size (PySem.W.kla_obj "<lambda>" (X.env.qual++"<lambda>") params body scope [(x,c)] ((X.mg "__name__").getD .none) k gR))),I.laid (λb u e=>eC _ (hx b u e)) vQ ?_,rfl,q _ k (X.env.qual++"<lambda>") ((X.mg "__name__").getD .none) gR _ hf dm ⟨φ,?_,vN⟩ (dQ hk hf) (L3.ah.of λb o e=>?_) λa ws e=>?_⟩
  ·exact⟨g8 _ rfl,⟨_,g8 _ rfl⟩,λh1 h2 p kk=>kk _ _ (.inl rfl) p⟩
  ·rw[aZ (dQ hk hf)];exact hk
  ·rw[aZ (dQ e hf)];exact e
  ·by_cases z:a=h'.objs.size
   ·subst z;rw[dm]at e;cases e
   ·rw[aZ z]at e;exact e
structure qj(K:PySem.W.Frag)(C:Addr)(m:Str)(f:Addr):Prop where
 ga:PySem.W.specialIn K (.ref C) "__getattribute__"=some (some (.builtin "type.__getattribute__"))
 rd:PySem.W.readsIn K C (.type "type")=true
 at_:PySem.W.findCls K (.ref C) (.type "type") m=some (.val (.ref f))
 kp:PySem.W.keepIn K (.ref f)=true
section
variable{X:Cx}{CX:eW}{k:Nat}{f C:Addr}{fd:FuncData}{ps:List Str}{sp:Sp}{E:XK}{x m:Str}{p pos apos:Pos}{e o:Expr}{es:List Expr}{ta:TE}{t:TA}
theorem cm4{s:Shared}{pl:Sem Bool}(I:Inv X pins σ H s)(M:qj X.K C m f)(h:∀s',Inv X pins σ H s'->Q (.ref f,[]) s') :
  wpAny (model X.prog X.w) A (getMethod (.ref C) m pl) Q E' s :=
 PySem.W.method_cls I.bY M.ga (PySem.W.cls_value (mc:=.type "type") I.bY M.rd M.at_ rfl (h _ (I.tok _)))
theorem O8{s:Shared}{pl:Sem Bool}(I:Inv X pins σ H s)(M:qj X.K C m f)(hg:Gl X x)(hm:X.mg x=some (.ref C))(ha:PA X (e::es) t)(h:t σ H QA)
  (hq:∀us s1 vs H1,Inv X pins σ H1 s1->Vals vs us->QA vs H1->wpAny (model X.prog X.w) X.A (call (.ref f) us) Q X.xe s1)
  (cM:(x==("__debug__":Str))=false:=by decide) (bG:starEach (e::es) X.env=(false,eval e X.env)::starEach es X.env:=by rfl) (bh:(backTo pos (starEach es X.env)).any (·.1)=false:=by rfl)
  (ht:eval (.Call (.Attribute (.Name x p) m apos) (e::es) [] pos) X.env=(do
   let ov<-eval (.Name x p) X.env
   standAt apos.atName
   let (f,first)<-holding [ov] (getMethod ov m pl)
   callWith pos f first (backTo pos (starEach (e::es) X.env)) (backToKw pos (keywordEach [] X.env))):=by rfl) :
  wpAny (model X.prog X.w) X.A (eval (.Call (.Attribute (.Name x p) m apos) (e::es) [] pos) X.env) Q X.xe s:=by
 refine PySem.W.methodCall_KW (pl:=pl) (pf I hg hm ?_ cM) ht;refine cm4 I M λs1 I1=>?_;refine PySem.W.callWith_K (first:=[]) (h₀:=X.base) I.ok.mod.lu M.kp (aU (ha pos pins s1 σ H _ I1 h) λus s2 ⟨vs,H2,I2,r,q2⟩=>⟨I2.bY,?_⟩) bG bh;exact hq us s2 vs H2 I2 r q2
def cZ1(sp:Sp)(E:XK)(c:Addr)(i:Nat)(t:TA):TE:=λσ H Q=>t σ H λvs H1=>∃f of fd v,H1 f=some (.ext (qi f of))/\of.data=.func fd/\σ[i]?=some (some v) /\
 ∀oc u,oc.data=.cell (some u)->RelV v u->H1 c=none->c≠f->sp vs (upd (upd H1 f (.ext (L3.kB of oc c f))) c (.own f)) (λr H2=>H2 f=some (.ext (L3.kB of oc c f))/\H2 c=some (.own f)/\Q r (rem H2 f c)) E
theorem cD2{pl:Sem Bool}(M:qj X.K C m f)(F:aF X.prog X.w X.K X.mg X.base aN k f fd ps sp)(hr:bJ k X.A)(hb:Binds X.K fd ps [])(hg:Gl X x)(hm:X.mg x=some (.ref C))
  (hN:X.N[i]?=some y) (hy:X.env.scope.names.lookup y=some .cell) (fF:X.env.cells.lookup y=some c) (oZ:X.fn y=true) (ha:PA X (e::es) t)
  (cM:(x==("__debug__":Str))=false:=by decide) (bG:starEach (e::es) X.env=(false,eval e X.env)::starEach es X.env:=by rfl) (bh:(backTo pos (starEach es X.env)).any (·.1)=false:=by rfl)
  (ht:eval (.Call (.Attribute (.Name x p) m apos) (e::es) [] pos) X.env=(do
   let ov<-eval (.Name x p) X.env
   standAt apos.atName
   let (f,first)<-holding [ov] (getMethod ov m pl)
   callWith pos f first (backTo pos (starEach (e::es) X.env)) (backToKw pos (keywordEach [] X.env))):=by rfl) :
  PE X (.Call (.Attribute (.Name x p) m apos) (e::es) [] pos) (cZ1 sp E c i t):=by
 intro pins s σ H Q I h;refine O8 (pl:=pl) I M hg hm ha h (λus s1 vs H1 I1 r zq=>?_) cM bG bh ht;obtain⟨fa,of,fdd,v,hf,hd,hv,hq⟩:=zq;obtain⟨ml,_,hl⟩:=I1.loc;obtain⟨u,rv,lk⟩:=hl i y v hN hv (.inr (.inl hy));obtain⟨oc,gc,iV⟩:∃oc,s1.heap.get? c=some oc/\oc.data=.cell (some u):=by
  rcases lk with⟨hk,_⟩ | ⟨_,c',z7,ic⟩
  ·rw[show X.env.kindOf y=some .cell from hy]at hk;cases hk
  ·rw[fF]at z7;cases z7;exact ic
 have nc:H1 c=none:=I1.fh y c fF;have AZ:c≠fa:=λz=>by rw[z,hf]at nc;cases nc
 have gf:s1.heap.get? fa=some of:=(I1.aH fa _ hf).1;have jl:=hq oc u iV rv nc AZ;have O9:=I1.ok.oY y c oZ fF;generalize hH:upd (upd H1 fa (.ext (L3.kB of oc c fa))) c (.own fa)=Hp at jl;have Pa:Hp c=some (.own fa):=by rw[<-hH,dm]
 have atf:Hp fa=some (.ext (L3.kB of oc c fa)):=by rw[<-hH,aZ AZ.symm,dm]
 have oq:∀b,b≠fa->b≠c->Hp b=H1 b:=λb n1 n2=>by rw[<-hH,aZ n2,aZ n1]
 have nfs:c ∉ X.fs:=λhb=>by
  obtain⟨_,o,ho,_⟩:=I1.ok.gF.mem hb;exact absurd (cY (bM ho) O9) (g7 _)
 have nst:∀b∈eN X.stack,b≠c:=λb hb z=>by
  rcases cO.mp (I1.z4 b hb)with e | hb
  ·exact I1.lC y c fF (z ▸ e)
  ·exact nfs (z ▸ hb)
 have dB7:da X.prog X.w Hp s1.heap:=λb ob q=>by
  by_cases z1:b=c
  ·subst z1;rw[Pa]at q;cases q;exact⟨_,gc⟩
  ·by_cases z2:b=fa
   ·subst z2;rw[atf]at q;cases q;exact⟨⟨gf,gc⟩,⟨_,gf⟩,λh1 h2 p kk=>⟨kk _ _ (.inl rfl) p.1,kk _ _ (.inr Pa) p.2⟩⟩
   ·rw[oq b z2 z1]at q;have x1:=(I1.aH b ob q).rem (f:=fa) (c:=c) z2 hf (.inr nc) (OW gf (λ_ p=>p) hd);have up:∀{b' o'},rem H1 fa c b'=some o'->Hp b'=some o':=λ{b' o'} q=>by
     obtain⟨n1,n2,q'⟩:=vM q;rw[oq b' n1 n2];exact q'
    exact x1.jj (λ_ _ _ q=>q) (λ_ q=>up q) (λ_ _ q=>up q) λ_ _ q=>up q
 have e0:jS X.prog X.w X.K X.mg X.base X.A X.stack s1 Hp:=by
  have e1:=I1.ub;refine⟨e1.frames,e1.mod,λb ob q=>⟨(e1.bs b ob q).1,?_⟩,e1.jO,e1.gF,λb hb=>?_,dB7,e1.bare⟩
  ·have hb0:=(I1.ok.bs b ob q).1;rw[oq b (λz=>by have:=(e1.bs b ob q).2;rw[z,hf]at this;cases this) (λz=>absurd (cY (bM hb0) (z ▸ O9)) (g7 _))];exact(e1.bs b ob q).2
  ·have nb:=e1.jP b hb;rw[oq b (λz=>by rw[z,hf]at nb;cases nb) (nst b hb)];exact nb
 have hlen:us.length=ps.length:=by rw[<-r.length];exact F.len _ _ _ _ jl
 refine wpAny_call (codeAny_mono (F.run X.A X.stack s1 Hp ⟨us,[]⟩ us vs _ E hr e0 (by have:=hb s1 us I1.bY (by rw[fY];exact hlen);rwa [fY]at this) r jl) λrr s' hz=>?_)
 cases rr with
 | error e=>exact hz.elim
 | ok fl =>
  cases fl with
  | next=>exact eZ hz
  | brk=>exact eZ hz
  | cont=>exact eZ hz
  | ret u' =>
   obtain⟨v',H2,os,bare,un,Pb,rv',q1,q2,q3⟩:=hz;obtain⟨_,Pc⟩:=Pb.lam q1;refine I1.after ⟨v',rem H2 fa c,os,bare,⟨λb ob g n hb hx=>?_,λb ob g n hb hx=>?_,λb ob g n hx=>?_,un.there,λb xs g=>?_,λb ob xs g=>?_,λb ps g=>?_⟩,Pb.rem q1 q2 hd,rv',q3⟩
   ·by_cases z:b=c
    ·rw[z,gc]at g;cases g;rw[z];exact Pc
    ·exact un.keep b ob g (by rw[oq b (λz=>by rw[z,hf]at n;cases n) z];exact n) hb hx
   ·by_cases z:b=c
    ·rw[z,gc]at g;cases g;rw[z];exact⟨_,Pc⟩
    ·exact un.slot b ob g (by rw[oq b (λz=>by rw[z,hf]at n;cases n) z];exact n) hb hx
   ·by_cases z:b=c
    ·rw[z];exact Dz
    ·exact mZ (un.free b ob g (by rw[oq b (λz=>by rw[z,hf]at n;cases n) z];exact n) hx)
   ·have n1:b≠fa:=λz=>by rw[z,hf]at g;cases g
    have n2:b≠c:=λz=>by rw[z,nc]at g;cases g
    rw[fS n1 n2];exact un.iE b xs (by rw[oq b n1 n2];exact g)
   ·have n1:b≠fa:=λz=>by rw[z,hf]at g;cases g
    have n2:b≠c:=λz=>by rw[z,nc]at g;cases g
    rw[fS n1 n2];exact un.hJ b ob xs (by rw[oq b n1 n2];exact g)
   ·have n1:b≠fa:=λz=>by rw[z,hf]at g;cases g
    have n2:b≠c:=λz=>by rw[z,nc]at g;cases g
    rw[fS n1 n2];exact un.gv b ps (by rw[oq b n1 n2];exact g)
end
end L2
namespace L3
open PySem L2 PySem.Spec PyProof.Rows
theorem HQ(h:Tb ts H)(s:ah H H'):Tb ts H':=λP hP=>by
 obtain⟨ps,e⟩:=h P hP;obtain⟨m,e2⟩:=s.tb P ps e;exact⟨_,e2⟩
theorem Pd{P:Program}{w:World}{K:PySem.W.Frag}{mg:Str->Option Value}{base:Heap}{n:Nat}{p1 p2 x qn:Str}{params:Arguments}{body:Expr}{scope:Scope}{pm gR:Value}{oc:Obj}{c k:Addr}{m:Int}{tm:Tok}{sp:yP}(S:OY p1 p2 x scope)
  (iV:oc.data=.cell (some (.int m tm))) (hb:∀u1 u2:Value,bindArgs (PySem.W.kla_fn "<lambda>" qn params body scope [(x,c)] pm (.ref k) gR) ⟨[u1,u2],[]⟩=pure [(p1,u1),(p2,u2)])
  (fi:∀(q:Str) (f:Addr) (A:Around) (outer:List Env) (s:Shared) (H:Hp) (E:XK),bJ n (A.deeper (PySem.W.envX q scope s.heap.objs.size f (.ref k) [(x,c)])) ->
   ∃t:aK,PE (vO aN P w K mg base [p1,p2,x] q scope f (.ref k) [(x,c)] A outer s H E).fZ body (lE t)/\∀i j Qd,sp i j Qd->t [some (.int i),some (.int j),some (.int m)] λd _=>∃r,d=.int r/\Qd r) :
  AW P w K mg base (n+1) (PySem.W.kla_obj "<lambda>" qn params body scope [(x,c)] pm k gR) oc c k sp where
 fn:=⟨_,_,_,_,rfl⟩
 run A outer s H f t u i j Qd hr e0 gf gc hH bZ h:=by
  obtain⟨q,bZ⟩:=bZ;obtain⟨tt,ht,hq⟩:=fi q f A outer s H (λ_ _ _=>False) (hr.deeper _);refine cD7 (v1:=.int i) (v2:=.int j) (vc:=.int m) (E:=λ_ _ _=>False) S e0 hr gf ⟨oc,gc,iV⟩ ⟨tm,rfl⟩ hH bZ (hb _ _) ⟨t,rfl⟩ ⟨u,rfl⟩ ht.fZ ?_;refine⟨⟨H,H⟩,H,_,[],_,?_,hq i j Qd h,λd ag v F' H' hd f1 h1 c1=>?_⟩
  ·exact ax.start (ds:=[.int i,.int j,.int m]) (vs:=[.int i,.int j,.int m]) (ah.refl H) (.int (.int (.int .nil))) 0
  ·obtain⟨r,rfl,hd⟩:=hd;have s1:=c1.top;cases s1;exact⟨r,rfl,hd,h1⟩
section
variable{X:Cx}{CX:eW}{n:Nat}{f:Addr}{fd:FuncData}{ps:List Str}{sp:aX}{E:XK}{x:Str}{p pos:Pos}{e:Expr}{es:List Expr}{t:b8}{tl:List Addr}
theorem Pe(hT:Tb tl X.ly)(F:aF X.prog X.w X.K X.mg X.base CX n f fd ps (vL tl (aY sp)))(hr:bJ n X.A)(hg:Gl X x)(hm:X.mg x=some (.ref f))(hk:PySem.W.keepIn X.K (.ref f)=true)(hb:Binds X.K fd ps [])(hx:my CX X E)
  (ha:PA X (e::es) (lA t)) (cM:(x==("__debug__":Str))=false:=by decide) (he:starEach (e::es) X.env=(false,eval e X.env)::starEach es X.env:=by rfl) (bh:(backTo pos (starEach es X.env)).any (·.1)=false:=by rfl) :
  PE X (.Call (.Name x p) (e::es) [] pos) (lE (mO sp t)):=by
 intro pins s σ H Q I zz;obtain⟨B,F',δ,ts,Qd,c,q,k⟩:=zz;have tb:=OU I hT;refine Mz F hr hg hm hk hb .nil hx ha cM he bh pins s σ H Q I ⟨B,F',δ,ts,_,c,q,λds aq vs F1 H1 q1 f1 h1 c1 s1=>?_⟩;refine⟨HQ tb h1,?_⟩;rw[fY];exact xU c1 s1 q1 λd v F' H' hd hf hs c'=>k d aq v F' H' hd (f1.trans hf) (h1.trans hs) c'
end
section
variable{P:Program}{w:World}{K:PySem.W.Frag}{mg:Str->Option Value}{base:Heap}
theorem HR{x qual:Str}{st:Stmt}{f:Addr}{fd:FuncData}{N ps:List Str}{k:Nat}{sp:aX}{tl:List Addr}(F:iJ K x qual st f fd)(S:aS N ps (aG st))(len:∀ds Q,sp ds Q->ds.length=ps.length)
  (fi:∀(aC:Value) (A:Around) (outer:List Env) (s:Shared) (H:Hp) (E:XK),Tb tl H->bJ k (A.deeper (envOfC qual (aG st) s.heap.objs.size f aC)) ->
   ∃t:bO,PSs (hV aN P w K mg base N qual (aG st) f aC A outer s H E).fZ (gL st) (lS (hV aN P w K mg base N qual (aG st) f aC A outer s H E).fZ t)/\∀ds Q,sp ds Q->t { nx:=λ_=>Q .aA,rt:=Q } (iK N ds)):aF P w K mg base aN (k+1) f fd ps (vL tl (aY sp)):=by
 refine F.ok S (λvs H Q E ⟨_,F,ds,Qd,e,r,h,_⟩=>by rw[<-r.length];exact len ds Qd h) λaC A outer s H vs Q E hr zz=>?_;obtain⟨tb,F,ds,Qd,e,r,h,k⟩:=zz;obtain⟨t,ht,hq⟩:=fi aC A outer s H E tb hr;have fin:∀d v ag aJ F' H',Qd d->ax ⟨H,F⟩ F' H' aJ ag [(d,v)]->Q v H':=λd v ag aJ F' H' hd c=>by
  obtain⟨A,C,r',s',nd,fr⟩:=c.own;exact k d v F' H' A hd c.b1 c.b2 c.ext c.b3 r' (jW.mp nd).1 λa ha=>fr a (gE _ ha)
 have e1:L2.start N vs=vs.map some++aM (N.length-ds.length) none:=by unfold L2.start;rw[r.length]
 refine⟨_,ht,⟨H,F⟩,F,iK N ds,_,?_,hq ds Qd h,λag aJ F' H' hd c=>fin .aA .aA ag aJ F' H' hd (c.pushS (.aA .nil) rfl),fin,λ_ _ _ _ z=>z.elim,λ_ _ _ _ z=>z.elim,XL.none (λ_ _ z=>z) λ_ _ z=>z⟩;rw[e1];exact ax.start e r _
theorem cB9{x qual:Str}{st:Stmt}{f cc:Addr}{fd:FuncData}{N ps:List Str}{k:Nat}{sp:Sp}(F:iJ K x qual st f fd)(r9:fd.code=.ref cc)(S:aS N ps (aG st))(len:∀vs H Q E,sp vs H Q E->vs.length=ps.length)
  (fi:∀(A:Around) (outer:List Env) (s:Shared) (H:Hp) (vs:List V) (Q:VK) (E:XK),bJ k (A.deeper (envOfC qual (aG st) s.heap.objs.size f (.ref cc)))->sp vs H Q E ->
   ∃t,PSs (hV aN P w K mg base N qual (aG st) f (.ref cc) A outer s H E).fZ (gL st) t/\t { nx:=λ_ H'=>Q .aA H',rt:=Q } (L2.start N vs) H):aF P w K mg base aN (k+1) f fd ps sp:=by
 obtain⟨oc,od,kV,doc,pm,an,aC,ct,gJ,rfl,lk,bZ⟩:=F.ex;obtain rfl:aC=.ref cc:=r9;refine CS lk bZ S len λA outer s H vs Q E hr eA=>?_;obtain⟨t,h,q⟩:=fi A outer s H vs Q E hr eA;exact⟨t,h.fZ,q⟩
end
theorem bZ8{ns:List Str}{xs:List D}{ws:List V}{F H:Hp}{f:Str}{d:D}(r:R F H xs ws [])(h:(ns.zip xs).lookup f=some d):∃w,(ns.zip ws).lookup f=some w/\R F H [d] [w] []:=by
 generalize e:([]:List Addr)=A at r
 induction ns generalizing xs ws A with
 | nil=>simp at h
 | cons n ns ih =>
  cases xs with
  | nil=>simp at h
  | cons x xs =>
   obtain⟨v,cW,A1,A2,rfl,rfl,h1,h2⟩:=R.dA r;obtain⟨rfl,rfl⟩:=Fl.mp e.symm;rw[ZE]at h ⊢;by_cases z:f=n
   ·subst z;rw[iC,beq_self_eq_true]at h;cases h;refine⟨v,?_,h1⟩;rw[iC,beq_self_eq_true]
   ·have z':(f==n)=false:=beq_eq_false_iff_ne.mpr z;rw[iC,z']at h;obtain⟨w,e1,e2⟩:=ih h [] rfl h2;refine⟨w,?_,e2⟩;rw[iC,z'];exact e1
theorem A6{ns:List Str}{ws:List V}{f:Str}(h:f ∉ ns):(ns.zip ws).lookup f=none:=by
 induction ns generalizing ws with
 | nil=>simp
 | cons n ns ih =>
  cases ws with
  | nil=>simp
  | cons w ws =>
   rw[ZE,iC];have hn:(f==n)=false:=beq_eq_false_iff_ne.mpr λz=>h (by rw[z];simp);simp only[hn];exact ih λz=>h (by simp[z])
theorem m6(s:S F H [.obj C ns xs] [v]):∃p dx ws,v=.ref p/\H p=some (.ins C dx (ns.zip ws))/\ns.length=ws.length/\R F H xs ws []:=by
 cases s with
 | obj h l r _=>exact⟨_,_,_,rfl,h,l,r⟩
section
variable{X:Cx}{e o:Expr}{es:List Expr}{f m x:Str}{pos p apos:Pos}{t to:aK}{ta:b8}{n:Nat}
def se(K:PySem.W.Frag)(t:aK)(f:Str):aK:=λδ Q=>t δ λd ag=>∃C ns xs v,d=.obj C ns xs/\cF K C/\bc K C f/\(ns.zip xs).lookup f=some v/\Q v ag
theorem c00(he:PE X e (lB t))(hb:attributeBase e f X.env (eval e X.env)=eval e X.env:=by rfl):PE X (.Attribute e f pos) (lB (se X.K t f)) :=
 df (cI7 he hb) λσ H Q zq=>by
 obtain⟨B,F,δ,ts,Qd,c,q,k⟩:=zq;exact⟨B,F,δ,ts,_,c,q,λd ag v F' H' ⟨C,ns,xs,w,ed,hc,hn,hl,hq⟩ f1 h1 c1 s1=>by
  subst ed;obtain⟨p,dx,ws,rfl,hp,_,r⟩:=m6 s1;obtain⟨u,hu,ru⟩:=bZ8 r hl;exact⟨p,C,dx,_,u,rfl,hp,hc,hn,hu,k w ag u F' H' hq f1 h1 c1 ru.s⟩⟩
structure iP(P:Program)(w:World)(K:PySem.W.Frag)(mg:Str->Option Value)(base:Heap)(n:Nat)(m:Str)(C:Addr)(sp:aX):Prop where
 cls:cF K C
 ex:∃f fd ps,Meth K C m f/\aF P w K mg base aN n f fd ps (aY sp)/\Binds K fd ps []
def sg(MO:Addr->aX->Prop)(m:Str)(to:aK)(ta:b8):aK:=λδ Q=>to δ λd aq=>∃C ns xs sp,d=.obj C ns xs/\MO C sp/\m ∉ ns/\ta aq λds aR=>sp ((D.obj C ns xs::ds).map D.sh) λr=>((D.obj C ns xs::ds).all D.pl||r.fr)=true/\Q r aR
theorem cM8{pl:Sem Bool}(ho:PE X o (lB to))(hr:bJ n X.A)(ha:PA X (e::es) (lA ta))
  (bG:starEach (e::es) X.env=(false,eval e X.env)::starEach es X.env:=by rfl) (bh:(backTo pos (starEach es X.env)).any (·.1)=false:=by rfl)
  (ht:eval (.Call (.Attribute o m apos) (e::es) [] pos) X.env=(do
   let ov<-eval o X.env
   standAt apos.atName
   let (f,first)<-holding [ov] (getMethod ov m pl)
   callWith pos f first (backTo pos (starEach (e::es) X.env)) (backToKw pos (keywordEach [] X.env))):=by rfl) :
  PE X (.Call (.Attribute o m apos) (e::es) [] pos) (lE (sg (iP X.prog X.w X.K X.mg X.base n m) m to ta)):=by
 intro pins s σ H Q I zz;obtain⟨B,F,δ,ts,Qd,c,q,k⟩:=zz;refine PySem.W.methodCall_KW (pl:=pl) (aU (ho pins s σ H (λx H1=>∃d aq F1,S F1 H1 [d] [x]/\ax B F1 H1 σ aq ts/\ah F F1/\ah H H1/\∃C ns xs sp,d=.obj C ns xs/\iP X.prog X.w X.K X.mg X.base n m C sp/\m ∉ ns/\ta aq λds aR=>sp ((D.obj C ns xs::ds).map D.sh) λr=>((D.obj C ns xs::ds).all D.pl||r.fr)=true/\Qd r aR) I
  ⟨B,F,δ,ts,_,c,q,λd aq v F1 H1 hq f1 h1 c1 s1=>⟨d,aq,F1,s1,c1,f1,h1,hq⟩⟩) λu s1 zq=>?_) ht
 obtain⟨x,H1,I1,rx,d,aq,F1,sd,c1,f1,h1,C,ns,xs,sp,ed,M,hm,hq⟩:=zq;subst ed;obtain⟨a,dx,ws,rfl,ea,hl,r0⟩:=m6 sd;obtain rfl:u=cN a:=rx;obtain⟨f,fd,ps,j7,FO,hb⟩:=M.ex;refine Af I1 ea M.cls j7 (A6 hm) ?_;refine PySem.W.callWith_K (first:=[.ref a]) (h₀:=X.base) I.ok.mod.lu j7.kp (aU (ha pos pins s1 σ H1 (λvs H2=>∃ds aR F2,S F2 H2 ds vs/\ax B F2 H2 σ aR ts/\ah F1 F2/\ah H1 H2/\sp ((D.obj C ns xs::ds).map D.sh) λr=>((D.obj C ns xs::ds).all D.pl||r.fr)=true/\Qd r aR) I1
  ⟨B,F1,aq,ts,_,c1,hq,λds aR vs F2 H2 hq f2 h2 c2 s2=>⟨ds,aR,F2,s2,c2,f2,h2,hq⟩⟩) λus s2 ⟨vs,H2,I2,r,ds,aR,F2,vR,c2,f2,h2,eA⟩=>⟨I2.bY,?_⟩) bG bh
 refine xF (us:=.ref a::us) (vs:=.ref a::vs) (gx:=[]) FO hr hb .nil iH I2 (.cons rfl r) ?_;rw[fY];exact xU c2 (.obj (h2 _ _ ea) hl (r0.shared f2 h2) vR) eA λd v F' H' hd hf hs c'=>k d aR v F' H' hd (f1.trans (f2.trans hf)) (h1.trans (h2.trans hs)) c'
def sj(MO:Addr->aX->Prop)(m:Str)(to:aK):aK:=λδ Q=>to δ λd aq=>∃C ns xs sp,d=.obj C ns xs/\MO C sp/\m ∉ ns/\sp [D.obj C ns xs] λr=>Q r aq
theorem cA5{pl:Sem Bool}(ho:PE X o (lB to))(hr:bJ n X.A)
  (ht:eval (.Call (.Attribute o m apos) [] [] pos) X.env=(do
   let ov<-eval o X.env
   standAt apos.atName
   let (f,first)<-holding [ov] (getMethod ov m pl)
   callWith pos f first (backTo pos (starEach [] X.env)) (backToKw pos (keywordEach [] X.env))):=by rfl) :
  PE X (.Call (.Attribute o m apos) [] [] pos) (lE (sj (iP X.prog X.w X.K X.mg X.base n m) m to)):=by
 intro pins s σ H Q I zz;obtain⟨B,F,δ,ts,Qd,c,q,k⟩:=zz;refine PySem.W.methodCall_KW (pl:=pl) (aU (ho pins s σ H (λx H1=>∃d aq F1,S F1 H1 [d] [x]/\ax B F1 H1 σ aq ts/\ah F F1/\ah H H1/\∃C ns xs sp,d=.obj C ns xs/\iP X.prog X.w X.K X.mg X.base n m C sp/\m ∉ ns/\sp [D.obj C ns xs] λr=>Qd r aq) I
  ⟨B,F,δ,ts,_,c,q,λd aq v F1 H1 hq f1 h1 c1 s1=>⟨d,aq,F1,s1,c1,f1,h1,hq⟩⟩) λu s1 zq=>?_) ht
 obtain⟨x,H1,I1,rx,d,aq,F1,sd,c1,f1,h1,C,ns,xs,sp,ed,M,hm,hq⟩:=zq;subst ed;obtain⟨a,dx,ws,rfl,ea,hl,r0⟩:=m6 sd;obtain rfl:u=cN a:=rx;obtain⟨f,fd,ps,j7,FO,hb⟩:=M.ex;refine Af I1 ea M.cls j7 (A6 hm) ?_;refine PySem.W.callWith_K0 (first:=[.ref a]) I1.bY j7.kp (xF (us:=[.ref a]) (vs:=[.ref a]) (gx:=[]) FO hr hb .nil iH I1 (.cons rfl .nil) ?_);show aY sp [.ref a] H1 Q E0;exact xU (Qd:=λr=>Qd r aq) c1 (.obj ea hl r0 .nil) (by simpa[D.sh,D.pl]using hq) λd v F' H' hd hf hs c'=>k d aq v F' H' hd (f1.trans hf) (h1.trans hs) c'
end
structure fG(x:Addr)(H H':Hp):Prop where
 get:∀b o,b≠x->H b=some o->jo o=true->H' b=some o
 tb:∀b ps,H b=some (.dF ps)->∃more,H' b=some (.dF (ps++more))
theorem fG.upd{x C dx:Addr}(h:H x=some o)(n:jo o=true):fG x H (upd H x o') :=
 ⟨λb o z e _=>by rw[aZ z];exact e,λb ps e=>⟨#[],by rw[aZ (λz=>by rw[z,h]at e;cases e;cases n),e];simp⟩⟩
section
variable{X:Cx}{CX:eW}{n:Nat}{f C:Addr}{fd:FuncData}{ps:List Str}{sk:List D->List Str->List D->Prop}{E:XK}{x:Str}{p pos:Pos}{e:Expr}{es:List Expr}{t:b8}{tl:List Addr}
end
end L3
namespace Mf
open PySem L2 L3
def gm(m:Bool × Nat)(a b:Nat):Nat:=if m.1 then md (cl a b) m.2 else a*b%m.2
def af(m:Bool × Nat):Nat:=if m.1 then 2 ^ (bl m.2-1)else m.2
def DD(g:Nat->Nat->Nat)(a:Nat):Nat->Nat->List Int->Option (List Int)
 | 0,_,_=>none
 | f+1,p,acc=>if p=1 then some acc else if p<64 then DD g a f (g p a) (acc++[(p:Int)])else none
def HS(g:Nat->Nat->Nat)(a:Nat):Option (List Int):=DD g a 64 (g 1 a) [1]
def DE(g:Nat->Nat->Nat)(many:Nat):Nat->Nat->List Int->Option (List Int)
 | 0,_,_=>none
 | f+1,st,l=>if l.length+1<many then(match HS g (st+1)with | some l'=>DE g many f (st+1) l' | none=>none)else some l
def A7(g:Nat->Nat->Nat)(many:Nat):Option (List Int):=match HS g 1 with | some l=>DE g many 62 1 l | none=>none
def A8(g:Nat->Nat->Nat):yP:=λi j Q=>∃a b:Nat,i=a/\j=b/\a<64/\b<64/\Q (g a b:Nat)
def ir:List Nat:=[7,11,13,19,25,31,37,41,47,55,59,61,67,73,87,91,97,103,109,115,117]
def qk:List Nat:=[2,3,5,7,11,13,17,19,23,29,31,37,41,43,47,53,59,61]
def aD:List (Bool × Nat):=ir.map (λn=>(true,n))++qk.map λn=>(false,n)
def ql(l:List Int):Nat->List Int
 | 0=>aM (l.length+1) 0
 | i+1=>(ql l i).set (l.getD i 0).toNat (i:Int)
def fU(l:List Int):List Int:=ql l l.length
theorem A9(l:List Int):∀i,(ql l i).length=l.length+1
 | 0=>by simp[ql]
 | i+1=>by simp[ql,A9 l i]
def sq(l g:List Int)(a:Nat):List Int:=if a=0 then aM (l.length+1) 0 else 0::(aI l.length).map λ(b:Nat)=>l.getD ((g.getD a 0+g.getD (b+1) 0)%(l.length:Int)).toNat 0
def Ba(l g:List Int)(n:Nat):List D:=(aI n).map λa=>D.lst true (aP (sq l g a))
def Bb(l g:List Int):List D:=Ba l g (l.length+1)
end Mf
namespace L3
open PySem L2 Mf
structure dC5(K:PySem.W.Frag)(C f:Addr):Prop where
 cls:cF K C
 many:bc K C "many"
 wide:bc K C "wide"
 HU:bc K C "powers"
 dC6:bc K C "logs"
 step:bc K C "step"
 sp:Meth K C "step_power" f
structure Pf(g:Nat->Nat->Nat)(many:Nat)(l:List Int)(st:Int):Prop where
 lo:2<=many
 hi:many<=64
 step:A7 g many=some l
 len:l.length+1=many
 ins:∀x∈l,0<=x/\x.toNat<=l.length
 st:l[((1:Int)%((many:Int)-1)).toNat]?=some st
def jA(b:Str):List Str:=[b,"many","wide","powers","logs","step"]
theorem Pg:∀{fs:List (Str × V)},(∀p∈fs,p.1≠f)->gH f v fs=fs++[(f,v)]
 | [],_=>rfl
 | (g,x)::r,h=>by
  unfold gH;rw[if_neg (h (g,x) (by simp)),Pg λp hp=>h p (by simp[hp])];rfl
section
variable{H2 H3 H':Hp}{x f c p:Addr}{o1 o2:HO}
theorem Bc(e:H3 b=some o)(nb:b≠f)(nc:H3 c=none):L2.upd (L2.upd H3 f o1) c o2 b=some o:=by
 rw[aZ (dQ e nc),aZ nb];exact e
theorem ca8(hs:ah H2 H3)(nf:H2 f=none)(nc:H3 c=none)(s:fG x (L2.upd (L2.upd H3 f o1) c o2) H'):fG x H2 (rem H' f c) where
 get b o n e t:=by
  have z1:=dQ e nf;have e3:=hs.get b o e t;rw[fS z1 (dQ e3 nc)];exact s.get b o n (Bc e3 z1 nc) t
 tb b ps e:=by
  have z1:=dQ e nf;obtain⟨m,e3⟩:=hs.tb b ps e;obtain⟨m2,e4⟩:=s.tb b _ (Bc e3 z1 nc);exact⟨m++m2,by rw[fS z1 (dQ e3 nc),e4,zu]⟩
theorem cl8{of oc:Obj}{k:Addr}(fj:c≠f)(nc:H3 c=none)(hk:GV H3 k)(kf:k≠f):Az (L2.upd (L2.upd H3 f (.ext (kB of oc c f))) c (.own f)) f of oc c k:=by
 obtain⟨ψ,e,HL⟩:=hk;exact⟨by rw[aZ fj.symm,dm],dm,ψ,Bc e kf nc,HL⟩
end
def fl(m:Bool × Nat):List Int:=(A7 (gm m) (af m)).getD []
def fst(m:Bool × Nat):Int:=(fl m).getD ((1:Int)%((af m:Int)-1)).toNat 0
def Ph(m:Bool × Nat):Bool:=decide (2<=af m)&&decide (af m<=64)&&(A7 (gm m) (af m)).isSome&&decide ((fl m).length+1=af m)&&(fl m).all (λx=>decide (0<=x)&&decide (x.toNat<=(fl m).length))&&decide (((1:Int)%((af m:Int)-1)).toNat<(fl m).length)
theorem cB5:aD.all Ph=true:=by decide +kernel
theorem bX(h:m∈aD):Pf (gm m) (af m) (fl m) (fst m):=by
 have h:=cU.mp cB5 m h;simp only[Ph,cA,decide_eq_true_eq,cU]at h;obtain⟨⟨⟨⟨⟨h1,h2⟩,h3⟩,h4⟩,h5⟩,h6⟩:=h;obtain⟨l,e⟩:=Ce.mp h3;have el:fl m=l:=by unfold fl;rw[e];rfl
 refine⟨h1,h2,by rw[e,el],h4,λx hx=>h5 x hx,?_⟩;unfold fst;rw[aT,aV h6];rfl
theorem ck4:∀p∈qk,(decide (2<=(p:Int))&&decide ((p:Int)<=61)&&(aI ((p:Int).toNat-2)).all λi=>(p:Int)%(2+(i:Int)) != 0)=true:=by decide +kernel
theorem cF3:∀p∈ir,(decide (4<=(p:Int))&&decide ((p:Int)<=127)&&al (p:Int).toNat)=true:=by decide +kernel
theorem Pj(l:List Int):∀i,∀x∈ql l i,0<=x
 | 0=>λx hx=>by rw[(qW.mp hx).2];exact LF _
 | i+1=>λx hx=>by
  unfold ql at hx;rcases LG hx with h | h
  ·exact Pj l i x h
  ·rw[h];exact E4 _
theorem Pk:∀p∈ir,bl p<=7:=by decide +kernel
theorem Pl:∀p∈ir,1<=bl p:=by decide +kernel
theorem cg5(a b:Nat):bl (cl a b)<=bl a+bl b:=by
 by_cases ha:a=0
 ·subst ha;rw[rk];exact iT _
 ·by_cases hb:b=0
  ·subst hb;have:cl a 0=0:=rfl;rw[this];exact iT _
  ·rw[Ni ha hb];omega
def m8(l g:List Int):List D:=(aI (l.length+1)).map λa=>D.lst false (aP (sq l g a))
theorem Pm(l g:List Int):(D.lst true (Bb l g)).sh=.lst false (m8 l g):=by
 rw[dX];unfold Bb Ba m8;rw[cE];congr 1;apply tT;intro a _;show D.sh (.lst true (aP _))=_;rw[dX,j6]
theorem cd2(l g:List Int):(m8 l g).all D.pl=true:=by
 unfold m8;rw[mj,cU];intro a _;show(D.lst false (aP _)).pl=true;rw[eO,kJ];rfl
abbrev pD(m:Bool × Nat):List D:=[.int m.2,.int (af m),.int ((bl (af m):Nat)-1),.lst false (aP (fl m)),.lst false (aP (fU (fl m))),.int (fst m)]
def sA(C:Addr)(p:Nat):D:=.obj C (jA "prime") (pD (false,p))
def vS(C:Addr)(p:Nat):D:=.obj C (jA "bits"++[("products":Str)]) (pD (true,p)++[.lst false (m8 (fl (true,p)) (fU (fl (true,p))))])
def fD(cb cp:Addr)(m:Bool × Nat):D:=if m.1 then vS cb m.2 else sA cp m.2
theorem Bd(h:bl u<bl p):md u p=u:=Au (q:=0) (by rw[rk,qR]) h
theorem b66(hu:bl u<n)(hv:bl v<n):bl (u ^^^ v)<n:=by
 have h1:u<2 ^ (n-1):=fA.mp (by omega);have h2:v<2 ^ (n-1):=fA.mp (by omega);have:=fA.mpr (xJ h1 h2);omega
theorem DF(hp:p≠0)(u v:Nat):md (u ^^^ v) p=md u p ^^^ md v p:=by
 obtain⟨⟨q1,e1⟩,l1⟩:=As hp u;obtain⟨⟨q2,e2⟩,l2⟩:=As hp v;refine Au (q:=q1 ^^^ q2) ?_ (b66 l1 l2);rw[rj,<- M7,<- e1,<- e2]
theorem Pn(hp:p≠0)(w:Nat):md (cl p w) p=0:=by rw[Ar];exact cV7 w hp
theorem cI:∀m∈aD,0<m.2:=by decide +kernel
theorem gj(m:Bool × Nat)(a b:Nat):gm m a b=gm m b a:=by
 unfold gm;split
 ·rw[Ar]
 ·rw[oQ]
theorem Po(hn:n≠0)(u c:Nat):md (cl (md u n) c) n=md (cl u c) n:=by
 obtain⟨⟨q,e⟩,_⟩:=As hn u;have h:cl u c=cl n (cl q c) ^^^ cl (md u n) c:=by
  conv=>lhs;rw[e]
  rw[rj,Ar n q,Nn]
 rw[h,DF hn,Pn hn,qR]
theorem iu(h:0<m.2)(a b c:Nat):gm m (gm m a b) c=gm m a (gm m b c):=by
 unfold gm;split
 ·rw[Po (by omega),Ar (md (cl b c) m.2) a,Po (by omega),Nn a b c,Ar (cl b c) a]
 ·rw[zI,LH,<- zI,zI a (b*c%m.2),LH,<- zI,xb]
theorem Pp(h:m.1=true):a<af m↔bl a<=bl m.2-1:=by
 unfold af;rw[if_pos h];exact fA.symm
theorem ot(ha:a<af m):gm m 1 a=a:=by
 obtain⟨k,n⟩:=m
 cases k with
 | true =>
  show md (cl 1 a) n=a;rw[Gu];have h1:=(Pp (m:=(true,n)) rfl).mp ha;have h1:bl a<=bl n-1:=h1;by_cases z:bl n=0
  ·have a0:a=0:=by
    have:=fA (n:=a) (m:=0);have:=this.mp (by omega);omega
   subst a0;have n0:n=0:=by
    have:=(fA (n:=n) (m:=0)).mp (by omega);omega
   subst n0;decide
  ·exact Bd (by omega)
 | false=>show 1*a%n=a;rw[Nat.one_mul];exact zJ ha
theorem ou(ha:a<af m):gm m a 1=a:=by rw[gj];exact ot ha
def lg(m:Bool × Nat)(a:Nat):Int:=(fU (fl m)).getD a 0
def pw(m:Bool × Nat)(k:Nat):Int:=(fl m).getD k 0
def HV(m:Bool × Nat):Bool:=((aI (af m-1)).all λk=>decide (1<=pw m k)&&decide (pw m k<af m)&&decide (lg m (pw m k).toNat=k))&&((aI (af m-1)).all λa=>decide (0<=lg m (a+1))&&decide (lg m (a+1)<(af m:Int)-1)&&decide (pw m (lg m (a+1)).toNat=((a+1:Nat):Int)))
theorem Pq:aD.all HV=true:=by decide +kernel
theorem DG(hm:m∈aD){k:Nat}(hk:k<af m-1):1<=pw m k/\pw m k<af m/\lg m (pw m k).toNat=k:=by
 have h:=cU.mp Pq m hm;simp only[HV,cA,cU,decide_eq_true_eq,cJ]at h;have:=h.1 k hk;exact⟨this.1.1,this.1.2,this.2⟩
theorem DH(hm:m∈aD)(h1:1<=a)(h2:a<af m):0<=lg m a/\lg m a<(af m:Int)-1/\pw m (lg m a).toNat=a:=by
 have h:=cU.mp Pq m hm;simp only[HV,cA,cU,decide_eq_true_eq,cJ]at h;have:=h.2 (a-1) (by omega);rw[show a-1+1=a by omega]at this;exact⟨this.1.1,this.1.2,this.2⟩
theorem fH(m:Bool × Nat)(b:Nat)(h:0<m.2):gm m 0 b=0:=by
 unfold gm;split
 ·rw[rk];exact Bd (by rw[pq];exact iX (by omega))
 ·rw[Nat.zero_mul,Nat.zero_mod]
theorem lY(m:Bool × Nat)(b:Nat)(h:0<m.2):gm m b 0=0:=by rw[gj];exact fH m b h
def stC(m:Bool × Nat):Bool:=decide (pw m 0=1)&&(aI (af m-1)).all λk=>decide (gm m (pw m k).toNat (pw m (1%(af m-1))).toNat=(pw m ((k+1)%(af m-1))).toNat)
theorem Pr:aD.all stC=true:=by decide +kernel
theorem Pu(m:Bool × Nat)(hm:m∈aD):pw m 0=1:=by
 have h:=cU.mp Pr m hm;simp only[stC,cA,decide_eq_true_eq]at h;exact h.1
def pN(m:Bool × Nat)(k:Nat):Nat:=(pw m (k%(af m-1))).toNat
theorem cX8(hm:m∈aD)(k:Nat):pN m k<af m:=by
 have dw:=(bX hm).lo;have:=DG hm (xj k (show 0<af m-1 by omega));unfold pN;omega
theorem Pw(hm:m∈aD)(k:Nat):gm m (pN m k) (pN m 1)=pN m (k+1):=by
 have dw:=(bX hm).lo;have h:=cU.mp Pr m hm;simp only[stC,cA,decide_eq_true_eq,cU,cJ]at h;have h2:=h.2 (k%(af m-1)) (xj k (by omega));rw[zK]at h2;exact h2
theorem Px(hm:m∈aD)(i:Nat):∀j,gm m (pN m i) (pN m j)=pN m (i+j)
 | 0=>by
  have e:pN m 0=1:=by unfold pN;rw[Nat.zero_mod,Pu m hm];rfl
  rw[e,ou (cX8 hm i)];rfl
 | j+1=>by rw[<-Pw hm j,<- iu (cI m hm),Px hm i j,Pw hm];rfl
theorem HW(hm:m∈aD)(a1:1<=a)(a2:a<af m)(b1:1<=b)(b2:b<af m):((gm m a b:Nat):Int)=pw m ((lg m a+lg m b)%((af m:Int)-1)).toNat:=by
 have dw:=(bX hm).lo;obtain⟨g0,g1,g2⟩:=DH hm a1 a2;obtain⟨f0,f1,f2⟩:=DH hm b1 b2;have ea:pN m (lg m a).toNat=a:=by unfold pN;rw[zJ (by omega),g2];rfl
 have eb:pN m (lg m b).toNat=b:=by unfold pN;rw[zJ (by omega),f2];rfl
 have e:=Px hm (lg m a).toNat (lg m b).toNat;rw[ea,eb]at e;rw[e];have ei:((lg m a+lg m b)%((af m:Int)-1)).toNat=((lg m a).toNat+(lg m b).toNat)%(af m-1):=by
  have:(((lg m a).toNat+(lg m b).toNat)%(af m-1):Nat)=((lg m a+lg m b)%((af m:Int)-1)):=by
   rw[oS,Co,zL g0,zL f0,Int.natCast_sub (by omega)];rfl
  omega
 rw[ei];have:=DG hm (xj ((lg m a).toNat+(lg m b).toNat) (show 0<af m-1 by omega));unfold pN;omega
theorem cy9(hp:p∈ir)(ha:a<af (true,p)):sq (fl (true,p)) (fU (fl (true,p))) a=(aI (af (true,p))).map λb=>((gm (true,p) a b:Nat):Int):=by
 have hm:(true,p)∈aD:=gE _ (zM hp);have h0:=cI _ hm;have hF:=bX hm;have hlen:=hF.len;unfold sq;split
 ·rename_i h;subst h;rw[hlen];refine Fv (by simp) λi h1 h2=>?_;simp[fH _ _ h0]
 ·rename_i h;rw[<-hlen,ZA,dN,cE,lY _ _ h0];congr 1;apply tT;intro b hb;have hb:=cJ.mp hb;show(fl (true,p)).getD (((fU (fl (true,p))).getD a 0+(fU (fl (true,p))).getD (b+1) 0)%((fl (true,p)).length:Int)).toNat 0=((gm (true,p) a (b+1):Nat):Int);rw[HW hm (by omega) ha (by omega) (by omega),show(((fl (true,p)).length:Nat):Int)=(af (true,p):Int)-1 by omega];rfl
theorem DI(hp:p∈ir)(ha:a<af (true,p))(hb:b<af (true,p)):dW (aP (sq (fl (true,p)) (fU (fl (true,p))) a)) (b:Int)=some (.int (gm (true,p) a b:Nat)):=by
 refine ph (by omega) ?_;rw[cy9 hp ha];unfold aP;rw[gr,cy,cy,kj hb];rfl
theorem DJ(hp:p∈ir)(ha:a<af (true,p)):dW (m8 (fl (true,p)) (fU (fl (true,p)))) (a:Int)=some (.lst false (aP (sq (fl (true,p)) (fU (fl (true,p))) a))):=by
 have hF:=bX (m:=(true,p)) (gE _ (zM hp));refine ph (by omega) ?_;unfold m8;rw[gr,cy,kj (by rw[hF.len];exact ha)];rfl
theorem cP0(C:Addr)(p:Nat):D.obj C (jA "bits"++[("products":Str)]) (tS D.sh [.int p,.int (af (true,p)),.int ((bl (af (true,p)):Nat)-1),.lst true (aP (fl (true,p))),.lst true (aP (fU (fl (true,p)))),.int (fst (true,p)),.lst true (Bb (fl (true,p)) (fU (fl (true,p))))])=vS C p:=by
 simp only[dN,jK];rw[Pm];simp only[dX,p9,j6];rfl
theorem cm1(C:Addr)(p:Nat):D.obj C (jA "prime") (tS D.sh [.int p,.int p,.int ((bl p:Nat)-1),.lst true (aP (fl (false,p))),.lst true (aP (fU (fl (false,p)))),.int (fst (false,p))])=sA C p:=by
 simp only[dN,jK,dX,p9,j6];rfl
theorem vT(h:(true,n)∈aD):n∈ir:=by
 rcases cZ.mp h with h | h
 ·obtain⟨x,hx,e⟩:=bE.mp h;cases e;exact hx
 ·obtain⟨x,hx,e⟩:=bE.mp h;cases e
theorem bO6(h:(false,n)∈aD):n∈qk:=by
 rcases cZ.mp h with h | h
 ·obtain⟨x,hx,e⟩:=bE.mp h;cases e
 ·obtain⟨x,hx,e⟩:=bE.mp h;cases e;exact hx
open Classical in
theorem HX{sh:Bool}{g0:jX}(l:List α)(e g:α->D)(i7:xs.map D.sh=l.map e)(inj:∀a b,e a=e b->a=b)
  (hx:∀a∈l,g0 (e a) (fR aE n aq) λaR=>te aR λd _=>d=g a) (hg:∀d δ (P P':Dl->Prop),(∀ag,P ag->P' ag)->g0 d δ P->g0 d δ P') (dz:(sh&&aE.all (ij aq))=true\/∀a∈l,(g a).fr=true) (hl:l.length<=sizeLine) (hq:Q (.lst true (l.map g)) aq):pO sh xs aE n g0 jZ te aq Q:=by
 let f:D->D:=λx=>if h:∃a∈l,e a=x then g h.choose else .aA
 have hf:∀a∈l,f (e a)=g a:=λa ha=>by
  have h:∃b∈l,e b=e a:=⟨a,ha,rfl⟩;show(if h:∃b∈l,e b=e a then g h.choose else .aA)=g a;rw[dif_pos h];exact congrArg g (inj _ _ h.choose_spec.2)
 refine⟨λ_=>true,f,λx h=>?_,dz.imp id λh x hx _=>?_,?_,?_⟩
 ·rw[i7]at h;obtain⟨a,ha,rfl⟩:=bE.mp h;rw[hf a ha];exact hg _ _ _ _ (λag h=>⟨rfl,λ_=>h⟩) (hx a ha)
 ·rw[i7]at hx;obtain⟨a,ha,rfl⟩:=bE.mp hx;rw[hf a ha];exact h a ha
 ·have:=congrArg E5 i7;simp at this;omega
 ·rw[i7,Fq.mpr (λ_ _=>rfl),cE,show l.map (f ∘ e)=l.map g from tT λa ha=>hf a ha];exact hq
theorem HY(d:D)(δ:Dl)(P P':Dl->Prop)(h:∀ag,P ag->P' ag)(q:iq i1 i2 d δ P):iq i1 i2 d δ P':=by
 unfold iq at q ⊢;split at q
 ·exact h _ q
 ·exact q
theorem Py(xs ys:List Int):(f9 (aP xs) (aP ys)).map D.sh=(xs.zip ys).map λz=>D.tup [.int z.1,.int z.2]:=by
 rw[OM,j6,j6];unfold f9 aP;rw[LD,List.zip,Fu]
theorem cu2{p x y:Nat}(hp:p≠0)(hx:bl x<bl p):md (cl x y) p=(if y%2=1 then x else 0) ^^^ md (cl (if bl (2*x)=bl p then 2*x ^^^ p else 2*x) (y/2)) p:=by
 have e0:md (if y%2=1 then x else 0) p=(if y%2=1 then x else 0):=by
  split
  ·exact Bd hx
  ·exact Bd (by rw[pq];exact iX hp)
 rw[Nf,DF hp,e0];congr 1;split
 ·rw[rj,DF hp,Pn hp,nF]
 ·rfl
theorem cy1{p x:Nat}(hp:p≠0)(hx:bl x<bl p):bl (if bl (2*x)=bl p then 2*x ^^^ p else 2*x)<bl p:=by
 have h2:=cO0 x;have h0:=iX hp;split
 ·rename_i h;have n0:2*x≠0:=λz=>by rw[z,pq]at h;omega
  have a1:=jT (2*x);have a2:=jT p;have b1:=xH n0;have b2:=xH hp;rw[h]at a1 b1;obtain⟨k,hk⟩:∃k,bl p=k+1:=⟨bl p-1,by omega⟩;rw[hk]at a1 a2 b1 b2 ⊢;have:=fA.mpr (M5 a1 a2 b1 b2);omega
 ·omega
end L3
namespace L3
open PySem L2 PySem.Spec PyProof.Rows
structure sC(P:Program)(w:World)(K:PySem.W.Frag)(mg:Str->Option Value)(base:Heap)(n:Nat)(m:Str)(C:Addr)(sp:gQ):Prop where
 cls:cF K C
 ex:∃f fd ps,Meth K C m f/\aF P w K mg base (gz P w) n f fd ps (iN sp)/\Binds K fd ps []
section
variable{X:Cx}{e o:Expr}{es:List Expr}{f m x:Str}{pos p apos:Pos}{to:aK}{ta:b8}{n:Nat}
def sD(MO:Addr->gQ->Prop)(m:Str)(to:aK)(ta:b8):qa:=λδ Q Z=>to δ λd aq=>∃C ns xs sp,d=.obj C ns xs/\MO C sp/\m ∉ ns/\ta aq λds aR=>sp ((D.obj C ns xs::ds).map D.sh) (λr=>((D.obj C ns xs::ds).all D.pl||r.fr)=true/\Q r aR) λC=>Z C aR
theorem cQ1{pl:Sem Bool}(ho:PE X o (lB to))(hr:bJ n X.A)(hex:X.ex=[])(ha:PA X (e::es) (lA ta))
  (bG:starEach (e::es) X.env=(false,eval e X.env)::starEach es X.env:=by rfl) (bh:(backTo pos (starEach es X.env)).any (·.1)=false:=by rfl)
  (ht:eval (.Call (.Attribute o m apos) (e::es) [] pos) X.env=(do
   let ov<-eval o X.env
   standAt apos.atName
   let (f,first)<-holding [ov] (getMethod ov m pl)
   callWith pos f first (backTo pos (starEach (e::es) X.env)) (backToKw pos (keywordEach [] X.env))):=by rfl) :
  PX X (.Call (.Attribute o m apos) (e::es) [] pos) (lX (sD (sC X.prog X.w X.K X.mg X.base n m) m to ta)):=by
 intro pins s σ H Q Z I hz zz;obtain⟨B,F,δ,Qd,Zd,c,q,k,kx⟩:=zz;refine PySem.W.methodCall_KW (pl:=pl) (aU (ho pins s σ H (λx H1=>∃d aq F1,S F1 H1 [d] [x]/\ax B F1 H1 σ aq []/\ah F F1/\ah H H1/\∃C ns xs sp,d=.obj C ns xs/\sC X.prog X.w X.K X.mg X.base n m C sp/\m ∉ ns/\ta aq λds aR=>sp ((D.obj C ns xs::ds).map D.sh) (λr=>((D.obj C ns xs::ds).all D.pl||r.fr)=true/\Qd r aR) λC=>Zd C aR) I
  ⟨B,F,δ,[],_,c,q,λd aq v F1 H1 hq f1 h1 c1 s1=>⟨d,aq,F1,s1,c1,f1,h1,hq⟩⟩) λu s1 zq=>?_) ht
 obtain⟨x,H1,I1,rx,d,aq,F1,sd,c1,f1,h1,C,ns,xs,sp,ed,M,hm,hq⟩:=zq;subst ed;obtain⟨a,dx,ws,rfl,ea,hl,r0⟩:=m6 sd;obtain rfl:u=cN a:=rx;obtain⟨f,fd,ps,j7,FO,hb⟩:=M.ex;refine Af I1 ea M.cls j7 (A6 hm) ?_;refine PySem.W.callWith_K (first:=[.ref a]) (h₀:=X.base) I.ok.mod.lu j7.kp (aU (ha pos pins s1 σ H1 (λvs H2=>∃ds aR F2,S F2 H2 ds vs/\ax B F2 H2 σ aR []/\ah F1 F2/\ah H1 H2/\sp ((D.obj C ns xs::ds).map D.sh) (λr=>((D.obj C ns xs::ds).all D.pl||r.fr)=true/\Qd r aR) λC=>Zd C aR) I1
  ⟨B,F1,aq,[],_,c1,hq,λds aR vs F2 H2 hq f2 h2 c2 s2=>⟨ds,aR,F2,s2,c2,f2,h2,hq⟩⟩) λus s2 ⟨vs,H2,I2,r,ds,aR,F2,vR,c2,f2,h2,eA⟩=>⟨I2.bY,?_⟩) bG bh
 refine OD (us:=.ref a::us) (vs:=.ref a::vs) (E:=λcls dc H'=>∃c:XC,cls=.ref c.C/\XD H' c dc/\Z c H') FO hr hb hex I2 (.cons rfl r) ?_ λa T cls dc H' s' I' tr pa pT hE=>by
  obtain⟨c',rfl,xd,hZ⟩:=hE;exact hz a T c' dc H' s' I' xd tr pa pT hZ
 exact OE c2 (.obj (h2 _ _ ea) hl (r0.shared f2 h2) vR) eA (λd v F' H' hd hf hs c'=>k d aR v F' H' hd (f1.trans (f2.trans hf)) (h1.trans (h2.trans hs)) c') λC dc H' hC hs xd=>⟨C,rfl,xd,kx C aR F2 H' hC (f1.trans f2) (h1.trans (h2.trans hs)) (c2.grow hs)⟩
def sE(MO:Addr->gQ->Prop)(m:Str)(to:aK)(ta:b8):aK:=λδ Q=>to δ λd aq=>∃C ns xs sp,d=.obj C ns xs/\MO C sp/\m ∉ ns/\ta aq λds aR=>sp ((D.obj C ns xs::ds).map D.sh) (λr=>((D.obj C ns xs::ds).all D.pl||r.fr)=true/\Q r aR) λ_=>False
theorem cz6{pl:Sem Bool}(ho:PE X o (lB to))(hr:bJ n X.A)(ha:PA X (e::es) (lA ta))
  (bG:starEach (e::es) X.env=(false,eval e X.env)::starEach es X.env:=by rfl) (bh:(backTo pos (starEach es X.env)).any (·.1)=false:=by rfl)
  (ht:eval (.Call (.Attribute o m apos) (e::es) [] pos) X.env=(do
   let ov<-eval o X.env
   standAt apos.atName
   let (f,first)<-holding [ov] (getMethod ov m pl)
   callWith pos f first (backTo pos (starEach (e::es) X.env)) (backToKw pos (keywordEach [] X.env))):=by rfl) :
  PE X (.Call (.Attribute o m apos) (e::es) [] pos) (lE (sE (sC X.prog X.w X.K X.mg X.base n m) m to ta)):=by
 intro pins s σ H Q I zz;obtain⟨B,F,δ,ts,Qd,c,q,k⟩:=zz;refine PySem.W.methodCall_KW (pl:=pl) (aU (ho pins s σ H (λx H1=>∃d aq F1,S F1 H1 [d] [x]/\ax B F1 H1 σ aq ts/\ah F F1/\ah H H1/\∃C ns xs sp,d=.obj C ns xs/\sC X.prog X.w X.K X.mg X.base n m C sp/\m ∉ ns/\ta aq λds aR=>sp ((D.obj C ns xs::ds).map D.sh) (λr=>((D.obj C ns xs::ds).all D.pl||r.fr)=true/\Qd r aR) λ_=>False) I
  ⟨B,F,δ,ts,_,c,q,λd aq v F1 H1 hq f1 h1 c1 s1=>⟨d,aq,F1,s1,c1,f1,h1,hq⟩⟩) λu s1 zq=>?_) ht
 obtain⟨x,H1,I1,rx,d,aq,F1,sd,c1,f1,h1,C,ns,xs,sp,ed,M,hm,hq⟩:=zq;subst ed;obtain⟨a,dx,ws,rfl,ea,hl,r0⟩:=m6 sd;obtain rfl:u=cN a:=rx;obtain⟨f,fd,ps,j7,FO,hb⟩:=M.ex;refine Af I1 ea M.cls j7 (A6 hm) ?_;refine PySem.W.callWith_K (first:=[.ref a]) (h₀:=X.base) I.ok.mod.lu j7.kp (aU (ha pos pins s1 σ H1 (λvs H2=>∃ds aR F2,S F2 H2 ds vs/\ax B F2 H2 σ aR ts/\ah F1 F2/\ah H1 H2/\sp ((D.obj C ns xs::ds).map D.sh) (λr=>((D.obj C ns xs::ds).all D.pl||r.fr)=true/\Qd r aR) λ_=>False) I1
  ⟨B,F1,aq,ts,_,c1,hq,λds aR vs F2 H2 hq f2 h2 c2 s2=>⟨ds,aR,F2,s2,c2,f2,h2,hq⟩⟩) λus s2 ⟨vs,H2,I2,r,ds,aR,F2,vR,c2,f2,h2,eA⟩=>⟨I2.bY,?_⟩) bG bh
 refine xF (us:=.ref a::us) (vs:=.ref a::vs) (gx:=[]) (Hy FO) hr hb .nil Hx I2 (.cons rfl r) ?_;rw[fY];exact xU (sp:=λds Q=>sp ds Q λ_=>False) c2 (.obj (h2 _ _ ea) hl (r0.shared f2 h2) vR) eA λd v F' H' hd hf hs c'=>k d aR v F' H' hd (f1.trans (f2.trans hf)) (h1.trans (h2.trans hs)) c'
end
section
variable{X:Cx}{tb th:bO}{body Hs:List Stmt}{Ht:Stmt}{K:Str}{Kc:Addr}{kp OJ pos:Pos}
end
structure sF(K:PySem.W.Frag)(C:Addr):Prop where
 cls:cF K C
 ha:PySem.W.findIn K (.ref C) "__class__"=some (some (.builtin "object.__class__"))
 hn:PySem.W.specialIn K (.builtin "object.__class__") "__get__"=some (some (.builtin "getset_descriptor.__get__"))
 CQ:PySem.W.takesIn K (.builtin "object.__class__")=some true
 hm:PySem.W.mroIn K C (.type "object")=some true
def vU(K:PySem.W.Frag)(cv:Value)(t:aK):aK:=λδ Q=>t δ λd ag=>∃C ns xs r,d=.obj C ns xs/\sF K C/\PySem.W.kitOne K (.ref C) cv=some r/\Q (.bl r) ag
theorem cL0{p pos:Pos}(hg:Gl X "isinstance")(hm:X.mg "isinstance"=none)(vf:Gl X y)(nY:X.mg y=some (.ref C))(ha:PE X a (lB ta))(hd:(y==("__debug__":Str))=false:=by decide)
  (hs:starEach [a,.Name y q] X.env=(false,eval a X.env)::starEach [.Name y q] X.env:=by rfl) (fw:starEach [.Name y q] X.env=(false,eval (.Name y q) X.env)::starEach [] X.env:=by rfl) (bh:(backTo pos (starEach [.Name y q] X.env)).any (·.1)=false:=by rfl) :
  PE X (.Call (.Name "isinstance" p) [a,.Name y q] [] pos) (lE (vU X.K (.ref C) ta)) :=
 df (CT OK hg hm Gz (gI ha (gI (Ma (v:=.ref C) vf nY rfl hd) mx fw) hs) (by decide) (by decide) hs bh) λσ H Q zq=>by
 obtain⟨B,F,δ,ts,Qd,c,q,k⟩:=zq;exact⟨B,F,δ,ts,_,c,q,λd aq v F1 H1 q1 f1 h1 c1 s1=>by
  obtain⟨C',ns,xs,r,ed,oc,e,qr⟩:=q1;subst ed;obtain⟨a,dx,ws,rfl,ea,_,_⟩:=m6 s1;exact⟨.ref a,_,_,.ref C',r,rfl,rfl,.ty (.ins ea oc.cls oc.ha oc.hn oc.CQ oc.hm),e,k _ aq _ F1 H1 qr f1 h1 (c1.pushS (.bl .nil) rfl)⟩⟩
end L3
namespace L3
open PySem L2 Mf
theorem Pz(hm:m∈aD)(a1:1<=a)(a2:a<af m)(b1:1<=b)(b2:b<af m):∃r:Nat,pw m ((lg m a-lg m b)%((af m:Int)-1)).toNat=r/\r<af m/\gm m r b=a:=by
 have hF:=bX hm;have dw:=hF.lo;have n0:=fO (lg m a-lg m b) (show(af m:Int)-1≠0 by omega);have n1:=g9 (lg m a-lg m b) (show(0:Int)<(af m:Int)-1 by omega);obtain⟨p1,p2,p3⟩:=DG hm (k:=((lg m a-lg m b)%((af m:Int)-1)).toNat) (by omega);obtain⟨g0,g1,g2⟩:=DH hm a1 a2;refine⟨(pw m ((lg m a-lg m b)%((af m:Int)-1)).toNat).toNat,by omega,by omega,?_⟩;have e:=HW hm (a:=(pw m ((lg m a-lg m b)%((af m:Int)-1)).toNat).toNat) (by omega) (by omega) b1 b2;rw[p3,zL n0,Int.emod_add_emod,Int.sub_add_cancel,Cp g0 g1,g2]at e;omega
end L3
namespace L3
open PySem L2 PySem.Spec PyProof.Rows
section
variable{X:Cx}{e o a:Expr}{es:List Expr}{f m y:Str}{pos p apos q:Pos}{t to ta':aK}{ta:b8}{n:Nat}{P:Program}{w:World}{K:PySem.W.Frag}{mg:Str->Option Value}{base:Heap}
theorem cm(he:PE X e (lB t))(hK:K=X.K:=by rfl)(hb:attributeBase e f X.env (eval e X.env)=eval e X.env:=by rfl):PE X (.Attribute e f pos) (lB (se K t f)):=by
 subst hK;exact c00 he hb
theorem fV{pl:Sem Bool}(ho:PE X o (lB to))(hr:bJ n X.A)(ha:PA X (e::es) (lA ta))(hP:P=X.prog:=by rfl)(hw:w=X.w:=by rfl)(hK:K=X.K:=by rfl)(hm:mg=X.mg:=by rfl)(hb:base=X.base:=by rfl)
  (bG:starEach (e::es) X.env=(false,eval e X.env)::starEach es X.env:=by rfl) (bh:(backTo pos (starEach es X.env)).any (·.1)=false:=by rfl)
  (ht:eval (.Call (.Attribute o m apos) (e::es) [] pos) X.env=(do
   let ov<-eval o X.env
   standAt apos.atName
   let (f,first)<-holding [ov] (getMethod ov m pl)
   callWith pos f first (backTo pos (starEach (e::es) X.env)) (backToKw pos (keywordEach [] X.env))):=by rfl) :
  PE X (.Call (.Attribute o m apos) (e::es) [] pos) (lE (sg (iP P w K mg base n m) m to ta)):=by
 subst hP hw hK hm hb;exact cM8 ho hr ha bG bh ht
theorem cl7{pl:Sem Bool}(ho:PE X o (lB to))(hr:bJ n X.A)(hP:P=X.prog:=by rfl)(hw:w=X.w:=by rfl)(hK:K=X.K:=by rfl)(hm:mg=X.mg:=by rfl)(hb:base=X.base:=by rfl)
  (ht:eval (.Call (.Attribute o m apos) [] [] pos) X.env=(do
   let ov<-eval o X.env
   standAt apos.atName
   let (f,first)<-holding [ov] (getMethod ov m pl)
   callWith pos f first (backTo pos (starEach [] X.env)) (backToKw pos (keywordEach [] X.env))):=by rfl) :
  PE X (.Call (.Attribute o m apos) [] [] pos) (lE (sj (iP P w K mg base n m) m to)):=by
 subst hP hw hK hm hb;exact cA5 ho hr ht
theorem DK{pl:Sem Bool}(ho:PE X o (lB to))(hr:bJ n X.A)(ha:PA X (e::es) (lA ta))(hP:P=X.prog:=by rfl)(hw:w=X.w:=by rfl)(hK:K=X.K:=by rfl)(hm:mg=X.mg:=by rfl)(hb:base=X.base:=by rfl)
  (bG:starEach (e::es) X.env=(false,eval e X.env)::starEach es X.env:=by rfl) (bh:(backTo pos (starEach es X.env)).any (·.1)=false:=by rfl)
  (ht:eval (.Call (.Attribute o m apos) (e::es) [] pos) X.env=(do
   let ov<-eval o X.env
   standAt apos.atName
   let (f,first)<-holding [ov] (getMethod ov m pl)
   callWith pos f first (backTo pos (starEach (e::es) X.env)) (backToKw pos (keywordEach [] X.env))):=by rfl) :
  PE X (.Call (.Attribute o m apos) (e::es) [] pos) (lE (sE (sC P w K mg base n m) m to ta)):=by
 subst hP hw hK hm hb;exact cz6 ho hr ha bG bh ht
theorem Be{pl:Sem Bool}(ho:PE X o (lB to))(hr:bJ n X.A)(hex:X.ex=[])(ha:PA X (e::es) (lA ta))(hP:P=X.prog:=by rfl)(hw:w=X.w:=by rfl)(hK:K=X.K:=by rfl)(hm:mg=X.mg:=by rfl)(hb:base=X.base:=by rfl)
  (bG:starEach (e::es) X.env=(false,eval e X.env)::starEach es X.env:=by rfl) (bh:(backTo pos (starEach es X.env)).any (·.1)=false:=by rfl)
  (ht:eval (.Call (.Attribute o m apos) (e::es) [] pos) X.env=(do
   let ov<-eval o X.env
   standAt apos.atName
   let (f,first)<-holding [ov] (getMethod ov m pl)
   callWith pos f first (backTo pos (starEach (e::es) X.env)) (backToKw pos (keywordEach [] X.env))):=by rfl) :
  PX X (.Call (.Attribute o m apos) (e::es) [] pos) (lX (sD (sC P w K mg base n m) m to ta)):=by
 subst hP hw hK hm hb;exact cQ1 ho hr hex ha bG bh ht
end
theorem HZ:∀m∈Mf.aD,1<=Mf.bl m.2/\Mf.bl m.2<=7:=by decide +kernel
end L3
namespace L3
open PySem L2 Mf
def gp(m:Bool × Nat)(a b:Nat):Nat:=if m.1 then a ^^^ b else(a+b)%m.2
def gl(m:Bool × Nat)(a b:Nat):Int:=if m.1 then(a ^^^ b:Nat)else((a:Int)-b)%m.2
def gd(m:Bool × Nat)(xs ys:List Nat):Nat:=(dP (gm m) xs ys).foldl (gp m) 0
def sG(c:Int):Bool × Nat:=if c%2=0 then(true,ir.getD (c/2%21).toNat 0)else(false,qk.getD (c/2%18).toNat 0)
theorem cf4(c:Int):sG c∈aD:=by
 unfold sG;split
 ·refine gE _ (bE.mpr ⟨_,?_,rfl⟩);have h:(c/2%21).toNat<ir.length:=by
   have:=g9 (c/2) (show(0:Int)<21 by decide);show _<21;omega
  rw[aT,aV h];exact eU _
 ·refine fN _ (bE.mpr ⟨_,?_,rfl⟩);have h:(c/2%18).toNat<qk.length:=by
   have:=g9 (c/2) (show(0:Int)<18 by decide);show _<18;omega
  rw[aT,aV h];exact eU _
def eG(m:Bool × Nat):D:=.tup [.bl m.1,.int m.2]
theorem yQ(cb cp:Addr)(m:Bool × Nat):fD cb cp m=.obj (if m.1 then cb else cp) (if m.1 then jA "bits"++[("products":Str)]else jA "prime") (if m.1 then pD (true,m.2)++[.lst false (m8 (fl (true,m.2)) (fU (fl (true,m.2))))]else pD (false,m.2)):=by
 obtain⟨k,n⟩:=m;cases k<;>rfl
theorem PB(m:Bool × Nat)(x:Str)(h:x ∉ (["bits","prime","many","wide","powers","logs","step","products"]:List Str)):x ∉ (if m.1 then jA "bits"++[("products":Str)]else jA "prime"):=by
 obtain⟨k,n⟩:=m;intro z;apply h;cases k
 ·have z:x∈jA "prime":=z;simp[jA]at z;simp only[cO];rcases z with z | z | z | z | z | z<;>simp[z]
 ·have z:x∈jA "bits"++[("products":Str)]:=z;simp[jA]at z;simp only[cO];rcases z with z | z | z | z | z | z | z<;>simp[z]
theorem ft(cb cp:Addr)(m:Bool × Nat):(fD cb cp m).sh=fD cb cp m:=by rw[yQ];rfl
theorem Bf(cb cp:Addr)(m:Bool × Nat):(fD cb cp m).pl=true:=by rw[yQ];rfl
theorem cx9(m:Bool × Nat):(eG m).sh=eG m:=rfl
theorem cv6(m:Bool × Nat):(eG m).pl=true:=rfl
def Ia(P:Program)(w:World)(K:PySem.W.Frag)(mg:Str->Option Value)(base:Heap)(n:Nat)(cb cp:Addr)(m:Bool × Nat)(x:Str)(ds:List D)(Q:D->Prop):Prop:=∃C ns xs sp,fD cb cp m=.obj C ns xs/\iP P w K mg base n x C sp/\x ∉ ns/\sp (.obj C ns xs::ds) Q
theorem PC(hp:0<p):∀(l:List Nat) (acc:Nat),acc<p->l.foldl (gp (false,p)) acc=(acc+l.sum)%p
 | [],acc,h=>by simp[zJ h]
 | x::l,acc,h=>by
  rw[oO,show gp (false,p) acc x=(acc+x)%p from rfl,PC hp l _ (xj _ hp),LI];show((acc+x)%p+l.sum)%p=_;rw[zK,Ft]
theorem PD(p:Nat):∀xs ys:List Nat,(dP (gm (false,p)) xs ys).sum%p=(dP (· * ·) xs ys).sum%p
 | [],_=>by simp
 | _::_,[]=>by simp
 | x::xs,y::ys=>by
  simp only[Fw,LI];show(x*y%p+_)%p=_;rw[zK,Nat.add_mod,PD p xs ys,<- Nat.add_mod]
theorem PF:∀xs ys:List Nat,(dP (· * ·) (xs.map λ(n:Nat)=>(n:Int)) (ys.map λ(n:Nat)=>(n:Int))).sum=(((dP (· * ·) xs ys).sum:Nat):Int)
 | [],_=>by simp
 | _::_,[]=>by simp
 | x::xs,y::ys=>by
  simp only[dN,Fw,LI];rw[PF xs ys,Co,tU]
theorem ow(m:Bool × Nat)(a b:Nat):gp m a b=gp m b a:=by
 unfold gp;split
 ·rw[Lj]
 ·rw[Cg]
theorem DL(m:Bool × Nat)(a b c:Nat):gp m (gp m a b) c=gp m a (gp m b c):=by
 unfold gp;split
 ·rw[tO]
 ·rw[zK,Nat.add_mod_mod,Ft]
theorem Ib(h:0<m.2)(a b c:Nat):gm m (gp m a b) c=gp m (gm m a c) (gm m b c):=by
 unfold gm gp;split
 ·rw[rj,DF (by omega)]
 ·rw[zI,LH,<- zI,Nat.add_mul,zK,Nat.add_mod_mod]
theorem DM(h:0<m.2)(a b c:Nat):gm m c (gp m a b)=gp m (gm m c a) (gm m c b):=by rw[gj,Ib h,gj m a,gj m b]
theorem ci3:∀m∈aD,m.1=true->2<=bl m.2:=by decide +kernel
theorem DN(hm:m∈aD)(ha:a<af m)(hb:b<af m):gp m a b<af m:=by
 have h0:=cI m hm;obtain⟨k,n⟩:=m
 cases k with
 | true=>exact xJ ha hb
 | false=>exact xj _ h0
theorem cR(hm:m∈aD)(a b:Nat):gm m a b<af m:=by
 have h0:=cI m hm;obtain⟨k,n⟩:=m
 cases k with
 | true =>
  have h2:=ci3 (true,n) hm rfl;have:=(As (show n≠0 by have:0<n:=h0;omega) (cl a b)).2;refine(Pp rfl).mpr ?_;show bl (md (cl a b) n)<=bl n-1;omega
 | false=>exact xj _ h0
theorem qm(ha:a<af m):gp m 0 a=a:=by
 obtain⟨k,n⟩:=m
 cases k with
 | true=>exact qR a
 | false=>show(0+a)%n=a;rw[Fx];exact zJ ha
theorem sH(ha:a<af m):gp m a 0=a:=by rw[ow];exact qm ha
theorem cX1(hm:m∈aD)(ha:a<af m)(hb:b<af m):∃r:Nat,gl m a b=r/\r<af m/\gp m r b=a:=by
 have h0:=cI m hm;obtain⟨k,n⟩:=m
 cases k with
 | true=>exact⟨a ^^^ b,rfl,xJ ha hb,by show a ^^^ b ^^^ b=a;rw[tO,Ck,nF]⟩
 | false =>
  have h0:0<n:=h0;have ha:a<n:=ha;have hb:b<n:=hb;refine⟨(a+(n-b))%n,?_,xj _ h0,?_⟩
  ·show((a:Int)-b)%n=_;rw[oS,Co,Int.natCast_sub (by omega),show((a:Int)+((n:Int)-b))=((a:Int)-b)+n by omega,Int.add_emod_right]
  ·show((a+(n-b))%n+b)%n=a;rw[zK,show a+(n-b)+b=a+n by omega,Nat.add_mod_right,zJ ha]
def eS(m:Bool × Nat)(n:Int):Nat:=(pw m (n%((af m:Int)-1)).toNat).toNat
theorem qo(hm:m∈aD)(n:Int):1<=eS m n/\eS m n<af m/\lg m (eS m n)=n%((af m:Int)-1)/\pw m (n%((af m:Int)-1)).toNat=eS m n:=by
 have dw:=(bX hm).lo;have n0:=fO n (show(af m:Int)-1≠0 by omega);have n1:=g9 n (show(0:Int)<(af m:Int)-1 by omega);obtain⟨p1,p2,p3⟩:=DG hm (k:=(n%((af m:Int)-1)).toNat) (by omega);unfold eS;rw[p3];omega
theorem Bg(hm:m∈aD)(n:Int):eS m n<af m:=(qo hm n).2.1
theorem Ic(hm:m∈aD)(a b:Int):gm m (eS m a) (eS m b)=eS m (a+b):=by
 obtain⟨a1,a2,a3,_⟩:=qo hm a;obtain⟨b1,b2,b3,_⟩:=qo hm b;have e:=HW hm a1 a2 b1 b2;rw[a3,b3,<- Int.add_emod]at e;have c:=(qo hm (a+b)).2.2.2;rw[c]at e;omega
theorem cL5(hm:m∈aD):eS m 0=1:=by
 unfold eS;rw[Int.zero_emod,show(0:Int).toNat=0 from rfl,Pu m hm];rfl
theorem PH(hm:m∈aD)(h1:1<=a)(h2:a<af m):eS m (lg m a)=a:=by
 obtain⟨g0,g1,g2⟩:=DH hm h1 h2;unfold eS;rw[Cp g0 g1,g2];rfl
theorem PK(hm:m∈aD)(n:Int):(fl m)[(n%((af m:Int)-1)).toNat]?=some ((eS m n:Nat):Int):=by
 have hF:=bX hm;have dw:=hF.lo;have n0:=fO n (show(af m:Int)-1≠0 by omega);have n1:=g9 n (show(0:Int)<(af m:Int)-1 by omega);have hk:(n%((af m:Int)-1)).toNat<(fl m).length:=by have:=hF.len;omega
 rw[<-(qo hm n).2.2.2];unfold pw;rw[aT,aV hk];rfl
theorem cY9(hm:m∈aD)(a1:1<=a)(a2:a<af m)(b1:1<=b)(b2:b<af m):gm m a b≠0:=by
 rw[<-PH hm a1 a2,<- PH hm b1 b2,Ic hm];have:=(qo hm (lg m a+lg m b)).1;omega
def i8(m:Bool × Nat)(x:Nat):List Nat->Nat
 | []=>0
 | a::l=>gp m (gm m (i8 m x l) x) a
theorem cQ4(hm:m∈aD)(x:Nat):∀{l:List Nat},(∀a∈l,a<af m)->i8 m x l<af m
 | [],_=>by have:=(bX hm).lo;show 0<_;omega
 | a::l,h=>DN hm (cR hm _ _) (h a (by simp))
end L3
namespace L2
open PySem PySem.Spec PyProof.Rows
def Ie(K:PySem.W.Frag)(a:Addr)(n:Nat):It :=
 ⟨λi H=>i<n/\∃xs x,bN K H a xs/\xs[n-1-i]?=some x,λi H x H'=>H'=H/\∀xs,bN K H a xs->xs[n-1-i]?=some x,λi _=>n<=i⟩
theorem cj4{P:Program}{w:World}{K:PySem.W.Frag}{tg:Expr}(a it:Addr)(n:Nat):Turn P w K tg (Ie K a n) [it] it (λi h=>i<=n/\h.IsRevIter it a ((n:Int)-1-(i:Int))) where
 mem:=by simp
 obj:=λi h st b hb=>by
  have e:b=it:=by simpa using hb
  subst e;obtain⟨_,o,e,c,d⟩:=st;exact⟨o,e,λv z=>by rw[d]at z;cases z⟩
 keep:=λi h h' st k=>⟨st.1,st.2.at λo e=>k it (by simp) o e⟩
 item:=by
  intro X hP hw hK hc i pins s σ H E I hf st hg;subst hP hw hK;obtain⟨hi,xs,x,hq,hx⟩:=hg;obtain⟨its,rv,p,hz⟩:=I.list hq;obtain⟨u,hu,ru⟩:=rv.get hx;obtain⟨f0,f1,f2,f3,f4,f5⟩:=hf it (by simp);obtain⟨hle,st⟩:=st;have e0:(n:Int)-1-(i:Int)=((n-1-i:Nat):Int):=by omega
  rw[e0]at st;refine wpAny_pyNext_rev_item st p.isList (x:=u) (by simpa using hu) λh' lF sb=>?_;have e1:((n-1-i:Nat):Int)-1=(n:Int)-1-((i+1:Nat):Int):=by omega
  rw[e1]at lF;have I1:Inv X pins σ H { s with heap:=h' }:=I.turned (t':=s.toks) (λb o hb e=>(sb.2 b hb).trans e) f0 f1 f3 f4 f5;obtain⟨o,e,c,d⟩:=id lF;exact⟨u,rfl,FV (s:={ s with heap:=h' }) e c d (by decide) ⟨x,H,I1,ru,⟨rfl,λys hy=>by rw[I.z8 hy hq];exact hx⟩,⟨hi,lF⟩,λb hb=>(hf b hb).1⟩⟩
 done:=by
  intro X hP hw hK hc i pins s σ H E I hf st hg;subst hP hw hK;obtain⟨f0,f1,f2,f3,f4,f5⟩:=hf it (by simp);obtain⟨hle,st⟩:=st;have hg:n<=i:=hg;have e0:(n:Int)-1-(i:Int)=-1:=by omega
  rw[e0]at st;exact wpAny_pyNext_rev_end (I.ok.hd hc) st λh' eb=>⟨rfl,I.turned (t':=s.toks) (λb o hb e=>eb b o hb e) f0 f1 f3 f4 f5⟩
 self:=λ_ _ _ _ _ st h=>wpAny_pyIter_revIter st.2 h
section
variable{X:Cx}{a:Expr}{ta:TA}{p pos:Pos}{tg:Expr}
def c42(K:PySem.W.Frag)(ta:TA):TI:=λσ H R=>ta σ H λvs H1=>∃a xs,vs=[.ref a]/\bN K H1 a xs/\R (Ie K a xs.length) H1
theorem bE4:bootBuiltins "reversed"=some (.type "reversed"):=by decide +kernel
theorem cP9(hg:Gl X "reversed")(hm:X.mg "reversed"=none)(ha:PA X [a] ta)(hs:starEach [a] X.env=[(false,eval a X.env)]:=by rfl) :
  PI X tg (.Call (.Name "reversed" p) [a] [] pos) (c42 X.K ta):=by
 intro pins s σ H R I h;refine Call_ (rf I hg hm bE4 (zy (aU (ha pos pins s σ H _ I h) λus s1 ⟨vs,H1,I1,r1,q1⟩=>?_) hs rfl));obtain⟨a,xs,e,hx,q⟩:=q1;subst e
 cases r1 with
 | cons r rr =>
  cases rr;cases r;obtain⟨as,ra,pa,_⟩:=I1.list hx;have hl:=ra.length;have hit:(s1.heap.push (revObj a ((as.toArray.size:Int)-1))).IsRevIter s1.heap.objs.size a ((xs.length:Int)-1-((0:Nat):Int)):=by
   refine⟨_,g8 _ rfl,rfl,?_⟩;rw[show(xs.length:Int)-1-((0:Nat):Int)=(as.toArray.size:Int)-1 by simp;omega];rfl
  refine call_reversed_list pa.isList ?_;refine wpAny_pyIter_revIter hit ?_;refine⟨s1.heap.objs.size,[s1.heap.objs.size],_,_,H1,rfl,I1.kept (t':=s1.toks) λb o e=>eC _ e,cj4 a _ xs.length,⟨iT _,hit⟩,λb hb=>?_,q⟩;have e:b=s1.heap.objs.size:=by simpa using hb
  subst e;exact I1.z9 (bR _) (I1.aH.fresh (bR _))
end
end L2
namespace L3
open PySem L2 PySem.Spec PyProof.Rows
section
variable{F H:Hp}{K:PySem.W.Frag}{p:Addr}{ws:List V}{xs:List D}
theorem PL(hp:Rd F p (.lst ws))(r:R F H xs ws [])(hF:Full F H):JD (Ie K p ws.length) F xs.reverse where
 go:=λi H' hs hi=>by
  rw[Cq]at hi;have l1:=r.length;exact⟨by omega,ws,_,.inl (ig hp hs),aV (show ws.length-1-i<ws.length by omega)⟩
 kr:=λi H' v H2 hs hi zz=>by
  obtain⟨e,hx⟩:=zz;subst e;have og:=hi;rw[Cq]at og;have l1:=r.length;have h1:=Dt (r.full hF hs rfl) (show xs.length-1-i<xs.length by omega) (x:=v) (by rw[l1];exact hx ws (.inl (ig hp hs)));refine⟨_,?_,ah.refl _,h1⟩;rw[ZF og,aV]
 stop:=λi H' hs hi=>by
  rw[Cq]at hi;have l1:=r.length;show ws.length<=i;omega
end
section
variable{X:Cx}{a:Expr}{ta:b8}{p pos:Pos}{tg:Expr}
def vV(t:b8):js:=λδ Q=>t δ λds ag=>match ds with
 | [d1]=>∃xs,jt d1=some xs/\Q d1.pl xs.reverse ag
 | _=>False
theorem bY5(hg:Gl X "reversed")(hm:X.mg "reversed"=none)(ha:PA X [a] (lA ta))(hs:starEach [a] X.env=[(false,eval a X.env)]:=by rfl) :
  PI X tg (.Call (.Name "reversed" p) [a] [] pos) (lI (vV ta)) :=
 uF (cP9 hg hm ha hs) λσ H Q zq=>by
 obtain⟨B,F,δ,ts,Qd,c,q,k⟩:=zq;exact⟨B,F,δ,ts,_,c,q,λds aq vs F1 H1 hd f1 h1 c1 s=>by
  match ds,hd,s with
  | [d1],⟨xs,i1,hq⟩,s =>
   obtain⟨v1,cW,rfl,s1,s2⟩:=s.dA;cases s2;have e2:=c1.ext;have sn:=rq e2;obtain⟨p1,w1,rfl,r1,t1,u1⟩:=Ds s1 e2 i1;refine⟨p1,w1,rfl,.inl r1,k _ _ aq _ _ H1 hq (f1.trans sn) h1 c1.snap ?_ λz=>?_⟩
   ·rw[List.map_reverse];exact PL r1 t1 (Full.refl _)
   ·obtain⟨a1,a2,a3⟩:=u1 z;exact⟨by rw[List.all_reverse];exact a1,PL (ig a2 sn) (a3.shared sn (ah.refl _)) um⟩⟩
end
end L3
namespace L3
open PySem L2 Mf
def px(m:Bool × Nat)(x:Nat):Nat->Nat
 | 0=>1
 | k+1=>gm m (px m x k) x
def AllLt(n:Nat)(l:List Nat):Prop:=∀a∈l,a<n
theorem AllLt.getD(h:AllLt n l)(h0:0<n)(k:Nat):l.getD k 0<n:=by
 rw[aT]
 cases e:l[k]? with
 | none=>exact h0
 | some v=>exact h v (w4 e)
end L3
namespace L3
open PySem L2 PySem.Spec PyProof.Rows
theorem b26(n:Nat)(l:List Nat):(av l).all (eE n)=true:=by
 rw[cj,mj,cU];intro a _;exact rV n _
theorem Bh(n:Nat)(o:Bool)(l:List Nat):eE (n+1) (.lst o (av l))=true:=b26 n l
theorem Bi(o o':Bool)(a b:List Nat):bS (.lst o (av a)) (.lst o' (av b))=decide (a=b):=by
 unfold av;rw[vq];congr 1;apply propext;constructor
 ·intro h;have:=congrArg (tS dZ) h;have e:(dZ ∘ λ(n:Nat)=>(n:Int))=id:=by funext x;rfl
  rw[cE,cE,e,List.map_id,List.map_id]at this;exact this
 ·intro h;rw[h]
theorem oy{k:Int}(h0:0<=k)(h:k.toNat<l.length):dW (av l) k=some (.int ((l.getD k.toNat 0:Nat):Int)):=by
 refine ph h0 ?_;rw[cj,cy,aV h,aT,aV h];rfl
theorem vW{k:Int}(h0:0<=k)(h:k.toNat<n):ib n k=some k.toNat:=by
 unfold ib;rw[if_pos h0,if_pos (by omega)]
theorem Bj{n:Nat}(k:Int)(h:k=n):(((aI k.toNat).map λ(k:Nat)=>D.int (0+(k:Int))).map D.sh)=(aI n).map λ(i:Nat)=>D.int (i:Int):=by
 subst h;rw[uH,gr];simp
theorem PM(l:List Nat)(k v:Nat):(av l).set k (.int (v:Nat))=av (l.set k v):=by
 rw[cj,cj,xk]
theorem cf2(l:List Nat):(av l).all D.fr=true:=vp _
theorem m9(o:Bool)(l:List Nat):(D.lst o (av l)).sh=.lst false (av l):=by rw[dX,qg]
theorem gU(l:List Nat):(D.lst true (av l)).fr=true:=by rw[kE,cf2];rfl
theorem cv3(h:(fE xs)[i]?=some d):∃hi:i<xs.length,d=.tup [.int i,xs[i]]:=by
 have hi:i<(fE xs).length:=(jh.mp h).1;rw[jz]at hi;refine⟨hi,?_⟩;unfold fE at h;rw[zG,aV hi]at h;exact(dr h).symm
theorem cn0(h:(fE (av l))[i]?=some d):∃hi:i<l.length,d=.tup [.int i,.int (l[i]:Nat)]:=by
 obtain⟨hi,e⟩:=cv3 h;rw[e7]at hi;refine⟨hi,?_⟩;rw[e];simp only[cj,zN]
theorem ci6(h:(av l)[i]?=some d):∃hi:i<l.length,d=.int (l[i]:Nat):=by
 have hi:i<l.length:=by
  have:=(jh.mp h).1;rw[e7]at this;exact this
 refine⟨hi,?_⟩;rw[cj,cy,aV hi]at h;exact(dr h).symm
theorem PN(h:((aI n).map λ(k:Nat)=>D.int (a+(k:Int)))[i]?=some d):i<n/\d=.int (a+i):=by
 have hi:i<n:=by
  have:=(jh.mp h).1;simpa using this
 refine⟨hi,?_⟩;rw[cy,kj hi]at h;exact(dr h).symm
section
variable{X:Cx}
def sI:lQ:=λds Q=>match ds with
 | [.int i]=>Q (.int (if i<0 then -i else i))
 | _=>False
theorem cU5:gh X (.builtin "abs") sI:=gh.of ce6 λvs H Q zz=>by
 obtain⟨B,F,σ,δ,ts,ds,Qd,c,s,q,k⟩:=zz;unfold sI at q;split at q
 ·obtain⟨v,rfl,s1⟩:=j5 s;cases s1;exact⟨_,rfl,k _ _ _ q (ah.refl _) (c.pushS (.int .nil) rfl)⟩
 ·exact q.elim
def sJ:lQ:=λds Q=>match ds with
 | [.int i]=>Q (.int i)
 | [.bl b]=>Q (.int (if b then 1 else 0))
 | _=>False
theorem cO5:gh X (.type "int") sJ:=gh.of b65 λvs H Q zz=>by
 obtain⟨B,F,σ,δ,ts,ds,Qd,c,s,q,k⟩:=zz;unfold sJ at q;split at q
 ·obtain⟨v,rfl,s1⟩:=j5 s;cases s1;exact .inl ⟨_,rfl,k _ _ _ q (ah.refl _) (c.pushS (.int .nil) rfl)⟩
 ·obtain⟨v,rfl,s1⟩:=j5 s;cases s1;exact .inr ⟨_,rfl,k _ _ _ q (ah.refl _) (c.pushS (.int .nil) rfl)⟩
 ·exact q.elim
end
end L3
namespace L3
open PySem L2 Mf
def bA(m:Bool × Nat)(a b:Nat):Nat:=(gl m a b).toNat
theorem kL(hm:m∈aD)(ha:a<af m)(hb:b<af m):gl m a b=(bA m a b:Nat)/\bA m a b<af m/\gp m (bA m a b) b=a:=by
 obtain⟨r,e,h1,h2⟩:=cX1 hm ha hb;have:bA m a b=r:=by unfold bA;rw[e];rfl
 rw[this];exact⟨e,h1,h2⟩
theorem DO:∀{a b:List Nat},(∀x∈a,∀y∈b,f x y<n)->AllLt n (dP f a b)
 | [],_,_=>by intro x hx;simp at hx
 | _::_,[],_=>by intro x hx;simp at hx
 | x::a,y::b,h=>by
  intro z hz;rw[Fw]at hz;rcases cO.mp hz with rfl | hz
  ·exact h x (by simp) y (by simp)
  ·exact DO (λx hx y hy=>h x (by simp[hx]) y (by simp[hy])) z hz
theorem bY7(xs ys:List Nat):(f9 (av xs) (av ys)).map D.sh=(xs.zip ys).map λz=>D.tup [.int (z.1:Int),.int (z.2:Int)]:=by
 unfold av;rw[Py,List.zip_map,cE];rfl
theorem PQ{sh:Bool}{aE:List (Str × Nat)}{n i1 i2:Nat}{te:aK}{aq:Dl}{Q:D->Dl->Prop}(f:Nat->Nat->Nat){A B:List Nat}(hx:∀x∈A,∀y∈B,iq i1 i2 (.tup [.int (x:Int),.int (y:Int)]) (fR aE n aq) λaR=>te aR λd _=>d=.int ((f x y:Nat):Int))
  (hl:A.length<=100000) (hq:Q (.lst true (av (dP f A B))) aq):pO sh (f9 (av A) (av B)) aE n (iq i1 i2) jZ te aq Q:=by
 refine HX (A.zip B) (λz=>D.tup [.int (z.1:Int),.int (z.2:Int)]) (λz=>D.int ((f z.1 z.2:Nat):Int)) (bY7 A B) (λa b h=>?_) (λz hz=>hx z.1 (tK hz).1 z.2 (tK hz).2) HY (.inr λ_ _=>rfl) (by rw[Cr,sL];omega) ?_
 ·injection h with h
  simp at h;exact Prod.ext (by omega) (by omega)
 ·rw[show((A.zip B).map λz=>D.int ((f z.1 z.2:Nat):Int))=av (dP f A B) by rw[cj,List.zip,Fu,Fu]];exact hq
end L3
namespace L3
open PySem L2 PySem.Spec PyProof.Rows
theorem ax.dG7(c:ax B F H σ δ (ps++ts))(hp:H p=none)(r:R F (upd H p o) (ps.map (·.1)) (ps.map (·.2)) A1):p ∉ A1:=λh=>by
 obtain⟨A,C,r0,_,_,_⟩:=c.own;rw[eV,eV]at r0;obtain⟨v1,v2,B1,B2,e,rfl,h1,h2⟩:=R.split r0;have l1:(ps.map (·.2)).length=v1.length:=by rw[<-h1.length];simp
 obtain⟨rfl,rfl⟩:=Fp e l1;have g1:=h1.grow (ah.refl F) (ah.upd (o:=o) hp) λa ha=>(h1.lists a ha).2;have:A1=B1:=R.inj r g1;subst this;obtain⟨ws,e⟩:=(h1.lists p h).1;rw[hp]at e;cases e
theorem ax.join{p p' r:Addr}(c:ax B F H σ δ ((.lst true ys,.ref p')::(.lst true xs,.ref p)::ts))(e1:H p=some (.lst ws))(e2:H p'=some (.lst eP))(hr:H r=none) :
  ax B F (upd H r (.lst (ws++eP))) σ δ ((.lst true (xs++ys),.ref r)::ts):=by
 refine ax.pack (ps:=[(.lst true ys,.ref p'),(.lst true xs,.ref p)]) c (ah.upd hr) λA1 r1 nd=>?_;have nin:=ax.dG7 (ps:=[(.lst true ys,.ref p'),(.lst true xs,.ref p)]) (ts:=ts) c hr r1;have n1:p≠r:=λz=>by rw[z,hr]at e1;cases e1
 have n2:p'≠r:=λz=>by rw[z,hr]at e2;cases e2
 have r1:R F (upd H r (.lst (ws++eP))) [.lst true ys,.lst true xs] [.ref p',.ref p] A1:=r1
 cases r1 with
 | @own _ wy _ Ay _ _ By hy fy ry rb =>
  cases rb with
  | @own _ wx _ Ax _ _ Bx hx fx rx rc =>
   cases rc;rw[aZ n2,e2]at hy;cases hy;rw[aZ n1,e1]at hx;cases hx;refine⟨r::(Ax++Ay),by simpa using R.own dm (c.ext.free hr) (rx.append ry) .nil,?_,λa ha=>?_⟩
   ·refine qP.mpr ⟨λz=>nin ?_,?_⟩
    ·rcases cZ.mp z with z | z<;>simp[z]
    ·have sl:(Ay++Ax).Sublist (p'::Ay++(p::Ax++[])):=by
      rw[fY];exact(((ZG p Ax).append_left Ay).trans (ZG p' _))
     exact qV.nodup_iff.mp (nd.sublist sl)
   ·simp only[cO,cZ]at ha ⊢;rcases ha with rfl | ha | ha
    ·exact .inr hr
    ·simp[ha]
    ·simp[ha]
section
variable{X:Cx}{a b:Expr}{ta tb:aK}{pos:Pos}
def vX(ta tb:aK):aK:=λδ Q=>ta δ λx aq=>tb aq λy aR=>∃xs ys,x=.lst true xs/\y=.lst true ys/\xs.length+ys.length<=sizeLine/\Q (.lst true (xs++ys)) aR
theorem PR(ha:PE X a (lE ta))(hb:PE X b (lE tb)):PE X (.BinOp a .Add b pos) (lE (vX ta tb)) :=
 df (Mo MW ha hb) λσ H Q ⟨B,F,δ,ts,Qd,c,q,k⟩ =>
  ⟨B,F,δ,ts,_,c,q,λx aq v F1 H1 q1 f1 h1 c1=>⟨B,F1,aq,(x,v)::ts,_,c1,q1,λy aR w F2 H2 q2 f2 h2 c2=>by
   obtain⟨xs,ys,rfl,rfl,hz,hq⟩:=q2;obtain⟨p',eP,rfl,e2,s2⟩:=ju c2.top c2.ext;obtain⟨p,ws,rfl,e1,s1⟩:=ju c2.pop.top c2.ext;refine⟨p,p',ws,eP,rfl,rfl,e1,e2,by rw[<-s1.length,<- s2.length];exact hz,λr hr=>?_⟩;exact k _ aR _ F2 _ hq (f1.trans f2) ((h1.trans h2).trans (ah.upd hr)) (c2.join e1 e2 hr)⟩⟩
end
theorem b88(h:av a=av b):a=b:=by
 have:=Bi true true a b;rw[h,show bS (D.lst true (av b)) (D.lst true (av b))=true from(Bi _ _ _ _).trans (decide_eq_true rfl)]at this;exact of_decide_eq_true this.symm
theorem PU(a b:List Nat)(h:D.lst o (av a)=D.lst o (av b)):a=b:=b88 (by injection h)
end L3
namespace L3
open PySem L2 Mf
theorem Ig(hm:m∈aD)(k:Int):∀n:Nat,px m (eS m k) n=eS m (k*n)
 | 0=>by
  show 1=eS m (k*((0:Nat):Int));rw[show k*((0:Nat):Int)=0 by omega,cL5 hm]
 | n+1=>by
  show gm m (px m (eS m k) n) (eS m k)=_;rw[Ig hm k n,Ic hm,Co,Int.mul_add];congr 1;omega
end L3
namespace L2
open PySem PySem.Spec PyProof.Rows
theorem cf5:cL X (compareOp .IsNot) (λx y H Q=>∃a b,x=.bl a/\y=.bl b/\Q (.bl (a != b)) H):=by
 intro pins s σ H x y v u Q I rx ry h;obtain⟨a,b,rfl,rfl,q⟩:=h;cases rx;cases ry;exact isnot_bool (F9 I q rfl)
end L2
namespace L3
open PySem L2 PySem.Spec PyProof.Rows Mf
def sM:eB:=λx y Q=>match x,y with
 | .bl a,.bl b=>Q (.bl (a != b))
 | _,_=>False
theorem cC0:bQ X (compareOp .IsNot) sM:=⟨_,cf5,λ{B F H σ δ ts x y v w Q Qd} c sx sy h k=>by
 unfold sM at h;split at h
 ·cases sx;cases sy;exact⟨_,_,rfl,rfl,k _ _ _ h (ah.refl _) (c.pushS (.bl .nil) rfl)⟩
 ·exact h.elim⟩
def Ih(m:Bool × Nat)(row c:List Nat)(at_:Nat):Nat:=gd m c ((aI c.length).map λj=>row.getD (at_-j) 0)
theorem Ii(hm:m∈aD):∀(l:List Nat) (a:Nat),a<af m->AllLt (af m) l->l.foldl (gp m) a=gp m a (l.foldl (gp m) 0)
 | [],a,ha,_=>(sH ha).symm
 | x::l,a,ha,h=>by
  have dw:=(bX hm).lo;have hx:=h x (by simp);have hl:AllLt (af m) l:=λy hy=>h y (by simp[hy]);rw[oO,oO,Ii hm l _ (DN hm ha hx) hl,qm hx,Ii hm l x hx hl,DL]
theorem cB7(hm:m∈aD){r:Nat}(hr:r<af m)(xs ys:List Nat):gd m (1::xs) (r::ys)=gp m r (gd m xs ys):=by
 unfold gd;rw[Fw,oO,ot hr,qm hr];exact Ii hm _ _ hr (DO λx _ y _=>cR hm x y)
end L3
namespace L3
open PySem L2 Mf
def cf(l:List Nat)(k:Nat):Nat:=l.getD k 0
theorem yR{k:Nat}(h:l.length<=k):cf l k=0:=by
 unfold cf;rw[aT,gu h];rfl
theorem gb(hm:m∈aD)(h:AllLt (af m) l)(k:Nat):cf l k<af m:=h.getD (by have:=(bX hm).lo;omega) k
theorem Ij(m:Bool × Nat)(x:Nat):bA m x x=0:=by
 obtain⟨k,n⟩:=m
 cases k with
 | true=>show(((x ^^^ x:Nat):Int)).toNat=0;rw[Ck];rfl
 | false=>show(((x:Int)-(x:Int))%(n:Int)).toNat=0;rw[Int.sub_self,Int.zero_emod];rfl
end L3
namespace L3
open PySem L2 PySem.Spec PyProof.Rows
section
variable{B:Bs}{F H:Hp}{σ:L2.St}{δ:Dl}{ts ps:List (D × V)}{i k:Nat}{p q:Addr}{l1 l2 ys NO:List D}{ws u3:List V}
end
section
variable{X:Cx}{F H:Hp}{e b:Expr}{pos p p2 p3 pr apos bK Hj:Pos}{t ti te:aK}{x y:Str}{i j:Nat}
end
end L3
namespace L3
structure Rg(N:Nat)(p q:Nat->Nat->Nat):Prop where
 pc:∀a b,p a b=p b a
 pa:∀a b c,p (p a b) c=p a (p b c)
 mc:∀a b,q a b=q b a
 ma:∀{a b c},a<N->b<N->c<N->q (q a b) c=q a (q b c)
 dl:∀a b c,q a (p b c)=p (q a b) (q a c)
 z:∀{a},a<N->p 0 a=a
 qz:∀a,q a 0=0
 one:∀{a},a<N->q 1 a=a
 lp:∀{a b},a<N->b<N->p a b<N
 lq:∀a b,q a b<N
 ng:∀{a},a<N->∃b,b<N/\p a b=0
section
variable{N:Nat}{p q:Nat->Nat->Nat}
def sm(p:Nat->Nat->Nat):Nat->(Nat->Nat)->Nat
 | 0,_=>0
 | n+1,f=>p (sm p n f) (f n)
theorem Rg.pos(r:Rg N p q):0<N:=zE (iT _) (r.lq 0 0)
theorem Rg.z'(r:Rg N p q)(h:a<N):p a 0=a:=by rw[r.pc];exact r.z h
theorem Rg.PV(r:Rg N p q)(ha:a<N)(hb:b<N)(hc:c<N)(h:p a c=p b c):a=b:=by
 obtain⟨d,_,e⟩:=r.ng hc;have:=congrArg (λx=>p x d) h;simp only[r.pa,e]at this;rw[r.z' ha,r.z' hb]at this;exact this
theorem Rg.cn(r:Rg N p q)(ha:a<N)(hb:b<N)(h:p a b=b):a=0:=r.PV ha r.pos hb (by rw[h,r.z hb])
theorem dD:∀{n:Nat},(∀j,j<n->f j=g j)->sm p n f=sm p n g
 | 0,_=>rfl
 | n+1,h=>by rw[sm,sm,dD λj hj=>h j (by omega),h n (by omega)]
theorem qp(r:Rg N p q):∀{n:Nat},(∀j,j<n->f j<N)->sm p n f<N
 | 0,_=>r.pos
 | n+1,h=>r.lp (qp r λj hj=>h j (by omega)) (h n (by omega))
theorem iw(r:Rg N p q):∀{n:Nat},(∀j,j<n->f j=0)->sm p n f=0
 | 0,_=>rfl
 | n+1,h=>by rw[sm,iw r λj hj=>h j (by omega),h n (by omega)];exact r.z r.pos
theorem Rg.four(r:Rg N p q)(a b c d:Nat):p (p a b) (p c d)=p (p a c) (p b d):=by
 rw[r.pa,r.pa,<- r.pa b,<- r.pa c,r.pc b c]
theorem qq(r:Rg N p q)(f g:Nat->Nat):∀n,sm p n (λj=>p (f j) (g j))=p (sm p n f) (sm p n g)
 | 0=>(r.z r.pos).symm
 | n+1=>by rw[sm,qq r f g n,sm,sm,r.four]
theorem oA(r:Rg N p q)(c:Nat)(f:Nat->Nat):∀n,sm p n (λj=>q c (f j))=q c (sm p n f)
 | 0=>(r.qz c).symm
 | n+1=>by rw[sm,oA r c f n,sm,r.dl]
theorem PY(r:Rg N p q)(F:Nat->Nat->Nat)(k:Nat):∀n,sm p n (λi=>sm p k λj=>F i j)=sm p k λj=>sm p n λi=>F i j
 | 0=>(iw r λ_ _=>rfl).symm
 | n+1=>by
  rw[sm,PY r F k n,<- qq r];rfl
theorem Ik(r:Rg N p q)(n:Nat):∀k,(∀j,j<n+k->f j<N)->sm p (n+k) f=p (sm p n f) (sm p k λj=>f (n+j))
 | 0,h=>(r.z' (qp r λj hj=>h j (by omega))).symm
 | k+1,h=>by
  rw[<-Ft,sm,Ik r n k λj hj=>h j (by omega),sm,r.pa]
theorem ce0(r:Rg N p q)(n:Nat)(h:∀j,j<n+1->f j<N):sm p (n+1) f=p (f 0) (sm p n λj=>f (j+1)):=by
 rw[Cg n 1,Ik r 1 n λj hj=>h j (by omega)];show p (p 0 (f 0)) _=_;rw[r.z (h 0 (by omega))];congr 1;exact dD λj _=>by rw[Cg]
end
section
variable{N:Nat}{p q:Nat->Nat->Nat}
end
end L3
namespace L3
open PySem L2 Mf
theorem rg(hm:m∈aD):Rg (af m) (gp m) (gm m) where
 pc:=ow m
 pa:=DL m
 mc:=gj m
 ma:=λ_ _ _=>iu (cI m hm) _ _ _
 dl:=λa b c=>DM (cI m hm) b c a
 z:=qm
 qz:=λa=>lY m a (cI m hm)
 one:=ot
 lp:=DN hm
 lq:=cR hm
 ng:=λ{a} ha=>by
  have g:=kL hm (a:=0) (b:=a) (by omega) ha;exact⟨_,g.2.1,(ow m _ _).trans g.2.2⟩
theorem cn3(p:Nat->Nat->Nat)(l:List Nat):l.foldl p 0=sm p l.length λj=>l.getD j 0:=by
 have key:∀n,n<=l.length->(l.take n).foldl p 0=sm p n λj=>l.getD j 0:=by
  intro n
  induction n with
  | zero=>intro _;rfl
  | succ n ih =>
   intro h;rw[tQ,aV (by omega),Fy,ih (by omega),sm,aT,aV (show n<l.length by omega)];rfl
 have:=key l.length (bR _);rw[xh]at this;exact this
theorem cS2(hm:m∈aD)(f:Nat)(b:List Nat)(j:Nat):cf (b.map (gm m f)) j=gm m f (cf b j):=by
 unfold cf;rw[aT,cy,aT]
 cases b[j]? with
 | none=>exact(lY m f (cI m hm)).symm
 | some x=>rfl
theorem PZ(hm:m∈aD)(ha:a<af m)(hb:b<af m)(h0:b≠0):∃r,r<af m/\gm m r b=a:=by
 by_cases a0:a=0
 ·exact⟨0,by have:=(bX hm).lo;omega,by rw[a0];exact fH m b (cI m hm)⟩
 ·obtain⟨r,_,h1,h2⟩:=Pz hm (show 1<=a by omega) ha (show 1<=b by omega) hb;exact⟨r,h1,h2⟩
end L3
namespace L3
open PySem L2 PySem.Spec PyProof.Rows
section
variable{X:Cx}{i j:Nat}{x y:Str}{p pos pos' apos bK:Pos}
end
section
variable{X:Cx}{e:Expr}{t:aK}{p pos:Pos}
end
section
variable{X:Cx}
theorem ck6(i:Int)(ns:List Int):uf (.int i) (ns.map V.int)=decide (i∈ns):=by
 unfold uf;rw[List.any_map,qT,Cm,decide_eq_true_iff];exact⟨λ⟨x,hx,he⟩=>(show x=i by simpa[lH]using he) ▸ hx,λhx=>⟨i,hx,by simp[lH]⟩⟩
def sN:eB:=λx y Q=>match x,y with
 | .int i,.lst _ xs=>∃ns:List Int,xs=aP ns/\Q (.bl (!decide (i∈ns)))
 | _,_=>False
theorem P0:bQ X (compareOp .NotIn) sN :=
 ⟨_,bH8,λ{B F H σ δ ts x y v w Q Qd} c sx sy h k=>by
  unfold sN at h;split at h
  ·rename_i i o xs;obtain⟨ns,rfl,q⟩:=h;obtain⟨p,ws,rfl,e1,s1⟩:=ju sy c.ext;have e:=Dw s1;subst e;cases sx;refine⟨p,_,rfl,.inl (bN.of e1),rfl,by simp[nN],?_⟩;rw[if_pos rfl,ck6];exact k _ _ _ q (ah.refl _) (c.pushS (.bl .nil) rfl)
  ·exact h.elim⟩
end
end L3
namespace L3
open PySem L2 Mf
def aL(o:Bool)(T:List (List Nat)):List D:=T.map λr=>.lst o (av r)
theorem j8(o:Bool)(T:List (List Nat)):(aL o T).length=T.length:=by unfold aL;rw[bq]
theorem gn(o:Bool)(T:List (List Nat)):(aL o T).map D.sh=aL false T:=by
 unfold aL;rw[cE];exact tT λr _=>m9 o r
theorem lZ(T:List (List Nat)):(aL false T).all D.pl=true:=by
 unfold aL;rw[mj,cU];intro r _;show(D.lst false (av r)).pl=true;rw[eO,lW];rfl
theorem Il(T:List (List Nat)):(aL true T).all D.fr=true:=by
 unfold aL;rw[mj,cU];intro r _;exact gU r
theorem sP(o:Bool)(S T:List (List Nat)):aL o S++aL o T=aL o (S++T):=by unfold aL;rw[eV]
theorem yS(o:Bool)(T:List (List Nat))(lo hi:Option Int):gi (aL o T) lo hi=aL o (gi T lo hi):=by
 unfold aL gi;rw[bq,Lr,Lq]
theorem yT(o:Bool){T:List (List Nat)}{i:Nat}(h:i<T.length):dW (aL o T) (i:Int)=some (.lst o (av T[i])):=by
 refine L3.HA ?_;unfold aL;rw[cy,aV h];rfl
theorem cc9(n:Nat)(o:Bool)(T:List (List Nat)):(aL o T).all (eE (n+1))=true:=by
 unfold aL;rw[mj,cU];intro r _;exact Bh _ _ _
theorem P2(n:Nat)(o o':Bool)(T:List (List Nat)):eE (n+2) (.lst o (aL o' T))=true:=cc9 n o' T
theorem P4(o o':Bool):∀(a b:List (List Nat)),bS.gB (aL o a) (aL o' b)=decide (a=b)
 | [],[]=>rfl
 | [],_::_=>by simp[aL,bS.gB]
 | _::_,[]=>by simp[aL,bS.gB]
 | x::xs,y::ys=>by
  show(bS (.lst o (av x)) (.lst o' (av y))&&bS.gB (aL o xs) (aL o' ys))=_;rw[P4 o o' xs ys,Bi,qT];simp
theorem cu3(o o' o1 o2:Bool)(a b:List (List Nat)):bS (.lst o (aL o1 a)) (.lst o' (aL o2 b))=decide (a=b):=P4 o1 o2 a b
open Classical in
theorem vY{sh:Bool}{g0:jX}{tt:fB}(l:List α)(e g:α->D)(kp:α->Bool)(i7:xs.map D.sh=l.map e)(inj:∀a b,e a=e b->a=b)
  (hx:∀a∈l,g0 (e a) (fR aE n aq) λaR=>tt aR λb jr=>b=kp a/\(kp a=true->te jr λd _=>d=g a)) (dz:(sh&&aE.all (ij aq))=true\/∀a∈l,kp a=true->(g a).fr=true) (hl:l.length<=sizeLine) (hq:Q (.lst true ((l.filter kp).map g)) aq):pO sh xs aE n g0 tt te aq Q:=by
 have pick:∀{β:Type} (h:α->β) (z:β),∃f:D->β,∀a∈l,f (e a)=h a:=λh z=>⟨λx=>if w:∃a∈l,e a=x then h w.choose else z,λa ha=>by
  have w:∃b∈l,e b=e a:=⟨a,ha,rfl⟩;show(if w:∃b∈l,e b=e a then h w.choose else z)=h a;rw[dif_pos w];exact congrArg h (inj _ _ w.choose_spec.2)⟩
 obtain⟨f,hf⟩:=pick g .aA;obtain⟨p,hp⟩:=pick kp false;refine⟨p,f,λx h=>?_,dz.imp id λh x gA=>?_,?_,?_⟩
 ·rw[i7]at h;obtain⟨a,ha,rfl⟩:=bE.mp h;rw[hp a ha,hf a ha];exact hx a ha
 ·rw[i7]at gA;obtain⟨a,ha,rfl⟩:=bE.mp gA;rw[hp a ha,hf a ha];exact h a ha
 ·have:=congrArg E5 i7;simp at this;omega
 ·rw[i7,List.filter_map,cE,show l.filter (p ∘ e)=l.filter kp from List.filter_congr λa ha=>hp a ha,show(l.filter kp).map (f ∘ e)=(l.filter kp).map g from tT λa ha=>hf a (qK.mp ha).1];exact hq
theorem P5(h:(fE (aL o G))[i]?=some d):∃hi:i<G.length,d=.tup [.int i,.lst o (av G[i])]:=by
 unfold fE aL at h;rw[zG,cy]at h;by_cases hi:i<G.length
 ·rw[aV hi]at h;exact⟨hi,(dr h).symm⟩
 ·rw[gu (by omega)]at h;cases h
theorem DP(r:List Nat):(fE (av r)).map D.sh=(aI r.length).map λ(i:Nat)=>D.tup [.int (i:Int),.int ((r.getD i 0:Nat):Int)]:=by
 apply Lw;intro i;unfold fE;rw[cj,cy,zG,cy,cy];by_cases hi:i<r.length
 ·have e:r.getD i 0=r[i]:=by rw[aT,aV hi];rfl
  rw[aV hi,kj hi];show _=some (D.tup [D.int (i:Int),D.int ((r.getD i 0:Nat):Int)]);rw[e];rfl
 ·rw[gu (show r.length<=i by omega),gu (show(aI r.length).length<=i by simpa using hi)];rfl
theorem P6{r:List Nat}(h:∃x∈r,x≠0):((aI r.length).filter λi=>r.getD i 0 != 0)[0]?=some (r.findIdx (· != 0)):=by
 obtain⟨x,hx,h0⟩:=h;have hl:r.findIdx (· != 0)<r.length:=LJ ⟨x,hx,by simpa using h0⟩;rw[<-List.head?_eq_getElem?,List.head?_filter,List.find?_range_eq_some];refine⟨?_,cJ.mpr hl,λj hj=>?_⟩
 ·rw[aT,aV hl];exact ZH (w:=hl)
 ·have:=List.not_of_lt_findIdx hj;rw[aT,aV (by omega)];simpa using this
def ay(T:List (List Nat)):Nat:=(T.headD []).length
def kM(T:List (List Nat))(j:Nat):Option Nat:=T.findIdx? λr=>r.getD j 0 != 0
def iy(m:Bool × Nat)(T:List (List Nat))(l:List Nat)(j:Nat):List (List Nat):=T.map λr=>dP (λx y=>bA m x (gm m (r.getD j 0) y)) r l
def oB(m:Bool × Nat)(b:Nat):Nat:=((aI (af m)).find? λr=>gm m r b==1).getD 0
theorem DQ(hm:m∈aD){b r:Nat}(hr:r<af m)(h:gm m r b=1):oB m b=r:=by
 have m0:=cI m hm;unfold oB
 cases e:(aI (af m)).find? λr=>gm m r b==1 with
 | none =>
  have:=LL.mp e r (cJ.mpr hr);simp[h]at this
 | some r' =>
  have h':gm m r' b=1:=by simpa using List.find?_some e
  have l':r'<af m:=cJ.mp (Lp e);show r'=r;rw[<-ou hr,<- h',<- iu m0,gj m r r',iu m0,h,ou l']
def RT(N w:Nat)(T:List (List Nat)):Prop:=∀r∈T,r.length=w/\AllLt N r
theorem RT.app{S T:List (List Nat)}(a:RT N w S)(b:RT N w T):RT N w (S++T):=λr hr=>(cZ.mp hr).elim (a r) (b r)
theorem P7(hm:m∈aD)(h:RT (af m) w T)(hl:l.length=w):RT (af m) w (iy m T l j):=λr hr=>by
 obtain⟨r,h1,rfl⟩:=bE.mp hr;obtain⟨a,b⟩:=h r h1;exact⟨by rw[oU,a,hl,Cn],DO λx hx y hy=>(kL hm (b x hx) (cR hm _ y)).2.1⟩
def eX(m:Bool × Nat)(T:List (List Nat))(i p:Nat):List Nat:=(T.getD i []).map (gm m (oB m ((T.getD i []).getD p 0)))
def i9(m:Bool × Nat)(s:List (List Nat) × List (List Nat))(p:Nat):List (List Nat) × List (List Nat):=match kM s.2 p with
 | none=>s
 | some i=>(iy m s.1 (eX m s.2 i p) p++[eX m s.2 i p],iy m (s.2.take i++s.2.drop (i+1)) (eX m s.2 i p) p)
def kN(m:Bool × Nat)(G:List (List Nat))(k:Nat):List (List Nat) × List (List Nat):=(aI k).foldl (i9 m) ([],G)
def c9(m:Bool × Nat)(G:List (List Nat)):List (List Nat):=(kN m G (ay G)).1
theorem Im(m:Bool × Nat)(G:List (List Nat))(k:Nat):kN m G (k+1)=i9 m (kN m G k) k:=by
 unfold kN;rw[zO,Fy];rfl
theorem DR(h:kM T j=some i):∃hi:i<T.length,T[i].getD j 0≠0/\T.getD i []=T[i]:=by
 obtain⟨hi,h1,_⟩:=ZI.mp h;exact⟨hi,by simpa using h1,by rw[aT,aV hi];rfl⟩
structure Bk(N w n:Nat)(s:List (List Nat) × List (List Nat)):Prop where
 a:RT N w s.1
 b:RT N w s.2
 l:s.1.length+s.2.length<=n
theorem cj3(hm:m∈aD){s:List (List Nat) × List (List Nat)}(h:Bk (af m) w n s):Bk (af m) w n (i9 m s p):=by
 unfold i9;split
 ·exact h
 ·rename_i i e;obtain⟨hi,h1,h2⟩:=DR e;have hl:(eX m s.2 i p).length=w:=by unfold eX;rw[bq,h2];exact(h.b _ (eU hi)).1
  have hr:RT (af m) w [eX m s.2 i p]:=λr hr=>by
   rw[eT]at hr;refine⟨by rw[hr];exact hl,λx hx=>?_⟩;rw[hr]at hx;obtain⟨y,_,rfl⟩:=bE.mp hx;exact cR hm _ _
  refine⟨(P7 hm h.a hl).app hr,P7 hm (λr hr=>h.b r ?_) hl,?_⟩
  ·rcases cZ.mp hr with hr | hr
   ·exact zF hr
   ·exact qX hr
  ·have:=h.l;unfold iy;rw[dO,bq,bq,dO,kg,lh];show s.1.length+1+_<=n;omega
theorem DS(hm:m∈aD)(h:RT (af m) w G):∀k,Bk (af m) w G.length (kN m G k)
 | 0=>⟨(λr hr=>nomatch hr),h,Cc (Fx _)⟩
 | k+1=>by rw[Im];exact cj3 hm (DS hm h k)
theorem cm9(j:Nat)(l:List Nat):decide ((j:Int)∈l.map λ(n:Nat)=>(n:Int))=l.contains j:=by
 rw[qT,decide_eq_true_iff,Ct,bE];exact⟨λ⟨a,h,e⟩=>(show a=j by omega) ▸ h,λh=>⟨j,h,rfl⟩⟩
theorem cE1{k:Nat}(h:(f9 (av (G.map f)) (aL o G))[k]?=some d):∃hk:k<G.length,d=.tup [.int ((f G[k]:Nat):Int),.lst o (av G[k])]:=by
 unfold f9 aL at h;rw[cj,zP,cy,cy,cy]at h;by_cases hk:k<G.length
 ·rw[aV hk]at h;exact⟨hk,(dr h).symm⟩
 ·rw[gu (by omega)]at h;cases h
theorem P8(a:α->Nat)(b:α->Nat):∀(l:List α) (x:List Nat),(l.foldl (λx z=>x.set (a z) (b z)) x).length=x.length
 | [],_=>rfl
 | z::l,x=>by rw[oO,P8 a b l,iU]
end L3
namespace L2
open PySem PySem.Spec PyProof.Rows
theorem bX6{s:Shared}{cl:List (Str × Addr)}
  (hQ:Q (newEnv scope s.heap.objs.size globals (cellsFrom (s.heap.objs.size+1) scope.names cl) qual none .none (some env) bi) { s with heap:=pushCells (s.heap.push { cls:=.type "dict",data:=.dict #[] }) scope.names }) :
  wpAny M A (newFunctionEnv scope globals cl [] qual none .none (some env) bi) Q E s:=by
 simp only[newFunctionEnv,Option.isSome_some,if_true];refine wpAny_bind (wpAny_alloc (wpAny_bind (wpAny_layCells _ (λname kind cells=>by cases e:kind==Fz<;>simp[e]) _ _ _ _ ?_)));rw[List.forIn_nil];refine wpAny_bind (wpAny_pure (wpAny_pure ?_));have z:({ s with heap:=s.heap.push { cls:=.type "dict",data:=.dict #[] } }:Shared).heap.objs.size=s.heap.objs.size+1:=tJ ..;rw[z];exact hQ
theorem Bl:∀(ns:List (Str × NameKind)) (n:Nat) (acc:List (Str × Addr)) (y:Str) (c:Addr),(cellsFrom n ns acc).lookup y=some c->(n<=c/\(y,Fz)∈ns)\/acc.lookup y=some c
 | [],_,_,_,_,h=>.inr h
 | (z,k)::r,n,acc,y,c,h=>by
  unfold cellsFrom at h;split at h
  ·rename_i hk;rcases Bl r (n+1) _ y c h with⟨h1,h2⟩ | h1
   ·exact .inl ⟨by omega,iB _ h2⟩
   ·rw[iC]at h1
    cases q:y==z with
    | true =>
     rw[q]at h1;cases h1;exact .inl ⟨bR _,by rw[eq_of_beq q,eq_of_beq hk];exact ke⟩
    | false=>rw[q]at h1;exact .inr h1
  ·rcases Bl r n acc y c h with⟨h1,h2⟩ | h1
   ·exact .inl ⟨h1,iB _ h2⟩
   ·exact .inr h1
theorem Io:∀(ns:List (Str × NameKind)) (n:Nat) (acc:List (Str × Addr)),(∀y z c,acc.lookup y=some c->acc.lookup z=some c->y=z)->(∀y c,acc.lookup y=some c->c<n) ->
  ∀y z c,(cellsFrom n ns acc).lookup y=some c->(cellsFrom n ns acc).lookup z=some c->y=z
 | [],_,_,i,_,y,z,c,h1,h2=>i y z c h1 h2
 | (u,k)::r,n,acc,i,b,y,z,c,h1,h2=>by
  unfold cellsFrom at h1 h2;split at h1
  ·rw[if_pos (by assumption)]at h2;refine Io r (n+1) ((u,n)::acc) (λy z c e1 e2=>?_) (λy c e=>?_) y z c h1 h2
   ·rw[iC]at e1 e2
    cases q1:y==u with
    | true =>
     rw[q1]at e1;cases e1
     cases q2:z==u with
     | true=>rw[eq_of_beq q1,eq_of_beq q2]
     | false=>rw[q2]at e2;exact absurd (b _ _ e2) (g7 _)
    | false =>
     rw[q1]at e1
     cases q2:z==u with
     | true=>rw[q2]at e2;cases e2;exact absurd (b _ _ e1) (g7 _)
     | false=>rw[q2]at e2;exact i y z c e1 e2
   ·rw[iC]at e
    cases q:y==u with
    | true=>rw[q]at e;cases e;exact Cd _
    | false=>rw[q]at e;exact LA (b _ _ e)
  ·rw[if_neg (by assumption)]at h2;exact Io r n acc i b y z c h1 h2
theorem Ip:∀(ns:List (Str × NameKind)) (n:Nat) (acc:List (Str × Addr)) (y:Str) (c:Addr),(y,Fz)∈ns->(cellsFrom n ns acc).lookup y=some c->n<=c
 | [],_,_,_,_,m,_=>nomatch m
 | (z,k)::r,n,acc,y,c,m,h=>by
  unfold cellsFrom at h;split at h
  ·rename_i hk;rcases cO.mp m with e | m
   ·have e1:y=z:=(Prod.mk.inj e).1;rcases Bl r (n+1) _ y c h with⟨h1,_⟩ | h1
    ·exact Cu h1
    ·rw[iC,e1,beq_self_eq_true]at h1;exact Cc (dr h1)
   ·exact Cu (Ip r (n+1) _ y c m h)
  ·rename_i hk;rcases cO.mp m with e | m
   ·cases e;exact absurd rfl hk
   ·exact Ip r n acc y c m h
def dH(X:Cx)(scope:Scope)(N:List Str)(cl:List (Str × Addr))(C:Addr)(s:Shared)(H:Hp)(fp:List Addr):Cx :=
 { CW X scope N (cellsFrom (C+1) scope.names cl) C s H fp with fn:=λy=>scope.names.contains (y,Fz) }
section
variable{X:Cx}{scope:Scope}{cl:List (Str × Addr)}
theorem cm6{s:Shared}(I:Inv X pins σ H s)(ia:scope.kind=.function)(hC:s.heap.objs.size<=C)
  (fF:∀y c,cl.lookup y=some c->X.env.cells.lookup y=some c) (dI4:∀y,((relabel scope X.env).names.lookup y=some .cell\/(relabel scope X.env).names.lookup y=some .free)->∃c,(cellsFrom (C+1) scope.names cl).lookup y=some c)
  (hf:∀b∈fp,jR X pins H b) (ho:∀b∈fp,∃o,s.heap.get? b=some o/\∀v,o.data≠.cell v) (N:List Str):(dH X scope N cl C s H fp).Ok where
 mod:=I.ok.mod
 kind:=ia
 glob:=I.ok.glob
 blt:=I.ok.blt
 above:=hC
 inj:=Io scope.names (C+1) cl (λy z c h1 h2=>I.ok.inj y z c (fF _ _ h1) (fF _ _ h2)) λy c e=>by
  obtain⟨v,o,ho,_⟩:=I.cell y c (fF y c e);exact Nat.lt_succ_of_le (tG (cY (bM ho) hC))
 has:=dI4
 oY:=λy c h e=>ff hC (Cu (Ip _ _ _ y c (Ct.mp h) e))
 hd:=I.ok.hd
 frames:=I.ok.frames
 tY:=.inl rfl
 tZ:=λb hb=>⟨by
  obtain⟨o,e,_⟩:=ho b hb;exact eI (cY (bM e) hC),λy c e z=>by
  rcases Bl _ _ _ y c e with⟨h1,_⟩ | h1
  ·obtain⟨o,e,_⟩:=ho b hb;rw[z]at h1;exact absurd (cY (bM e) (ff hC (Cu h1))) (g7 _)
  ·exact(hf b hb).2.2.2.2.1 y c (fF _ _ h1) z⟩
 bs:=I.bs
 jO:=ff I.ok.jO I.sz
 q0:=λb o e hb=>by
  rcases(hf b hb).2.2.2.1 with z | z
  ·exact I.ok.q0 b o e z
  ·exact absurd (cY (bM (I.ok.bs b o e).1) z) (g7 _)
 q8:=λb hb z=>(cO.mp (I.z4 b z)).elim (hf b hb).2.1 (hf b hb).2.2.1
 gF:=I.stack
 jP:=I.CC
end
theorem Iq:∀(ns:List (Str × NameKind)) (h:Heap) (acc:List (Str × Addr)) (y:Str) (c:Addr),(cellsFrom h.objs.size ns acc).lookup y=some c->(∃o,(pushCells h ns).get? c=some o/\o.data=.cell none)\/acc.lookup y=some c
 | [],_,_,_,_,e=>.inr e
 | (z,k)::r,h,acc,y,c,e=>by
  unfold cellsFrom at e;unfold pushCells;split at e
  ·rename_i hk;rw[if_pos hk];rw[<-tJ h { cls:=.type "cell",data:=.cell none }]at e;rcases Iq r _ _ y c e with h1 | h1
   ·exact .inl h1
   ·rw[iC]at h1
    cases q:y==z with
    | true =>
     rw[q]at h1;cases h1;exact .inl ⟨_,pushCells_keeps _ _ _ _ (g8 _ rfl),rfl⟩
    | false=>rw[q]at h1;exact .inr h1
  ·rename_i hk;rw[if_neg hk];exact Iq r h acc y c e
section
variable{X:Cx}{elt iter tg:Expr}{pos:Pos}{ifs:List Expr}{scope:Scope}{cl:List (Str × Addr)}{wi:TI}{tt:TT}{te:TE}{g:TG}
theorem P9(aE:List (Str × Nat))(bF:List Str)(hc:X.calm=true)(hi:PI X tg iter wi)
  (hg:∀C s H fp,PG (dH X scope (aE.map (·.1)++bF) cl C s H fp) tg g)
  (ht:∀C s H fp,mE (dH X scope (aE.map (·.1)++bF) cl C s H fp) ifs tt) (he:∀C s H fp,PE (dH X scope (aE.map (·.1)++bF) cl C s H fp) elt te)
  (kO:closureFor scope X.env=pure cl) (kP:mF X cl) (kQ:∀C:Addr,mG (cellsFrom (C+1) scope.names cl) (relabel scope X.env).names) (kR:∀C:Addr,mD X scope (cellsFrom (C+1) scope.names cl) aE)
  (ia:scope.kind=.function) (kS:∀y∈scope.names,y.2=.local->scope.names.lookup y.1=some .local)
  (hs:∀x,foldedSetIterable iter X.env x=pure x:=by intro _;rfl) {s:Shared} (I:Inv X pins σ H s) (h:CY wi aE bF.length g tt te σ H Q)
  (dI5:∀(s':Shared) (H':Hp) (C Da:Addr) (m:Str->Option Value),Inv X pins σ H' s'->s'.heap.Ns C m->H' C=none->C≠X.env.locals->X.cK.heap.objs.size<=C->(∀x c,X.env.cells.lookup x=some c->c≠C)->(∀p∈X.pn++pins,p.1≠C)->C ∉ X.fs->Q (.ref Da) H' ->
   compPost (model X.prog X.w) X.A X.xe use Rf (.ref Da) C (.ok .next) s') :
  wpAny (model X.prog X.w) X.A (comprehension (.ListComp elt [⟨tg,iter,ifs,0⟩] scope pos) scope X.env bK (newList []) false (eval iter X.env) use) Rf X.xe s:=by
 have fF:=kP.all;refine wpAny_comprehension_free (use:=use) rfl hs kO ia kS (aU (hi pins s σ H _ I h) λv s1 h1=>aU h1 λFU s2 h2=>?_);obtain⟨it,fp,tn,J,H2,e,I2,T,Ad,f2,q⟩:=h2;subst e;refine wpAny_newList ?_;refine bX6 ?_;have hD:H2 s2.heap.objs.size=none:=I2.aH.fresh (bR _);obtain⟨W,⟨m0,w0⟩,turn⟩:=q s2.heap.objs.size hD;generalize Ir:s2.heap.push { cls:=.type "list",data:=.seq ([]:List Value).toArray }=g0 at ⊢;have hCs:g0.objs.size=s2.heap.objs.size+1:=by rw[<-Ir,tJ]
 have hDC:s2.heap.objs.size≠g0.objs.size:=by omega
 have hle:s2.heap.objs.size<=g0.objs.size:=by omega
 have xt:∀b o,s2.heap.get? b=some o->b≠g0.objs.size:=λb o e=>eI (cY (bM e) hle);obtain⟨g1,DT⟩:∃g1,g1=pushCells (g0.push { cls:=.type "dict",data:=.dict #[] }) scope.names:=⟨_,rfl⟩;have ns1:g1.Ns g0.objs.size (λ_=>none):=by rw[DT];exact(Heap.Ns.new g0 (.type "dict")).keeps (pushCells_keeps _ _)
 have Qa:∀b o,g0.get? b=some o->g1.get? b=some o:=λb o e=>by rw[DT];exact pushCells_keeps _ _ b o (eC _ e)
 have old:∀b o,s2.heap.get? b=some o->g1.get? b=some o:=λb o e=>Qa b o (Ir ▸ eC _ e);rw[<-DT];have hDg:g1.get? s2.heap.objs.size=some { cls:=.type "list",data:=.seq ([]:List Value).toArray }:=Qa _ _ (Ir ▸ g8 _ rfl);have Qb:∀b∈fp,∃o,s2.heap.get? b=some o/\∀v,o.data≠.cell v:=T.obj _ _ Ad;have DU:=cm6 (scope:=scope) (cl:=cl) (C:=g0.objs.size) I2 ia hle fF (kQ g0.objs.size).all f2 Qb (aE.map (·.1)++bF);have I4:Inv (dH X scope (aE.map (·.1)++bF) cl g0.objs.size s2 H2 fp) [] (iY aE bF.length σ) (upd H2 s2.heap.objs.size (.lst [])) { s2 with heap:=g1 }:=by
  refine⟨DU,rfl,I2.bare,Un.laid old (bR _) hD,⟨_,ns1,λi y v h1 h2 h3=>?_⟩,λy c e=>?_,?_,λy c e=>?_,λp hp=>absurd hp (by simp[dH,CW]),I2.aH.laid old (bR _) ⟨iT _,[],0,.nil,hDg⟩,by simp[iY,dH,CW]⟩
  ·by_cases Iu:i<aE.length
   case neg =>
    have kA:((aE.map λp=>(σ[p.2]?).getD none)++aM bF.length none)[i]?=some (some v):=h2;rw[nB (by simpa using Iu),nC]at kA;split at kA<;>cases kA
   case pos =>
    have lK:(aE.map (·.1))[i]?=some y:=by
     have z:(aE.map (·.1)++bF)[i]?=some y:=h1
     rwa [tL (by simpa using Iu)]at z
    have kA:(aE.map λp=>(σ[p.2]?).getD none)[i]?=some (some v):=by
     have z:((aE.map λp=>(σ[p.2]?).getD none)++aM bF.length none)[i]?=some (some v):=h2
     rwa [tL (by simpa using Iu)]at z
    rw[cy]at lK kA
    cases hj:aE[i]? with
    | none=>rw[hj]at lK;cases lK
    | some p =>
     rw[hj]at lK kA;have ey:p.1=y:=dr lK;have ev:(σ[p.2]?).getD none=some v:=dr kA;obtain⟨hN,hk,Qc,c,e1,e2⟩:=(kR g0.objs.size).at p (w4 hj);obtain⟨m,hn,hl⟩:=I2.loc;have es:σ[p.2]?=some (some v):=by
      cases z:σ[p.2]? with
      | none=>rw[z]at ev;cases ev
      | some o=>rw[z]at ev;exact congrArg some ev
     obtain⟨u,ru,lk⟩:=hl p.2 p.1 v hN es (hk.elim (λz=>.inr (.inl z)) λz=>.inr (.inr z));refine⟨u,ru,?_⟩;rcases lk with⟨lk,_⟩ | ⟨_,c',e3,ic⟩
     ·rcases hk with hk | hk
      ·have:=hk.symm.trans lk;cases this
      ·have:=hk.symm.trans lk;cases this
     ·rw[e2]at e3;cases e3;subst ey;obtain⟨oc,iV,HJ⟩:=ic;exact .inr ⟨Qc,c,e1,oc,old _ _ iV,HJ⟩
  ·rcases Iq _ _ _ y c (show(cellsFrom (g0.push { cls:=.type "dict",data:=.dict #[] }).objs.size scope.names cl).lookup y=some c by rw[tJ];exact e)with h1 | h1
   ·rw[<-DT]at h1;exact⟨none,h1⟩
   ·obtain⟨v,o,ho,hd⟩:=I2.cell y c (fF y c h1);exact⟨v,o,old _ _ ho,hd⟩
  ·show upd H2 _ _ g0.objs.size=none;rw[aZ (fg hDC)];exact I2.aH.fresh hle
  ·rcases Bl _ _ _ y c e with⟨h1,_⟩ | h1
   ·rw[aZ (Le (zE hle h1))];exact I2.aH.fresh (ff hle (Cu h1))
   ·obtain⟨v,o,ho,hd⟩:=I2.cell y c (fF y c h1);rw[aZ (eI (bM ho))];exact I2.fh y c (fF y c h1)
 have fin:∀(s':Shared) (H':Hp) (aJ:L2.St),Inv (dH X scope (aE.map (·.1)++bF) cl g0.objs.size s2 H2 fp) [] aJ H' s'->Q (.ref s2.heap.objs.size) H' ->
   compPost (model X.prog X.w) X.A X.xe use Rf (.ref s2.heap.objs.size) g0.objs.size (.ok .next) s':=by
  intro s' H' aJ I' q';obtain⟨m,hn,_⟩:=I'.loc;have u:=I'.base;have Iw:H' g0.objs.size=none:=I'.free;have IX:Inv X pins σ H' s':=I2.L6 (s':=s') (ch:=fp) I'.os ⟨u.keep,u.slot,u.free,u.there,u.iE,u.hJ,u.gv⟩ I'.aH I'.bare λb hb=>by
   obtain⟨_,y1,y2,y3,y4,y5⟩:=f2 b hb;exact⟨y3,y1,y4,y5⟩
  have Qe:∀b,(∃o,s2.heap.get? b=some o)->b≠g0.objs.size:=λb ⟨o,e⟩=>xt b o e;refine dI5 s' H' g0.objs.size s2.heap.objs.size m IX hn Iw (λz=>?_) (ff I2.sz hle) (λx c e z=>?_) (λp hp z=>?_) (λz=>?_) q'
  ·have h0:X.env.locals<s2.heap.objs.size:=I2.lt;rw[<-z]at h0;exact g7 _ (cY h0 hle)
  ·obtain⟨v,o,ho,_⟩:=I2.cell x c e;exact Qe c ⟨o,ho⟩ z
  ·exact Qe p.1 ⟨_,(I2.pin p hp).1⟩ z
  ·exact I2.LW hle z
 have Iy:∀(H':Hp),(∀b∈fp,H' b=none)->∀b∈fp,jR (dH X scope (aE.map (·.1)++bF) cl g0.objs.size s2 H2 fp) [] H' b:=λH' hn b hb =>
  ⟨hn b hb,(DU.tZ b hb).1,DU.q8 b hb,.inl hb,(DU.tZ b hb).2,λp hp=>absurd hp (by simp[dH,CW])⟩
 have loop:codeAny (model X.prog X.w) X.A (.compLoop (.ListComp elt [⟨tg,iter,ifs,0⟩] scope pos) 0 (.ref it) (.ref s2.heap.objs.size) (compEnvC scope (cellsFrom (g0.objs.size+1) scope.names cl) g0.objs.size X.env))
   (compPost (model X.prog X.w) X.A X.xe use Rf (.ref s2.heap.objs.size) g0.objs.size) { s2 with heap:=g1 }:=by
  refine bH5 (λn s'=>∃i acc H',Inv (dH X scope (aE.map (·.1)++bF) cl g0.objs.size s2 H2 fp) [] (iY aE bF.length σ) H' s'/\tn i s'.heap/\(∀b∈fp,H' b=none)/\W i n acc H') ?_ m0
   ⟨0,[],_,I4,T.keep _ _ _ Ad λb hb o e=>old b o e,λb hb=>?_,w0⟩
  ·rintro n s' ⟨i,acc,H',I',lF,Qf,w'⟩;obtain⟨G5,⟨stop,qn⟩ | ⟨go,step⟩⟩:=turn i n acc H' w'
   ·refine aU (T.done (dH X scope (aE.map (·.1)++bF) cl g0.objs.size s2 H2 fp) rfl rfl rfl hc i [] s' _ H' (λ_ _=>False) I' (Iy H' Qf) lF stop) λr t1 zz=>?_;obtain⟨hr,I1⟩:=zz;subst hr;exact fin _ _ _ I1 qn
   ·refine aU (T.item (dH X scope (aE.map (·.1)++bF) cl g0.objs.size s2 H2 fp) rfl rfl rfl hc i [] s' _ H' (λ_ _=>False) I' (Iy H' Qf) lF go) λr t1 zz=>?_;obtain⟨u,hr,h4⟩:=zz;subst hr;refine aU h4 λ_ t2 zz=>?_;obtain⟨x5,H5,I5,r5,y5,t9,FY⟩:=zz;obtain⟨Dc,st6⟩:=step x5 H5 y5;have FZ:=I5.pinned (Iy H5 FY) (T.obj _ _ t9);refine aU (hg _ _ _ _ _ t2 _ H5 x5 u _ FZ r5 st6) λ_ t3 zz=>?_;obtain⟨CN,H6,I6,⟨dJ1,dJ2⟩,st7⟩:=zz;have back:∀(s7:Shared) (H7:Hp) (Iz:List V) (m7:Nat),Inv (dH X scope (aE.map (·.1)++bF) cl g0.objs.size s2 H2 fp) ([]++Ab fp t2.heap) CN H7 s7->W (i+1) m7 Iz H7 ->
      ∃i acc H',Inv (dH X scope (aE.map (·.1)++bF) cl g0.objs.size s2 H2 fp) [] (iY aE bF.length σ) H' s7/\tn i s7.heap/\(∀b∈fp,H' b=none)/\W i m7 acc H':=λs7 H7 Iz m7 I7 w7 =>
     ⟨i+1,Iz,H7,(I7.Ac).weak dJ1.symm λj v z=>by
       by_cases hj:j<aE.length
       ·rw[dJ2 j hj];exact z
       ·have z':((aE.map λp=>(σ[p.2]?).getD none)++aM bF.length none)[j]?=some (some v):=z;rw[nB (by simpa using hj),nC]at z';split at z'<;>(cases z'),
      T.keep _ _ _ t9 λb hb o e=>(I7.pin (b,o) (fN _ (fN _ (CM hb e)))).1,λb hb=>by
       obtain⟨o,e,d⟩:=T.obj _ _ t9 b hb;exact(I7.pin (b,o) (fN _ (fN _ (CM hb e)))).2.1,w7⟩
    refine aU (ht _ _ _ _ _ t3 _ H6 _ I6 st7) λok t4 zz=>?_;obtain⟨H7,I7,hD7,q7⟩:=zz
    cases ok with
    | false =>
     obtain⟨m',hm,w7⟩:=(show ∃m',m'<n/\W (i+1) m' acc H7 from q7);exact⟨m',hm,back t4 H7 acc m' I7 w7⟩
    | true =>
     refine aU (he _ _ _ _ _ t4 _ H7 _ I7 q7) λy t5 zz=>?_;obtain⟨v8,H8,I8,r8,hD8,hl8,m',hm,w8⟩:=zz;exact aU (MV _ t5 _ H8 (.ref s2.heap.objs.size) [v8] (.ref s2.heap.objs.size) [y] (λ_ H9=>H9=upd H8 s2.heap.objs.size (.lst (acc++[v8]))) I8 rfl (.cons r8 .nil) ⟨_,acc,v8,rfl,rfl,hD8,hl8,rfl⟩) λ_ t6 zz=>by
      obtain⟨_,H9,I9,_,e9⟩:=zz;subst e9;exact⟨m',hm,back t6 _ _ m' I9 w8⟩
  ·obtain⟨o,e,_⟩:=Qb b hb;rw[aZ (eI (bM e))];exact(f2 b hb).1
 exact codeAny_compStart_list loop (T.self _ 0 _ _ _ (T.keep _ _ _ Ad λb hb o e=>old b o e) loop)
theorem ch1(aE:List (Str × Nat))(bF:List Str)(hc:X.calm=true)(hi:PI X tg iter wi)
  (hg:∀C s H fp,PG (dH X scope (aE.map (·.1)++bF) cl C s H fp) tg g)
  (ht:∀C s H fp,mE (dH X scope (aE.map (·.1)++bF) cl C s H fp) ifs tt) (he:∀C s H fp,PE (dH X scope (aE.map (·.1)++bF) cl C s H fp) elt te)
  (kO:closureFor scope X.env=pure cl) (kP:mF X cl) (kQ:∀C:Addr,mG (cellsFrom (C+1) scope.names cl) (relabel scope X.env).names) (kR:∀C:Addr,mD X scope (cellsFrom (C+1) scope.names cl) aE)
  (ia:scope.kind=.function) (kS:∀y∈scope.names,y.2=.local->scope.names.lookup y.1=some .local)
  (hs:∀x,foldedSetIterable iter X.env x=pure x:=by intro _;rfl):PE X (.ListComp elt [⟨tg,iter,ifs,0⟩] scope pos) (CY wi aE bF.length g tt te):=by
 intro pins s σ H Q I h;rw[eval_ListComp];refine P9 aE bF hc hi hg ht he kO kP kQ kR ia kS hs I h λs' H' C Da m IX hn hC hL h1 h2 h3 h4 q'=>?_;exact⟨m,hn,λh' sb=>⟨.ref Da,H',IX.turned (t':=s'.toks) (λb o hb e=>sb.extBut b o hb e) hC hL (.inr h1) h2 h3,rfl,q'⟩⟩
theorem Qg{x:Str}(hN:X.N.Nodup)(iO:X.N[i]?=some x)(hx:Loc X.env.scope x)(hf:X.fn x=true\/X.env.scope.names.lookup x=some .local)(aE:List (Str × Nat))(bF:List Str)(hc:X.calm=true)(hi:PI X tg iter wi)
  (hg:∀C s H fp,PG (dH X scope (aE.map (·.1)++bF) cl C s H fp) tg g)
  (ht:∀C s H fp,mE (dH X scope (aE.map (·.1)++bF) cl C s H fp) ifs tt) (he:∀C s H fp,PE (dH X scope (aE.map (·.1)++bF) cl C s H fp) elt te)
  (kO:closureFor scope X.env=pure cl) (kP:mF X cl) (kQ:∀C:Addr,mG (cellsFrom (C+1) scope.names cl) (relabel scope X.env).names) (kR:∀C:Addr,mD X scope (cellsFrom (C+1) scope.names cl) aE)
  (ia:scope.kind=.function) (kS:∀y∈scope.names,y.2=.local->scope.names.lookup y.1=some .local)
  (pZ:swapsWith (.ListComp elt [⟨tg,iter,ifs,0⟩] scope pos) (some (.Name x pos')) apos.line X.env=pure true) (hs:∀x,foldedSetIterable iter X.env x=pure x:=by intro _;rfl):PS X (.Assign [.Name x pos'] (.ListComp elt [⟨tg,iter,ifs,0⟩] scope pos) apos) (CL (CY wi aE bF.length g tt te) (CJ i)):=by
 intro pins s σ H D I h;rw[exec_Assign_Name_used x pos' _ apos pZ];refine wpAny_bind (wpAny_standAt (wpAny_bind ?_));have hh:CY wi aE bF.length g tt te σ H λv H1=>D.nx (σ.set i (some v)) H1:=h;show wpAny _ _ (comprehension (.ListComp elt [⟨tg,iter,ifs,0⟩] scope pos) scope X.env (firstIterPos [⟨tg,iter,ifs,0⟩] pos) (newList []) false (eval iter X.env) (some (assign (.Name x pos') X.env)) >>= λ_=>pure ()) _ _ _;refine wpAny_bind (P9 (use:=some (assign (.Name x pos') X.env)) (pos:=pos) aE bF hc hi hg ht he kO kP kQ kR ia kS hs I hh λs' H' C Da m IX hn hC hL h1 h2 h3 h4 q'=>?_);obtain⟨oC,es,ep,hoC,Qh,rest⟩:=id hn;have IP:Inv X (pins++[(C,oC)]) σ H' s':=⟨IX.ok,IX.os,IX.bare,IX.base,IX.loc,IX.cell,IX.free,IX.fh,λp hp=>by
  rcases cZ.mp hp with z | z
  ·exact IX.pin p (gE _ z)
  ·rcases cZ.mp z with z | z
   ·exact IX.pin p (fN _ z)
   ·obtain rfl:=eT.mp z;exact⟨hoC,hC,hL,h4,λv w=>by rw[Qh]at w;cases w⟩,IX.aH,IX.len⟩
 refine aU (CK (X:=X) hN iO hx hf _ s' σ H' (.ref Da) (.ref Da) (λku H2=>ku=σ.set i (some (.ref Da))/\H2=H') IP rfl ⟨rfl,rfl⟩) λ_ s2 zz=>?_;obtain⟨ku,H2,I2,e1,e2⟩:=zz;subst e1 e2;have pC:=I2.pin (C,oC) (fN _ (fN _ (by simp)));refine⟨m,⟨oC,es,ep,pC.1,Qh,rest⟩,λh' sb=>wpAny_pure (wpAny_pure ?_)⟩;exact⟨σ.set i (some (.ref Da)),H2,(I2.Ac).turned (t':=s2.toks) (λb o hb e=>sb.extBut b o hb e) hC hL (.inr h1) h2 h3,q'⟩
end
end L2
namespace L3
open PySem L2 PySem.Spec PyProof.Rows
section
variable{X:Cx}{elt iter tg:Expr}{pos:Pos}{ifs:List Expr}{scope:Scope}{cl:List (Str × Addr)}{ti:js}{tt:fB}{te:aK}{g:jX}
theorem cS(aE:List (Str × Nat))(bF:List Str)(hc:X.calm=true)(hi:PI X tg iter (lI ti))
  (hg:∀C s H fp,PG (dH X scope (aE.map (·.1)++bF) cl C s H fp) tg (lG aE.length g))
  (ht:∀C s H fp,mE (dH X scope (aE.map (·.1)++bF) cl C s H fp) ifs (lT tt)) (he:∀C s H fp,PE (dH X scope (aE.map (·.1)++bF) cl C s H fp) elt (lE te))
  (kO:closureFor scope X.env=pure cl) (kP:mF X cl:=by repeat' (first | exact trivial | refine⟨rfl,?_⟩)) (kQ:∀C:Addr,mG (cellsFrom (C+1) scope.names cl) (relabel scope X.env).names:=by intro _;repeat' (first | exact trivial | refine⟨.inl rfl,?_⟩ | refine⟨.inr (.inl rfl),?_⟩ | refine⟨.inr (.inr ⟨_,rfl⟩),?_⟩)) (kR:∀C:Addr,mD X scope (cellsFrom (C+1) scope.names cl) aE:=by intro _;repeat' (first | exact trivial | refine⟨⟨rfl,.inl rfl,.inl rfl,_,rfl,rfl⟩,?_⟩))
  (ia:scope.kind=.function:=by rfl) (kS:∀y∈scope.names,y.2=.local->scope.names.lookup y.1=some .local:=by decide +kernel)
  (hs:∀x,foldedSetIterable iter X.env x=pure x:=by intro _;rfl):PE X (.ListComp elt [⟨tg,iter,ifs,0⟩] scope pos) (lE (mQ ti aE bF.length g tt te)) :=
 df (ch1 aE bF hc hi hg ht he kO kP kQ kR ia kS hs) λσ H Q zq=>by
 obtain⟨B,F,δ,ts,Qd,c,q,k⟩:=zq;exact⟨B,F,δ,ts,_,c,q,λsh xs aq J F1 H1 hq f1 h1 c1 pP uL=>by
  obtain⟨p,f,hx,dz,hlen,hQ⟩:=hq;exact G4 c1 pP uL p f hx dz hlen hQ λd ag v F' H' hd hf hs c'=>k d ag v F' H' hd (f1.trans hf) (h1.trans hs) c'⟩
theorem yU{x:Str}(hN:X.N.Nodup)(iO:X.N[i]?=some x)(hx:L2.Loc X.env.scope x)(aE:List (Str × Nat))(bF:List Str)(hc:X.calm=true)(hi:PI X tg iter (lI ti))
  (hg:∀C s H fp,PG (dH X scope (aE.map (·.1)++bF) cl C s H fp) tg (lG aE.length g))
  (ht:∀C s H fp,mE (dH X scope (aE.map (·.1)++bF) cl C s H fp) ifs (lT tt)) (he:∀C s H fp,PE (dH X scope (aE.map (·.1)++bF) cl C s H fp) elt (lE te))
  (kO:closureFor scope X.env=pure cl) (kP:mF X cl:=by repeat' (first | exact trivial | refine⟨rfl,?_⟩)) (kQ:∀C:Addr,mG (cellsFrom (C+1) scope.names cl) (relabel scope X.env).names:=by intro _;repeat' (first | exact trivial | refine⟨.inl rfl,?_⟩ | refine⟨.inr (.inl rfl),?_⟩ | refine⟨.inr (.inr ⟨_,rfl⟩),?_⟩)) (kR:∀C:Addr,mD X scope (cellsFrom (C+1) scope.names cl) aE:=by intro _;repeat' (first | exact trivial | refine⟨⟨rfl,.inl rfl,.inl rfl,_,rfl,rfl⟩,?_⟩))
  (ia:scope.kind=.function:=by rfl) (kS:∀y∈scope.names,y.2=.local->scope.names.lookup y.1=some .local:=by decide +kernel)
  (pZ:swapsWith (.ListComp elt [⟨tg,iter,ifs,0⟩] scope pos) (some (.Name x pos')) apos.line X.env=pure true:=by rfl) (hf:X.fn x=true\/X.env.scope.names.lookup x=some .local:=by first | exact .inl rfl | exact .inr rfl)
  (hs:∀x,foldedSetIterable iter X.env x=pure x:=by intro _;rfl):PS X (.Assign [.Name x pos'] (.ListComp elt [⟨tg,iter,ifs,0⟩] scope pos) apos) (lS X (mP i (mQ ti aE bF.length g tt te))) :=
 jq (Qg hN iO hx hf aE bF hc hi hg ht he kO kP kQ kR ia kS pZ hs) λEn σ H zq=>by
 obtain⟨B,F,δ,Dd,c,q,k1,k2,k3,k4⟩:=zq;exact⟨B,F,δ,[],_,c,q,λsh xs aq J F1 H1 hq f1 h1 c1 pP uL=>by
  obtain⟨p,f,hx,dz,hlen,hQ⟩:=hq;exact G4 (Qd:=λd ag=>Dd.nx (ag.set i (some d))) c1 pP uL p f hx dz hlen hQ λd ag v F' H' hd hf hs c'=>k1 _ _ F' H' hd (c'.store i)⟩
end
end L3
namespace L3
open PySem L2 Mf
theorem lo1(hm:m∈aD):1<af m:=by have:=(bX hm).lo;omega
inductive Sp(N:Nat)(p q:Nat->Nat->Nat)(S:(Nat->Nat)->Prop):(Nat->Nat)->Prop
 | mem {f:Nat->Nat}:S f->Sp N p q S f
 | zero:Sp N p q S λ_=>0
 | add {f g:Nat->Nat}:Sp N p q S f->Sp N p q S g->Sp N p q S λk=>p (f k) (g k)
 | mul {f:Nat->Nat} (c:Nat):c<N->Sp N p q S f->Sp N p q S λk=>q c (f k)
theorem Sp.trans{S S':(Nat->Nat)->Prop}(h:∀f,S f->Sp N p q S' f)(s:Sp N p q S f):Sp N p q S' f:=by
 induction s with
 | mem a=>exact h _ a
 | zero=>exact .zero
 | add _ _ a b=>exact .add a b
 | mul c hc _ a=>exact .mul c hc a
def Gn(T:List (List Nat))(f:Nat->Nat):Prop:=∃r∈T,f=cf r
def cq(m:Bool × Nat)(T:List (List Nat))(f:Nat->Nat):Prop:=Sp (af m) (gp m) (gm m) (Gn T) f
theorem cq.of{r:List Nat}(h:r∈T):cq m T (cf r):=.mem ⟨r,h,rfl⟩
theorem cj2{m:Bool × Nat}(hm:m∈aD){a:Nat}(ha:a<af m){f f' l:Nat->Nat}(hf':∀k,f' k<af m)(hl:∀k,l k<af m)(h:∀k,gp m (f' k) (gm m a (l k))=f k):∃b,b<af m/\f'=λk=>gp m (f k) (gm m b (l k)):=by
 have r:=rg hm;obtain⟨b,hb,e⟩:=r.ng ha;refine⟨b,hb,funext λk=>?_⟩;rw[<-h k,r.pa,r.mc a,r.mc b,<- r.dl,e,r.qz,r.z' (hf' k)]
theorem IA(hm:m∈aD){r l:List Nat}(hr:r.length=w)(hl:l.length=w)(a k:Nat):cf (dP (λx y=>bA m x (gm m a y)) r l) k=bA m (cf r k) (gm m a (cf l k)):=by
 by_cases h:k<w
 ·unfold cf;rw[aT,zP,aV (by omega),aV (by omega),aT,aV (by omega),aT,aV (by omega)];rfl
 ·rw[yR (by rw[oU];omega),yR (l:=r) (by omega),yR (l:=l) (by omega),lY m _ (cI m hm),Ij]
theorem DV(hm:m∈aD){r l:List Nat}(hr:r.length=w)(hl:l.length=w)(ar:AllLt (af m) r)(k:Nat):gp m (cf (dP (λx y=>bA m x (gm m a y)) r l) k) (gm m a (cf l k))=cf r k:=by
 rw[IA hm hr hl];exact(kL hm (gb hm ar k) (cR hm _ _)).2.2
theorem IB(hm:m∈aD){r l:List Nat}(hr:r.length=w)(hl:l.length=w)(ar:AllLt (af m) r)(a k:Nat):cf (dP (λx y=>bA m x (gm m a y)) r l) k<af m:=by
 rw[IA hm hr hl];exact(kL hm (gb hm ar k) (cR hm _ _)).2.1
theorem Qi(hm:m∈aD)(hT:RT (af m) w T)(e:kM T p=some i):∃(g:List Nat) (c:Nat),g∈T/\T.getD i []=g/\g.length=w/\AllLt (af m) g/\c<af m/\gm m c (cf g p)=1/\(eX m T i p).length=w/\AllLt (af m) (eX m T i p)/\(∀k,cf (eX m T i p) k=gm m c (cf g k))/\cf (eX m T i p) p=1/\∀k,gm m (cf g p) (cf (eX m T i p) k)=cf g k:=by
 obtain⟨hi,h1,h2⟩:=DR e;obtain⟨a,b⟩:=hT _ (eU hi);have l1:1<af m:=lo1 hm;obtain⟨c,hc,DW⟩:=PZ hm l1 (gb hm b p) h1;have ec:oB m (cf T[i] p)=c:=DQ hm hc DW;have el:eX m T i p=T[i].map (gm m c):=by unfold eX;rw[h2,<- ec];rfl
 have ek:∀k,cf (eX m T i p) k=gm m c (cf T[i] k):=λk=>by rw[el];exact cS2 hm _ _ _
 refine⟨T[i],c,eU hi,h2,a,b,hc,DW,by rw[el,bq,a],λx hx=>?_,ek,by rw[ek];exact DW,λk=>?_⟩
 ·rw[el]at hx;obtain⟨y,_,rfl⟩:=bE.mp hx;exact cR hm _ _
 ·rw[ek,<- iu (cI m hm),gj m _ c,DW,ot (gb hm b k)]
theorem Qj{s:List (List Nat) × List (List Nat)}(e:kM s.2 p=some i):i9 m s p=(iy m s.1 (eX m s.2 i p) p++[eX m s.2 i p],iy m (s.2.take i++s.2.drop (i+1)) (eX m s.2 i p) p):=by unfold i9;rw[e]
theorem Qk{s:List (List Nat) × List (List Nat)}(e:kM s.2 p=none):i9 m s p=s:=by unfold i9;rw[e]
theorem DX{α:Type}{T:List α}{i:Nat}{r:α}(h:r∈T.take i++T.drop (i+1)):r∈T:=(cZ.mp h).elim zF qX
theorem cm7{α:Type}{T:List α}{i:Nat}{r:α}(h:r∈T)(hi:i<T.length):r=T[i]\/r∈T.take i++T.drop (i+1):=by
 obtain⟨j,hj,rfl⟩:=ki h;rcases FA j i with h | h | h
 ·exact .inr (cZ.mpr (.inl (List.mem_take_iff_getElem.mpr ⟨j,by omega,rfl⟩)))
 ·subst h;exact .inl rfl
 ·exact .inr (cZ.mpr (.inr (List.mem_drop_iff_getElem.mpr ⟨j-(i+1),by omega,by congr 1;omega⟩)))
theorem bZ7{m:Bool × Nat}(hm:m∈aD){w n p:Nat}{s:List (List Nat) × List (List Nat)}(h:Bk (af m) w n s)(f:Nat->Nat):cq m (s.1++s.2) f↔cq m ((i9 m s p).1++(i9 m s p).2) f:=by
 cases e:kM s.2 p with
 | none=>rw[Qk e]
 | some i =>
  obtain⟨g,c,g1,g2,g3,g4,c1,c2,l1,l2,l3,l4,l5⟩:=Qi hm h.b e;obtain⟨hi,_,hg⟩:=DR e;rw[Qj e];generalize eX m s.2 i p=l at l1 l2 l3 l4 l5;have ll:=gb hm l2;have row:∀{T:List (List Nat)},RT (af m) w T->∀r'∈iy m T l p,∃r∈T,∃b,b<af m/\cf r'=λk=>gp m (cf r k) (gm m b (cf l k)):=λ{T} hT r' bo=>by
   obtain⟨r,hr,rfl⟩:=bE.mp bo;obtain⟨a1,a2⟩:=hT r hr;exact⟨r,hr,cj2 hm (gb hm a2 p) (IB hm a1 l1 a2 _) ll (DV hm a1 l1 a2)⟩
  have Ql:∀{T:List (List Nat)},RT (af m) w T->∀r∈T,∃r'∈iy m T l p,cf r=λk=>gp m (cf r' k) (gm m (cf r p) (cf l k)):=λ{T} hT r hr=>by
   obtain⟨a1,a2⟩:=hT r hr;exact⟨_,bE.mpr ⟨r,hr,rfl⟩,funext λk=>(DV hm a1 l1 a2 k).symm⟩
  have hB:RT (af m) w (s.2.take i++s.2.drop (i+1)):=λr hr=>h.b r (DX hr);constructor
  ·refine Sp.trans ?_;rintro f ⟨r,hr,rfl⟩;have hl:cq m ((iy m s.1 l p++[l])++iy m (s.2.take i++s.2.drop (i+1)) l p) (cf l):=cq.of (by simp);rcases cZ.mp hr with hr | hr
   ·obtain⟨r',h1,h2⟩:=Ql h.a r hr;rw[h2];exact .add (cq.of (by simp[h1])) (.mul _ (gb hm (h.a r hr).2 p) hl)
   ·rcases cm7 hr hi with e' | bo
    ·have:cf r=λk=>gm m (cf g p) (cf l k):=funext λk=>by rw[l5 k,e',<- hg,g2]
     rw[this];exact .mul _ (gb hm g4 p) hl
    ·obtain⟨r',h1,h2⟩:=Ql hB r bo;rw[h2];exact .add (cq.of (by simp[h1])) (.mul _ (gb hm (h.b r hr).2 p) hl)
  ·refine Sp.trans ?_;rintro f ⟨r,hr,rfl⟩;have hl:cq m (s.1++s.2) (cf l):=by
    have:cf l=λk=>gm m c (cf g k):=funext l3;rw[this];exact .mul _ c1 (cq.of (fN _ g1))
   rcases cZ.mp hr with hr | hr
   ·rcases cZ.mp hr with hr | hr
    ·obtain⟨r1,h1,b,hb,h2⟩:=row h.a r hr;rw[h2];exact .add (cq.of (gE _ h1)) (.mul _ hb hl)
    ·rw[eT]at hr;rw[hr];exact hl
   ·obtain⟨r1,h1,b,hb,h2⟩:=row hB r hr;rw[h2];exact .add (cq.of (fN _ (DX h1))) (.mul _ hb hl)
structure RR(w:Nat)(R:List (List Nat))(H:Nat->Nat):Prop where
 u:∀i j,i<R.length->j<R.length->cf (R.getD i []) (H j)=if i=j then 1 else 0
 z:∀i,i<R.length->∀t,t<H i->cf (R.getD i []) t=0
 i:∀i j,i<j->j<R.length->H i<H j
 l:∀i,i<R.length->H i<w
theorem sQ{α β:Type}(f:α->β){l:List α}{i:Nat}(h:i<l.length)(a:α)(b:β):(l.map f).getD i b=f (l.getD i a):=by
 rw[aT,cy,aT,aV h];rfl
theorem dR{α:Type}{l:List α}{i:Nat}(h:i<l.length)(a:α):l.getD i a∈l:=by
 rw[aT,aV h];exact eU h
theorem bN8{m:Bool × Nat}(hm:m∈aD){w n p:Nat}{s:List (List Nat) × List (List Nat)}(h:Bk (af m) w n s){H:Nat->Nat}(I:RR p s.1 H)(e2:∀r∈s.2,∀t,t<p->cf r t=0):∃H',RR (p+1) (i9 m s p).1 H'/\∀r∈(i9 m s p).2,∀t,t<p+1->cf r t=0:=by
 cases e:kM s.2 p with
 | none =>
  rw[Qk e];refine⟨H,⟨I.u,I.z,I.i,λi hi=>LA (I.l i hi)⟩,λr hr t ht=>?_⟩;rcases qY t p with h1 | h1
  ·exact e2 r hr t h1
  ·have:=ZJ.mp e r hr;have z:r.getD p 0=0:=by simpa using this
   rw[show t=p by omega];exact z
 | some i0 =>
  obtain⟨g,c,g1,g2,g3,g4,c1,c2,l1,l2,l3,l4,l5⟩:=Qi hm h.b e;rw[Qj e];generalize eX m s.2 i0 p=l at l1 l2 l3 l4 l5;have m0:=cI m hm;have lz:∀t,t<p->cf l t=0:=λt ht=>by rw[l3,e2 g g1 t ht,lY m _ m0]
  have Bo:∀{r:List Nat},r.length=w->AllLt (af m) r->(∀t,t<p->cf (dP (λx y=>bA m x (gm m (r.getD p 0) y)) r l) t=cf r t)/\cf (dP (λx y=>bA m x (gm m (r.getD p 0) y)) r l) p=0:=λ{r} a1 a2=>by
   constructor
   ·intro t ht;have:=DV hm (a:=r.getD p 0) a1 l1 a2 t;rw[lz t ht,lY m _ m0,sH (IB hm a1 l1 a2 _ _)]at this;exact this
   ·rw[IA hm a1 l1,l4];show bA m (r.getD p 0) (gm m (r.getD p 0) 1)=0;rw[ou (show r.getD p 0<af m from gb hm a2 p),Ij]
  have nl:(iy m s.1 l p).length=s.1.length:=by unfold iy;rw[bq]
  have Qm:∀i,i<s.1.length->∃r,s.1.getD i []=r/\r.length=w/\AllLt (af m) r/\(iy m s.1 l p++[l]).getD i []=dP (λx y=>bA m x (gm m (r.getD p 0) y)) r l:=λi hi=>by
   refine⟨_,rfl,(h.a _ (dR hi [])).1,(h.a _ (dR hi [])).2,?_⟩;rw[aT,tL (by omega),<- aT];exact sQ _ hi [] []
  have Qn:(iy m s.1 l p++[l]).getD s.1.length []=l:=by
   rw[aT,nB (by omega),nl,zQ];rfl
  have le:(iy m s.1 l p++[l]).length=s.1.length+1:=by rw[dO,nl];rfl
  refine⟨λi=>if i<s.1.length then H i else p,⟨λi j hi hj=>?_,λi hi t ht=>?_,λi j Bp hj=>?_,λi hi=>?_⟩,λr hr t ht=>?_⟩
  ·show cf ((iy m s.1 l p++[l]).getD i []) _=_;dsimp only at hi hj ⊢;rw[le]at hi hj;by_cases h1:i<s.1.length
   ·obtain⟨r,r1,r2,r3,r4⟩:=Qm i h1;rw[r4];by_cases h2:j<s.1.length
    ·rw[if_pos h2,(Bo r2 r3).1 _ (I.l j h2),<- r1];exact I.u i j h1 h2
    ·rw[if_neg h2,(Bo r2 r3).2,if_neg (by omega)]
   ·have e1:i=s.1.length:=by omega
    rw[e1,Qn];by_cases h2:j<s.1.length
    ·rw[if_pos h2,lz _ (I.l j h2),if_neg (by omega)]
    ·rw[if_neg h2,l4,if_pos (by omega)]
  ·dsimp only at hi ht ⊢;rw[le]at hi;by_cases h1:i<s.1.length
   ·rw[if_pos h1]at ht;obtain⟨r,r1,r2,r3,r4⟩:=Qm i h1;rw[r4,(Bo r2 r3).1 _ (by have:=I.l i h1;omega),<- r1];exact I.z i h1 t ht
   ·rw[if_neg h1]at ht;have e1:i=s.1.length:=by omega
    rw[e1,Qn];exact lz t ht
  ·dsimp only at hj ⊢;rw[le]at hj;rw[if_pos (by omega)];by_cases h2:j<s.1.length
   ·rw[if_pos h2];exact I.i i j Bp h2
   ·rw[if_neg h2];exact I.l i (by omega)
  ·dsimp only at hi ⊢;rw[le]at hi;split
   ·have:=I.l i (by omega);omega
   ·omega
  ·obtain⟨r1,DY,rfl⟩:=bE.mp hr;obtain⟨a1,a2⟩:=h.b r1 (DX DY);rcases qY t p with h1 | h1
   ·rw[(Bo a1 a2).1 t h1];exact e2 _ (DX DY) t h1
   ·rw[show t=p by omega];exact(Bo a1 a2).2
theorem Qo(hm:m∈aD)(h:RT (af m) w G):∀k,(∃H,RR k (kN m G k).1 H/\∀r∈(kN m G k).2,∀t,t<k->cf r t=0)/\∀f,cq m G f↔cq m ((kN m G k).1++(kN m G k).2) f
 | 0=>⟨⟨λ_=>0,⟨(λ_ _ h=>nomatch h),(λ_ h=>nomatch h),(λ_ _ _ h=>nomatch h),(λ_ h=>nomatch h)⟩,λr _ t ht=>nomatch ht⟩,λf=>.rfl⟩
 | k+1=>by
  obtain⟨⟨H,h1,h2⟩,h3⟩:=Qo hm h k;have D:=DS hm h k;rw[Im];exact⟨bN8 hm D h1 h2,λf=>(h3 f).trans (bZ7 hm D f)⟩
theorem nh(hm:m∈aD)(h:RT (af m) (ay G) G):(∃H,RR (ay G) (c9 m G) H)/\RT (af m) (ay G) (c9 m G)/\(c9 m G).length<=G.length/\∀f,cq m G f↔cq m (c9 m G) f:=by
 obtain⟨⟨H,h1,h2⟩,h3⟩:=Qo hm h (ay G);have D:=DS hm h (ay G);refine⟨⟨H,h1⟩,D.a,by have:=D.l;show(kN m G (ay G)).1.length<=_;omega,λf=>(h3 f).trans ⟨Sp.trans ?_,Sp.trans ?_⟩⟩
 ·rintro f ⟨r,hr,rfl⟩;rcases cZ.mp hr with hr | hr
  ·exact cq.of hr
  ·have:cf r=λ_=>0:=funext λt=>by
    rcases qY t (ay G)with h4 | h4
    ·exact h2 r hr t h4
    ·exact yR (by rw[(D.b r hr).1];exact h4)
   rw[this];exact .zero
 ·rintro f ⟨r,hr,rfl⟩;exact cq.of (gE _ hr)
theorem sR(r:Rg N p q)(hf:f j0<N):∀{n:Nat},j0<n->(∀j,j<n->j≠j0->f j=0)->sm p n f=f j0
 | 0,h,_=>nomatch h
 | n+1,h,hz=>by
  rw[sm];by_cases e:j0=n
  ·subst e;rw[iw r λj hj=>hz j (by omega) (by omega),r.z hf]
  ·rw[sR r hf (by omega) λj hj=>hz j (by omega),hz n (by omega) (by omega),r.z' hf]
theorem RR.own{m:Bool × Nat}(hm:m∈aD){w:Nat}{R:List (List Nat)}{H:Nat->Nat}(hR:RT (af m) w R)(I:RR w R H){f:Nat->Nat}(s:cq m R f):∀k,f k=sm (gp m) R.length λi=>gm m (f (H i)) (cf (R.getD i []) k):=by
 have r:=rg hm;have m0:=cI m hm
 induction s with
 | mem a =>
  intro k;obtain⟨x,hx,rfl⟩:=a;obtain⟨i,hi,rfl⟩:=ki hx;have ei:R[i]=R.getD i []:=by rw[aT,aV hi];rfl
  have one:gm m (cf R[i] (H i)) (cf (R.getD i []) k)=cf R[i] k:=by
   rw[ei,I.u i i hi hi,if_pos rfl];exact ot (gb hm (hR _ (dR hi [])).2 k)
  refine((sR r (f:=λa=>gm m (cf R[i] (H a)) (cf (R.getD a []) k)) (j0:=i) (cR hm _ _) hi λj hj hn=>?_).trans one).symm;rw[ei,I.u i j hi hj,if_neg (by omega),fH m _ m0]
 | zero=>exact λk=>(iw r λj _=>fH m _ m0).symm
 | add _ _ a b =>
  intro k;dsimp only;rw[a k,b k,<- qq r];refine dD λj _=>?_;rw[r.mc (gp m _ _),r.dl,r.mc _ (cf _ k),r.mc _ (cf _ k)]
 | mul c hc _ a =>
  intro k;dsimp only;rw[a k,<- oA r];refine dD λj _=>?_;rw[iu m0]
theorem cq.sum{m:Bool × Nat}(hm:m∈aD){w:Nat}{R:List (List Nat)}(hR:RT (af m) w R){f:Nat->Nat}(s:cq m R f):∃c:Nat->Nat,(∀i,c i<af m)/\∀k,f k=sm (gp m) R.length λi=>gm m (c i) (cf (R.getD i []) k):=by
 have r:=rg hm;have m0:=cI m hm;have l1:=lo1 hm
 induction s with
 | mem a =>
  obtain⟨x,hx,rfl⟩:=a;obtain⟨i,hi,rfl⟩:=ki hx;have ei:R[i]=R.getD i []:=by rw[aT,aV hi];rfl
  refine⟨λj=>if j=i then 1 else 0,λj=>by dsimp only;split<;>omega,λk=>?_⟩;refine((sR r (f:=λa=>gm m (if a=i then 1 else 0) (cf (R.getD a []) k)) (j0:=i) (cR hm _ _) hi λj hj hn=>?_).trans ?_).symm
  ·rw[if_neg hn,fH m _ m0]
  ·rw[if_pos rfl,ei];exact ot (gb hm (hR _ (dR hi [])).2 k)
 | zero=>exact⟨λ_=>0,λ_=>r.pos,λk=>(iw r λj _=>fH m _ m0).symm⟩
 | add _ _ a b =>
  obtain⟨c,hc,a⟩:=a;obtain⟨d,hd,b⟩:=b;refine⟨λi=>gp m (c i) (d i),λi=>r.lp (hc i) (hd i),λk=>?_⟩;dsimp only;rw[a k,b k,<- qq r];refine dD λj _=>?_;rw[r.mc (gp m _ _),r.dl,r.mc _ (cf _ k),r.mc _ (cf _ k)]
 | mul e he _ a =>
  obtain⟨c,hc,a⟩:=a;refine⟨λi=>gm m e (c i),λi=>cR hm _ _,λk=>?_⟩;dsimp only;rw[a k,<- oA r];refine dD λj _=>?_;rw[iu m0]
theorem cq.ann{m:Bool × Nat}(hm:m∈aD){R:List (List Nat)}{n:Nat}{y:Nat->Nat}(h:∀x∈R,sm (gp m) n (λj=>gm m (cf x j) (y j))=0){f:Nat->Nat}(s:cq m R f):sm (gp m) n (λj=>gm m (f j) (y j))=0:=by
 have r:=rg hm;have m0:=cI m hm
 induction s with
 | mem a=>obtain⟨x,hx,rfl⟩:=a;exact h x hx
 | zero=>exact iw r λj _=>fH m _ m0
 | @add f g _ _ a b =>
  rw[dD (g:=λj=>gp m (gm m (f j) (y j)) (gm m (g j) (y j))) λj _=>by dsimp only;rw[r.mc (gp m _ _),r.dl,r.mc (y j),r.mc (y j)],qq r,a,b,r.z r.pos]
 | @mul f e he _ a =>
  rw[dD (g:=λj=>gm m e (gm m (f j) (y j))) λj _=>iu m0 _ _ _,oA r,a,r.qz]
theorem RR.IC{m:Bool × Nat}(hm:m∈aD){w:Nat}{R:List (List Nat)}{H:Nat->Nat}(hR:RT (af m) w R)(I:RR w R H){i:Nat}(hi:i<R.length):(R.getD i []).findIdx (· != 0)=H i/\∃x∈R.getD i [],x≠0:=by
 have a:=(hR _ (dR hi [])).1;have l:=I.l i hi;have u:=I.u i i hi hi;rw[if_pos rfl]at u;have eu:(R.getD i [])[H i]'(by omega)=1:=by
  unfold cf at u;rw[aT (l:=R.getD i []),aV (by omega)]at u;exact u
 refine⟨?_,_,eU (show H i<(R.getD i []).length by omega),by rw[eu];decide⟩;rw[List.findIdx_eq (by omega)];refine⟨by rw[eu];rfl,λj hj=>?_⟩;have z:=I.z i hi j hj;unfold cf at z;rw[aT (l:=R.getD i []),aV (by omega)]at z;simpa using z
theorem Bq(ha:a.length=w)(hb:b.length=w)(h:∀k,k<w->cf a k=cf b k):a=b:=by
 refine Fv (ha.trans hb.symm) λk h1 h2=>?_;have:=h k (by omega);unfold cf at this;rw[aT,aT,aV h1,aV h2]at this;exact this
theorem DZ(f:Nat->Nat){w k:Nat}(h:k<w):cf ((aI w).map f) k=f k:=by
 unfold cf;rw[aT,cy,kj h];rfl
theorem D0(m:Bool × Nat)(h:xs.length=ys.length):gd m xs ys=sm (gp m) xs.length λj=>gm m (cf xs j) (cf ys j):=by
 unfold gd;rw[cn3,oU,h,Cn];refine dD λj hj=>?_;unfold cf;rw[aT,zP,aV (by omega),aV (by omega),aT,aV (by omega),aT,aV (by omega)];rfl
def nj(m:Bool × Nat)(xs:List Nat)(T:List (List Nat))(w:Nat):List Nat:=(aI w).map λk=>gd m xs (T.map λr=>r.getD k 0)
theorem Qp{T:List (List Nat)}(k i:Nat):cf (T.map λr=>r.getD k 0) i=cf (T.getD i []) k:=by
 by_cases h:i<T.length
 ·exact sQ (λr:List Nat=>r.getD k 0) h [] 0
 ·rw[yR (by rw[bq];omega),aT,gu (by omega)];rfl
theorem ID(m:Bool × Nat)(xs:List Nat)(T:List (List Nat))(w:Nat):(nj m xs T w).length=w:=by unfold nj;rw[bq,bW]
theorem IE(m:Bool × Nat){w k:Nat}(h:xs.length=T.length)(hk:k<w):cf (nj m xs T w) k=sm (gp m) T.length λi=>gm m (cf xs i) (cf (T.getD i []) k):=by
 unfold nj;rw[DZ _ hk,D0 m (by rw[bq,h]),h];exact dD λj _=>by rw[Qp]
theorem cH5(hm:m∈aD)(h:xs.length=ys.length):gd m xs ys<af m:=by
 rw[D0 m h];exact qp (rg hm) λj _=>cR hm _ _
theorem cN0(hm:m∈aD)(w:Nat)(h:xs.length=T.length):AllLt (af m) (nj m xs T w):=λx hx=>by
 obtain⟨k,_,rfl⟩:=bE.mp hx;exact cH5 hm (by rw[bq,h])
theorem cQ7(h:xs.length=T.length)(hu:u.length=w)(hk:∀k,k<w->cf u k=sm (gp m) T.length λi=>gm m (cf xs i) (cf (T.getD i []) k)):nj m xs T w=u :=
 Bq (ID m xs T w) hu λk h1=>by rw[IE m h h1,hk k h1]
def a6(r:List Nat):Nat:=r.findIdx (· != 0)
theorem D1(a b:α->Nat):∀(l:List α) (x:List Nat),(∀z∈l,a z≠j)->cf (l.foldl (λx z=>x.set (a z) (b z)) x) j=cf x j
 | [],_,_=>rfl
 | z::l,x,h=>by
  rw[oO,D1 a b l _ λy hy=>h y (iB _ hy)];unfold cf;rw[aT,qL (h z ke),<- aT]
theorem Qq(a b:α->Nat):∀(l:List α) (x:List Nat),l.Pairwise (λy z=>a y≠a z)->∀z∈l,a z<x.length->cf (l.foldl (λx z=>x.set (a z) (b z)) x) (a z)=b z
 | [],_,_,_,h,_=>nomatch h
 | y::l,x,hp,z,hz,hl=>by
  rw[oO];rw[Cv]at hp;rcases cO.mp hz with rfl | hz
  ·rw[D1 a b l _ λy hy=>fg (hp.1 y hy)];unfold cf;rw[aT,tH hl];rfl
  ·exact Qq a b l _ hp.2 z hz (by rw[iU];exact hl)
theorem Qr(a b:α->Nat):∀(l:List α) (x:List Nat),(l.foldl (λx z=>x.set (a z) (b z)) x).length=x.length
 | [],_=>rfl
 | z::l,x=>by rw[oO,Qr a b l,iU]
def dS(T:List (List Nat)):List (List Nat):=(aI (ay T)).map λj=>T.map λr=>r.getD j 0
theorem Qs(h:a<ay T):(dS T).getD a []=T.map λr=>r.getD a 0:=by
 unfold dS;rw[aT,cy,kj h];rfl
theorem D2(h0:0<N)(hw:0<ay T)(hT:RT N (ay T) T):(dS T).length=ay T/\ay (dS T)=T.length/\RT N T.length (dS T):=by
 have a:(dS T).length=ay T:=by unfold dS;rw[bq,bW]
 have c:RT N T.length (dS T):=λr hr=>by
  obtain⟨j,_,rfl⟩:=bE.mp hr;refine⟨bq _,λx hx=>?_⟩;obtain⟨y,hy,rfl⟩:=bE.mp hx;exact(hT y hy).2.getD h0 j
 refine⟨a,?_,c⟩;have:=Qs hw;have e:ay (dS T)=((dS T).getD 0 []).length:=by
  unfold ay;cases dS T<;>rfl
 rw[e,this,bq]
def gW(T:List (List Nat))(w:Nat):List Nat:=(aI w).filter λj=>!(T.map a6).contains j
def iz(m:Bool × Nat)(T:List (List Nat))(w f:Nat):List Nat:=(((T.map a6).zip T).foldl (λx z=>x.set z.1 (bA m 0 (z.2.getD f 0))) ((aM w 0).set f 1))
def jB(m:Bool × Nat)(T:List (List Nat))(w:Nat):List (List Nat):=(gW T w).map (iz m T w)
theorem RR.heads(hm:m∈aD){R:List (List Nat)}(hR:RT (af m) w R)(I:RR w R H):R.map a6=(aI R.length).map H:=by
 refine Fv (by rw[bq,bq,bW]) λi h1 h2=>?_;rw[bq]at h1;rw[zN,zN,LM,<- (I.IC hm hR h1).1,aT,aV h1];rfl
theorem RR.mem(hm:m∈aD){R:List (List Nat)}(hR:RT (af m) w R)(I:RR w R H)(j:Nat):j∈R.map a6↔∃i,i<R.length/\H i=j:=by
 rw[I.heads hm hR,bE];exact⟨λ⟨i,a,b⟩=>⟨i,cJ.mp a,b⟩,λ⟨i,a,b⟩=>⟨i,cJ.mpr a,b⟩⟩
theorem RR.free(hm:m∈aD){R:List (List Nat)}(hR:RT (af m) w R)(I:RR w R H)(j:Nat):j∈gW R w↔j<w/\∀i,i<R.length->H i≠j:=by
 unfold gW;rw[qK,cJ,LC,<- Bool.not_eq_true,Ct,I.mem hm hR];exact and_congr_right λ_=>⟨λh i a b=>h ⟨i,a,b⟩,λh ⟨i,a,b⟩=>h i a b⟩
theorem RR.IF(hm:m∈aD){R:List (List Nat)}(hR:RT (af m) w R)(I:RR w R H):(gW R w).length+R.length=w:=by
 have nd:(R.map a6).Nodup:=by
  rw[I.heads hm hR];unfold List.Nodup;rw[FC];intro i j hi hj Bp;rw[bq,bW]at hi hj;rw[zN,zN,LM,LM];have:=I.i i j Bp hj;omega
 have pe:((aI w).filter λj=>(R.map a6).contains j).Perm (R.map a6):=by
  refine(List.perm_ext_iff_of_nodup (ZK _ List.nodup_range) nd).mpr λj=>?_;rw[qK,Ct,cJ];refine⟨λh=>h.2,λh=>⟨?_,h⟩⟩;obtain⟨i,hi,rfl⟩:=(I.mem hm hR j).mp h;exact I.l i hi
 have l1:=pe.length_eq;rw[bq]at l1;have l2:=List.length_eq_countP_add_countP (λj=>(R.map a6).contains j) (l:=aI w);rw[bW,ZL,ZL,l1]at l2;unfold gW;have e:((aI w).filter λa=>decide ¬(R.map a6).contains a=true)=(aI w).filter λj=>!(R.map a6).contains j:=List.filter_congr λx _=>by
  cases(R.map a6).contains x<;>rfl
 rw[e]at l2;omega
theorem Br(hm:m∈aD){R:List (List Nat)}(hR:RT (af m) w R)(I:RR w R H)(hf:f∈gW R w):(iz m R w f).length=w/\AllLt (af m) (iz m R w f)/\cf (iz m R w f) f=1/\(∀i,i<R.length->cf (iz m R w f) (H i)=bA m 0 (cf (R.getD i []) f))/\∀j,j≠f->(∀i,i<R.length->H i≠j)->cf (iz m R w f) j=0:=by
 obtain⟨f1,f2⟩:=(I.free hm hR f).mp hf;have l1:=lo1 hm;have zl:((R.map a6).zip R).length=R.length:=by rw[Cr,bq,Cn]
 have zg:∀i (h:i<R.length),((R.map a6).zip R)[i]'(by omega)=(H i,R.getD i []):=λi h=>by
  rw[List.getElem_zip,zN];have e:R.getD i []=R[i]:=by rw[aT,aV h];rfl
  have:=(I.IC hm hR h).1;rw[e]at this ⊢;exact Prod.ext this rfl
 have zm:∀z∈(R.map a6).zip R,∃i,i<R.length/\z=(H i,R.getD i []):=λz hz=>by
  obtain⟨i,hi,rfl⟩:=ki hz;exact⟨i,by omega,zg i (by omega)⟩
 have mz:∀i,i<R.length->(H i,R.getD i [])∈(R.map a6).zip R:=λi h=>by
  rw[<-zg i h];exact eU _
 have bd:∀z∈(R.map a6).zip R,bA m 0 (z.2.getD f 0)<af m:=λz hz=>by
  obtain⟨i,hi,rfl⟩:=zm z hz;exact(kL hm (by omega) (gb hm (hR _ (dR hi [])).2 f)).2.1
 refine⟨?_,?_,?_,λi hi=>?_,λj hj hj2=>?_⟩
 ·unfold iz;rw[Qr (λz:Nat × List Nat=>z.1) (λz=>bA m 0 (z.2.getD f 0)),iU,dE]
 ·have key:∀(l:List (Nat × List Nat)) (x:List Nat),(∀z∈l,bA m 0 (z.2.getD f 0)<af m)->AllLt (af m) x->AllLt (af m) (l.foldl (λx z=>x.set z.1 (bA m 0 (z.2.getD f 0))) x):=by
   intro l
   induction l with
   | nil=>exact λx _ h=>h
   | cons z l ih =>
    intro x hz h;rw[oO];refine ih _ (λy hy=>hz y (iB _ hy)) λy hy=>?_;rcases LG hy with h1 | h1
    ·exact h y h1
    ·rw[h1];exact hz z ke
  refine key _ _ bd λx hx=>?_;rcases LG hx with h1 | h1
  ·rw[(qW.mp h1).2];omega
  ·omega
 ·unfold iz;rw[D1 (λz:Nat × List Nat=>z.1) (λz=>bA m 0 (z.2.getD f 0)) _ _ λz hz=>?_]
  ·unfold cf;rw[aT,tH (by rw[dE];exact f1)];rfl
  ·obtain⟨i,hi,rfl⟩:=zm z hz;exact f2 i hi
 ·have hp:((R.map a6).zip R).Pairwise (λy z:Nat × List Nat=>y.1≠z.1):=by
   rw[FC];intro i j hi hj Bp;rw[zg i (by omega),zg j (by omega)];have:=I.i i j Bp (by omega);show H i≠H j;omega
  exact Qq (λz:Nat × List Nat=>z.1) (λz=>bA m 0 (z.2.getD f 0)) _ _ hp _ (mz i hi) (by rw[iU,dE];exact I.l i hi)
 ·unfold iz;rw[D1 (λz:Nat × List Nat=>z.1) (λz=>bA m 0 (z.2.getD f 0)) _ _ λz hz=>?_]
  ·unfold cf;rw[aT,qL (fg hj),nC];split<;>rfl
  ·obtain⟨i,hi,rfl⟩:=zm z hz;exact hj2 i hi
theorem cH6(r:Rg N p q)(ha:a<n)(hb:b<n)(hn:a≠b)(fa:f a<N)(fb:f b<N)(hz:∀j,j<n->j≠a->j≠b->f j=0):sm p n f=p (f a) (f b):=by
 have h1:=sR r (f:=λj=>if j=a then f a else 0) (j0:=a) (n:=n) (by rw[if_pos rfl];exact fa) ha λj _ h=>if_neg h;have h2:=sR r (f:=λj=>if j=b then f b else 0) (j0:=b) (n:=n) (by rw[if_pos rfl];exact fb) hb λj _ h=>if_neg h;rw[if_pos rfl]at h1 h2;rw[<-h1,<- h2,<- qq r];refine dD λj hj=>?_;by_cases ja:j=a
 ·rw[if_pos ja,if_neg (by omega),r.z' fa,ja]
 ·by_cases jb:j=b
  ·rw[if_neg ja,if_pos jb,r.z fb,jb]
  ·rw[if_neg ja,if_neg jb,hz j hj ja jb,r.z r.pos]
def dt(m:Bool × Nat)(w:Nat)(x y:Nat->Nat):Nat:=sm (gp m) w λj=>gm m (x j) (y j)
theorem cM4(hm:m∈aD)(w:Nat)(x y z:Nat->Nat):dt m w x (λk=>gp m (y k) (z k))=gp m (dt m w x y) (dt m w x z):=by
 have r:=rg hm;unfold dt;rw[<-qq r];exact dD λj _=>r.dl _ _ _
theorem cI5(hm:m∈aD)(w c:Nat)(x y:Nat->Nat):dt m w x (λk=>gm m c (y k))=gm m c (dt m w x y):=by
 have r:=rg hm;have m0:=cI m hm;unfold dt;rw[<-oA r];exact dD λj _=>by rw[<-iu m0,gj m (x j),iu m0]
theorem Qt(hm:m∈aD)(w:Nat)(x:Nat->Nat)(c:Nat->Nat)(F:Nat->Nat->Nat):∀n,dt m w x (λk=>sm (gp m) n λi=>gm m (c i) (F i k))=sm (gp m) n λi=>gm m (c i) (dt m w x (F i))
 | 0=>iw (rg hm) λj _=>(rg hm).qz _
 | n+1=>by
  rw[sm,<- Qt hm w x c F n,<- cI5 hm,<- cM4 hm];rfl
theorem Qu(hm:m∈aD){R:List (List Nat)}(hR:RT (af m) w R)(I:RR w R H)(hf:f∈gW R w)(hi:i<R.length):dt m w (cf (R.getD i [])) (cf (iz m R w f))=0:=by
 have r:=rg hm;obtain⟨f1,f2⟩:=(I.free hm hR f).mp hf;obtain⟨k1,k2,k3,k4,k5⟩:=Br hm hR I hf;have il:=gb hm (hR _ (dR hi [])).2;have g:=kL hm (a:=0) r.pos (il f);unfold dt;rw[cH6 r (f:=λj=>gm m (cf (R.getD i []) j) (cf (iz m R w f) j)) (a:=H i) (b:=f) (I.l i hi) f1 (f2 i hi) (cR hm _ _) (cR hm _ _) λj hj ja jb=>?_]
 ·rw[k3,k4 i hi,I.u i i hi hi,if_pos rfl,ot g.2.1,ou (il f)];exact g.2.2
 ·by_cases c:∃i',i'<R.length/\H i'=j
  ·obtain⟨i',h1,rfl⟩:=c;rw[I.u i i' hi h1,if_neg (λz:i=i'=>ja (by rw[z])),fH m _ (cI m hm)]
  ·rw[k5 j jb λi' h1 h2=>c ⟨i',h1,h2⟩,r.qz]
theorem cq.dt(hm:m∈aD){R:List (List Nat)}(h:∀i,i<R.length->dt m n (cf (R.getD i [])) y=0)(s:cq m R f):dt m n f y=0:=by
 refine s.ann hm λx hx=>?_;obtain⟨i,hi,rfl⟩:=ki hx;have:=h i hi;rw[aT,aV hi]at this;exact this
theorem Bt(h:RT N n M)(h0:M≠[]):ay M=n:=by
 cases M with
 | nil=>exact absurd rfl h0
 | cons g M=>exact(h g ke).1
theorem Qv(hm:m∈aD)(h:RT (af m) n M)(hl:M.length<n):∃(x:Nat->Nat) (f:Nat),f<n/\(∀k,x k<af m)/\x f=1/\∀i,i<M.length->dt m n (cf (M.getD i [])) x=0:=by
 by_cases h0:M=[]
 ·subst h0;exact⟨λ_=>1,0,hl,λ_=>lo1 hm,rfl,λi hi=>nomatch hi⟩
 ·have hw:=Bt h h0;obtain⟨⟨H,I⟩,iR,il,sp⟩:=nh hm (G:=M) (by rw[hw];exact h);rw[hw]at I iR;have fl:=I.IF hm iR;have f0:0<(gW (c9 m M) n).length:=by omega
  have hf:=dR f0 0;obtain⟨k1,k2,k3,k4,k5⟩:=Br hm iR I hf;refine⟨cf (iz m (c9 m M) n ((gW (c9 m M) n).getD 0 0)),_,((I.free hm iR _).mp hf).1,gb hm k2,k3,λi hi=>?_⟩;exact cq.dt hm (λi' ie=>Qu hm iR I hf ie) ((sp _).mp (cq.of (dR hi [])))
theorem RR.vZ(hm:m∈aD){S R:List (List Nat)}(hS:RT (af m) w S)(I:RR w S H)(hR:RT (af m) v R)(h:∀i,i<S.length->cq m R (cf (S.getD i []))):S.length<=R.length:=by
 have r:=rg hm;refine E7 λhl=>?_;have hc:∀i,∃c:Nat->Nat,i<S.length->(∀j,c j<af m)/\∀k,cf (S.getD i []) k=sm (gp m) R.length λj=>gm m (c j) (cf (R.getD j []) k):=λi=>by
  by_cases hi:i<S.length
  ·obtain⟨c,a,b⟩:=(h i hi).sum hm hR;exact⟨c,λ_=>⟨a,b⟩⟩
  ·exact⟨λ_=>0,λz=>absurd z hi⟩
 obtain⟨C,hC⟩:=Classical.axiomOfChoice hc;have cl:∀i,i<S.length->∀j,C i j<af m:=λi hi=>(hC i hi).1;obtain⟨x,f,f1,x1,x2,x3⟩:=Qv hm (n:=S.length) (M:=(aI R.length).map λj=>(aI S.length).map λi=>C i j) (λy hy=>by
  obtain⟨j,_,rfl⟩:=bE.mp hy;refine⟨by rw[bq,bW],λz hz=>?_⟩;obtain⟨i,hi,rfl⟩:=bE.mp hz;exact cl i (cJ.mp hi) j) (by rw[bq,bW];exact hl)
 rw[bq,bW]at x3;have x4:∀j,j<R.length->sm (gp m) S.length (λi=>gm m (C i j) (x i))=0:=λj hj=>by
  rw[<-x3 j hj];refine dD λi hi=>?_;rw[sQ (λj=>(aI S.length).map λi=>C i j) (by rw[bW];exact hj) 0 [],DZ _ hi,aT,kj hj];rfl
 have x5:∀k,sm (gp m) S.length (λi=>gm m (x i) (cf (S.getD i []) k))=0:=λk=>by
  rw[dD (g:=λi=>sm (gp m) R.length λj=>gm m (gm m (C i j) (x i)) (cf (R.getD j []) k)) λi hi=>?_,PY r,iw r λj hj=>?_]
  ·rw[dD (g:=λi=>gm m (cf (R.getD j []) k) (gm m (C i j) (x i))) λi hi=>gj m _ _,oA r,x4 j hj,r.qz]
  ·rw[(hC i hi).2 k,<- oA r];exact dD λj _=>by rw[<-iu (cI m hm),gj m (x i)]
 have:=x5 (H f);rw[sR r (f:=λi=>gm m (x i) (cf (S.getD i []) (H f))) (cR hm _ _) f1 λj hj hn=>by rw[I.u j f hj f1,if_neg hn,r.qz],I.u f f f1 f1,if_pos rfl,x2,ot (lo1 hm)]at this;omega
theorem cA1(hm:m∈aD){G R:List (List Nat)}(hG:RT (af m) (ay G) G)(hR:RT (af m) v R)(h:∀i,i<G.length->cq m R (cf (G.getD i []))):(c9 m G).length<=R.length:=by
 obtain⟨⟨H,I⟩,iR,il,sp⟩:=nh hm hG;refine I.vZ hm iR hR λi hi=>?_;refine Sp.trans (λf hf=>?_) ((sp _).mpr (cq.of (dR hi [])));obtain⟨x,hx,rfl⟩:=hf;obtain⟨i,hi,rfl⟩:=ki hx;have:=h i hi;rw[aT,aV hi]at this;exact this
theorem IG{T:List (List Nat)}{i:Nat}(h:i<T.length):T.getD i []=T[i]:=by rw[aT,aV h];rfl
theorem cq.red(hm:m∈aD)(hG:RT (af m) (ay G) G)(h:cq m G f):cq m (c9 m G) f:=((nh hm hG).2.2.2 f).mp h
end L3
namespace L3
open PySem L2 PySem.Spec PyProof.Rows
section
variable{X:Cx}{F H:Hp}{e b:Expr}{pos pos' p p2 p3 apos bK:Pos}{ti te:aK}{x y:Str}{i j:Nat}
end
section
variable{X:Cx}
end
section
variable{X:Cx}{es:List Expr}{tr:b8}{pos:Pos}
theorem Qw(h:PA X es (lA tr)):PE X (.List es pos) (lB (rE tr)) :=
 df (Mx h) λσ H Q zq=>by
 obtain⟨B,F,δ,ts,Qd,c,q,k⟩:=zq;exact⟨B,F,δ,ts,_,c,q,λds aq vs F1 H1 q1 f1 h1 c1 s1=>⟨by rw[<-s1.length];exact q1.1,λp hp=>k _ aq _ F1 _ q1.2 f1 (h1.trans (ah.upd hp)) (c1.grow (ah.upd hp)) (.own dm (s1.mono (ah.refl _) (ah.upd hp)) .nil)⟩⟩
end
end L3
namespace L3
open PySem L2 Mf
theorem RR.lead(hm:m∈aD){R:List (List Nat)}(hR:RT (af m) w R)(I:RR w R H)(s:cq m R f){t:Nat}(h1:f t≠0)(h2:∀j,j<t->f j=0):∃i,i<R.length/\H i=t:=by
 refine zD λc=>h1 ?_;rw[I.own hm hR s t];refine iw (rg hm) λi hi=>?_;rcases FA (H i) t with h | h | h
 ·rw[h2 _ h,fH m _ (cI m hm)]
 ·exact absurd ⟨i,hi,h⟩ c
 ·rw[I.z i hi t h,(rg hm).qz]
theorem RR.same(hm:m∈aD){R R':List (List Nat)}(hR:RT (af m) w R)(I:RR w R H)(D3:RT (af m) w R')(I':RR w R' H')(h:∀x∈R,cq m R' (cf x))(h':∀x∈R',cq m R (cf x)):R=R':=by
 have l:R.length=R'.length:=Nat.le_antisymm (I.vZ hm hR D3 λi hi=>h _ (dR hi [])) (I'.vZ hm D3 hR λi hi=>h' _ (dR hi []));have a:∀i,i<R.length->∃j,j<R'.length/\H' j=H i:=λi hi=>I'.lead hm D3 (h _ (dR hi [])) (by rw[I.u i i hi hi,if_pos rfl];decide) λj hj=>I.z i hi j hj;have a':∀i,i<R'.length->∃j,j<R.length/\H j=H' i:=λi hi=>I.lead hm hR (h' _ (dR hi [])) (by rw[I'.u i i hi hi,if_pos rfl];decide) λj hj=>I'.z i hi j hj;have e:∀n i,i<n->i<R.length->H i=H' i:=by
  intro n
  induction n with
  | zero=>exact λi hi=>nomatch hi
  | succ n ih =>
   intro i hi hl;by_cases hn:i<n
   ·exact ih i hn hl
   obtain rfl:i=n:=by omega
   obtain⟨j,j1,j2⟩:=a i hl;obtain⟨j',j3,j4⟩:=a' i (by omega);have b1:i<=j:=E7 λc=>by
    have:=ih j c (by omega);have:=I.i j i c hl;omega
   have b2:i<=j':=E7 λc=>by
    have:=ih j' c (by omega);have:=I'.i j' i c (by omega);omega
   have c1:H' i<=H' j:=by
    rcases qY i j with c | c
    ·exact tG (I'.i i j c j1)
    ·rw[show i=j by omega];exact bR _
   have c2:H i<=H j':=by
    rcases qY i j' with c | c
    ·exact tG (I.i i j' c j3)
    ·rw[show i=j' by omega];exact bR _
   omega
 refine Fv l λi h1 h2=>?_;rw[<-IG h1,<- IG h2];refine Bq (hR _ (dR h1 [])).1 (D3 _ (dR h2 [])).1 λk _=>?_;rw[I.own hm hR (h' _ (dR h2 [])) k,sR (rg hm) (f:=λj=>gm m (cf (R'.getD i []) (H j)) (cf (R.getD j []) k)) (cR hm _ _) h1 λj hj hn=>?_]
 ·rw[e (i+1) i (by omega) h1,I'.u i i h2 h2,if_pos rfl,ot (gb hm (hR _ (dR h1 [])).2 k)]
 ·rw[e (j+1) j (by omega) hj,I'.u i j h2 (by omega),if_neg (λz:i=j=>hn z.symm),fH m _ (cI m hm)]
theorem cO3(hm:m∈aD)(hT:RT (af m) (ay T) T)(hA:RT (af m) (ay T) A)(I:RR (ay T) A H)(h:∀x∈T,cq m A (cf x))(h':∀x∈A,cq m T (cf x)):c9 m T=A:=by
 obtain⟨⟨H1,I1⟩,iR,il,sp⟩:=nh hm hT;refine I1.same hm iR hA I (λx hx=>?_) λx hx=>(sp _).mp (h' x hx);refine Sp.trans (λf hf=>?_) ((sp _).mpr (cq.of hx));obtain⟨y,hy,rfl⟩:=hf;exact h y hy
end L3
namespace L2
open PySem PySem.Spec PyProof.Rows
section
variable{X:Cx}
end
end L2
namespace L3
open PySem L2 PySem.Spec PyProof.Rows
section
variable{X:Cx}
end
end L3
namespace L2
open PySem PySem.Spec PyProof.Rows
section
variable{X:Cx}{a:Expr}{ta:TE}{p p2 pos oE:Pos}
end
end L2
namespace L3
open PySem L2 PySem.Spec PyProof.Rows
section
variable{X:Cx}{a:Expr}{t:aK}{p p2 pos oE:Pos}
end
section
variable{F H:Hp}
end
section
variable{X:Cx}{e:Expr}{t:aK}{p2 pos:Pos}
end
section
variable{F H:Hp}
end
section
variable{P:Program}{w:World}{K:PySem.W.Frag}{mg:Str->Option Value}{base:Heap}
end
section
variable{X:Cx}{CX:eW}{n i:Nat}{f:Addr}{fd:FuncData}{ps:List Str}{sp:aX}{E:XK}{fn x:Str}{e:Expr}{te:aK}{p p2 pos pos' oE:Pos}
end
end L3
namespace L2
section
variable{α:Type}{P:List α->Prop}
theorem cR6(h:P []):∀us:List α,us.length=0->P us:=by
 intro us hl;rcases us with _ | ⟨a,t⟩
 ·exact h
 ·cases hl
theorem D4(h:∀a,P [a]):∀us:List α,us.length=1->P us:=by
 intro us hl;rcases us with _ | ⟨a,t⟩
 ·cases hl
 ·exact cR6 (P:=λt=>P (a::t)) (h a) t (Cw hl)
theorem D6(h:∀a b,P [a,b]):∀us:List α,us.length=2->P us:=by
 intro us hl;rcases us with _ | ⟨a,t⟩
 ·cases hl
 ·exact D4 (P:=λt=>P (a::t)) (h a) t (Cw hl)
theorem D7(h:∀a b c,P [a,b,c]):∀us:List α,us.length=3->P us:=by
 intro us hl;rcases us with _ | ⟨a,t⟩
 ·cases hl
 ·exact D6 (P:=λt=>P (a::t)) (h a) t (Cw hl)
theorem D8(h:∀a b c d,P [a,b,c,d]):∀us:List α,us.length=4->P us:=by
 intro us hl;rcases us with _ | ⟨a,t⟩
 ·cases hl
 ·exact D7 (P:=λt=>P (a::t)) (h a) t (Cw hl)
theorem D9(h:∀a b c d e,P [a,b,c,d,e]):∀us:List α,us.length=5->P us:=by
 intro us hl;rcases us with _ | ⟨a,t⟩
 ·cases hl
 ·exact D8 (P:=λt=>P (a::t)) (h a) t (Cw hl)
end
end L2
namespace L3
open PySem L2 PySem.Spec PyProof.Rows
section
variable{B:Bs}{F H:Hp}{σ:L2.St}{δ:Dl}{ts:List (D × V)}
end
section
variable{X:Cx}{elt iter tg:Expr}{pos:Pos}{scope:Scope}{cl:List (Str × Addr)}{ti:js}{te:aK}{g:jX}
end
end L3
namespace L2
open PySem PySem.Spec PyProof.Rows
section
variable{X:Cx}
end
end L2
namespace L3
open PySem L2 PySem.Spec PyProof.Rows
section
variable{X:Cx}
end
end L3
namespace L3
open PySem L2 Mf
theorem Ea(hm:m∈aD)(ha:a<af m)(hb:b<af m):gm m a b=0↔a=0\/b=0:=by
 constructor
 ·intro h;by_cases a0:a=0
  ·exact .inl a0
  ·by_cases b0:b=0
   ·exact .inr b0
   ·exact absurd h (cY9 hm (by omega) ha (by omega) hb)
 ·rintro (rfl | rfl)
  ·exact fH m _ (cI m hm)
  ·exact lY m _ (cI m hm)
theorem Qx(hm:m∈aD)(x:Nat->Nat)(hx:∀j,x j<af m):∀(n:Nat) (c:Nat->Nat),(∀j,c j<af m)->(∀i j,i<n->j<n->x i=x j->i=j)->(∀i,i<n->sm (gp m) n (λj=>gm m (c j) (px m (x j) i))=0)->∀j,j<n->c j=0
 | 0,_,_,_,_,j,hj=>absurd hj (by omega)
 | n+1,c,hc,hd,h,j,hj=>by
  have r:=rg hm;have h0:=cI m hm;have dw:=lo1 hm;have dn:∀j,bA m (x j) (x n)<af m/\gp m (bA m (x j) (x n)) (x n)=x j:=λj=>(kL hm (hx j) (hx n)).2;have key:∀i,i<n->sm (gp m) n (λj=>gm m (gm m (c j) (bA m (x j) (x n))) (px m (x j) i))=0:=λi hi=>by
   have h1:=h (i+1) (by omega);have hz:=h i (by omega);have e:∀j,gm m (c j) (px m (x j) (i+1))=gp m (gm m (gm m (c j) (bA m (x j) (x n))) (px m (x j) i)) (gm m (x n) (gm m (c j) (px m (x j) i))):=λj=>by
    show gm m (c j) (gm m (px m (x j) i) (x j))=_;have e1:gm m (px m (x j) i) (x j)=gm m (px m (x j) i) (gp m (bA m (x j) (x n)) (x n)):=by rw[(dn j).2]
    rw[e1,DM h0,DM h0];congr 1
    ·rw[iu h0,gj m (px m (x j) i)]
    ·rw[gj m (px m (x j) i),<- iu h0,gj m (c j),iu h0]
   rw[dD λj _=>e j,qq r,oA r,hz,r.qz]at h1;have ln:sm (gp m) n (λj=>gm m (gm m (c j) (bA m (x j) (x n))) (px m (x j) i))<af m:=qp r λ_ _=>cR hm _ _;rw[sm,Ij,lY m _ h0,fH m _ h0,sH ln,sH ln]at h1;exact h1
  have ih:=Qx hm x hx n (λj=>gm m (c j) (bA m (x j) (x n))) (λ_=>cR hm _ _) (λi j hi hj=>hd i j (by omega) (by omega)) key;have cz:∀j,j<n->c j=0:=λj hj=>by
   rcases(Ea hm (hc j) (dn j).1).mp (ih j hj)with z | z
   ·exact z
   ·have:=(dn j).2;rw[z,qm (hx n)]at this;exact absurd (hd n j (by omega) (by omega) this) (by omega)
  by_cases c0:j<n
  ·exact cz j c0
  ·have ej:j=n:=by omega
   subst ej;have:=h 0 (by omega);rw[sm,iw r λi hi=>by rw[cz i hi,fH m _ h0]]at this;rw[show px m (x j) 0=1 from rfl,ou (hc j),qm (hc j)]at this;exact this
def fJ(m:Bool × Nat)(b:Nat)(ps:List Nat)(n:Nat):List (List Nat):=(aI n).map λ(i:Nat)=>ps.map λ(p:Nat)=>eS m (((b:Int)+(i:Int))*(p:Int))
theorem Eb(hm:m∈aD)(b:Nat)(ps:List Nat)(n:Nat):RT (af m) ps.length (fJ m b ps n)/\(fJ m b ps n).length=n:=by
 refine⟨λr hr=>?_,by unfold fJ;rw[bq,bW]⟩;obtain⟨i,_,rfl⟩:=bE.mp hr;refine⟨by rw[bq],λx hx=>?_⟩;obtain⟨p,_,rfl⟩:=bE.mp hx;exact Bg hm _
theorem cE5(ha:a<n):(fJ m b ps n).getD a []=ps.map λ(p:Nat)=>eS m (((b:Int)+(a:Int))*(p:Int)):=by
 unfold fJ;rw[aT,cy,kj ha];rfl
theorem cQ2(hm:m∈aD)(ha:a+1<af m)(hb:b+1<af m)(h:eS m (a:Int)=eS m (b:Int)):a=b:=by
 have h1:=(qo hm (a:Int)).2.2.1;have h2:=(qo hm (b:Int)).2.2.1;rw[h,h2,Cp (by omega) (by omega),Cp (by omega) (by omega)]at h1;omega
def gX(m:Bool × Nat)(c:List Nat)(os:List (List Nat)):List (List Nat):=os.map λo =>
 (dP (λx y=>bA m x (gm m (gm m (o.getD (a6 c) 0) (oB m (c.getD (a6 c) 0))) y)) o c).take (a6 c)++(dP (λx y=>bA m x (gm m (gm m (o.getD (a6 c) 0) (oB m (c.getD (a6 c) 0))) y)) o c).drop (a6 c+1)
abbrev Cs:=List Nat × List (List Nat)
def nul(c:List Nat):Bool:=c.all (·==0)
def gY(m:Bool × Nat)(w:Nat)(z:Cs × Nat):Cs:=(z.1.1++[w-z.1.2.length+z.2],gX m (z.1.2.getD z.2 []) (z.1.2.drop (z.2+1)))
def fW(s:Cs):List (Cs × Nat):=(aI s.2.length).map λi=>(s,i)
def dY(l:List Cs):List (Cs × Nat):=l.flatMap fW
def qt(z:Cs × Nat):Bool:=nul (z.1.2.getD z.2 [])
def v3(m:Bool × Nat)(w:Nat):Nat->List Cs->Option (List Nat)
 | 0,_=>none
 | f+1,l=>if l=[]then none else match (dY l).find? qt with
  | some z=>some (z.1.1++[w-z.1.2.length+z.2])
  | none=>v3 m w f ((dY l).map (gY m w))
def gq(m:Bool × Nat)(C:Nat->Nat->Nat)(ps:List Nat)(c:Nat->Nat)(k:Nat):Nat:=sm (gp m) ps.length λt=>gm m (c t) (C (ps.getD t 0) k)
def qu(m:Bool × Nat)(C:Nat->Nat->Nat)(ps:List Nat):Prop:=∀c:Nat->Nat,(∀t,c t<af m)->(∀k,gq m C ps c k=0)->∀t,t<ps.length->c t=0
structure Gs(m:Bool × Nat)(C:Nat->Nat->Nat)(w:Nat)(s:Cs):Prop where
 le:s.2.length<=w
 inc:s.1.Pairwise (· < ·)
 off:∀p∈s.1,p<w-s.2.length
 nx:∀j,(∀p∈s.1,p<j)->w-s.2.length<=j
 rt:∃h,RT (af m) h s.2
 rel:∀a:Nat->Nat,(∀i,a i<af m)->((∀k,sm (gp m) s.2.length (λi=>gm m (a i) (cf (s.2.getD i []) k))=0)↔∃c:Nat->Nat,(∀t,c t<af m)/\∀k,gp m (sm (gp m) s.2.length λi=>gm m (a i) (C (w-s.2.length+i) k)) (gq m C s.1 c k)=0)
 ind:qu m C s.1
section
variable{m:Bool × Nat}{C:Nat->Nat->Nat}{w:Nat}
theorem cN6(hm:m∈aD)(C:Nat->Nat->Nat)(ps:List Nat)(c:Nat->Nat)(k:Nat):gq m C ps c k<af m:=qp (rg hm) λ_ _=>cR hm _ _
theorem Ec(hm:m∈aD)(C:Nat->Nat->Nat)(ps:List Nat)(j:Nat)(c:Nat->Nat)(k:Nat):gq m C (ps++[j]) c k=gp m (gq m C ps c k) (gm m (c ps.length) (C j k)):=by
 unfold gq;rw[dO,nE,sm];congr 1
 ·refine dD λt ht=>?_;rw[aT,tL ht,<- aT]
 ·rw[aT,nB (bR _),zQ];rfl
theorem Qy{k:Nat}(h:∀t,t<ps.length->c t=c' t):gq m C ps c k=gq m C ps c' k:=dD λt ht=>by rw[h t ht]
theorem sS(hm:m∈aD)(hi:i<n)(a' X:Nat->Nat):sm (gp m) n (λj=>gm m (if j<i then 0 else if j=i then e else a' (j-i-1)) (X j))=gp m (sm (gp m) (n-i-1) λj=>gm m (a' j) (X (i+1+j))) (gm m e (X i)):=by
 have r:=rg hm;have h0:=cI m hm;obtain⟨d,rfl⟩:∃d,n=(i+1)+d:=⟨n-i-1,by omega⟩;rw[Ik r (i+1) d λ_ _=>cR hm _ _,sm,iw r λj hj=>by rw[if_pos hj,fH m _ h0],if_neg (g7 _),if_pos rfl,r.z (cR hm _ _),ow];congr 1;rw[show i+1+d-i-1=d by omega];refine dD λj hj=>?_;rw[if_neg (by omega),if_neg (by omega),show i+1+j-i-1=j by omega]
theorem Qz:nul c=true↔∀k,cf c k=0:=by
 unfold nul;rw[cU];constructor
 ·intro h k;by_cases hk:k<c.length
  ·unfold cf;have:=h _ (dR hk 0);exact beq_iff_eq.mp this
  ·exact yR (by omega)
 ·intro h x hx;obtain⟨k,hk,rfl⟩:=ki hx;have:=h k;unfold cf at this;rw[aT,aV hk]at this;exact beq_iff_eq.mpr this
theorem IH(h:nul c=false):a6 c<c.length/\cf c (a6 c)≠0:=by
 have hx:∃x∈c,(x != 0)=true:=by
  refine zD λz=>?_;have:nul c=true:=by
   unfold nul;rw[cU];intro x hx;refine zD λy=>z ⟨x,hx,?_⟩;simpa using y
  rw[h]at this;cases this
 have hl:a6 c<c.length:=LJ hx;refine⟨hl,?_⟩;have h2:(c[a6 c] != 0)=true:=ZH (xs:=c) (p:=(· != 0)) (w:=hl);unfold cf;rw[aT,aV hl];simpa using h2
theorem cF6(hm:m∈aD){b:List Nat}{os:List (List Nat)}{h:Nat}(hb:b.length=h)(ab:AllLt (af m) b)(nk:RT (af m) h os)(nb:nul b=false){a:Nat->Nat}(ha:∀i,a i<af m) :
  (∀k,sm (gp m) os.length (λj=>gm m (a j) (cf ((gX m b os).getD j []) k))=0)↔∃e,e<af m/\∀k,gp m (sm (gp m) os.length λj=>gm m (a j) (cf (os.getD j []) k)) (gm m e (cf b k))=0:=by
 have r:=rg hm;have h0:=cI m hm;have dw:=lo1 hm;obtain⟨hp,bp⟩:=IH nb;have QB:=gb hm ab (a6 b);obtain⟨iv,iv1,QC⟩:=PZ hm (a:=1) (by omega) QB bp;have II:oB m (b.getD (a6 b) 0)=iv:=DQ hm iv1 QC;obtain⟨D,hD⟩:∃D:Nat->List Nat,∀j,D j=dP (λx y=>bA m x (gm m (gm m ((os.getD j []).getD (a6 b) 0) iv) y)) (os.getD j []) b:=⟨_,λ_=>rfl⟩;have QD:∀j,j<os.length->∀k,gp m (cf (D j) k) (gm m (gm m (cf (os.getD j []) (a6 b)) iv) (cf b k))=cf (os.getD j []) k:=λj hj k=>by
  rw[hD];exact DV hm (nk _ (dR hj [])).1 hb (nk _ (dR hj [])).2 k
 have Dlt:∀j,j<os.length->∀k,cf (D j) k<af m:=λj hj k=>by
  rw[hD];exact IB hm (nk _ (dR hj [])).1 hb (nk _ (dR hj [])).2 _ k
 have Dp:∀j,j<os.length->cf (D j) (a6 b)=0:=λj hj=>by
  have l1:=gb hm (nk _ (dR hj [])).2 (a6 b);have:=QD j hj (a6 b);rw[iu h0,QC,ou l1]at this;exact r.cn (Dlt j hj _) l1 this
 have dL9:∀j,j<os.length->(D j).length=h:=λj hj=>by
  rw[hD,oU,(nk _ (dR hj [])).1,hb,Cn]
 have IJ:∀j,j<os.length->∀k,cf ((gX m b os).getD j []) k=cf (D j) (if k<a6 b then k else k+1):=λj hj k=>by
  have e1:(gX m b os).getD j []=(D j).take (a6 b)++(D j).drop (a6 b+1):=by
   unfold gX;rw[sQ _ hj [] [],II,hD]
  rw[e1];have lt:((D j).take (a6 b)).length=a6 b:=by rw[kg,dL9 j hj];omega
  unfold cf;by_cases hk:k<a6 b
  ·rw[if_pos hk,aT,tL (by omega),Zp hk,<- aT]
  ·rw[if_neg hk,aT,nB (by omega),lt,Lx,show a6 b+1+(k-a6 b)=k+1 by omega,<- aT]
 obtain⟨F,hF⟩:∃F,F=sm (gp m) os.length λj=>gm m (a j) (gm m (cf (os.getD j []) (a6 b)) iv):=⟨_,rfl⟩;have Flt:F<af m:=by rw[hF];exact qp r λ_ _=>cR hm _ _
 have QE:∀k,(sm (gp m) os.length λj=>gm m (a j) (cf (os.getD j []) k))=gp m (sm (gp m) os.length λj=>gm m (a j) (cf (D j) k)) (gm m F (cf b k)):=λk=>by
  rw[dD (g:=λj=>gp m (gm m (a j) (cf (D j) k)) (gm m (cf b k) (gm m (a j) (gm m (cf (os.getD j []) (a6 b)) iv)))) λj hj=>?_,qq r,oA r,<- hF,gj m (cf b k)];rw[<-QD j hj k,DM h0];congr 1;rw[<-iu h0,gj m _ (cf b k)]
 have n6:(∀k,sm (gp m) os.length (λj=>gm m (a j) (cf ((gX m b os).getD j []) k))=0)↔∀k,sm (gp m) os.length (λj=>gm m (a j) (cf (D j) k))=0:=by
  constructor
  ·intro h k;by_cases e:k=a6 b
   ·exact iw r λj hj=>by rw[e,Dp j hj,lY m _ h0]
   ·by_cases c:k<a6 b
    ·rw[<-h k];exact dD λj hj=>by rw[IJ j hj,if_pos c]
    ·rw[<-h (k-1)];exact dD λj hj=>by rw[IJ j hj,if_neg (by omega),show k-1+1=k by omega]
  ·intro h k;rw[dD λj hj=>by rw[IJ j hj]];exact h _
 rw[n6];constructor
 ·intro h;obtain⟨e,e1,e2⟩:=r.ng Flt;refine⟨e,e1,λk=>?_⟩;rw[QE k,h k,r.z (cR hm _ _),<- Ib h0,e2,fH m _ h0]
 ·rintro⟨e,e1,h⟩;have key:∀k,gp m (sm (gp m) os.length λj=>gm m (a j) (cf (D j) k)) (gm m (gp m F e) (cf b k))=0:=λk=>by
   rw[Ib h0,<- DL,<- QE k];exact h k
  have fe:gp m F e=0:=by
   have:=key (a6 b);rw[iw r λj hj=>by rw[Dp j hj,lY m _ h0],r.z (cR hm _ _)]at this;rcases(Ea hm (DN hm Flt e1) QB).mp this with z | z
   ·exact z
   ·exact absurd z bp
  intro k;have:=key k;rw[fe,fH m _ h0,sH (qp r λ_ _=>cR hm _ _)]at this;exact this
theorem IK(m:Bool × Nat)(b:List Nat)(os:List (List Nat)):(gX m b os).length=os.length:=by unfold gX;rw[bq]
theorem cJ2(hm:m∈aD){b:List Nat}{os:List (List Nat)}{h:Nat}(hb:b.length=h)(nk:RT (af m) h os)(nb:nul b=false):RT (af m) (h-1) (gX m b os):=λx hx=>by
 obtain⟨o,ho,rfl⟩:=bE.mp hx;obtain⟨hp,_⟩:=IH nb;obtain⟨l1,l2⟩:=nk o ho;refine⟨by rw[dO,kg,lh,oU,l1,hb];omega,λy hy=>?_⟩;have:AllLt (af m) (dP (λx y=>bA m x (gm m (gm m (o.getD (a6 b) 0) (oB m (b.getD (a6 b) 0))) y)) o b):=DO λx hx y _=>(kL hm (l2 x hx) (cR hm _ y)).2.1;rcases cZ.mp hy with z | z
 ·exact this y (zF z)
 ·exact this y (qX z)
theorem Gs.next(hm:m∈aD){s:Cs}(G:Gs m C w s){i:Nat}(hi:i<s.2.length)(nb:nul (s.2.getD i [])=false)(hC:∀j k,C j k<af m):Gs m C w (gY m w (s,i)):=by
 have r:=rg hm;have h0:=cI m hm;have dw:=lo1 hm;have hle:=G.le;obtain⟨h,Ee⟩:=G.rt;obtain⟨bl,ba⟩:=Ee _ (dR hi []);have QF:RT (af m) h (s.2.drop (i+1)):=λx hx=>Ee x (qX hx);have kl:(gY m w (s,i)).2.length=s.2.length-i-1:=by
  show(gX m _ _).length=_;rw[IK,lh];show s.2.length-(i+1)=_;omega
 have dl:(s.2.drop (i+1)).length=s.2.length-i-1:=by rw[lh];omega
 have ko:w-(gY m w (s,i)).2.length=w-s.2.length+i+1:=by omega
 have dg:∀j,(s.2.drop (i+1)).getD j []=s.2.getD (i+1+j) []:=λj=>by rw[aT,Lx,<- aT]
 refine⟨by omega,?_,λp hp=>?_,λj hj=>?_,⟨h-1,cJ2 hm bl QF nb⟩,λa ha=>?_,λc hc hz t ht=>?_⟩
 ·refine Cy.mpr ⟨G.inc,LN _ _,λx hx y hy=>?_⟩;rw[eT.mp hy];have:=G.off x hx;show x<w-s.2.length+i;omega
 ·rw[ko];rcases cZ.mp hp with z | z
  ·have:=G.off p z;omega
  ·rw[eT.mp z];exact Cd _
 ·rw[ko];have:=hj (w-s.2.length+i) (fN _ (eT.mpr rfl));omega
 ·have e1:(∀k,sm (gp m) (gY m w (s,i)).2.length (λj=>gm m (a j) (cf ((gY m w (s,i)).2.getD j []) k))=0)↔∃e,e<af m/\∀k,gp m (sm (gp m) (s.2.length-i-1) λj=>gm m (a j) (cf (s.2.getD (i+1+j) []) k)) (gm m e (cf (s.2.getD i []) k))=0:=by
   have:=cF6 hm bl ba QF nb ha;rw[dl]at this;rw[kl];refine this.trans ?_;constructor
   ·rintro⟨e,e1,e2⟩;exact⟨e,e1,λk=>by rw[<-e2 k,dD λj _=>by rw[<-dg j]]⟩
   ·rintro⟨e,e1,e2⟩;exact⟨e,e1,λk=>by rw[<-e2 k,dD λj _=>by rw[dg j]]⟩
  rw[e1];have al:∀e,e<af m->∀j,(if j<i then 0 else if j=i then e else a (j-i-1))<af m:=λe he j=>by
   split
   ·omega
   ·split
    ·exact he
    ·exact ha _
  have QG:∀(c:Nat->Nat) (e k:Nat),gp m (sm (gp m) s.2.length λj=>gm m (if j<i then 0 else if j=i then e else a (j-i-1)) (C (w-s.2.length+j) k)) (gq m C s.1 c k)=gp m (sm (gp m) (s.2.length-i-1) λj=>gm m (a j) (C (w-s.2.length+i+1+j) k)) (gp m (gq m C s.1 c k) (gm m e (C (w-s.2.length+i) k))):=λc e k=>by
   rw[sS hm hi a (λj=>C (w-s.2.length+j) k),DL,ow m (gm m e _)];congr 1;exact dD λj _=>by rw[show w-s.2.length+(i+1+j)=w-s.2.length+i+1+j by omega]
  have ln:∀c k,gq m C (gY m w (s,i)).1 c k=gp m (gq m C s.1 c k) (gm m (c s.1.length) (C (w-s.2.length+i) k)):=λc k=>Ec hm C s.1 _ c k;constructor
  ·rintro⟨e,e1,e2⟩;obtain⟨c,c1,c2⟩:=(G.rel _ (al e e1)).mp λk=>by
    rw[sS hm hi a (λj=>cf (s.2.getD j []) k)];exact e2 k
   refine⟨λt=>if t=s.1.length then e else c t,λt=>by
    show(if t=s.1.length then e else c t)<af m;split
    ·exact e1
    ·exact c1 t,λk=>?_⟩
   rw[ln,ko,kl,if_pos rfl,Qy (c':=c) λt ht=>if_neg (eI ht),<- QG c e k];exact c2 k
  ·rintro⟨c,c1,c2⟩;refine⟨c s.1.length,c1 _,λk=>?_⟩;have:=(G.rel _ (al _ (c1 s.1.length))).mpr ⟨c,c1,λk=>by
    rw[QG c _ k];have:=c2 k;rw[ln,ko,kl]at this;exact this⟩ k
   rw[sS hm hi a (λj=>cf (s.2.getD j []) k)]at this;exact this
 ·have ln:∀k,gp m (gq m C s.1 c k) (gm m (c s.1.length) (C (w-s.2.length+i) k))=0:=λk=>by
   rw[<-Ec hm C s.1 _ c k];exact hz k
  have e0:c s.1.length=0:=by
   refine zD λz=>?_;have al:∀j,(if j<i then 0 else if j=i then c s.1.length else(λ_=>0) (j-i-1))<af m:=λj=>by
    split
    ·omega
    ·split
     ·exact hc _
     ·show 0<_;omega
   have z0:∀(n:Nat) (X:Nat->Nat),sm (gp m) n (λj=>gm m ((λ_=>0) j) (X j))=0:=λn X=>iw r λ_ _=>fH m _ h0;have:=(G.rel _ al).mpr ⟨c,hc,λk=>by
    rw[sS hm hi (λ_=>0) (λj=>C (w-s.2.length+j) k),z0,r.z (cR hm _ _),ow];exact ln k⟩
   have nn:nul (s.2.getD i [])=true:=Qz.mpr λk=>by
    have q:=this k;rw[sS hm hi (λ_=>0) (λj=>cf (s.2.getD j []) k),z0,r.z (cR hm _ _)]at q;rcases(Ea hm (hc _) (gb hm ba k)).mp q with y | y
    ·exact absurd y z
    ·exact y
   rw[nb]at nn;cases nn
  have hs:∀k,gq m C s.1 c k=0:=λk=>by
   have:=ln k;rw[e0,fH m _ h0,sH (cN6 hm C _ c k)]at this;exact this
  have hl:(gY m w (s,i)).1.length=s.1.length+1:=by show(s.1++[_]).length=_;rw[dO];rfl
  by_cases ct:t<s.1.length
  ·exact G.ind c hc hs t ct
  ·rw[show t=s.1.length by omega];exact e0
theorem Gs.bound(hm:m∈aD){s:Cs}(G:Gs m C w s)(hi:i<s.2.length)(hC:∀j k,C j k<af m):nul (s.2.getD i [])=true↔∃c:Nat->Nat,(∀t,c t<af m)/\c s.1.length=1/\∀k,gq m C (s.1++[w-s.2.length+i]) c k=0:=by
 have r:=rg hm;have h0:=cI m hm;have dw:=lo1 hm;obtain⟨h,Ee⟩:=G.rt;obtain⟨bl,ba⟩:=Ee _ (dR hi []);have al:∀j,(if j<i then 0 else if j=i then 1 else(λ_=>0) (j-i-1))<af m:=λj=>by
  split
  ·omega
  ·split
   ·omega
   ·show 0<_;omega
 have z0:∀(n:Nat) (X:Nat->Nat),sm (gp m) n (λj=>gm m ((λ_=>0) j) (X j))=0:=λn X=>iw r λ_ _=>fH m _ h0;have e1:nul (s.2.getD i [])=true↔∀k,sm (gp m) s.2.length (λj=>gm m (if j<i then 0 else if j=i then 1 else(λ_=>0) (j-i-1)) (cf (s.2.getD j []) k))=0:=by
  rw[Qz];refine forall_congr' λk=>?_;rw[sS hm hi (λ_=>0) (λj=>cf (s.2.getD j []) k),z0,r.z (cR hm _ _),ot (gb hm ba k)]
 rw[e1,G.rel _ al];constructor
 ·rintro⟨c,c1,c2⟩;refine⟨λt=>if t=s.1.length then 1 else c t,λt=>by
   show(if t=s.1.length then 1 else c t)<af m;split
   ·omega
   ·exact c1 t,if_pos rfl,λk=>?_⟩
  rw[Ec hm,if_pos rfl,Qy (c':=c) λt ht=>if_neg (eI ht),ow,<- c2 k,sS hm hi (λ_=>0) (λj=>C (w-s.2.length+j) k),z0,r.z (cR hm _ _)]
 ·rintro⟨c,c1,c2,c3⟩;refine⟨c,c1,λk=>?_⟩;have:=c3 k;rw[Ec hm,c2]at this;rw[sS hm hi (λ_=>0) (λj=>C (w-s.2.length+j) k),z0,r.z (cR hm _ _),ow];exact this
end
def jC:List Nat->List Nat->Prop
 | a::as,b::bs=>a<b\/(a=b/\jC as bs)
 | _,_=>False
theorem QH:∀l:List Nat,¬ jC l l
 | [],h=>h
 | a::l,h=>h.elim (λz=>g7 _ z) λz=>QH l z.2
theorem QI:∀a b:List Nat,jC a b->¬ jC b a
 | [],_,h,_=>h
 | _::_,[],h,_=>h
 | a::as,b::bs,h,h'=>by
  rcases h with h | ⟨rfl,h⟩
  ·rcases h' with h' | ⟨e,_⟩
   ·omega
   ·omega
  ·rcases h' with h' | ⟨_,h'⟩
   ·omega
   ·exact QI as bs h h'
theorem QJ:∀(a b:List Nat) (x y:List Nat),a.length=b.length->jC a b->jC (a++x) (b++y)
 | [],_,_,_,_,h=>h.elim
 | _::_,[],_,_,_,h=>h.elim
 | a::as,b::bs,x,y,hl,h=>by
  rcases h with h | ⟨e,h⟩
  ·exact .inl h
  ·exact .inr ⟨e,QJ as bs x y (by simpa using hl) h⟩
theorem QK:∀(a:List Nat) (x y:Nat),x<y->jC (a++[x]) (a++[y])
 | [],_,_,h=>.inl h
 | _::as,x,y,h=>.inr ⟨rfl,QK as x y h⟩
def iQ(w:Nat)(S:List Nat):Prop:=S.Pairwise (· < ·)/\∀x∈S,x<w
theorem QL:∀(S:List Nat) (lo w:Nat),S.Pairwise (· < ·)->(∀x∈S,lo<=x/\x<w)->S.length<=w-lo
 | [],_,_,_,_=>iT _
 | a::S,lo,w,hp,h=>by
  rw[Cv]at hp;have ih:=QL S (a+1) w hp.2 λx hx=>⟨hp.1 x hx,(h x (iB _ hx)).2⟩;have ha:=h a (ke ..);rw[jJ];omega
theorem iQ.len{S:List Nat}(h:iQ w S):S.length<=w:=QL S 0 w h.1 λx hx=>⟨iT _,h.2 x hx⟩
theorem iQ.take{S:List Nat}(h:iQ w S)(k:Nat):iQ w (S.take k):=⟨h.1.sublist (List.take_sublist k S),λx hx=>h.2 x (zF hx)⟩
def kT(w:Nat)(z:Cs × Nat):List Nat:=z.1.1++[w-z.1.2.length+z.2]
structure Lv(m:Bool × Nat)(C:Nat->Nat->Nat)(w k:Nat)(l:List Cs):Prop where
 gs:∀s∈l,Gs m C w s/\s.1.length=k
 all:∀S,iQ w S->S.length=k->∃s∈l,s.1=S
 ord:(l.map (·.1)).Pairwise jC
theorem yV:z∈dY l↔z.1∈l/\z.2<z.1.2.length:=by
 unfold dY;rw[List.mem_flatMap];constructor
 ·rintro⟨s,hs,hz⟩;obtain⟨i,hi,rfl⟩:=bE.mp hz;exact⟨hs,cJ.mp hi⟩
 ·rintro⟨h1,h2⟩;exact⟨z.1,h1,bE.mpr ⟨z.2,cJ.mpr h2,rfl⟩⟩
section
variable{m:Bool × Nat}{C:Nat->Nat->Nat}{w:Nat}
theorem IL{k:Nat}:∀{l:List Cs},(∀s∈l,s.1.length=k)->(l.map (·.1)).Pairwise jC->((dY l).map (kT w)).Pairwise jC
 | [],_,_=>Li
 | s::l,hl,ho=>by
  rw[dN,Cv]at ho;show(((fW s)++dY l).map (kT w)).Pairwise jC;rw[eV,Cy];refine⟨?_,IL (λs hs=>hl s (iB _ hs)) ho.2,λa ha b hb=>?_⟩
  ·unfold fW;rw[cE];refine List.pairwise_map.mpr (ZM.imp λ{a b} Bu=>?_);exact QK s.1 _ _ (show w-s.2.length+a<w-s.2.length+b by omega)
  ·obtain⟨z,hz,rfl⟩:=bE.mp ha;obtain⟨i,_,rfl⟩:=bE.mp hz;obtain⟨y,hy,rfl⟩:=bE.mp hb;obtain⟨h1,_⟩:=yV.mp hy;exact QJ _ _ _ _ (by rw[hl s (ke ..),hl _ (iB _ h1)]) (ho.1 _ (bE.mpr ⟨_,h1,rfl⟩))
theorem Lv.meets(L:Lv m C w k l){S:List Nat}(hS:iQ w S)(hk:S.length=k+1):∃z∈dY l,kT w z=S:=by
 have e:S=S.take k++[S.getD k 0]:=by
  have h1:S.drop k=[S.getD k 0]:=by
   rw[ZN (by omega),List.drop_of_length_le (by omega),aT,aV (by omega)];rfl
  conv=>lhs;rw[<-FD k S,h1]
 obtain⟨s,hs,es⟩:=L.all _ (hS.take k) (by rw[kg];omega);obtain⟨G,_⟩:=L.gs s hs;have hj:∀p∈s.1,p<S.getD k 0:=λp hp=>by
  rw[es]at hp;have:=hS.1;rw[e,Cy]at this;exact this.2.2 p hp _ (eT.mpr rfl)
 have h1:=G.nx _ hj;have h2:=hS.2 (S.getD k 0) (dR (by omega) 0);have h3:=G.le;refine⟨(s,S.getD k 0-(w-s.2.length)),yV.mpr ⟨hs,?_⟩,?_⟩
 ·show S.getD k 0-(w-s.2.length)<s.2.length;omega
 ·show s.1++[w-s.2.length+(S.getD k 0-(w-s.2.length))]=S;rw[show w-s.2.length+(S.getD k 0-(w-s.2.length))=S.getD k 0 by omega,es];exact e.symm
theorem Lv.next(hm:m∈aD)(hC:∀j k,C j k<af m)(L:Lv m C w k l)(hn:∀z∈dY l,qt z=false):Lv m C w (k+1) ((dY l).map (gY m w)) where
 gs:=λs hs=>by
  obtain⟨z,hz,rfl⟩:=bE.mp hs;obtain⟨h1,h2⟩:=yV.mp hz;obtain⟨G,hl⟩:=L.gs _ h1;refine⟨G.next hm h2 (hn z hz) hC,?_⟩;show(z.1.1++[_]).length=_;rw[dO,hl];rfl
 all:=λS hS hk=>by
  obtain⟨z,hz,e⟩:=L.meets hS hk;exact⟨gY m w z,bE.mpr ⟨z,hz,rfl⟩,e⟩
 ord:=by
  rw[cE];exact IL (λs hs=>(L.gs s hs).2) L.ord
theorem IM(hm:m∈aD)(hC:∀j k,C j k<af m):∀(f k:Nat) (l:List Cs),Lv m C w k l->w+1<=f+k ->
  match v3 m w f l with
  | none=>∀S,iQ w S->k<=S.length->qu m C S
  | some F=>iQ w F/\k<F.length/\(∃c:Nat->Nat,(∀t,c t<af m)/\c (F.length-1)=1/\∀j,gq m C F c j=0)/\∀S,iQ w S->k<=S.length->S.length<F.length\/(S.length=F.length/\jC S F)->qu m C S
 | 0,k,l,L,hf=>λS hS hk=>absurd hS.len (by omega)
 | f+1,k,l,L,hf=>by
  have here:∀S,iQ w S->S.length=k->qu m C S:=λS hS hk=>by
   obtain⟨s,hs,rfl⟩:=L.all S hS hk;exact(L.gs s hs).1.ind
  rw[v3];by_cases l0:l=[]
  ·rw[if_pos l0];subst l0;intro S hS hk;obtain⟨s,hs,_⟩:=L.all (S.take k) (hS.take k) (by rw[kg];omega);cases hs
  ·rw[if_neg l0]
   cases e:(dY l).find? qt with
   | some z =>
    obtain⟨hz,as,bs,eL,sT⟩:=ZO.mp e;obtain⟨h1,h2⟩:=yV.mp (Lp e);obtain⟨G,hl⟩:=L.gs _ h1;have hle:=G.le;have fl:(kT w z).length=k+1:=by show(z.1.1++[_]).length=_;rw[dO,hl];rfl
    refine⟨⟨?_,λx hx=>?_⟩,by show k<(kT w z).length;omega,?_,λS hS hk hc=>?_⟩
    ·refine Cy.mpr ⟨G.inc,LN _ _,λx hx y hy=>?_⟩;rw[eT.mp hy];have:=G.off x hx;omega
    ·rcases cZ.mp hx with q | q
     ·have:=G.off x q;omega
     ·rw[eT.mp q];omega
    ·obtain⟨c,c1,c2,c3⟩:=(G.bound hm h2 hC).mp hz;refine⟨c,c1,?_,c3⟩;show c ((kT w z).length-1)=1;rw[fl,Nat.add_sub_cancel,<- hl];exact c2
    ·by_cases ck:S.length=k
     ·exact here S hS ck
     have cl:S.length=k+1/\jC S (kT w z):=by
      rcases hc with q | ⟨q1,q2⟩
      ·exact absurd (show S.length<(kT w z).length from q) (by omega)
      ·exact⟨(show S.length=(kT w z).length from q1).trans fl,q2⟩
     obtain⟨y,hy,ey⟩:=L.meets hS cl.1;obtain⟨y1,y2⟩:=yV.mp hy;obtain⟨Gy,_⟩:=L.gs _ y1
     cases ny:qt y with
     | false =>
      have:=(Gy.next hm y2 ny hC).ind
      rwa [show(gY m w (y.1,y.2)).1=S from ey]at this
     | true =>
      exfalso;have od:=IL (w:=w) (λs hs=>(L.gs s hs).2) L.ord;rw[eL]at hy od;rw[eV,dN,Cy]at od;have od2:=(Cv.mp od.2.1).1;rcases cZ.mp hy with q | q
      ·have:=sT y q;rw[ny]at this;simp at this
      ·rcases cO.mp q with q | q
       ·rw[q]at ey;rw[<-ey]at cl;exact QH _ cl.2
       ·have:=od2 _ (bE.mpr ⟨y,q,rfl⟩);rw[ey]at this;exact QI _ _ this cl.2
   | none =>
    have hn:∀z∈dY l,qt z=false:=λz hz=>by
     have:=LL.mp e z hz;simpa using this
    have ih:=IM hm hC f (k+1) _ (L.next hm hC hn) (by omega);dsimp only;split
    ·rename_i e2;rw[e2]at ih;intro S hS hk;by_cases ck:S.length=k
     ·exact here S hS ck
     ·exact ih S hS (by omega)
    ·rename_i F e2;rw[e2]at ih;obtain⟨i1,i2,i3,i4⟩:=ih;refine⟨i1,by omega,i3,λS hS hk hc=>?_⟩;by_cases ck:S.length=k
     ·exact here S hS ck
     ·exact i4 S hS (by omega) hc
end
def gZ(T:List (List Nat))(j k:Nat):Nat:=cf (T.getD k []) j
theorem IQ(hm:m∈aD)(hT:RT (af m) w T)(j k:Nat):gZ T j k<af m:=by
 unfold gZ;by_cases hk:k<T.length
 ·exact gb hm (hT _ (dR hk [])).2 j
 ·have e:T.getD k []=[]:=by rw[aT,gu (by omega)];rfl
  rw[e];have:=lo1 hm;show 0<_;omega
theorem Lv.start(hm:m∈aD)(hw:0<ay T)(hT:RT (af m) (ay T) T):Lv m (gZ T) (ay T) 0 [([],dS T)]:=by
 have r:=rg hm;obtain⟨t1,t2,t3⟩:=D2 (Nat.lt_trans Nat.zero_lt_one (lo1 hm)) hw hT;refine⟨λs hs=>?_,λS _ h=>⟨_,eT.mpr rfl,(ZP.mp h).symm⟩,LN _ _⟩;rw[eT.mp hs];refine⟨⟨Cc t1,Li,λp hp=>absurd hp (iD),λj _=>by show ay T-(dS T).length<=j;omega,⟨_,t3⟩,λa ha=>?_,λc _ _ t ht=>absurd ht (by show ¬ t<0;omega)⟩,rfl⟩;have e:∀k,sm (gp m) (dS T).length (λi=>gm m (a i) (cf ((dS T).getD i []) k))=sm (gp m) (dS T).length λi=>gm m (a i) (gZ T (ay T-(dS T).length+i) k):=λk=>dD λi hi=>by
  rw[Qs (by omega),Qp,show ay T-(dS T).length+i=i by omega];rfl
 have z:∀c k,gq m (gZ T) [] c k=0:=λ_ _=>rfl;constructor
 ·intro h;refine⟨λ_=>0,λ_=>by have:=lo1 hm;show 0<_;omega,λk=>?_⟩;rw[z,sH (qp r λ_ _=>cR hm _ _),<- e k];exact h k
 ·rintro⟨c,_,h⟩ k;have:=h k;rw[z,sH (qp r λ_ _=>cR hm _ _),<- e k]at this;exact this
def j9(m:Bool × Nat)(T:List (List Nat)):Option (List Nat):=v3 m (ay T) (ay T+1) [([],dS T)]
section
variable{m:Bool × Nat}{C:Nat->Nat->Nat}
end
def yW(T:List (List Nat))(F:List Nat):List (List Nat):=T.map λr=>F.map λj=>r.getD j 0
theorem cR8(h0:0<N)(hT:RT N w T):RT N F.length (yW T F)/\(yW T F).length=T.length:=by
 refine⟨λx hx=>?_,by unfold yW;rw[bq]⟩;obtain⟨r,hr,rfl⟩:=bE.mp hx;refine⟨by rw[bq],λy hy=>?_⟩;obtain⟨j,_,rfl⟩:=bE.mp hy;exact(hT r hr).2.getD h0 j
theorem cS7{k t:Nat}(hk:k<T.length)(ht:t<F.length):cf ((yW T F).getD k []) t=gZ T (F.getD t 0) k:=by
 unfold yW gZ cf;rw[sQ _ hk [] [],sQ _ ht 0 0]
theorem cK7(m:Bool × Nat){k:Nat}(hk:k<T.length)(x:Nat->Nat):dt m F.length (cf ((yW T F).getD k [])) x=gq m (gZ T) F x k:=by
 unfold dt gq;exact dD λt ht=>by rw[cS7 hk ht,gj]
theorem QM:∀(n lo w:Nat) (F:List Nat),F.Pairwise (· < ·)->(∀x∈F,lo<=x)->F.length=n->F=List.range' lo n\/jC (List.range' lo n) F
 | 0,_,_,F,_,_,h=>.inl (ZP.mp h)
 | n+1,lo,w,F,hp,hl,h=>by
  cases F with
  | nil=>cases h
  | cons a F =>
   rw[Cv]at hp;have ha:=hl a (ke ..);rw[List.range'_succ];by_cases e:lo=a
   ·subst e;rcases QM n (lo+1) w F hp.2 (λx hx=>hp.1 x hx) (by simpa using h)with q | q
    ·exact .inl (by rw[q])
    ·exact .inr (.inr ⟨rfl,q⟩)
   ·exact .inr (.inl (by omega))
theorem ci0(hd:(aL o G)[i]?=some d):∃hi:i<G.length,d=.lst o (av G[i]):=by
 unfold aL at hd;rw[cy]at hd;by_cases hi:i<G.length
 ·rw[aV hi]at hd;exact⟨hi,(dr hd).symm⟩
 ·rw[gu (by omega)]at hd;cases hd
end L3
namespace L3
open PySem L2 PySem.Spec PyProof.Rows
section
variable{B:Bs}{F H:Hp}{σ:L2.St}{δ:Dl}{ts:List (D × V)}
end
section
variable{X:Cx}{a:Expr}{ta:aK}{pos p2:Pos}{tk:Nat}
end
section
variable{X:Cx}{a b:Expr}{ta tb:aK}{elts:List Expr}{x1:Nat}{nM p pos:Pos}
end
end L3
namespace L3
open PySem L2 Mf
section
variable{m:Bool × Nat}
theorem QN(hm:m∈aD)(hw:0<ay T)(hT:RT (af m) (ay T) T)(h:j9 m T=none):∀S,iQ (ay T) S->qu m (gZ T) S:=by
 have:=IM hm (IQ hm hT) (ay T+1) 0 _ (Lv.start hm hw hT) (by omega);unfold j9 at h;rw[h]at this;exact λS hS=>this S hS (iT _)
theorem IS(hm:m∈aD)(hw:0<ay T)(hT:RT (af m) (ay T) T)(h:j9 m T=some F):iQ (ay T) F/\0<F.length/\(∃c:Nat->Nat,(∀t,c t<af m)/\c (F.length-1)=1/\∀j,gq m (gZ T) F c j=0)/\∀S,iQ (ay T) S->S.length<F.length\/(S.length=F.length/\jC S F)->qu m (gZ T) S:=by
 have:=IM hm (IQ hm hT) (ay T+1) 0 _ (Lv.start hm hw hT) (by omega);unfold j9 at h;rw[h]at this;obtain⟨a,b,c,d⟩:=this;exact⟨a,b,c,λS hS=>d S hS (iT _)⟩
structure Bv(m:Bool × Nat)(R W:Nat)(x y:Nat->Nat)(T:List (List Nat)):Prop where
 rt:RT (af m) W T
 l:T.length=R
 xl:∀j,x j<af m
 xd:∀i j,i<W->j<W->x i=x j->i=j
 yl:∀j,y j<af m
 y0:∀j,j<W->y j≠0
 at_:∀i,i<R->∃k,k<R/\∀j,j<W->gZ T j k=gm m (y j) (px m (x j) i)
theorem Bv.ind(hm:m∈aD){R W:Nat}{x y:Nat->Nat}(h:Bv m R W x y T){S:List Nat}(hS:iQ W S)(hR:S.length<=R):qu m (gZ T) S:=by
 intro c hc hz t ht;have gS:∀t,t<S.length->S.getD t 0<W:=λt ht=>hS.2 _ (dR ht 0);have:=Qx hm (λt=>x (S.getD t 0)) (λ_=>h.xl _) S.length (λt=>gm m (c t) (y (S.getD t 0))) (λ_=>cR hm _ _) (λi j hi hj e=>by
  have e':=h.xd _ _ (gS i hi) (gS j hj) e;rcases FA i j with q | q | q
  ·have:=FC.mp hS.1 i j hi hj q;rw[aT,aT,aV hi,aV hj]at e';have e2:S[i]=S[j]:=e';omega
  ·exact q
  ·have:=FC.mp hS.1 j i hj hi q;rw[aT,aT,aV hi,aV hj]at e';have e2:S[i]=S[j]:=e';omega) (λi hi=>by
  obtain⟨k,_,hk⟩:=h.at_ i (by omega);refine Eq.trans (dD λt ht=>?_) (hz k);show gm m (gm m (c t) (y (S.getD t 0))) (px m (x (S.getD t 0)) i)=gm m (c t) (gZ T (S.getD t 0) k);rw[hk _ (gS t ht),iu (cI m hm)]) t ht
 rcases(Ea hm (hc t) (h.yl _)).mp this with z | z
 ·exact z
 ·exact absurd z (h.y0 _ (gS t ht))
theorem IT(h:n<=W):iQ W (aI n):=⟨ZM,λx hx=>by have:=cJ.mp hx;omega⟩
theorem IU(hm:m∈aD)(hT:RT (af m) W T)(hF:T.length<F.length):¬ qu m (gZ T) F:=λI=>by
 have dw:=lo1 hm;obtain⟨p1,p2⟩:=cR8 (F:=F) (by omega) hT;obtain⟨x,f,hf,hx,x1,hz⟩:=Qv hm p1 (by omega);have:=I x hx (λk=>by
  by_cases hk:k<T.length
  ·rw[<-cK7 m hk];exact hz k (by omega)
  ·refine iw (rg hm) λt _=>?_;have e:gZ T (F.getD t 0) k=0:=by
    unfold gZ;rw[show T.getD k []=[] by rw[aT,gu (by omega)];rfl];rfl
   rw[e,lY m _ (cI m hm)]) f hf
 omega
theorem cz8(h0:0<F.length)(c1:∀t,c t<af m)(c2:c (F.length-1)=1)(c3:∀k,gq m C F c k=0):¬ qu m C F:=λI=>by
 have:=I c c1 c3 (F.length-1) (by omega);omega
theorem Bv.first(hm:m∈aD){R W:Nat}{x y:Nat->Nat}(h:Bv m R W x y T)(hW:0<W)(hw:ay T=W):j9 m T=if R<W then some (aI (R+1))else none:=by
 subst hw
 cases e:j9 m T with
 | none =>
  have:=QN hm hW h.rt e;by_cases c:R<ay T
  ·exact absurd (this _ (IT (n:=R+1) c)) (IU hm h.rt (by rw[bW,h.l];omega))
  ·rw[if_neg c]
 | some F =>
  obtain⟨a1,a2,⟨c,c1,c2,c3⟩,a4⟩:=IS hm hW h.rt e;have ni:=cz8 a2 c1 c2 c3;have hl:R<F.length:=Nat.lt_of_not_le λz=>ni (h.ind hm a1 z);have c:R<ay T:=cY hl a1.len;rw[if_pos c];have nr:=IU hm h.rt (F:=aI (R+1)) (by rw[bW,h.l];omega);have hr:=IT (n:=R+1) c;have lr:(aI (R+1)).length=R+1:=bW;have l2:F.length=R+1:=by
   rcases qY (R+1) F.length with q | q
   ·exact absurd (a4 _ hr (.inl (by omega))) nr
   ·omega
  rcases QM (R+1) 0 (ay T) F a1.1 (λ_ _=>iT _) l2 with q | q
  ·rw[q,ZQ]
  ·rw[<-ZQ]at q;exact absurd (a4 _ hr (.inr ⟨by omega,q⟩)) nr
end
end L3
namespace L3
open PySem L2 PySem.Spec PyProof.Rows
section
variable{F H:Hp}{p q:Addr}{xs ys:List D}{ws us:List V}
theorem ci2(s:S F H [.tup xs] [v])(e:ah F H):∃p ws,v=.ref p/\H p=some (.tup ws)/\R H H (xs.map D.sh) ws []/\((D.tup xs).pl=true->xs.all D.pl=true/\R F H xs ws []):=by
 cases s with
 | @tup p ws _ _ _ h sx sr=>exact⟨p,ws,rfl,h,sx.frozen e,λz=>by rw[kD]at z;exact⟨z,sx.r z⟩⟩
end
section
variable{X:Cx}{a b l tg:Expr}{ta:b8}{te:aK}{p pos nM:Pos}{elts:List Expr}{x1:Nat}
end
section
variable{B:Bs}{F H:Hp}{σ:L2.St}{δ:Dl}{ts:List (D × V)}
theorem ax.QO(c:ax B F H σ δ ((.tup (d::xs),.ref p)::ts))(e1:H p=some (.tup (z::ws))):ax B F H σ δ ((d,z)::ts):=by
 refine ax.pack (ps:=[(.tup (d::xs),.ref p)]) c (ah.refl _) λA1 r1 nd=>?_;have r1:R F H [.tup (d::xs)] [.ref p] A1:=r1
 cases r1 with
 | @tup _ wx _ Ax _ _ Bx hx rx rc =>
  cases rc;rw[e1]at hx;cases hx;obtain⟨v,cW,B1,B2,e,rfl,h1,h2⟩:=R.dA rx;obtain⟨rfl,rfl⟩:=mi e;rw[fY]at nd;exact⟨B1,h1,(jW.mp nd).1,λa ha=>.inl (by simp[ha])⟩
end
section
variable{X:Cx}{a:Expr}{ta:aK}{pos p2:Pos}{tk:Nat}
end
end L3
namespace L2
open PySem PySem.Spec PyProof.Rows
section
variable{X:Cx}
theorem b19:Ai X "list.count" (λx xs H Q=>∃(p:Addr) (ns:List Int) (k:Int),x=.ref p/\xs=[.int k]/\bN X.K H p (ns.map V.int)/\Q (.int (ns.count k:Nat)) H):=by
 intro pins s σ H x xs v us Q I rx r h;obtain⟨p,ns,k,rfl,rfl,hS,q⟩:=h;cases rx;obtain⟨u,rfl,ru⟩:=r.one;obtain⟨t,rfl⟩:=ru;obtain⟨its,rv,pl,hz⟩:=I.list hS;exact count_list_ints pl.isList (MG rv) ⟨.int _,H,I.tok _,⟨_,rfl⟩,q⟩
end
end L2
namespace L3
open PySem L2 PySem.Spec PyProof.Rows
section
variable{X:Cx}{o e:Expr}{t tb:aK}{apos bK:Pos}
def v7(t tb:aK):aK:=λδ Q=>t δ λd aq=>∃(o:Bool) (ns:List Int),d=.lst o (aP ns)/\tb aq λb aR=>∃k,b=.int k/\Q (.int (ns.count k:Nat)) aR
theorem cz7(ho:PE X o (lB t))(he:PE X e (lB tb))(mB:attributeBase o "count" X.env (eval o X.env)=eval o X.env:=by rfl)
  (Al:((backTo bK (starEach [e] X.env)).all (λx=>!x.1)&&(backToKw bK (keywordEach [] X.env)).all (λx=>x.1.isSome)
   && decide ([e].length+([]:List Keyword).length+(if([]:List Keyword).isEmpty then 0 else 1)<30))=true:=by rfl)
  (mC:(apos.endLine==bK.line)=true:=by rfl) (hs:starEach [e] X.env=(false,eval e X.env)::starEach [] X.env:=by rfl) (Am:(backTo bK (starEach [] X.env)).any (·.1)=false:=by rfl) :
  PE X (.Call (.Attribute o "count" apos) [e] [] bK) (lE (v7 t tb)) :=
 df (MS PySem.F.plainAttrs_list PySem.F.slot_list_count PySem.F.type_list_count b19 ho (gI he mx hs) mB Al mC hs Am) λσ H Q zq=>by
 obtain⟨B,F,δ,ts,Qd,c,q,k⟩:=zq;exact⟨B,F,δ,ts,_,c,q,λd aq v F1 H1 q1 f1 h1 c1 s1=>by
  obtain⟨o,ns,rfl,q1⟩:=q1;obtain⟨p,ws,rfl,h,t⟩:=mS s1 c1.ext rfl;rw[Dw t]at h;exact⟨.inl ⟨rfl,_,kI h⟩,B,F1,aq,ts,_,c1,q1,λb aR w F2 H2 q2 f2 h2 c2 s2=>by
   obtain⟨n,rfl,q3⟩:=q2;cases s2;exact⟨p,ns,n,rfl,rfl,kI (h.elim (λz=>.inl (h2 _ _ z)) λ⟨o,z⟩=>.inr ⟨o,h2 _ _ z⟩),k _ aR _ F2 H2 q3 (f1.trans f2) (h1.trans h2) (c2.pushS (.int .nil) rfl)⟩⟩⟩
end
section
variable{X:Cx}{i:Nat}{x:Str}{p pos apos bK dy0 oE:Pos}{a b:List Stmt}{t u:bO}{k:Int}{j}
end
end L3
namespace L3
open PySem L2 Mf
section
variable{N:Nat}{p q:Nat->Nat->Nat}
variable{ng:Nat->Nat}{c:Nat}
end
section
variable{m:Bool × Nat}
theorem QP(hm:m∈aD)(x:Nat):∀{l:List Nat},AllLt (af m) l->∀n,l.length<=n->i8 m x l=sm (gp m) n λk=>gm m (cf l k) (px m x k)
 | [],_,n,_=>(iw (rg hm) λj _=>by rw[show cf [] j=0 from rfl,fH m _ (cI m hm)]).symm
 | a::l,h,0,hn=>by simp at hn
 | a::l,h,n+1,hn=>by
  have hl:AllLt (af m) l:=λb hb=>h b (by simp[hb]);rw[ce0 (rg hm) n λ_ _=>cR hm _ _];show gp m (gm m (i8 m x l) x) a=gp m (gm m a 1) (sm (gp m) n λj=>gm m (cf l j) (gm m (px m x j) x));rw[ou (h a (by simp)),ow,QP hm x hl n (by simpa using hn),gj m _ x,<- oA (rg hm)];congr 1;exact dD λj _=>by rw[gj m x,iu (cI m hm)]
end
end L3
namespace L2
open PySem PySem.Spec PyProof.Rows
section
variable{prog:Program}{w:World}{A:Around}{E:Value->Shared->Prop}{s:Shared}
end
section
variable{X:Cx}{e:Expr}{ta:TA}{p p2 pos oE:Pos}
end
end L2
namespace L3
open PySem L2 PySem.Spec PyProof.Rows
section
variable{X:Cx}{e:Expr}{tr:b8}{p p2 pos oE:Pos}
end
end L3
namespace L2
open PySem PySem.Spec PyProof.Rows
abbrev TJ:=Str->St->Hp->(Str->Hp->Prop)->Prop
section
variable{X:Cx}{e v1 v2:Expr}{es rest:List Expr}{te:TE}{t:TJ}{pos:Pos}
def PJ(X:Cx)(es:List Expr)(t:TJ):Prop:=∀(pins:List (Addr × Obj)) (s:Shared) (σ:St) (H:Hp) (acc:Str) (Q:Str->Hp->Prop),Inv X pins σ H s->t acc σ H Q ->
 Joins (model X.prog X.w) X.A X.xe (evalEach es X.env) acc (λout s1=>out.length<=sizeLine/\∃H',Inv X pins σ H' s1/\Q out H') s
theorem QQ(hs:evalEach [] X.env=[]:=by rfl):PJ X [] (λacc _ H Q=>acc.length<=sizeLine/\Q acc H):=λpins s σ H acc Q I zq=>by
 obtain⟨h1,h2⟩:=zq;rw[hs];exact⟨h1,H,I,h2⟩
theorem IV(he:PE X e te)(hr:PJ X es t)(hs:evalEach (e::es) X.env=eval e X.env::evalEach es X.env:=by rfl) :
  PJ X (e::es) (λacc σ H Q=>te σ H λv H1=>∃y,v=.str y/\(acc++y).length<=sizeLine/\t (acc++y) σ H1 Q):=λpins s σ H acc Q I h=>by
 rw[hs];refine aU (he pins s σ H _ I h) λu s1 ⟨x,H1,I1,r1,y,ex,hl,q⟩=>?_;subst ex;obtain⟨tk,rfl⟩:=r1;exact⟨y,tk,rfl,hl,hr pins s1 σ H1 _ Q I1 q⟩
theorem QR(h:PJ X (v1::v2::rest) t):PE X (.JoinedStr (v1::v2::rest) pos) (λσ H Q=>t qO σ H λout H'=>Q (.str out) H'):=λpins s σ H Q I hq=>by
 refine wpAny_JoinedStr ?_;have mono:∀(ps:List (Sem Value)) (acc:Str) (Q1 Q2:Str->Shared->Prop) (s:Shared),(∀o s,Q1 o s->Q2 o s)->Joins (model X.prog X.w) X.A X.xe ps acc Q1 s->Joins (model X.prog X.w) X.A X.xe ps acc Q2 s:=by
  intro ps
  induction ps with
  | nil=>exact λacc Q1 Q2 s m h=>m _ _ h
  | cons p ps ih=>exact λacc Q1 Q2 s m h=>aU h λv s1 ⟨y,tk,a,b,c⟩=>⟨y,tk,a,b,ih _ _ _ _ m c⟩
 exact mono _ _ _ _ _ (λout s1 ⟨hl,H',I',q⟩=>⟨hl,.str out,H',I'.tok _,⟨_,rfl⟩,q⟩) (h pins s σ H qO _ I hq)
theorem QS(he:PE X e te):PE X (.FormattedValue e (-1) none pos) (λσ H Q=>te σ H λv H1=>∃n:Int,v=.int n/\n.natAbs.log2<1920/\Q (.str (toString n)) H1):=λpins s σ H Q I h=>by
 refine wpAny_FormattedValue_plain (aU (he pins s σ H _ I h) λu s1 ⟨x,H1,I1,r1,n,ex,hn,q⟩=>?_);subst ex;obtain⟨tk,rfl⟩:=r1;exact wpAny_formatField_int hn ⟨.str _,H1,I1.tok _,⟨_,rfl⟩,q⟩
end
end L2
namespace L3
open PySem L2 PySem.Spec PyProof.Rows
abbrev yX:=Str->Dl->(Str->Dl->Prop)->Prop
def lJ(t:yX):TJ:=λacc σ H Q=>∃B F δ ts Qd,ax B F H σ δ ts/\t acc δ Qd/\∀out ag F' H',Qd out ag->ah F F'->ah H H'->ax B F' H' σ ag ts->Q out H'
def v9:yX:=λacc δ Q=>acc.length<=sizeLine/\Q acc δ
def dJ(te:aK)(t:yX):yX:=λacc δ Q=>te δ λd aq=>∃y,d=.str y/\(acc++y).length<=sizeLine/\t (acc++y) aq Q
def wa(t:yX):aK:=λδ Q=>t qO δ λout ag=>Q (.str out) ag
def wb(te:aK):aK:=λδ Q=>te δ λd aq=>∃n:Int,d=.int n/\n.natAbs.log2<1920/\Q (.str (toString n)) aq
section
variable{X:Cx}{e v1 v2:Expr}{es rest:List Expr}{te:aK}{t:yX}{pos:Pos}
theorem QT{t t':TJ}(h:PJ X es t)(m:∀acc σ H Q,t' acc σ H Q->t acc σ H Q):PJ X es t':=λpins s σ H acc Q I q=>h pins s σ H acc Q I (m acc σ H Q q)
theorem cV4(hs:evalEach [] X.env=[]:=by rfl):PJ X [] (lJ v9):=QT (QQ hs) λacc σ H Q ⟨B,F,δ,ts,Qd,c,⟨h1,h2⟩,k⟩=>⟨h1,k _ δ F H h2 (ah.refl _) (ah.refl _) c⟩
theorem QU(he:PE X e (lB te))(hr:PJ X es (lJ t))(hs:evalEach (e::es) X.env=eval e X.env::evalEach es X.env:=by rfl):PJ X (e::es) (lJ (dJ te t)) :=
 QT (IV he hr hs) λacc σ H Q zq=>by
 obtain⟨B,F,δ,ts,Qd,c,q,k⟩:=zq;exact⟨B,F,δ,ts,_,c,q,λd aq v F1 H1 ⟨y,ed,hl,q1⟩ f1 h1 c1 s1=>by
  subst ed;cases s1;exact⟨y,rfl,hl,B,F1,aq,ts,_,c1,q1,λout aR F2 H2 q2 f2 h2 c2=>k out aR F2 H2 q2 (f1.trans f2) (h1.trans h2) c2⟩⟩
theorem cL6(h:PJ X (v1::v2::rest) (lJ t)):PE X (.JoinedStr (v1::v2::rest) pos) (lE (wa t)) :=
 df (QR h) λσ H Q zq=>by
 obtain⟨B,F,δ,ts,Qd,c,q,k⟩:=zq;exact⟨B,F,δ,ts,_,c,q,λout aq F1 H1 q1 f1 h1 c1=>k _ aq _ F1 H1 q1 f1 h1 (c1.pushS (.str .nil) rfl)⟩
theorem cW8(he:PE X e (lB te)):PE X (.FormattedValue e (-1) none pos) (lE (wb te)) :=
 df (QS he) λσ H Q zq=>by
 obtain⟨B,F,δ,ts,Qd,c,q,k⟩:=zq;exact⟨B,F,δ,ts,_,c,q,λd aq v F1 H1 ⟨n,ed,hn,q1⟩ f1 h1 c1 s1=>by
  subst ed;cases s1;exact⟨n,rfl,hn,k _ aq _ F1 H1 q1 f1 h1 (c1.pushS (.str .nil) rfl)⟩⟩
end
end L3
namespace L3
open PySem L2 Mf
section
variable{m:Bool × Nat}
theorem cw7(hm:m∈aD){a x:Nat}(ha:a<af m)(hx:x<af m):bA m a (bA m a x)=x:=by
 have g:=kL hm ha hx;have k:=kL hm ha g.2.1;refine(rg hm).PV k.2.1 hx g.2.1 (k.2.2.trans ?_);rw[ow];exact g.2.2.symm
section
variable{b e L o:Nat}{y:List (Option Nat)}{w c:List Nat}{bb:Nat->Nat}
end
end
section
variable{m:Bool × Nat}
end
section
variable{m:Bool × Nat}
end
section
variable{m:Bool × Nat}
theorem b96(F:List (List Nat))(x:List Nat):(F++[x]).getD F.length []=x:=by
 rw[aT,nB (bR _),zQ];rfl
end
section
variable{m:Bool × Nat}
end
end L3
namespace L3
open PySem L2 PySem.Spec PyProof.Rows
section
variable{X:Cx}{e:Expr}{t:aK}
def wc(t:aK):aK:=λδ Q=>t δ λd ag=>Q d.sh ag
theorem Ef(h:PE X e (lE t)):PE X e (lB (wc t)):=df h λσ H Q zq=>by
 obtain⟨B,F,δ,ts,Qd,c,q,k⟩:=zq;exact⟨B,F,δ,ts,_,c,q,λd ag v F' H' hd sf sh c'=>by
 obtain⟨F2,f2,c2⟩:=c'.C5;exact k d.sh ag v F2 H' hd (sf.trans f2) sh c2.pop c2.top⟩
end
theorem b86(o:Bool){C:List (List Nat)}{n:Nat}(h:C.length=n+1):dW (aL o C) (-1)=some (.lst o (av (C.getD n []))):=by
 have e:ib (aL o C).length (-1)=some n:=by
  rw[j8,h];unfold ib;rw[if_neg (by decide),if_pos (by omega)];congr 1;omega
 unfold dW;rw[e];show(aL o C)[n]?=_;unfold aL;rw[cy,aV (by omega),aT,aV (by omega)];rfl
theorem cc2(o:Bool)(F:List (List Nat))(x:List Nat):dW (aL o (F++[x])) (-1)=some (.lst o (av x)):=by
 rw[b86 o (n:=F.length) (by rw[dO];rfl),b96]
end L3
namespace L3
open PySem L2 Mf
section
variable{m:Bool × Nat}
theorem QV(hm:m∈aD)(hT:RT (af m) (ay T) T):RT (af m) (ay T) (jB m (c9 m T) (ay T))/\(jB m (c9 m T) (ay T)).length<=ay T:=by
 obtain⟨⟨Hd,I⟩,iR,_,_⟩:=nh hm hT;refine⟨λr hr=>?_,?_⟩
 ·obtain⟨f,hf,rfl⟩:=bE.mp hr;obtain⟨k1,k2,_⟩:=Br hm iR I hf;exact⟨k1,k2⟩
 ·unfold jB gW;rw[bq];exact ff (ZR ..) (by rw[bW];exact bR _)
theorem cO6(hm:m∈aD)(hT:RT (af m) (ay T) T):∀r∈c9 m T,∃x∈r,x≠0:=λr bo=>by
 obtain⟨⟨Hd,I⟩,iR,_,_⟩:=nh hm hT;obtain⟨j,hj,rfl⟩:=ki bo;have:=(I.IC hm iR hj).2;rw[IG hj]at this;exact this
theorem cz9(hm:m∈aD)(hT:RT (af m) (ay T) T)(hx:xs.length=(jB m (c9 m T) (ay T)).length):∀r∈T,gd m r (nj m xs (jB m (c9 m T) (ay T)) (ay T))=0:=λr hr=>by
 have h0:=cI m hm;obtain⟨⟨Hd,I⟩,iR,_,_⟩:=nh hm hT;have s:cq m (c9 m T) (cf r):=cq.red hm hT (cq.of hr);rw[D0 m ((hT r hr).1.trans (ID ..).symm),(hT r hr).1];rw[dD (g:=λj=>gm m (cf r j) (sm (gp m) (jB m (c9 m T) (ay T)).length λi=>gm m (cf xs i) (cf ((jB m (c9 m T) (ay T)).getD i []) j))) λj hj=>by rw[IE m hx hj]];have e:=Qt hm (ay T) (cf r) (cf xs) (λi=>cf ((jB m (c9 m T) (ay T)).getD i [])) (jB m (c9 m T) (ay T)).length;unfold dt at e;rw[e];refine iw (rg hm) λi hi=>?_;have z:=dR hi [];generalize (jB m (c9 m T) (ay T)).getD i []=K at z;obtain⟨f,hf,rfl⟩:=bE.mp z;have:=cq.dt hm (R:=c9 m T) (n:=ay T) (y:=cf (iz m (c9 m T) (ay T) f)) (λi hi=>Qu hm iR I hf hi) s;unfold dt at this;rw[this,lY m _ h0]
end
section
variable{m:Bool × Nat}
end
end L3
namespace L2
open PySem PySem.Spec PyProof.Rows
section
variable{X:Cx}{CX:eW}{k:Nat}{f C:Addr}{fd:FuncData}{ps:List Str}{sp:Sp}{E:XK}{x m:Str}{p pos apos:Pos}{e:Expr}{es:List Expr}{t:TA}
def tCM(sp:Sp)(E:XK)(t:TA):TE:=λσ H Q=>t σ H λvs H1=>sp vs H1 Q E
theorem cW6{pl:Sem Bool}(M:qj X.K C m f)(F:aF X.prog X.w X.K X.mg X.base CX k f fd ps sp)(hr:bJ k X.A)(hb:Binds X.K fd ps [])(hx:my CX X E)(hg:Gl X x)(hm:X.mg x=some (.ref C))(ha:PA X (e::es) t)
  (cM:(x==("__debug__":Str))=false:=by decide) (bG:starEach (e::es) X.env=(false,eval e X.env)::starEach es X.env:=by rfl) (bh:(backTo pos (starEach es X.env)).any (·.1)=false:=by rfl)
  (ht:eval (.Call (.Attribute (.Name x p) m apos) (e::es) [] pos) X.env=(do
   let ov<-eval (.Name x p) X.env
   standAt apos.atName
   let (f,first)<-holding [ov] (getMethod ov m pl)
   callWith pos f first (backTo pos (starEach (e::es) X.env)) (backToKw pos (keywordEach [] X.env))):=by rfl) :
  PE X (.Call (.Attribute (.Name x p) m apos) (e::es) [] pos) (tCM sp E t):=by
 intro pins s σ H Q I h;exact O8 (pl:=pl) I M hg hm ha h (λus s1 vs H1 I1 r q=>xF (gx:=[]) F hr hb .nil hx I1 r (by rw[fY];exact q)) cM bG bh ht
end
end L2
namespace L3
open PySem L2 PySem.Spec PyProof.Rows
def sU:eB:=λx y Q=>match x,y with
 | .bl a,.bl b=>Q (.bl (a==b))
 | _,_=>False
theorem cZ4:bQ X (compareOp .Is) sU:=⟨_,cL3,λ{B F H σ δ ts x y v w Q Qd} c sx sy h k=>by
 unfold sU at h;split at h
 ·cases sx;cases sy;exact⟨_,_,rfl,rfl,k _ _ _ h (ah.refl _) (c.pushS (.bl .nil) rfl)⟩
 ·exact h.elim⟩
def we(C:Addr)(sk:List D->List Str->List D->Prop)(ta:b8):aK:=λδ Q=>ta δ λds ag=>ds.all D.pl=true/\∃ns xs,sk ds ns xs/\Q (.obj C ns (xs.map D.sh)) ag
section
variable{X:Cx}{CX:eW}{n:Nat}{f C:Addr}{fd:FuncData}{ps:List Str}{sk:List D->List Str->List D->Prop}{E:XK}{x:Str}{p pos:Pos}{e:Expr}{es:List Expr}{t:b8}{tl:List Addr}
end
section
variable{X:Cx}{e:Expr}{te:aK}{x:Str}{p pos:Pos}{i:Nat}
def wg(i:Nat)(te:aK):aK:=λδ Q=>∃d0,δ[i]?=some (some d0)/\te δ λd aq=>∃dx,aq[i]?=some (some dx)/\Q (.tup [dx,d]) (aq.set i none)
theorem QW{x1}(i:Nat)(hN:X.N[i]?=some x:=by rfl)(hv:km X.env.scope x:=by first | exact ao rfl | exact bg (ao rfl) | exact bg (bg rfl))(he:PE X e (lE te))(hd:(x==("__debug__":Str))=false:=by decide)(bZ:(x==("__classdict__":Str))=false:=by decide)
  (hs:starEach [.Name x p,e] X.env=(false,eval (.Name x p) X.env)::starEach [e] X.env:=by rfl) (fw:starEach [e] X.env=(false,eval e X.env)::starEach [] X.env:=by rfl):PE X (.Tuple [.Name x p,e] x1 pos) (lE (wg i te)) :=
 df (Mw (gI (nJ hN hv hd bZ) (gI he mx fw) hs)) λσ H Q ⟨B,F,δ,ts,Qd,c,⟨d0,e0,q⟩,k⟩=>by
  obtain⟨v,ev,_⟩:=c.move e0;refine⟨v,ev,B,F,δ,ts,_,c,q,λd aq w F1 H1 q1 f1 h1 c1=>?_⟩;obtain⟨dx,ex,hq⟩:=q1;obtain⟨v',QX,c2⟩:=c1.move ex;rw[ev]at QX;cases QX;exact⟨by show 2<=sizeLine;rw[sL];decide,λp hp=>k _ _ _ F1 _ hq f1 (h1.trans (ah.upd hp)) (c2.NV (ps:=[(dx,v),(d,w)]) hp)⟩
end
theorem fG.of0{x:Addr}(h0:H0 x=none)(s:ah H0 H)(sx:fG x H H'):ah H0 H' :=
 ⟨λb o e n=>sx.get b o (λz=>by rw[z,h0]at e;cases e) (s.get b o e n) n,λb ps e=>by
  obtain⟨m1,e1⟩:=s.tb b ps e;obtain⟨m2,e2⟩:=sx.tb b _ e1;exact⟨m1++m2,by rw[e2,zu]⟩⟩
abbrev wj:List Str:=["field","length","check_rows","word_rows","message_places","size"]
structure dO2(K:PySem.W.Frag)(C:Addr):Prop where
 cls:cF K C
 field:bc K C "field"
 length:bc K C "length"
 dO3:bc K C "check_rows"
 dO4:bc K C "word_rows"
 QY:bc K C "message_places"
 size:bc K C "size"
end L3
namespace L3
open PySem L2 Mf
section
variable{m:Bool × Nat}
def kU(m:Bool × Nat)(n i:Nat):List Nat:=aM i 0++[1]++aM (n-2-i) 0++[bA m 0 1]
def fK(m:Bool × Nat)(n:Nat):List (List Nat):=(aI (n-1)).map (kU m n)
theorem Eg(hi:i<n-1)(j:Nat):cf (kU m n i) j=if j=i then 1 else if j=n-1 then bA m 0 1 else 0:=by
 unfold kU cf;rw[aT];by_cases c1:j<i
 ·rw[if_neg (by omega),if_neg (by omega),dk,dk,tL (by rw[dE];exact c1),nC,if_pos c1];rfl
 ·by_cases c2:j=i
  ·rw[if_pos c2,dk,dk,nB (by rw[dE];omega),dE,c2,zQ];rfl
  ·rw[if_neg c2];by_cases c3:j<n-1
   ·rw[if_neg (by omega),tL (by simp only[dO,dE,nE];omega),nB (by simp only[dO,dE,nE];omega),nC];split<;>rfl
   ·rw[nB (by simp only[dO,dE,nE];omega)];simp only[dO,dE,nE];by_cases c4:j=n-1
    ·rw[if_pos c4,show j-(i+1+(n-2-i))=0 by omega];rfl
    ·rw[if_neg c4,gu (by rw[nE];omega)];rfl
theorem wk(hm:m∈aD)(h2:2<=n):RT (af m) n (fK m n)/\(fK m n).length=n-1/\ay (fK m n)=n:=by
 have dw:=lo1 hm;have g:=(kL hm (show 0<af m by omega) (show 1<af m by omega)).2.1;have l:(fK m n).length=n-1:=by unfold fK;rw[bq,bW]
 have r:RT (af m) n (fK m n):=λx hx=>by
  obtain⟨i,hi,rfl⟩:=bE.mp hx;have hi:=cJ.mp hi;unfold kU;refine⟨by simp only[dO,dE,nE];omega,λa ha=>?_⟩;simp only[cZ,qW,eT]at ha;rcases ha with ((⟨_,rfl⟩ | rfl) | ⟨_,rfl⟩) | rfl
  ·omega
  ·omega
  ·omega
  ·exact g
 exact⟨r,l,Bt r λz=>by rw[z]at l;exact absurd l (by show ¬ (0=n-1);omega)⟩
theorem IW(hi:i<n-1):(fK m n).getD i []=kU m n i:=by
 unfold fK;rw[aT,cy,kj hi];rfl
theorem IY(hm:m∈aD)(h2:2<=n):RR n (fK m n) λi=>i:=by
 obtain⟨_,l,_⟩:=wk hm h2;refine⟨λi j hi hj=>?_,λi hi t ht=>?_,λi j h _=>h,λi hi=>by omega⟩
 ·rw[IW (by omega),Eg (by omega)];by_cases c:j=i
  ·rw[if_pos c,if_pos c.symm]
  ·rw[if_neg c,if_neg (by omega),if_neg λz=>c z.symm]
 ·rw[IW (by omega),Eg (by omega),if_neg (by omega),if_neg (by omega)]
theorem QZ(hm:m∈aD)(h2:2<=n):c9 m (fK m n)=fK m n:=by
 obtain⟨r,l,w⟩:=wk hm h2;exact cO3 hm (by rw[w];exact r) (by rw[w];exact r) (by rw[w];exact IY hm h2) (λx hx=>cq.of hx) λx hx=>cq.of hx
theorem IZ(hm:m∈aD)(h2:2<=n):gW (fK m n) n=[n-1]:=by
 obtain⟨r,l,w⟩:=wk hm h2;have I:=IY hm h2;have mem:=I.free hm r;unfold gW at mem ⊢;rw[show aI n=aI (n-1)++[n-1] by rw[<-zO,show(n-1).succ=n by omega]]at mem ⊢;rw[Zz,LO.mpr λj hj z=>?_,jL,List.filter_cons_of_pos ?_,List.filter_nil]
 ·have q:=(mem (n-1)).mpr ⟨by omega,λi hi=>by omega⟩;exact(qK.mp q).2
 ·have:=(mem j).mp (qK.mpr ⟨gE _ hj,z⟩);have hj:=cJ.mp hj;exact this.2 j (by omega) rfl
theorem c47(hm:m∈aD){x:Nat}(hx:x<af m):bA m 0 (bA m 0 x)=x:=cw7 hm (by have:=lo1 hm;omega) hx
theorem cD4(hm:m∈aD)(h2:2<=n):jB m (fK m n) n=[aM n 1]:=by
 have dw:=lo1 hm;obtain⟨r,l,w⟩:=wk hm h2;have I:=IY hm h2;unfold jB;rw[IZ hm h2,ZS];obtain⟨k1,k2,k3,k4,k5⟩:=Br hm r I (f:=n-1) (by rw[IZ hm h2];exact eT.mpr rfl);congr 1;refine Bq k1 (dE ..) λj hj=>?_;rw[show cf (aM n 1) j=1 by unfold cf;rw[aT,nC,if_pos hj];rfl];by_cases c:j=n-1
 ·rw[c];exact k3
 ·have:=k4 j (by omega);rw[this,IW (by omega),Eg (by omega),if_neg (by omega),if_pos rfl,c47 hm (by omega)]
theorem cA4(hm:m∈aD){n s:Nat}(hs:s<af m):nj m [s] [aM n 1] n=aM n s:=by
 have dw:=lo1 hm;refine cQ7 rfl (dE ..) λk hk=>?_;rw[show cf (aM n s) k=s by unfold cf;rw[aT,nC,if_pos hk];rfl];show s=gp m 0 (gm m s (cf (aM n 1) k));rw[show cf (aM n 1) k=1 by unfold cf;rw[aT,nC,if_pos hk];rfl,ou hs,qm hs]
end
end L3
namespace L2
open PySem PySem.Spec PyProof.Rows
structure Bw(K:PySem.W.Frag)(x qual:Str)(st:Stmt)(f:Addr)(fd:FuncData):Prop where
 ex:∃(oc:Value) (od:Option Addr) (dV kV doc pm:Value) (an:Option Addr) (aC ct:Value) (gJ:Array (Option Value)),
  fd=PySem.W.fnOf x qual (nO st) (gL st) (aG st) dV kV doc pm an aC ct/\K.lookup f=some ⟨oc,od,.func fd,gJ⟩/\PySem.W.codeIn K aC qual=true
 kp:PySem.W.keepIn K (.ref f)=true
section
variable{P:Program}{w:World}{K:PySem.W.Frag}{mg:Str->Option Value}{base:Heap}
theorem Bw.ok{x qual:Str}{st:Stmt}{f:Addr}{fd:FuncData}{N ps:List Str}{k:Nat}{sp:Sp}(F:Bw K x qual st f fd)(S:aS N ps (aG st))(len:∀vs H Q E,sp vs H Q E->vs.length=ps.length)
  (fi:∀(aC:Value) (A:Around) (outer:List Env) (s:Shared) (H:Hp) (vs:List V) (Q:VK) (E:XK),bJ k (A.deeper (envOfC qual (aG st) s.heap.objs.size f aC))->sp vs H Q E ->
   ∃t,PSs (hV aN P w K mg base N qual (aG st) f aC A outer s H E).fZ (gL st) t/\t { nx:=λ_ H'=>Q .aA H',rt:=Q } (start N vs) H):aF P w K mg base aN (k+1) f fd ps sp:=by
 obtain⟨oc,od,dV,kV,doc,pm,an,aC,ct,gJ,rfl,lk,bZ⟩:=F.ex;refine CS lk bZ S len λA outer s H vs Q E hr eA=>?_;obtain⟨t,h,q⟩:=fi aC A outer s H vs Q E hr eA;exact⟨t,h.fZ,q⟩
theorem dO8{x qual:Str}{st:Stmt}{f:Addr}{oc:Value}{od an:Option Addr}{gJ:Array (Option Value)}{dV kV doc pm aC ct:Value}(l:K.lookup f=some ⟨oc,od,.func (PySem.W.fnOf x qual (nO st) (gL st) (aG st) dV kV doc pm an aC ct),gJ⟩)
  (c:PySem.W.codeIn K aC qual=true) (k:PySem.W.keepIn K (.ref f)=true):Bw K x qual st f (PySem.W.fnOf x qual (nO st) (gL st) (aG st) dV kV doc pm an aC ct):=⟨⟨oc,od,dV,kV,doc,pm,an,aC,ct,gJ,rfl,l,c⟩,k⟩
theorem dO9(hd:fd.defaults=.ref T)(ho:K.lookup T=some o)(hs:o.data=.seq items n)
  (h:∀us:List Value,us.length=ps.length->∃k,bindArgs fd ⟨us,[]⟩=seqItems? fd.defaults >>= k/\k (some items)=pure (ps.zip us)):Binds K fd ps []:=λs us KX hl=>by
 rw[fY]at hl ⊢;obtain⟨k,h1,h2⟩:=h us hl;exact .of_defaults hd (KX _ _ ho) hs h1 h2
end
end L2
namespace L3
open PySem L2 Mf
inductive Kd
 | jD (b:Nat) | rep | oF (e f:Nat)
section
variable{m:Bool × Nat}{G:List (List Nat)}
def kW(m:Bool × Nat)(G:List (List Nat)):List (List Nat):=jB m (c9 m G) (ay G)
def bV(m:Bool × Nat)(G:List (List Nat)):List Nat:=gW (c9 m G) (ay G)
def l6(cb cp:Addr)(o:Bool)(m:Bool × Nat)(G:List (List Nat)):List D:=[fD cb cp m,.int (ay G:Nat),.lst o (aL o G),.lst o (aL o (kW m G)),.lst o (av (bV m G)),.int ((bV m G).length:Nat)]
def xP(cb cp cc cr cs:Addr)(m:Bool × Nat)(G:List (List Nat)):Kd->D
 | .jD b=>.obj cc ["field","length","check_rows","word_rows","message_places","size","bound"] (l6 cb cp false m G++[.int (b:Nat)])
 | .rep=>.obj cr wj (l6 cb cp false m G)
 | .oF e f=>.obj cs ["extra","first","field","length","check_rows","word_rows","message_places","size"] ([.int (e:Nat),.int (f:Nat)]++l6 cb cp false m G)
theorem wm(cb cp:Addr)(o:Bool)(m:Bool × Nat)(G:List (List Nat)):(l6 cb cp o m G).map D.sh=l6 cb cp false m G:=by
 unfold l6;simp only[dN,jK,ft,dX,gn,HD,<- cj,p9]
theorem I0(cb cp cc cr cs:Addr)(m:Bool × Nat)(G:List (List Nat))(k:Kd):(xP cb cp cc cr cs m G k).sh=xP cb cp cc cr cs m G k:=by cases k<;>rfl
theorem cJ3(cb cp cc cr cs:Addr)(m:Bool × Nat)(G:List (List Nat))(k:Kd):(xP cb cp cc cr cs m G k).pl=true:=by cases k<;>rfl
structure dU(m:Bool × Nat)(G:List (List Nat)):Prop where
 hm:m∈aD
 rt:RT (af m) (ay G) G
 len:G.length<=64
 sV:ay G<=64
 sz:0<(bV m G).length
theorem dU.red(h:dU m G):(∃H,RR (ay G) (c9 m G) H)/\RT (af m) (ay G) (c9 m G):=⟨(nh h.hm h.rt).1,(nh h.hm h.rt).2.1⟩
theorem wo(m:Bool × Nat)(G:List (List Nat)):(kW m G).length=(bV m G).length:=by unfold kW bV jB;rw[bq]
theorem cO8(hj:j<(bV m G).length):(kW m G).getD j []=iz m (c9 m G) (ay G) ((bV m G).getD j 0):=sQ (iz m (c9 m G) (ay G)) hj 0 []
theorem Q0(hj:j<(bV m G).length):(bV m G).getD j 0∈gW (c9 m G) (ay G):=by
 rw[aT,aV hj];exact eU hj
theorem cM9(m:Bool × Nat)(G:List (List Nat)):(bV m G).Nodup:=ZK _ List.nodup_range
theorem cM0(hj:j∈bV m G):j<ay G:=cJ.mp (qK.mp hj).1
theorem dU.rows(h:dU m G):RT (af m) (ay G) (kW m G):=(QV h.hm h.rt).1
theorem dU.vZ(h:dU m G):(bV m G).length<=ay G:=by rw[<-wo];exact(QV h.hm h.rt).2
theorem dU.wide(h:dU m G):ay (kW m G)=ay G:=Bt h.rows λz=>by
 have:=h.sz;rw[<-wo,z]at this;exact absurd this (by decide)
def iA(m:Bool × Nat)(G:List (List Nat))(l:List Nat):List Nat:=nj m l (kW m G) (ay G)
theorem cE3(m:Bool × Nat)(G:List (List Nat))(l:List Nat):(iA m G l).length=ay G:=ID ..
theorem dU.wlt(h:dU m G)(hl:l.length=(bV m G).length):AllLt (af m) (iA m G l):=cN0 h.hm _ (by rw[wo];exact hl)
theorem dU.word(h:dU m G)(hl:l.length=(bV m G).length):∀r∈G,gd m r (iA m G l)=0:=cz9 h.hm h.rt (by rw[hl,<- wo];rfl)
theorem dU.at(h:dU m G)(hl:l.length=(bV m G).length)(al:AllLt (af m) l)(hj:j<(bV m G).length):cf (iA m G l) ((bV m G).getD j 0)=cf l j:=by
 have hm:=h.hm;have g:=rg hm;obtain⟨⟨H,I⟩,hR⟩:=h.red;have fr:=λ{k:Nat} (hk:k<(bV m G).length)=>(I.free hm hR _).mp (Q0 hk);unfold iA;rw[IE m (by rw[wo];exact hl) (fr hj).1,wo];have k1:∀i,i<(bV m G).length->cf ((kW m G).getD i []) ((bV m G).getD j 0)=if i=j then 1 else 0:=λi hi=>by
  rw[cO8 hi];obtain⟨_,_,a,_,b⟩:=Br hm hR I (Q0 hi);by_cases c:i=j
  ·rw[if_pos c,<- c];exact a
  ·rw[if_neg c];refine b _ (λz=>c ?_) (fr hj).2;rw[aT,aT,aV hi,aV hj]at z;exact((List.getElem_inj (cM9 m G)).mp z).symm
 rw[sR g (f:=λi=>gm m (cf l i) (cf ((kW m G).getD i []) ((bV m G).getD j 0))) (j0:=j) (cR hm _ _) hj λi hi c=>by rw[k1 i hi,if_neg c,gj m _ 0,fH m _ (cI m hm)],k1 j hj,if_pos rfl,ou (gb hm al j)]
theorem dU.read(h:dU m G)(hl:l.length=(bV m G).length)(al:AllLt (af m) l):((bV m G).map λj=>cf (iA m G l) j)=l:=by
 refine Bq (w:=(bV m G).length) (bq ..) hl λk hk=>?_;rw[show cf ((bV m G).map λj=>cf (iA m G l) j) k=cf (iA m G l) ((bV m G).getD k 0) from sQ (λj=>cf (iA m G l) j) hk 0 0];exact h.at hl al hk
end
end L3
namespace L3
open PySem L2 PySem.Spec PyProof.Rows
section
variable{X:Cx}{scope:Scope}{tg iter elt:Expr}{ifs:List Expr}{pos:Pos}{cl:List (Str × Addr)}{ti:js}{g:jX}{tt:fB}{te:aK}
theorem ck5{x:Str}(hN:X.N.Nodup)(iO:X.N[i]?=some x)(hx:L2.Loc X.env.scope x)(aE:List (Str × Nat))(bF:List Str)(hc:X.calm=true)(hi:PI X tg iter (lI ti))
  (hg:∀C s H fp,PG (dH X scope (aE.map (·.1)++bF) cl C s H fp) tg (lG aE.length g))
  (ht:∀C s H fp,mE (dH X scope (aE.map (·.1)++bF) cl C s H fp) ifs (lT tt)) (he:∀C s H fp,PE (dH X scope (aE.map (·.1)++bF) cl C s H fp) elt (lE te))
  (kO:closureFor scope X.env=pure cl) (kP:mF X cl) (kQ:∀C:Addr,mG (cellsFrom (C+1) scope.names cl) (relabel scope X.env).names) (kR:∀C:Addr,mD X scope (cellsFrom (C+1) scope.names cl) aE)
  (ia:scope.kind=.function) (kS:∀y∈scope.names,y.2=.local->scope.names.lookup y.1=some .local)
  (pZ:swapsWith (.ListComp elt [⟨tg,iter,ifs,0⟩] scope pos) (some (.Name x pos')) apos.line X.env=pure true:=by rfl) (hf:X.fn x=true\/X.env.scope.names.lookup x=some .local:=by first | exact .inl rfl | exact .inr rfl)
  (hs:∀x,foldedSetIterable iter X.env x=pure x:=by intro _;rfl):PS X (.Assign [.Name x pos'] (.ListComp elt [⟨tg,iter,ifs,0⟩] scope pos) apos) (λEn σ H=>lE (mQ ti aE bF.length g tt te) σ H λv H'=>En.nx (σ.set i (some v)) H') :=
 jq (Qg hN iO hx hf aE bF hc hi hg ht he kO kP kQ kR ia kS pZ hs) λEn σ H ⟨B,F,δ,ts,Qd,c,q,k⟩=>⟨B,F,δ,ts,_,c,q,λsh xs aq J F1 H1 hq f1 h1 c1 pP uL=>by
  obtain⟨p,f,hx,dz,hlen,hQ⟩:=hq;exact G4 c1 pP uL p f hx dz hlen hQ λd ag v F' H' hd hf hs c'=>k d ag v F' H' hd (f1.trans hf) (h1.trans hs) c'⟩
end
end L3
namespace L2
open PySem
theorem aW{N P:List Str}(a:sc.kind=.function:=by rfl)(b:sc.isCoroutine=false:=by rfl)(c:sc.isGenerator=false:=by rfl)(d:N.Nodup:=by decide +kernel)(e:N.take P.length=P:=by rfl)(f:∀x∈P,sc.names.lookup x=some .local\/sc.names.lookup x=some .cell:=by decide +kernel)(g:∀y∈sc.names,y.2≠.free:=by decide +kernel):aS N P sc:=⟨a,b,c,d,e,f,g⟩
end L2
namespace L3
open PySem L2 PySem.Spec PyProof.Rows
theorem cT{x:Str}{pos:Pos}(hN:X.N.Nodup)(hi:X.N[i]?=some x:=by rfl)(hx:Loc X.env.scope x:=by first | exact ao (lookup_relabel_local rfl) | exact bg rfl | exact ao rfl)(hm:m<=i:=by decide)
  (hf:X.fn x=true\/X.env.scope.names.lookup x=some .local:=by first | exact .inr (lookup_relabel_local rfl) | exact .inl rfl | exact .inr rfl):PG X (.Name x pos) (lG m (gN i)):=i5 hN hi hx hm hf
theorem wq(Du:X.N.Nodup)(hc:X.calm=true:=by rfl)(m1:X.N[i1]?=some y1:=by rfl)(l1:Loc X.env.scope y1:=by first | exact ao (lookup_relabel_local rfl) | exact bg rfl)(m2:X.N[i2]?=some y2:=by rfl)(l2:Loc X.env.scope y2:=by first | exact ao (lookup_relabel_local rfl) | exact bg rfl)(OQ:m<=i1:=by decide)(nY:m<=i2:=by decide)
  (f1:X.fn y1=true\/X.env.scope.names.lookup y1=some .local:=by first | exact .inr (lookup_relabel_local rfl) | exact .inl rfl) (f2:X.fn y2=true\/X.env.scope.names.lookup y2=some .local:=by first | exact .inr (lookup_relabel_local rfl) | exact .inl rfl)
  (HB:(assignEach [.Name y1 t1,.Name y2 t2] X.env).map (·.2)=assign (.Name y1 t1) X.env::(assignEach [.Name y2 t2] X.env).map (·.2):=by rfl) (HC:(assignEach [.Name y2 t2] X.env).map (·.2)=assign (.Name y2 t2) X.env::(assignEach [] X.env).map (·.2):=by rfl)
  (hn:(assignEach [.Name y1 t1,.Name y2 t2] X.env).length=2:=by rfl) (bG:(assignEach [.Name y1 t1,.Name y2 t2] X.env).findIdx? (·.1)=none:=by rfl) :
  PG X (.Tuple [.Name y1 t1,.Name y2 t2] tk tp) (lG m (iq i1 i2)):=mY hc Du m1 l1 m2 l2 OQ nY f1 f2 HB HC hn bG
end L3
namespace L2
open PySem
structure Fk(K:PySem.W.Frag)(mg:Str->Option Value)(x:Str)(st:Stmt)(ps:List Str)(f:Addr)(fd:FuncData):Prop where
 F:iJ K x x st f fd
 g:mg x=some (.ref f)
 b:Binds K fd ps []
structure Fm(K:PySem.W.Frag)(x q:Str)(st:Stmt)(ps:List Str)(f:Addr)(fd:FuncData):Prop where
 F:iJ K x q st f fd
 b:Binds K fd ps []
end L2
namespace L3
open PySem L2 PySem.Spec PyProof.Rows
theorem a5{X:Cx}{x:Str}{st:Stmt}{ps:List Str}{f:Addr}{fd:FuncData}{n k:Nat}{sp:aX}{e:Expr}{es:List Expr}{t:b8}{p pos:Pos}(Q:Fk X.K X.mg x st ps f fd)(F:aF X.prog X.w X.K X.mg X.base aN n f fd ps (aY sp))(hr:bJ k X.A)(ha:PA X (e::es) (lA t))(hn:n<=k:=by decide)(hg:Gl X x:=by rfl)
  (cM:(x==("__debug__":Str))=false:=by decide) (he:starEach (e::es) X.env=(false,eval e X.env)::starEach es X.env:=by rfl) (bh:(backTo pos (starEach es X.env)).any (·.1)=false:=by rfl) :
  PE X (.Call (.Name x p) (e::es) [] pos) (lE (mO sp t)):=AG (F.mono hn) hr hg Q.g Q.F.kp Q.b iH ha cM he bh
end L3
namespace L3
open PySem L2 Mf
theorem Eh(hm:m∈aD)(f n:Nat)(he:1<=e):RT (af m) n (fJ m f (aI n) e)/\(fJ m f (aI n) e).length=e/\ay (fJ m f (aI n) e)=n:=by
 obtain⟨g1,g2⟩:=Eb hm f (aI n) e;rw[bW]at g1;exact⟨g1,g2,Bt g1 λz=>by
  rw[z]at g2;exact absurd g2 (by show ¬ 0=e;omega)⟩
section
variable{m:Bool × Nat}
structure Wd(m:Bool × Nat)(T:List (List Nat))(w:List Nat):Prop where
 ln:w.length=ay T
 lt:AllLt (af m) w
 z:∀r∈T,gd m r w=0
theorem cB0(hm:m∈aD){f n e:Nat}(hn:n+1<=af m):Bv m e n (λj=>eS m (j:Int)) (λj=>eS m ((f:Int)*(j:Int))) (fJ m f (aI n) e) where
 rt:=by have:=(Eb hm f (aI n) e).1;rw[bW]at this;exact this
 l:=(Eb hm f (aI n) e).2
 xl:=λj=>Bg hm _
 xd:=λi j hi hj h=>cQ2 hm (by omega) (by omega) h
 yl:=λj=>Bg hm _
 y0:=λj _=>by have:=(qo hm ((f:Int)*(j:Int))).1;omega
 at_:=λi hi=>⟨i,hi,λj hj=>by
  unfold gZ;rw[cE5 hi,Ig hm,Ic hm];show cf ((aI n).map λ(p:Nat)=>eS m (((f:Int)+(i:Int))*(p:Int))) j=_;rw[DZ _ hj,Int.add_mul,Int.mul_comm (j:Int)]⟩
variable{G:List (List Nat)}
theorem dU.wd(h:dU m G)(hl:l.length=(bV m G).length):Wd m G (iA m G l):=⟨cE3 ..,h.wlt hl,h.word hl⟩
def Ja(G:List (List Nat)):Kd->Nat
 | .jD b=>b
 | .rep=>ay G
 | .oF e _=>e+1
end
end L3
namespace L2
open PySem PySem.Spec PyProof.Rows
end L2
namespace L3
open PySem L2 PySem.Spec PyProof.Rows
section
variable{X:Cx}{i:Nat}{x:Str}{p pos nM:Pos}{b e:Expr}{ti te:aK}
end
section
variable{B:Bs}{F H:Hp}{σ:L2.St}{δ:Dl}{ts:List (D × V)}{p:Addr}{xs:List D}{ws:List V}
end
section
variable{X:Cx}{e b a:Expr}{pos pos' p p2 p3:Pos}{ti te ta:aK}{x y:Str}{i j:Nat}
end
structure Fa(K:PySem.W.Frag)(mg:Str->Option Value)(x y:Str)(st:Stmt)(ps:List Str)(f:Addr)(fd:FuncData):Prop where
 F:iJ K y y st f fd
 g:mg x=some (.ref f)
 b:Binds K fd ps []
theorem Q3{X:Cx}{x y:Str}{st:Stmt}{ps:List Str}{f:Addr}{fd:FuncData}{n k:Nat}{sp:aX}{e:Expr}{es:List Expr}{t:b8}{p pos:Pos}(Q:Fa X.K X.mg x y st ps f fd)(F:aF X.prog X.w X.K X.mg X.base aN n f fd ps (aY sp))(hr:bJ k X.A)(ha:PA X (e::es) (lA t))(hn:n<=k:=by decide)(hg:Gl X x:=by rfl)
  (cM:(x==("__debug__":Str))=false:=by decide) (he:starEach (e::es) X.env=(false,eval e X.env)::starEach es X.env:=by rfl) (bh:(backTo pos (starEach es X.env)).any (·.1)=false:=by rfl) :
  PE X (.Call (.Name x p) (e::es) [] pos) (lE (mO sp t)):=AG (F.mono hn) hr hg Q.g Q.F.kp Q.b iH ha cM he bh
section
variable{B B':Bs}{F H:Hp}{σ:L2.St}{δ:Dl}{ts:List (D × V)}{p:Addr}{xs:List D}{ws:List V}
end
section
variable{X:Cx}{e:Expr}{scope:Scope}{cl:List (Str × Addr)}{te:aK}{x y:Str}{i:Nat}{p tp p1 pos nM:Pos}
end
section
variable{X:Cx}{e:Expr}{pos p p2 p3 p4 p5 apos bK:Pos}{t:aK}{x:Str}{i:Nat}
end
end L3
namespace L2
open PySem
section
variable{K:PySem.W.Frag}{h:Heap}{mg:Str->Option Value}{x y:Str}{st:Stmt}{ps:List Str}{f:Addr}{fd:FuncData}
def Jb(x y:Str)(st:Stmt)(ps:List Str):Prop:=∀(kV doc pm:Value) (an:Option Addr) (aC ct:Value) (us:List Value),us.length=ps.length->bindArgs (PySem.W.fnOf x y (nO st) (gL st) (aG st) .none kV doc pm an aC ct) ⟨us,[]⟩=pure (ps.zip us)
theorem Fk.of(X:K.In h)(G:h.Ns mainGlobals mg)(a:PySem.W.nsIn K mainGlobals x=some (some (.ref f)))(F:iJ K x x st f fd)(b:Jb x x st ps):Fk K mg x st ps f fd:=⟨F,PySem.W.mg_of X G a,F.binds b⟩
theorem Fm.of(F:iJ K x y st f fd)(b:Jb x y st ps):Fm K x y st ps f fd:=⟨F,F.binds b⟩
end
end L2
namespace L3
open PySem L2
theorem Fa.of{x y:Str}(X:K.In h)(G:h.Ns mainGlobals mg)(a:PySem.W.nsIn K mainGlobals x=some (some (.ref f)))(F:iJ K y y st f fd)(b:Jb y y st ps):Fa K mg x y st ps f fd:=⟨F,PySem.W.mg_of X G a,F.binds b⟩
end L3
namespace L3
open PySem L2 PySem.Spec PyProof.Rows
section
variable{X:Cx}{K:PySem.W.Frag}{a:Expr}{ta:aK}{p q pos:Pos}{y:Str}
end
end L3
namespace L3
open PySem L2 Mf
section
variable{sh:Bool}{aE:List (Str × Nat)}{n m:Nat}{te:aK}{aq:Dl}{Q:D->Dl->Prop}
theorem qv(l:List (List Nat))(g:List Nat->D)(hx:∀a∈l,te ((fR aE n aq).set m (some (.lst false (av a)))) λd _=>d=g a)(dz:(sh&&aE.all (ij aq))=true\/∀a∈l,(g a).fr=true)(hq:Q (.lst true (l.map g)) aq)(hl:l.length<=16777216:=by omega):pO sh (aL o l) aE n (gN m) jZ te aq Q :=
 oj l (λr=>D.lst false (av r)) g (by rw[gn];rfl) (λa b h=>PU a b h) hx dz (by rw[sL];exact hl) hq
theorem nq(l:List Nat)(g:Nat->D)(hx:∀a∈l,te ((fR aE n aq).set m (some (.int (a:Nat)))) λd _=>d=g a)(dz:(sh&&aE.all (ij aq))=true\/∀a∈l,(g a).fr=true)(hq:Q (.lst true (l.map g)) aq)(hl:l.length<=16777216:=by omega):pO sh (av l) aE n (gN m) jZ te aq Q :=
 oj l (λ(i:Nat)=>D.int (i:Int)) g (HD _) rY hx dz (by rw[sL];exact hl) hq
theorem sW(r:Nat)(g:Nat->D)(hx:∀a∈aI r,te ((fR aE n aq).set m (some (.int (a:Nat)))) λd _=>d=g a)(dz:(sh&&aE.all (ij aq))=true\/∀a∈aI r,(g a).fr=true)(hq:Q (.lst true ((aI r).map g)) aq){k:Int}(hk:k=r:=by rfl)(hl:r<=16777216:=by omega):pO sh ((aI k.toNat).map λ(k:Nat)=>D.int (0+(k:Int))) aE n (gN m) jZ te aq Q :=
 oj (aI r) (λ(i:Nat)=>D.int (i:Int)) g (Bj _ hk) rY hx dz (by rw[bW,sL];exact hl) hq
end
end L3
namespace L2
open PySem PySem.Spec PyProof.Rows
section
variable{prog:Program}{w:World}{A:Around}{E:Value->Shared->Prop}{h:Heap}{g:Array GenState}{d:Drawn}{t:Nat}{os:OsState}
variable{nm q:Str}{C N:Addr}{bs bm ik:List Value}{hdct:Bool}{sn:List Str}{sub:List Value}{ab:Bool}{col:Option Bool}{dd:Option Addr}{k0 k1 k2 k3 k5:Option Value}{B Bn newId qe n9 i6:String}{vD:List Value}
abbrev oG(C T:Addr)(dc:Option Addr:=none):Obj:={ cls:=.ref C,dict:=dc,data:=.fields #[.ref T,.none,.none,.none,.bool false,.none] }
theorem cj1(Fn:ExcBaseFacts Bn newId i6 vD)(hB:ik.contains (.type Bn)=true)(F:ExcBaseFacts B qe n9 ik)(T:OwnTail h ik bm)
  (hC:h.get? C=some (excClassObj nm q C N bs bm hdct sn sub ab col dd k0 k1 k2 k3 k5 newId)) (hn:h.Ns N mN) (hi:mN "__init__"=some (.ref fI)) (hf:h.get? fI=some oI) (wt:oI.cls=.type "function")
  (hq:∀h' e,Fg h h' e (.ref C) us->wpAny (model prog w) A (call (.ref fI) (.ref e::us)) (λr s'=>r=.none/\Q (.done (.ret (.ref e))) s') E ⟨h',g,d,t,os⟩) (hl:us.length<=sizeLine) :
  wpAny (model prog w) A (Builtin.«type.__call__» ⟨.ref C::us,[]⟩) Q E ⟨h,g,d,t,os⟩:=by
 repeat (first | with_reducible refine wpAny_loadPart_at hC ?_ | with_reducible refine wpAny_madeBy_exc hC ?_ | wp_step)
 refine codeAny_call_builtin_code (Code.quiet_builtin _ Fn.quiet) (wpAny_check_new_subU Fn hB T hC ?_);refine codeAny_exc_new_subU Fn hB F T hC ?_ hl;show wpAny _ _ _ _ _ _;generalize hp:h.push { cls:=.type "tuple",data:=.seq us.toArray }=p1;have g1:∀b o,h.get? b=some o->(p1.push (oG C h.objs.size)).get? b=some o:=λb o e=>by rw[<-hp];exact eC _ (eC _ e)
 have c1:=g1 _ _ hC;have n1:(p1.push (oG C h.objs.size)).Ns N mN:=hn.keeps g1;have T1:=T.keeps g1;have z1:p1.objs.size=h.objs.size+1:=by rw[<-hp,tJ]
 have x1:(p1.push (oG C h.objs.size)).get? (h.objs.size+1)=some (oG C h.objs.size):=by rw[<-z1];exact LP rfl rfl
 have cc:(cN C::bm).contains (.ref C)=true:=by simp
 unfold isInstance
 repeat (first | with_reducible refine wpAny_loadPart_at x1 ?_ | (with_reducible refine wpAny_isSubtype_exc c1 ?_;rw[cc]) | wp_step)
 show wpAny _ _ (typeLookup (.ref C) _) _ _ _;refine wpAny_typeLookup_tail c1 n1 T1 F.mroIs F.init.lookup ?_;rw[hi];refine wpAny_holding (wpAny_bind ?_);unfold bindSpecial;refine wpAny_bind (wpAny_typeOf (T:="function") ⟨_,g1 _ _ hf,wt⟩ ?_);rw[if_pos (by decide)];refine wpAny_pure (wpAny_bind (wpAny_mono (hq _ (h.objs.size+1) ⟨g1,E3 (Nat.le_succ _),h.objs.size,x1,E3 (bR _),?_⟩) (λr s' hr=>?_) λ_ _ x=>x))
 ·rw[<-hp];exact eC _ (LP rfl rfl)
 ·obtain⟨rfl,hQ⟩:=hr
  wp_walk
  exact hQ
theorem cv9(Fn:ExcBaseFacts Bn newId i6 vD)(hB:ik.contains (.type Bn)=true)(F:ExcBaseFacts B qe n9 ik)(T:OwnTail h ik bm)
  (hC:h.get? C=some (excClassObj nm q C N bs bm hdct sn sub ab col dd k0 k1 k2 k3 k5 newId)) (hn:h.Ns N mN) (hi:mN "__init__"=some (.ref fI)) (hf:h.get? fI=some oI) (wt:oI.cls=.type "function")
  (hq:∀h' e,Fg h h' e (.ref C) us->wpAny (model prog w) (A.under (.builtin "type.__call__" ⟨.ref C::us,[]⟩)) (call (.ref fI) (.ref e::us)) (λr s'=>r=.none/\Q (.ref e) s') E ⟨h',g,d,t,os⟩) (hl:us.length<=sizeLine) :
  wpAny (model prog w) A (call (.ref C) us) Q E ⟨h,g,d,t,os⟩:=by
 have f1:=tc_lookup;have f2:=tc_bind (.ref C);have hT:(⟨h,g,d,t,os⟩:Shared).TypeIs (.ref C) "type":=⟨_,hC,rfl⟩;refine wpAny_call (codeAny_of_tree ?_);show wpAny _ _ (callAny (.ref C) _) _ _ _
 repeat (any_goals (first | assumption | with_reducible refine wpAny_loadPart_at hC ?_ | wp_step))
 refine⟨rfl,?_⟩;exact codeAny_call_builtin_at (Code.quiet_builtin _ (by decide +kernel)) entry_typeCall (wpAny_check_type_call_sub hC (cj1 Fn hB F T hC hn hi hf wt hq hl))
end
section
variable{M:Model}{A:Around}{E:Value->Shared->Prop}{env:Env}
variable{nm q:Str}{C N:Addr}{bs bm:List Value}{hdct:Bool}{sn:List Str}{sub:List Value}{ab:Bool}{col:Option Bool}{dd:Option Addr}{k0 k1 k2 k3 k5:Option Value}{newId:String}
theorem b32{s:Shared}{x:Sem Value}(hb:bm.contains (.type "BaseException")=true)(hh:A.handled=none)
  (h:wpAny M A x (λv br=>∃e T dc,v=.ref e/\br.heap.get? C=some (excClassObj nm q C N bs bm hdct sn sub ab col dd k0 k1 k2 k3 k5 newId)/\br.heap.get? e=some (oG C T dc)/\E (.ref e) br) E s) :
  wpAny M A (raiseStmt env (some x) none) Q E s:=by
 have cB:(cN C::bm).contains (.type "BaseException")=true:=by rw[List.contains_cons,hb,jM]
 unfold raiseStmt;refine wpAny_bind (wpAny_mono h (λv br oo=>?_) λ_ _ x=>x);obtain⟨e,T,dc,rfl,hC,he,hE⟩:=oo;obtain⟨hp,g,d,tk,os⟩:=br
 repeat (first | with_reducible refine wpAny_loadPart_at he ?_ | with_reducible refine wpAny_loadPart_at hC ?_ | (with_reducible refine wpAny_isSubtype_exc hC ?_;rw[cB]) | wp_step)
 exact wpAny_raiseNew_none hh hE
end
section
variable{prog:Program}{w:World}{A:Around}{E:Value->Shared->Prop}{s:Shared}{env:Env}
variable{nm q:Str}{C N:Addr}{bs bm ik:List Value}{hdct:Bool}{sn:List Str}{sub:List Value}{ab:Bool}{col:Option Bool}{dd:Option Addr}{k0 k1 k2 k3 k5:Option Value}{B Bn newId qe n9 i6:String}{vD:List Value}
theorem cg8(Fn:ExcBaseFacts Bn newId i6 vD)(Ho:ik.contains (.type Bn)=true)(F:ExcBaseFacts B qe n9 ik){x:Str}{np bK pos:Pos}
  (hb:bm.contains (.type "BaseException")=true) (hh:A.handled=none) (bh:(backTo bK (starEach args env)).any (·.1)=false) (hi:mN "__init__"=some (.ref fI))
  (h:wpAny (model prog w) A (eval (.Name x np) env) (λf br=>f=.ref C/\wpAny (model prog w) A (evalArgs (.ref C) true (backTo bK (starEach args env)) [])
   (λa f7=>a.kw=[]/\a.pos.length<=sizeLine/\f7.heap.get? C=some (excClassObj nm q C N bs bm hdct sn sub ab col dd k0 k1 k2 k3 k5 newId)/\f7.heap.Ns N mN/\OwnTail f7.heap ik bm/\(∃oI,f7.heap.get? fI=some oI/\oI.cls=.type "function") /\
    ∀h' e,Fg f7.heap h' e (.ref C) a.pos->wpAny (model prog w) (A.under (.builtin "type.__call__" ⟨.ref C::a.pos,[]⟩)) (call (.ref fI) (.ref e::a.pos)) (λr s'=>r=.none/\s'.heap.get? C=some (excClassObj nm q C N bs bm hdct sn sub ab col dd k0 k1 k2 k3 k5 newId)/\(∃T dc,s'.heap.get? e=some (oG C T dc))/\E (.ref e) s') E { f7 with heap:=h' }) E br) E s) :
  wpAny (model prog w) A (exec (.Raise (some (.Call (.Name x np) args [] bK)) none pos) env) Q E s:=by
 rw[arm_exec_Raise];refine wpAny_bind (wpAny_standAt (b32 (C:=C) (nm:=nm) (q:=q) (N:=N) (bs:=bs) (bm:=bm) (hdct:=hdct) (sn:=sn) (sub:=sub) (ab:=ab) (col:=col) (dd:=dd) (k0:=k0) (k1:=k1) (k2:=k2) (k3:=k3) (k5:=k5) (newId:=newId) hb hh (wpAny_bind (wpAny_mono (wpAny_Call_ofName (wpAny_mono h (λf br oo=>?_) λ_ _ x=>x)) (λv Mh dQ4=>wpAny_bind (wpAny_standAt (wpAny_pure dQ4))) λ_ _ x=>x))));obtain⟨rfl,oo⟩:=oo;unfold callWith;refine wpAny_bind (wpAny_holding (wpAny_mono oo (λa f7 yO=>wpAny_bind (wpAny_standAt ?_)) λ_ _ x=>x));obtain⟨us,ak⟩:=a;obtain⟨hk,hl,hC,hn,T,⟨oI,hf,wt⟩,yO⟩:=yO;cases(show ak=[] from hk);obtain⟨hp,g,d,tk,os⟩:=f7;simp only[bh];refine wpAny_bind (wpAny_keeperOf_exc hC ?_);refine wpAny_bind (cv9 Fn Ho F T hC hn hi hf wt (λh' e hm=>wpAny_mono (yO h' e hm) (λr s' hr=>?_) λ_ _ x=>x) hl);obtain⟨rfl,Iw,⟨T',dc,he⟩,hE⟩:=hr;exact⟨rfl,wpAny_bind (wpAny_holding (wpAny_point (wpAny_pure ⟨e,T',dc,rfl,Iw,he,hE⟩)))⟩
end
end L2
namespace L2
open PySem PySem.W PySem.Spec PySem.Calls PyProof.Rows PySem.Builtin PySem.Builtin.ObjectAttr
abbrev Bz:List Value:=[.type "ValueError",.type "Exception",.type "BaseException",.type "object"]
def Jc:List Value->Bool
 | .ref _::r=>Jc r
 | l=>l==Bz
def Jd(K:Frag)(C:Addr):Bool:=(clsIn K C).any λcd=>Jc cd.mro&&cd.hasDict && !cd.mro.isEmpty
theorem b97(self:Value):∀{l:List Value},Jc l=true->refuseLoop self "__setattr__" l=pure ():=by
 intro l
 induction l with
 | nil=>intro e;cases e
 | cons a r ih =>
  intro e;by_cases q:∃c,a=.ref c
  ·obtain⟨c,rfl⟩:=q;rw[refuseLoop_ref];exact ih e
  ·have e:a::r=Bz:=by
    have e':(a::r==Bz)=true:=by
     cases a<;>first | exact e | exact absurd ⟨_,rfl⟩ q
    exact beq_iff_eq.mp e'
   rw[e];exact PySem.F.store_ValueError.passes self
section
variable{prog:Program}{w:World}{A:Around}{s:Shared}{K:Frag}{x C:Addr}{R:Result->Shared->Prop}
theorem cx5(HK:oe.data=.fields vs)(X:K.In s.heap)(I:InstAt s.heap x oe C none)(hp:Jd K C=true)(ho:mroIn K C (.type "object")=some true)(ht:findIn K (.ref C) name=some none)
  (h:∀h' dx Je,s.heap.get? dx=none->h'.get? x=some { oe with dict:=some dx }->(∃od,h'.get? dx=some od/\lookIn name od=some (some v))->(∀b o,b≠x->s.heap.get? b=some o->h'.get? b=some o) ->
   R (.ok (.ret .none)) { s with heap:=h',toks:=Je }) :
  codeAny (model prog w) A (.call (.builtin "object.__setattr__") ⟨[.ref x,.str name tk,v],[]⟩) R s:=by
 have SF:=PySem.F.store_object;obtain⟨cd,hc,bZ⟩:=any_some hp;simp only[cA]at bZ;obtain⟨⟨hm,hd⟩,_⟩:=bZ;have sub:Looks (model prog w) s.heap (isInstance (.ref x) (.type "object")) true:=I.type.andThen (looks_mroIn X ho);refine codeAny_call_builtin SF.slot.plain SF.entry (@check_slot (model prog w) _ _ s "object.__setattr__" "object" "__setattr__" (.ref x) [.str name tk,v] [] _ SF.kind SF.split sub (SF.args (.ref x) (.str name tk) v) ?_);have lV:Looks (model prog w) s.heap (mroOf (.ref C)) cd.mro:=(looks_clsIn X hc).andThen .now;rw[osa_eq,refuse_eq];refine wpAny_bind (wpAny_bind (I.type.here (wpAny_bind (lV.here ?_))));rw[b97 _ hm];refine wpAny_pure (wpAny_bind (I.type.here (wpAny_bind ((looks_findIn X ht).here (wpAny_bind ?_)))));refine wpAny_pure ?_;obtain⟨hx,fF,hn,GG⟩:=I;obtain⟨oc,od,oda,gJ⟩:=oe;cases(show oc=cN C from fF)
 cases od with
 | some _=>exact GG.elim
 | none =>
 obtain⟨oH,g,d,t,os⟩:=s;dsimp only at hx h;refine wpAny_bind (wpAny_pure (wpAny_bind (wpAny_bind (wpAny_loadPart hx (wpAny_bind ((looks_clsIn X hc).here ?_))))));rw[hd];cases(show oda=zx vs from HK);rw[if_neg (by decide)];dsimp only;rw[if_neg (by simp[typeHasDict])];have xs:x≠oH.objs.size:=eI (bM hx);generalize Ei:oH.push { cls:=.type "dict",data:=.dict #[] }=p1;have x1:p1.get? x=some { cls:=cN C,data:=zx vs,slots:=gJ }:=by rw[<-Ei];exact eC _ hx
 have d1:p1.get? oH.objs.size=some { cls:=.type "dict",data:=.dict #[] }:=by rw[<-Ei];exact LP rfl rfl
 refine wpAny_bind (wpAny_alloc' ?_);rw[Ei];refine wpAny_bind (wpAny_update' x1 (wpAny_pure ?_));show wpAny _ _ (storeInDict oH.objs.size (.str name tk) name v) _ _ _;generalize Jf:p1.update x (λo=>{ cls:=o.cls,dict:=some oH.objs.size,data:=o.data,slots:=o.slots })=p2;have x2:p2.get? x=some { cls:=cN C,dict:=some oH.objs.size,data:=zx vs,slots:=gJ }:=by rw[<-Jf];exact zA _ x1 rfl
 have d2:p2.get? oH.objs.size=some { cls:=.type "dict",data:=.dict #[] }:=by rw[<-Jf,nD _ _ xs];exact d1
 have nd:p2.Ns oH.objs.size (λ_=>none):=⟨_,#[],_,d2,rfl,λe he=>absurd he (by simp),λ_=>rfl⟩;unfold storeInDict newKeyGuard;refine wpAny_bind (wpAny_pure (wpAny_bind (wpAny_nsSet1 (Heap.Ns1.of_empty nd) λh' xv hs=>?_)));obtain⟨oD,esD,epD,Ga,Gb,mw⟩:=xv.count (Within.cons name v Within.nil);refine wpAny_bind (wpAny_lookBehind Ga (by rw[Gb];exact pastItsLine_dict (ff mw (by rw[jJ,xm,sizeLine_eq];omega))) ?_)
 wp_walk
 refine h h' oH.objs.size _ (E3 (bR _)) ((hs.2 x xs).trans x2) ?_ λb o hb e=>?_
 ·obtain⟨o,es,ep,e1,e2,_,_,e4⟩:=xv;refine⟨o,e1,?_⟩;have e5:nsFind es name=some v:=(e4 name).trans (if_pos rfl);unfold nsFind findBy at e5;obtain⟨en,f1,f2⟩:=tR.mp e5;unfold lookIn;rw[e2];dsimp only;rw[Lf,f1,<- f2]
 ·refine(hs.2 b (eI (bM e))).trans ?_;rw[<-Jf,nD _ _ (fg hb),<- Ei];exact eC _ e
end
end L2
namespace L2
open PySem PySem.W PySem.Spec PySem.Calls PyProof.Rows
section
variable{prog:Program}{w:World}{A:Around}{E:Value->Shared->Prop}{s:Shared}{K:Frag}{x D:Addr}{ox:Obj}{kz:Option Obj}{nm:Str}{v:Value}
theorem b10(X:K.In s.heap)(I:PySem.W.InstAt s.heap x ox D kz)(hf:findObj K D kz nm=some (.value v))(hq:Q (.done (.ret v)) s) :
  wpAny (model prog w) A (Builtin.«object.__getattribute__» ⟨[.ref x,.str nm tk],[]⟩) Q E s:=by
 obtain⟨hh,g,d,t,os⟩:=s;have L0:=I.type (M:=model prog w);have L1:=looks_find (M:=model prog w) X I hf;unfold Builtin.«object.__getattribute__»
 repeat (any_goals (first | assumption | refine wpAny_bind (L0.at ?_) | refine wpAny_bind (L1.at ?_) | wp_step))
theorem b42(X:K.In s.heap)(I:PySem.W.InstAt s.heap x ox D kz)(GK:findIn K (.ref D) "__getattribute__"=some (some (.builtin "BaseException.__getattribute__")))(GL:findIn K (.ref D) "__getattr__"=some none)
  (hf:findObj K D kz nm=some (.value v)) (hb:mroIn K D (.type "BaseException")=some true) (hv:handedIn v=true)
  (h:Q v { s with toks:=s.toks+1 }):wpAny (model prog w) A (getAttr (.ref x) nm ex) Q E s:=by
 have xc:=λ(R:Result->Shared->Prop) (tk:Tok) (hR:R (.ok (.ret v)) { s with toks:=s.toks+1 }) (A:Around)=>codeAny_call_builtin (prog:=prog) (w:=w) (A:=A) (R:=R) (s:={ s with toks:=s.toks+1 }) (args:=⟨[.ref x,.str nm tk],[]⟩) (by decide +kernel) F.entry_bexc_ga (NH (s:={ s with toks:=s.toks+1 }) X I hb (b10 (s:={ s with toks:=s.toks+1 }) X I hf hR));obtain⟨hh,g,d,t,os⟩:=s;have L0:=I.type (M:=model prog w);have L1:=looks_findIn (M:=model prog w) X GK;have L2:=looks_findIn (M:=model prog w) X GL;have f3:=(F.excAttr_ValueError).ga.bind (.ref x);have Aw:(qU "BaseException.__getattribute__"==qU "object.__getattribute__")=false:=by decide +kernel
 have iZ:(onTheHeap (cN D)&&qU "BaseException.__getattribute__"==qU "object.__getattribute__")=false:=by rw[Aw];rfl
 unfold getAttr getAttrBy;refine wpAny_bind (wpAny_mkText (wpAny_holding (wpAny_bind (L0.at (wpAny_bind (L1.at ?_))))));dsimp only;rw[iZ];simp only[mh,if_false];unfold getAttrByItsOwn
 repeat (any_goals (first | assumption | refine wpAny_bind (L0.at ?_) | refine wpAny_bind (L2.at ?_) | wp_step))
 rw[show(ex&&onTheHeap (qU "BaseException.__getattribute__"))=false by cases ex<;>rfl];simp only[mh,if_false]
 repeat (any_goals (first | assumption | wp_step))
 refine xc _ t ?_ _;show wpAny _ _ (handedOut v) _ _ _;exact handed_on hv h
end
section
variable{prog:Program}{w:World}{A:Around}{R:Result->Shared->Prop}{h:Heap}{g:Array GenState}{d:Drawn}{t:Nat}{os:OsState}
variable{nm q:Str}{C N e T0:Addr}{dc:Option Addr}{bs bm ik:List Value}{hdct:Bool}{sn:List Str}{sub:List Value}{ab:Bool}{col:Option Bool}{dd:Option Addr}{k0 k1 k2 k3 k5:Option Value}{B newId qe n9:String}
theorem b46(F:ExcBaseFacts B qe n9 ik)(T:OwnTail h ik bm)(hC:h.get? C=some (excClassObj nm q C N bs bm hdct sn sub ab col dd k0 k1 k2 k3 k5 newId))(he:h.get? e=some (oG C T0 dc))(hl:us.length<=sizeLine)
  (hq:∀h',(∀b o,b≠e->h.get? b=some o->h'.get? b=some o)->(∃T1,h'.get? e=some (oG C T1 dc))->R (.ok (.ret .none)) ⟨h',g,d,t,os⟩) :
  codeAny (model prog w) A (.call (.builtin n9) ⟨.ref e::us,[]⟩) R ⟨h,g,d,t,os⟩:=by
 refine codeAny_call_builtin F.init.plain F.initEntry (wpAny_check_init_subU F T hC he rfl ?_)
 wp_walk
 refine hq _ (λb o hb q=>?_) ⟨h.objs.size,?_⟩
 ·rw[nD _ _ (fg hb)];exact eC _ q
 ·rw[zA _ (eC _ he) rfl];rfl
end
end L2
namespace L2
open PySem PySem.Spec PyProof.Rows
def eQ(e C:Addr)(dc:Option Addr):Heap->Prop:=λh=>∃T,h.get? e=some (oG C T dc)
theorem Jg(g g':Heap)(h:eQ e C dc g)(k:∀o,g.get? e=some o->g'.get? e=some o):eQ e C dc g':=h.imp λ_ q=>k _ q
theorem cy4(x:eQ e C dc h):Av h e (.ref C) dc:=let⟨_,q⟩:=x;⟨_,_,q,rfl,rfl,rfl,rfl⟩
section
variable{X:Cx}{pins:List (Addr × Obj)}{σ:St}{H:Hp}{s:Shared}{e:Addr}{φ ψ:Heap->Prop}{h':Heap}
theorem Inv.Q4(I:Inv X pins σ H s)(he:H e=some (.ext φ))(kp:∀b o,b≠e->s.heap.get? b=some o->h'.get? b=some o)(ho:∃o,h'.get? e=some o)(h1:ψ h')
  (h2:∀g g':Heap,ψ g->(∀o,g.get? e=some o->g'.get? e=some o)->ψ g') (vN:¬ ∀h',φ h'->∃q,h'.CodeRec (.ref e) q):Inv X pins σ (upd H e (.ext ψ)) { s with heap:=h',toks:=t' }:=by
 have ne:∀{b:Addr} {u:HO},H b=some u->(∀φ,u≠.ext φ)->b≠e:=λ{b u} q n z=>by rw[z,he]at q;cases q;exact n _ rfl
 have nn:∀{b:Addr},H b=none->b≠e:=λ{b} q z=>by rw[z,he]at q;cases q
 have nb:∀{b o},X.cK.heap.get? b=some o->X.ly b=none->b ∉ X.ex->b≠e:=λ{b o} q n hx=>nn (I.base.free b o q n hx);obtain⟨m,yN,hl⟩:=I.loc;have nl:=nn I.free;refine⟨I.ok,I.os,I.bare,⟨λb o q n hb hx=>kp b o (nb q n hx) (I.base.keep b o q n hb hx),λb o q n hb hx=>?_,λb o q n hx=>?_,λb o q hx=>?_,λb xs q=>?_,λb o u q=>?_,λb ps q=>?_⟩,?_,λx c q=>?_,?_,λx c q=>?_,λp hp=>?_,λb u q=>?_,I.len⟩
 ·obtain⟨sl,z⟩:=I.base.slot b o q n hb hx;exact⟨sl,kp b _ (nb q n hx) z⟩
 ·rw[aZ (nb q n hx)];exact I.base.free b o q n hx
 ·by_cases z:b=e
  ·rw[z];exact ho
  ·obtain⟨o',q'⟩:=I.base.there b o q hx;exact⟨o',kp b o' z q'⟩
 ·have z:=I.base.iE b xs q;rw[aZ (ne z λ_ y=>by cases y)];exact z
 ·have z:=I.base.hJ b o u q;rw[aZ (ne z λ_ y=>by cases y)];exact z
 ·obtain⟨mo,z⟩:=I.base.gv b ps q;exact⟨mo,by rw[aZ (ne z λ_ y=>by cases y)];exact z⟩
 ·obtain⟨o,es,ep,a1,a2⟩:=yN;refine⟨m,⟨o,es,ep,kp _ _ nl a1,a2⟩,λi x v q1 q2 q3=>?_⟩;obtain⟨u,r,l⟩:=hl i x v q1 q2 q3;refine⟨u,r,?_⟩;rcases l with l | ⟨k,c,a,z⟩
  ·exact .inl l
  ·obtain⟨oc,b1,b2⟩:=z;exact .inr ⟨k,c,a,oc,kp _ _ (nn (I.fh x c a)) b1,b2⟩
 ·obtain⟨v,oc,b1,b2⟩:=I.cell x c q;exact⟨v,oc,kp _ _ (nn (I.fh x c q)) b1,b2⟩
 ·rw[aZ nl];exact I.free
 ·rw[aZ (nn (I.fh x c q))];exact I.fh x c q
 ·obtain⟨q1,q2,q3⟩:=I.pin p hp;exact⟨kp _ _ (nn q2) q1,by rw[aZ (nn q2)];exact q2,q3⟩
 ·by_cases z:b=e
  ·subst z;rw[dm]at q;cases q;exact⟨h1,ho,λg g' a k=>h2 g g' a λo y=>k _ o (.inl rfl) y⟩
  ·rw[aZ z]at q;have up:∀{c v},rem H e X.env.locals c=some v->c≠e/\upd H e (.ext ψ) c=some v:=λ{c v} y=>by
    obtain⟨y1,_,y3⟩:=vM y;exact⟨y1,by rw[aZ y1];exact y3⟩
   exact((I.aH b u q).rem z he (.inr I.free) vN).jj (λc v hc y=>kp c v (hc.elim (λx=>x ▸ z) λx=>(up x).1) y) (λc y=>(up y).2) (λc xs y=>(up y).2) λc ξ y=>(up y).2
theorem Inv.drop(I:Inv X pins σ H s)(he:H e=some (.ext φ))(ho:X.cK.heap.get? e=none)(vN:¬ ∀h',φ h'->∃q,h'.CodeRec (.ref e) q):Inv X pins σ (rem H e X.env.locals) s:=by
 have ne:∀{b:Addr} {u:HO},H b=some u->(∀φ,u≠.ext φ)->rem H e X.env.locals b=some u:=λ{b u} q n=>by
  rw[fS (λz=>by rw[z,he]at q;cases q;exact n _ rfl) (λz=>by rw[z,I.free]at q;cases q)];exact q
 refine⟨I.ok,I.os,I.bare,⟨I.base.keep,I.base.slot,λb o q n hx=>mZ (I.base.free b o q n hx),I.base.there,λb xs q=>ne (I.base.iE b xs q) (λ_ y=>by cases y),λb o u q=>ne (I.base.hJ b o u q) (λ_ y=>by cases y),λb ps q=>?_⟩,I.loc,I.cell,mZ I.free,λx c q=>mZ (I.fh x c q),λp hp=>?_,λb u q=>?_,I.len⟩
 ·obtain⟨mo,z⟩:=I.base.gv b ps q;exact⟨mo,ne z λ_ y=>by cases y⟩
 ·obtain⟨q1,q2,q3⟩:=I.pin p hp;exact⟨q1,mZ q2,q3⟩
 ·obtain⟨y1,_,y3⟩:=vM q;exact(I.aH b u y3).rem y1 he (.inr I.free) vN
theorem Jh(x:eQ e C dc h):¬ ∀h',eQ e C dc h'->∃q,h'.CodeRec (.ref e) q:=λz=>by
 obtain⟨T,a⟩:=x;obtain⟨q,c,oc,vs,tq,hc,jk,gk,hq⟩:=z h ⟨T,a⟩;cases hc;rw[a]at jk;cases jk;cases gk;cases hq
end
theorem cS8{K:PySem.W.Frag}{h:Heap}{N:Addr}{mN:Str->Option Value}{n:Str}{v:Value}(X:K.In h)(G:h.Ns N mN)(e:PySem.W.nsIn K N n=some (some v)):mN n=some v:=by
 obtain⟨o,es,ep,ho,hd,_,hf⟩:=G;unfold PySem.W.nsIn at e;split at e
 ·rename_i q;have y:=X _ _ q;rw[ho]at y;cases y;cases hd;split at e
  ·rename_i he;cases e;rw[<-hf];unfold nsFind findBy;rw[<-Lf,he];rfl
  ·split at e<;>cases e
 ·cases e
def BA(K:PySem.W.Frag)(C fI:Addr):Bool:=match K.lookup C with
 | some ⟨.type "type",_,.cls cd,sl⟩=>(match cd.mro,sl.toList with
  | .ref C'::bm,[_,_,_,_,some (.builtin n),_]=>C'==C&&n == "ValueError.__new__" && !cd.hasDel&&PySem.W.tailIn K Bz bm&&PySem.W.nsOkIn K cd.ns&&PySem.W.nsIn K cd.ns "__init__"==some (some (.ref fI))
  | _,_=>false)
 | _=>false
def c40(C fI:Addr)(h:Heap):Prop:=∃bm N nm q bs hdct sn sub ab col dd k0 k1 k2 k3 k5 mN,h.get? C=some (excClassObj nm q C N bs bm hdct sn sub ab col dd k0 k1 k2 k3 k5 "ValueError.__new__")/\h.Ns N mN/\mN "__init__"=some (.ref fI)/\OwnTail h Bz bm
theorem Q5{K:PySem.W.Frag}{C fI:Addr}{h:Heap}(X:K.In h)(q:BA K C fI=true):c40 C fI h:=by
 unfold BA at q;split at q
 ·rename_i dd cd sl ho;split at q
  ·rename_i C' bm k0 k1 k2 k3 n k5 hm hs;simp only[cA,beq_iff_eq,LC]at q;obtain⟨⟨⟨⟨⟨rfl,rfl⟩,AS⟩,ht⟩,aH⟩,iO⟩:=q;obtain⟨nm,bs,mro,ns,qn,hd,sn,sub,ab,col,del⟩:=cd;dsimp only at hm AS aH iO;subst hm AS;have Hw:sl=#[k0,k1,k2,k3,some (.builtin "ValueError.__new__"),k5]:=by
    obtain⟨l⟩:=sl;simp only at hs;rw[hs]
   subst Hw;have N1:h.Ns ns (h.nsMap ns):=.of_isNs (PySem.W.isNs_of_in X aH);exact⟨bm,ns,nm,qn,bs,hd,sn,sub,ab,col,dd,k0,k1,k2,k3,k5,_,X _ _ ho,N1,cS8 X N1 iO,PySem.W.tail_of_in X ht⟩
  ·cases q
 ·cases q
structure Ji(K:PySem.W.Frag)(C:Addr):Prop where
 ga:PySem.W.specialIn K (.ref C) "__getattribute__"=some (some (.builtin "type.__getattribute__"))
 rd:PySem.W.readsIn K C (.type "type")=true
 at_:PySem.W.findCls K (.ref C) (.type "type") "__init__"=some (.val (.builtin "ValueError.__init__"))
section
variable{X:Cx}{C Me fI:Addr}{x f:Str}{p pos pos' apos:Pos}{e o value:Expr}{es:List Expr}{t:TA}{ta tv:TE}
def tXI(C:Addr)(t:TA):TE:=λσ H Q=>t σ H λvs H1=>∃a rest,vs=.ref a::rest/\rest.length<=9/\H1 a=some (.ext (eQ a C none))/\Q .aA H1
theorem cf1{pl:Sem Bool}(M:Ji X.K Me)(hC:BA X.K C fI=true)(hg:Gl X x)(hm:X.mg x=some (.ref Me))(ha:PA X (e::es) t)
  (cM:(x==("__debug__":Str))=false:=by decide) (bG:starEach (e::es) X.env=(false,eval e X.env)::starEach es X.env:=by rfl) (bh:(backTo pos (starEach es X.env)).any (·.1)=false:=by rfl)
  (ht:eval (.Call (.Attribute (.Name x p) "__init__" apos) (e::es) [] pos) X.env=(do
   let ov<-eval (.Name x p) X.env
   standAt apos.atName
   let (f,first)<-holding [ov] (getMethod ov "__init__" pl)
   callWith pos f first (backTo pos (starEach (e::es) X.env)) (backToKw pos (keywordEach [] X.env))):=by rfl) :
  PE X (.Call (.Attribute (.Name x p) "__init__" apos) (e::es) [] pos) (tXI C t):=by
 intro pins s σ H Q I h;refine PySem.W.methodCall_KW (pl:=pl) (pf I hg hm ?_ cM) ht;refine PySem.W.method_cls I.bY M.ga (PySem.W.cls_value (mc:=.type "type") I.bY M.rd M.at_ rfl ?_);refine Zq (aU (ha pos pins _ σ H _ (I.tok _) h) λus s1 ⟨vs,H1,I1,r,a,rest,ev,hl,hH,q⟩=>?_) bG bh;subst ev;cases r with | @cons _ u _ u3 ru rs=>?_
 cases(show u=cN a from ru);obtain⟨bm,N,nm,q',bs,hdct,sn,sub,ab,col,dd,k0,k1,k2,k3,k5,mN,g1,g2,g3,g4⟩:=Q5 I1.bY hC;obtain⟨x1,_,_⟩:=(show dv X.prog X.w H1 s1.heap a (.ext (eQ a C none)) from I1.aH a _ hH);obtain⟨T0,x2⟩:=id x1;have hu:upd H1 a (.ext (eQ a C none))=H1:=funext λb=>by
  by_cases z:b=a
  ·rw[z,dm,hH]
  ·rw[aZ z]
 refine wpAny_call (b46 PySem.F.excBase_ValueError g4 g1 x2 (by rw[<-rs.length];exact ff hl (by decide)) λh' kp xn=>?_);have J:=I1.Q4 (ψ:=eQ a C none) (h':=h') (t':=s1.toks) hH kp (let⟨_,y⟩:=xn;⟨_,y⟩) xn Jg (Jh x1);rw[hu]at J;exact⟨.aA,H1,J,rfl,q⟩
end
section
variable{X:Cx}{C Me fI:Addr}{x f:Str}{p pos pos' apos:Pos}{e o value:Expr}{es:List Expr}{t:TA}{ta tv:TE}
structure Q6(K:PySem.W.Frag)(C:Addr)(f:Str):Prop where
 sa:PySem.W.findIn K (.ref C) "__setattr__"=some (some (.builtin "object.__setattr__"))
 no:PySem.W.findIn K (.ref C) f=some none
 Jj:Jd K C=true
 mo:PySem.W.mroIn K C (.type "object")=some true
def sXF(C:Addr)(ta tv:TE)(f:Str):TS:=λD σ H=>tv σ H λy H1=>ta σ H1 λz H2=>∃a n,y=.int n/\z=.ref a/\H2 a=some (.ext (eQ a C none)) /\
 ∀dx,H2 dx=none->dx≠a->D.nx σ (upd (upd H2 a (.ext (eQ a C (some dx)))) dx (.ext (L3.kC f n dx)))
theorem cy8(M:Q6 X.K C f)(hex:X.ex=[])(ha:PE X o ta)(hv:PE X value tv)(hs:swapsWith value (some (.Attribute o f pos')) pos.line X.env=pure false:=by rfl):PS X (.Assign [.Attribute o f pos'] value pos) (sXF C ta tv f):=by
 intro pins s σ H D I h;refine plainObj_wpAny_Assign_Attribute (aU (hv pins s σ H _ I h) λu s1 ⟨y,H1,I1,ry,q⟩=>aU (ha pins s1 σ H1 _ I1 q) λov s2 ⟨z,H2,I2,rz,a,n,ey,ez,hH,q2⟩=>?_) hs;subst ey ez;cases(show ov=cN a from rz);obtain⟨tk,rfl⟩:=ry;obtain⟨x1,_,_⟩:=(show dv X.prog X.w H2 s2.heap a (.ext (eQ a C none)) from I2.aH a _ hH);obtain⟨T0,x2⟩:=id x1;have J:PySem.W.InstAt s2.heap a (oG C T0 none) C none:=⟨x2,rfl,rfl,trivial⟩;refine PySem.W.set_plain I2.bY J M.sa (cx5 (s:={ s2 with toks:=s2.toks+1 }) rfl I2.bY J M.Jj M.mo M.no λh' dx Je hd hx ho kp=>?_);have nd:dx≠a:=λz=>by rw[z,x2]at hd;cases hd
 have J1:=I2.Q4 (ψ:=eQ a C (some dx)) (h':=h') (t':=Je) hH kp ⟨_,hx⟩ ⟨T0,hx⟩ Jg (Jh x1);have pd:=I2.apart (H':=upd H2 a (.ext (eQ a C (some dx)))) hex hd (by rw[aZ nd];exact I2.aH.none hd);refine⟨σ,_,L3.Hr (φ:=L3.kC f n dx) J1 pd (ho.imp λ_ z=>z.1) (let⟨od,o1,o2⟩:=ho;⟨od,tk,o1,o2⟩) (λg g' ⟨od,k,o1,o2⟩ kk=>⟨od,k,kk _ o1,o2⟩),q2 dx (I2.aH.none hd) nd⟩
end
end L2
namespace L3
open PySem L2 PySem.Spec PyProof.Rows
def Jk(C:Addr)(nm:Str):L2.Sp:=λvs H Q _=>∃a n,vs=[.ref a,.int n]/\0<=n/\n<1000/\H a=some (.ext (eQ a C none)) /\
 ∀dx,H dx=none->dx≠a->Q .aA (upd (upd H a (.ext (eQ a C (some dx)))) dx (.ext (kC nm n dx)))
def wu(C:Addr)(nm:Str)(t:b8):bO:=λD δ=>t δ λds ag=>∃n,ds=[.int n]/\0<=n/\n<1000/\D.xr ⟨C,some (nm,n)⟩ ag
section
variable{X:Cx}{CX:eW}{k:Nat}{C fI:Addr}{fd:FuncData}{ps:List Str}{x nm:Str}{e:Expr}{es:List Expr}{t:b8}{np bK pos:Pos}
theorem Q7(hm:X.mg x=some (.ref C))(hi:BA X.K C fI=true)(oZ:∃oI,X.K.lookup fI=some oI/\oI.cls=.type "function")(F:aF X.prog X.w X.K X.mg X.base CX k fI fd ps (Jk C nm))(hr:bJ (k+1) X.A)(hb:L2.Binds X.K fd ps [])(hx:my CX X E0)(hc:X.calm=true)(hg:Gl X x)(ha:PA X (e::es) (lA t))
  (cM:(x==("__debug__":Str))=false:=by decide) (he:starEach (e::es) X.env=(false,eval e X.env)::starEach es X.env:=by rfl) (bh:(backTo bK (starEach es X.env)).any (·.1)=false:=by rfl) (hex:X.ex=[]:=by rfl) :
  PS X (.Raise (some (.Call (.Name x np) (e::es) [] bK)) none pos) (lS X (wu C nm t)):=by
 intro pins s σ H D I zz;obtain⟨B,F',δ,Dd,c,q,k1,k2,k3,k4,xl⟩:=zz;obtain⟨bm,N,nm',qn,bs,hdct,sn,sub,ab,col,dd,k0,pV,rM,Hq,k5,mN,hC,hN,iO,T⟩:=Q5 I.ok.mod.lu hi;obtain⟨oI,hoI,wt⟩:=oZ;have FB:=PySem.F.excBase_ValueError;refine cg8 (k5:=k5) (k3:=Hq) (k2:=rM) (k1:=pV) (k0:=k0) (dd:=dd) (col:=col) (ab:=ab) (sub:=sub) (sn:=sn) (hdct:=hdct) (bs:=bs) (N:=N) (q:=qn) (nm:=nm') (C:=C) FB rfl FB (mN:=mN) (fI:=fI) (T.hasType FB.hasBase) (I.ok.hd hc) (by rw[he];show(false||(backTo bK (starEach es X.env)).any (·.1))=false;rw[bh];rfl) iO (pf I hg hm ⟨rfl,?_⟩ cM);have rW:=ha bK pins s σ H (λvs H1=>∃n ag F1,vs=[.int n]/\0<=n/\n<1000/\Dd.xr ⟨C,some (nm,n)⟩ ag/\ax B F1 H1 σ ag []) I ⟨B,F',δ,[],_,c,q,λds aq vs F1 H1 q1 f1 h1 c1 s1=>by
  obtain⟨n,rfl,n0,n1,hx⟩:=q1
  cases s1 with
  | int s1=>cases s1;exact⟨n,aq,F1,rfl,n0,n1,hx,c1⟩⟩
 rw[he]at rW ⊢;refine Lg (wpAny_mono rW (λus s2 h2=>?_) λ_ _ y=>y);obtain⟨vs,H1,I1,r,n,ag,F1,rfl,n0,n1,hxr,cu⟩:=h2;refine⟨rfl,by rw[<-r.length];show 1<=sizeLine;decide,I1.bk _ _ hC,hN.keeps I1.bk,T.keeps I1.bk,⟨oI,I1.bY _ _ hoI,wt⟩,λh' a lV=>?_⟩;have nw:=lV.new;have J0:=I1.CZ (h':=h') hex [] (λ_ z=>absurd z (by simp)) (λb o _ _ q=>lV.keeps b o q) (λb o _ q=>⟨o.slots,lV.keeps b o q⟩) s2.gens s2.toks s2.drawn I1.bare;have fa:=I1.aH.none nw;have pa:=I1.apart (H':=H1) hex nw fa;have xa:eQ a C none h':=by obtain⟨T',e1,_,_⟩:=lV.there;exact⟨T',e1⟩
 have J1:=Hr (φ:=eQ a C none) J0 pa (let⟨_,z⟩:=xa;⟨_,z⟩) xa Jg;have sm1:ah H1 (upd H1 a (.ext (eQ a C none))):=ah.upd fa;have r2:Vals (V.ref a::[V.int n]) (cN a::us):=.cons rfl r;have hq:Jk C nm [.ref a,.int n] (upd H1 a (.ext (eQ a C none))) (λv H'=>v=.aA/\∃dx,H1 dx=none/\dx≠a/\H'=upd (upd (upd H1 a (.ext (eQ a C none))) a (.ext (eQ a C (some dx)))) dx (.ext (kC nm n dx))) E0 :=
  ⟨a,n,rfl,n0,n1,dm,λdx hd fj=>⟨rfl,dx,by rw[aZ fj]at hd;exact hd,fj,rfl⟩⟩
 have hl:((cN a::us)++[]).length=ps.length:=by rw[fY,<- r2.length];exact F.len _ _ _ _ hq
 have lU:=hb _ (cN a::us) J1.bY hl;rw[fY]at lU;refine wpAny_call (codeAny_mono (F.run _ X.stack _ _ ⟨cN a::us,[]⟩ (cN a::us) _ _ E0 (hr.make C us []) (J1.ub.make C us []) lU r2 hq) λr s' jl=>?_)
 cases r with
 | error e=>exact hx pins σ _ _ e s' J1 jl
 | ok fl =>
  cases fl with
  | ret u =>
   obtain⟨v,H',J2,rv,ev,dx,hd,fj,eH⟩:=J1.after jl;subst ev eH;cases(show u=qJ from rv);have ea:∀{o:HO},upd (upd (upd H1 a (.ext (eQ a C none))) a (.ext (eQ a C (some dx)))) dx o a=some (.ext (eQ a C (some dx))):=λ{o}=>by rw[aZ (fg fj),dm]
   obtain⟨x1,_,_⟩:=(show dv X.prog X.w _ s'.heap a (.ext (eQ a C (some dx))) from J2.aH a _ ea);have J3:=J2.drop ea pa.old (Jh x1);have sm:ah H1 (L2.rem (upd (upd (upd H1 a (.ext (eQ a C none))) a (.ext (eQ a C (some dx)))) dx (.ext (kC nm n dx))) a X.env.locals):=.of λb o q=>by
    rw[fS (dQ q fa) (dQ q I1.free),aZ (dQ q hd),aZ (dQ q fa),aZ (dQ q fa)];exact q
   refine⟨rfl,J2.bk _ _ hC,⟨_,_,x1.choose_spec⟩,xl.2 ⟨C,some (nm,n)⟩ (some dx) ag pins σ F1 _ s' a hxr (cu.grow sm) J3 ⟨dx,rfl,?_⟩ (cy4 x1) ⟨pa.old,HH,pa.loc,pa.cell,pa.pin,pa.fr⟩⟩;have nl:dx≠X.env.locals:=λz=>by
    have y:=J2.free;rw[<-z,dm]at y;cases y
   rw[fS fj nl,dm]
  | next=>exact eZ jl
  | brk=>exact eZ jl
  | cont=>exact eZ jl
end
structure Jl(K:PySem.W.Frag)(C:Addr)(f:Str):Prop where
 cls:jn K C
 hd:PySem.W.hasDictIn K C=true
 no:PySem.W.findIn K (.ref C) f=some none
def wz(K:PySem.W.Frag)(te:aK)(f:Str):aK:=λδ Q=>te δ λd ag=>∃C n,d=.bt (.nR C f n)/\Jl K C f/\Q (.int n) ag
section
variable{X:Cx}{e:Expr}{te:aK}{f:Str}{pos:Pos}
theorem Q8(he:PE X e (lB te))(hb:attributeBase e f X.env (eval e X.env)=eval e X.env:=by rfl):PE X (.Attribute e f pos) (lE (wz X.K te f)):=by
 intro pins s σ H Q I zz;obtain⟨B,F,δ,ts,Qd,c,q,k⟩:=zz;refine Mu hb (aU (he pins s σ H (λv H1=>∃a C n dx aq F1,v=.ref a/\H1 a=some (.ext (rm a C dx))/\H1 dx=some (.ext (kC f n dx))/\Jl X.K C f/\Qd (.int n) aq/\ah F F1/\ah H H1/\ax B F1 H1 σ aq ts) I ⟨B,F,δ,ts,_,c,q,λd aq v F1 H1 q1 f1 h1 c1 s1=>by
  obtain⟨C,n,rfl,xg,hq⟩:=q1
  cases s1 with
  | bt h' _ =>
   obtain⟨dx,a1,a2⟩:=h';exact⟨_,C,n,dx,aq,F1,rfl,a1,a2,xg,hq,f1,h1,c1⟩⟩) λu s1 zq=>?_)
 obtain⟨v,H1,I1,rv,a,C,n,dx,aq,F1,rfl,a1,a2,xg,hq,f1,h1,c1⟩:=zq;cases(show u=cN a from rv);obtain⟨xa,_,_⟩:=(show dv X.prog X.w H1 s1.heap a (.ext (rm a C dx)) from I1.aH a _ a1);obtain⟨xd,_,_⟩:=(show dv X.prog X.w H1 s1.heap dx (.ext (kC f n dx)) from I1.aH dx _ a2);obtain⟨ox,od,J,tk,lk⟩:=Hv xa xd;exact b42 I1.bY J xg.cls.ga xg.cls.gt (PySem.W.findObj_own xg.hd xg.no rfl lk) xg.cls.mb rfl ⟨.int n,H1,I1.tok _,⟨tk,rfl⟩,k _ aq _ F1 H1 hq f1 h1 (c1.pushS (.int .nil) rfl)⟩
end
end L3
namespace L2
open PySem PySem.Spec PyProof.Rows
end L2
namespace L3
open PySem L2 PySem.Spec PyProof.Rows
section
variable{X:Cx}{tg iter e e1:Expr}{rb:List Stmt}{ti:js}{g:jX}{t1 te:aK}{tr:bO}{i:Nat}{x:Str}{p1 p2 p3 p4 p5 p6 p7 p8 q1 q2 q3:Pos}{j1}
end
end L3
namespace L2
open PySem PySem.Spec PyProof.Rows
structure sX(K:PySem.W.Frag)(C fI:Addr)(f:Str):Prop where
 at_:PySem.W.findIn K (.ref C) "__init__"=some (some (.ref fI))
 ty:PySem.W.typeIn K (.ref fI)=some (.type "function")
 sa:PySem.W.findIn K (.ref C) "__setattr__"=some (some (.builtin "object.__setattr__"))
 no:PySem.W.findIn K (.ref C) f=some none
 mo:PySem.W.mroIn K C (.type "object")=some true
 hd:PySem.W.hasDictIn K C=true
 Jj:Jd K C=true
 ex:BA K C fI=true
theorem sX.C6{K:PySem.W.Frag}{C fI:Addr}{f:Str}(x:sX K C fI f):Q6 K C f:=⟨x.sa,x.no,x.Jj,x.mo⟩
theorem sX.get{K:PySem.W.Frag}{C fI:Addr}{f:Str}(x:sX K C fI f)(c:jn K C):L3.Jl K C f:=⟨c,x.hd,x.no⟩
theorem sX.fn{K:PySem.W.Frag}{C fI:Addr}{f:Str}(x:sX K C fI f):∃oI,K.lookup fI=some oI/\oI.cls=.type "function":=by
 have q:=x.ty;unfold PySem.W.typeIn at q;obtain⟨o,h1,h2⟩:=tR.mp q;exact⟨o,h1,h2⟩
section
variable{X:Cx}
end
end L2
namespace L3
open PySem L2 PySem.Spec PyProof.Rows
section
variable{X:Cx}{i j:Nat}{x y:Str}{e e1 e2:Expr}{te t1 t2:aK}{p pos pos' apos bK:Pos}
end
def D.nb(ks:List Str):D->Bool
 | .lst _ xs=>wA xs
 | .tup xs=>wA xs
 | .obj _ ms xs=>ms.any (ks.contains ·)&&wA xs
 | .fz xs=>wA xs
 | .bt _=>!ks.isEmpty
 | _=>true
where wA:List D->Bool
 | []=>true
 | d::ds=>d.nb ks&&wA ds
theorem jE(ks:List Str)(ds:List D):D.nb.wA ks ds=ds.all (D.nb ks):=by induction ds with | nil=>rfl | cons d ds ih=>simp[D.nb.wA,ih]
def fX(ks:List Str)(δ:Dl):Bool:=δ.all λo=>match o with
 | none=>true
 | some d=>d.nb ks
def kX(ks ns:List Str):Bool:=ks.all λk=>!ns.contains k
theorem cl5(h:kX ks ns=true)(h2:ms.any (ks.contains ·)=true):ms≠ns:=by
 rintro rfl;obtain⟨k,hk,e⟩:=Cm.mp h2;have:=cU.mp h k (Ct.mp e);simp[hk]at this
theorem b69{ns ms:List Str}{ws us:List V}(h1:ns.length=ws.length)(h2:ms.length=us.length)(h:ns.zip ws=ms.zip us):ns=ms:=by
 have:=congrArg (tS Prod.fst) h
 rwa [List.map_fst_zip (by omega),List.map_fst_zip (by omega)]at this
def jc(F:Hp)(x:Addr):Hp:=λa=>if a=x then none else F a
theorem Jm(F:Hp)(x:Addr):jc F x x=none:=if_pos rfl
theorem sY{x a:Addr}(h:a≠x):jc F x a=F a:=if_neg h
theorem yY{x a:Addr}(h:jc F x a=some o):a≠x/\F a=some o:=by
 by_cases z:a=x
 ·rw[z,Jm]at h;cases h
 ·exact⟨z,by rw[sY z]at h;exact h⟩
theorem Q9(F:Hp)(x:Addr):ah (jc F x) F:=.of λ_ _ h=>(yY h).2
theorem cX7{x:Addr}(h:fG x F F'):ah (jc F x) F':=⟨λb o e n=>h.get b o (yY e).1 (yY e).2 n,λb ps e=>h.tb b ps (yY e).2⟩
theorem Ra{x:Addr}(hx:∀ps,F x≠some (.dF ps))(h:ah (jc F x) F'):fG x F F' :=
 ⟨λb o z e n=>h.get b o (by rw[sY z];exact e) n,λb ps e=>h.tb b ps (by rw[sY (λz=>hx ps (by rw[<-z];exact e))];exact e)⟩
section
variable{F F' H H':Hp}{x C dx:Addr}{ns ks:List Str}{us:List V}{ds:List D}{vs:List V}{A:List Addr}
theorem lL.off(hx:H x=some (.ins C dx (ns.zip us)))(sh:fG x H H'):∀{z:pB},lL H p z->lL H' p z:=by
 have k:∀a φ,H a=some (.ext φ)->H' a=some (.ext φ):=λa φ e=>sh.get a _ (λz=>by rw[z,hx]at e;cases e) e rfl;have k':∀a y,H a=some (.own y)->H' a=some (.own y):=λa φ e=>sh.get a _ (λz=>by rw[z,hx]at e;cases e) e rfl;intro z h
 cases z with
 | ext φ=>exact k _ _ h
 | lam of oc c q =>
  obtain⟨h1,h2,ψ,h3,h4⟩:=h;exact⟨k _ _ h1,k' _ _ h2,ψ,k _ _ h3,h4⟩
 | nR C nm n =>
  obtain⟨dy,h1,h2⟩:=h;exact⟨dy,k _ _ h1,k _ _ h2⟩
theorem R.off(hx:H x=some (.ins C dx (ns.zip us)))(hl:ns.length=us.length)(hk:kX ks ns=true)(ext:ah F H)(sh:fG x H H')(sf:fG x F F')(kn:∀a ws,H a=some (.lst ws)->F a=none->F' a=none)(r:R F H ds vs A):ds.all (D.nb ks)=true->R F' H' ds vs A:=by
 have lst:∀{a ws},H a=some (.lst ws)->a≠x:=λe z=>by rw[z,hx]at e;cases e
 induction r with
 | nil=>exact λ_=>.nil
 | aA _ ih=>exact λh=>.aA (ih (by simpa[D.nb]using h))
 | bl _ ih=>exact λh=>.bl (ih (by simpa[D.nb]using h))
 | int _ ih=>exact λh=>.int (ih (by simpa[D.nb]using h))
 | str _ ih=>exact λh=>.str (ih (by simpa[D.nb]using h))
 | shr e _ _ ih1 ih2 =>
  intro h;rw[bB,cA,D.nb,jE]at h;exact .shr (sf.get _ _ (lst (ext.get _ _ e rfl)) e rfl) (ih1 h.1) (ih2 h.2)
 | own e f _ _ ih1 ih2 =>
  intro h;rw[bB,cA,D.nb,jE]at h;exact .own (sh.get _ _ (lst e) e rfl) (kn _ _ e f) (ih1 h.1) (ih2 h.2)
 | tup e _ _ ih1 ih2 =>
  intro h;rw[bB,cA,D.nb,jE]at h;exact .tup (sh.get _ _ (λz=>by rw[z,hx]at e;cases e) e rfl) (ih1 h.1) (ih2 h.2)
 | obj e l _ _ ih1 ih2 =>
  intro h;rw[bB,cA,D.nb,jE,cA]at h;refine .obj (sh.get _ _ (λz=>?_) e rfl) l (ih1 h.1.2) (ih2 h.2);rw[z,hx]at e;injection e with e
  injection e with _ _ e
  exact cl5 hk h.1.1 (b69 hl l e).symm
 | fz e _ _ ih1 ih2 =>
  intro h;rw[bB,cA,D.nb,jE]at h;exact .fz (sf.get _ _ (λz=>by have q:=ext.get _ _ e rfl;rw[z,hx]at q;cases q) e rfl) (ih1 h.1) (ih2 h.2)
 | bt e _ ih=>exact λh=>.bt (lL.off hx sh e) (ih (FE.mp h).2)
theorem RS.off(hx:H x=some (.ins C dx (ns.zip us)))(hl:ns.length=us.length)(hk:kX ks ns=true)(ext:ah F H)(sh:fG x H H')(sf:fG x F F')(kn:∀a ws,H a=some (.lst ws)->F a=none->F' a=none)(r:RS F H δ σ A):fX ks δ=true->RS F' H' δ σ A:=by
 induction r with
 | nil=>exact λ_=>.nil
 | aA _ ih=>exact λh=>.aA (ih (by simpa[fX]using h))
 | gO r _ ih =>
  intro h;rw[fX,bB,cA]at h;exact .gO (r.off hx hl hk ext sh sf kn (by simpa using h.1)) (ih h.2)
theorem ax.off(c:ax B F H σ δ [])(h0:B.H0 x=none)(f0:B.F0 x=none)(hx:H x=some (.ins C dx (ns.zip us)))(hl:ns.length=us.length)(hk:kX ks ns=true)(sh:fG x H H')(sf:fG x F F')(e:ah F' H')
  (b3:∀a ws,F' a=some (.lst ws)->F a=some (.lst ws)\/H a=none) (hn:fX ks δ=true):ax B F' H' σ δ []:=by
 have kn:∀a ws,H a=some (.lst ws)->F a=none->F' a=none:=λa ws h f=>by
  cases q:F' a with
  | none=>rfl
  | some o =>
   exfalso;have g:=sh.get a _ (λz=>by rw[z,hx]at h;cases h) h rfl
   cases n:jo o with
   | true =>
    have:=e.get a o q n;rw[g]at this;cases this;rcases b3 a ws q with z | z
    ·rw[f]at z;cases z
    ·rw[h]at z;cases z
   | false =>
    obtain⟨ps,rfl⟩:=GU n;obtain⟨m,z⟩:=e.tb a ps q;rw[g]at z;cases z
 obtain⟨A,C',r,s,nd,fr⟩:=c.own;refine⟨e,?_,?_,λa ws h=>?_,A,C',?_,s.off hx hl hk c.ext sh sf kn hn,nd,fr⟩
 ·exact⟨λb o q n=>sh.get b o (λz=>by rw[z,h0]at q;cases q) (c.b1.get b o q n) n,λb ps q=>by
   obtain⟨m1,e1⟩:=c.b1.tb b ps q;obtain⟨m2,e2⟩:=sh.tb b _ e1;exact⟨m1++m2,by rw[e2,zu]⟩⟩
 ·exact⟨λb o q n=>sf.get b o (λz=>by rw[z,f0]at q;cases q) (c.b2.get b o q n) n,λb ps q=>by
   obtain⟨m1,e1⟩:=c.b2.tb b ps q;obtain⟨m2,e2⟩:=sf.tb b _ e1;exact⟨m1++m2,by rw[e2,zu]⟩⟩
 ·rcases b3 a ws h with z | z
  ·exact c.b3 a ws z
  ·exact .inr (c.b1.free z)
 ·cases r;exact .nil
end
theorem yZ:Tb [] H:=λ_ h=>nomatch h
inductive lN(tl:List Addr)(x:Addr)(t:bO)(D:Ends)(σ:L2.St)(H:Hp):Prop
 | mk (B F δ Dd) (c:ax B F H σ δ []) (hT:Tb tl B.H0) (h0:B.H0 x=none) (f0:B.F0 x=none) (e0:σ[0]?=some (some (.ref x))) (q:t Dd δ) (k:∀ag aJ F' H',Dd.nx ag->ax B F' H' aJ ag []->aJ[0]?=some (some (.ref x))->D.nx aJ H')
section
variable{X:Cx}{tl:List Addr}{x C dx:Addr}{e a b c:Expr}{es:List Expr}{pos p pos':Pos}{st:Stmt}{l kq rest:List Stmt}{t u:bO}{te:aK}{tt:fB}{ta:b8}{y:Str}
theorem fL(h1:PS X st (lN tl x t))(h2:PSs X rest (lN tl x u)):PSs X (st::rest) (lN tl x (G3 t u)) :=
 xS (FN h1 h2) λD σ H zq=>by
 obtain⟨B,F,δ,Dd,c,hT,h0,f0,e0,q,k⟩:=zq;exact⟨B,F,δ,{ Dd with nx:=u Dd },c,hT,h0,f0,e0,q,λag aJ F' H' hq c' e'=>⟨B,F',ag,Dd,c',hT,h0,f0,e',hq,k⟩⟩
theorem wB(h1:PS X st (lN tl x t)):PSs X [st] (lN tl x t):=FP h1
theorem cU4(i:Nat)(h:PSs X kq (lN tl x t)):PSs X kq (lN tl x (pK i t)):=xS h λD σ H zz=>by
 obtain⟨B,F,δ,Dd,c,hT,h0,f0,e0,⟨d,e,q⟩,k⟩:=zz;obtain⟨F',hs,c'⟩:=c.freeze e;exact⟨B,F',_,Dd,c',hT,h0,f0,e0,q,k⟩
theorem Jn(h:PS X st (CL (lE te) (CJ (i+1)))):PS X st (lN tl x (mP (i+1) te)) :=
 jq h λD σ H zq=>by
 obtain⟨B,F,δ,Dd,c,hT,h0,f0,e0,q,k⟩:=zq;exact⟨B,F,δ,[],_,c,q,λd ag v F' H' hd sf sh c'=>k _ _ F' H' hd (c'.store (i+1)) (by rw[qL (by omega)];exact e0)⟩
theorem cA7{cl:List (Str × Addr)}{tt:fB}(hN:X.N.Nodup)(iO:X.N[i+1]?=some y)(hx:L2.Loc X.env.scope y)(aE:List (Str × Nat))(bF:List Str)(hc:X.calm=true)(hi:PI X tg iter (lI ti))
  (hg:∀C s H fp,PG (dH X scope (aE.map (·.1)++bF) cl C s H fp) tg (lG aE.length g))
  (ht:∀C s H fp,mE (dH X scope (aE.map (·.1)++bF) cl C s H fp) ifs (lT tt)) (he:∀C s H fp,PE (dH X scope (aE.map (·.1)++bF) cl C s H fp) elt (lE te))
  (kO:closureFor scope X.env=pure cl) (kP:mF X cl:=by repeat' (first | exact trivial | refine⟨rfl,?_⟩)) (kQ:∀C:Addr,mG (cellsFrom (C+1) scope.names cl) (relabel scope X.env).names:=by intro _;repeat' (first | exact trivial | refine⟨.inl rfl,?_⟩ | refine⟨.inr (.inl rfl),?_⟩ | refine⟨.inr (.inr ⟨_,rfl⟩),?_⟩)) (kR:∀C:Addr,mD X scope (cellsFrom (C+1) scope.names cl) aE:=by intro _;repeat' (first | exact trivial | refine⟨⟨rfl,.inl rfl,.inl rfl,_,rfl,rfl⟩,?_⟩))
  (ia:scope.kind=.function:=by rfl) (kS:∀y∈scope.names,y.2=.local->scope.names.lookup y.1=some .local:=by decide +kernel)
  (pZ:swapsWith (.ListComp elt [⟨tg,iter,ifs,0⟩] scope pos) (some (.Name y pos')) apos.line X.env=pure true:=by rfl) (hf:X.fn y=true\/X.env.scope.names.lookup y=some .local:=by first | exact .inl rfl | exact .inr rfl)
  (hs:∀x,foldedSetIterable iter X.env x=pure x:=by intro _;rfl):PS X (.Assign [.Name y pos'] (.ListComp elt [⟨tg,iter,ifs,0⟩] scope pos) apos) (lN tl x (mP (i+1) (mQ ti aE bF.length g tt te))) :=
 Jn (ck5 hN iO hx aE bF hc hi hg ht he kO kP kQ kR ia kS pZ hf hs)
def wC(t:fB):bO:=λD δ=>t δ λb ag=>b=false/\D.nx ag
theorem y6(hc:PT X c (lT tt)):PS X (.If c l [] pos) (lN tl x (wC tt)) :=
 jq (Mb hc Mc FL) λD σ H zq=>by
 obtain⟨B,F,δ,Dd,c,hT,h0,f0,e0,q,k⟩:=zq;exact⟨B,F,δ,[],_,c,q,λb ag F' H' hq sf sh c'=>by
  obtain⟨rfl,hq⟩:=hq;exact pk (k _ _ F' H' hq c' e0)⟩
def gC(ks ns:List Str)(y:Str)(xs:List D)(d:D)(δ:Dl):Bool:=kX (y::ks) ns&&xs.all (D.nb ks)&&d.nb ks&&fX ks (δ.set 0 none)
def wD(K:PySem.W.Frag)(y:Str)(t:aK):bO:=λDd δ=>t δ λd ag=>∃C ns xs ks,ag[0]?=some (some (.obj C ns xs))/\cF K C/\bc K C y/\ns.length<1000/\gC ks ns y xs d.sh ag=true/\Dd.nx (ag.set 0 (some (.obj C (ns++[y]) (xs++[d.sh]))))
theorem cg1(h:ns.contains y=false)(hl:ns.length=ws.length):gH y v (ns.zip ws)=(ns++[y]).zip (ws++[v]):=by
 rw[Pg,List.zip_append hl];rfl;rintro⟨z,u⟩ hz rfl;have:=(tK hz).1;simp[this]at h
theorem iS{z:Str}{K:PySem.W.Frag}(hN:X.N[0]?=some z)(hv:km X.env.scope z)(he:PE X e (lE te))(hK:K=X.K:=by rfl)(hs:swapsWith e (some (.Attribute (.Name z p) y pos')) pos.line X.env=pure false:=by rfl)(hd:(z==("__debug__":Str))=false:=by decide)(bZ:(z==("__classdict__":Str))=false:=by decide) :
  PS X (.Assign [.Attribute (.Name z p) y pos'] e pos) (lN tl x (wD K y te)) :=
 jq (cN5 (nJ (i:=0) hN hv hd bZ) he hs) λD σ H zq=>by
 subst hK;obtain⟨B,F,δ,Dd,c,hT,h0,f0,e0,q,k⟩:=zq;refine⟨B,F,δ,[],_,c,q,λd ag v F' H' hd sf sh c'=>?_⟩;obtain⟨C,ns,xs,ks,ed,hc,hn,gy,nt,hq⟩:=hd;obtain⟨F1,f1,c1⟩:=c'.C5;have s1:=c1.top;have c2:=c1.pop;obtain⟨u,eu,su⟩:=c2.look ed;obtain rfl:u=.ref x:=by rw[e0]at eu;injection eu with eu;injection eu with eu;exact eu.symm
 obtain⟨p1,dx,ws,ep,hx,hl,r⟩:=m6 su;obtain rfl:x=p1:=by injection ep
 unfold gC kX at nt;rw[cA,cA,cA,bB,cA]at nt;obtain⟨⟨⟨⟨m1,m2⟩,m3⟩,m4⟩,m5⟩:=nt;refine⟨.ref x,e0,x,C,dx,_,rfl,hx,hc,hn,by rw[Cr];omega,?_⟩;rw[cg1 (by simpa using m1) hl];generalize eo:HO.ins C dx ((ns++[y]).zip (ws++[v]))=o;have sx:fG x H' (upd H' x o):=fG.upd (C:=C) (dx:=dx) hx rfl;have Rb:∀ps,F1 x≠some (.dF ps):=λps z=>by
  obtain⟨m,z⟩:=c2.ext.tb _ _ z;rw[hx]at z;cases z
 have qw:fG x F1 (jc F1 x):=⟨λb o z e _=>by rw[sY z];exact e,λb ps e=>⟨#[],by rw[sY (λz=>Rb ps (by rw[<-z];exact e)),e];simp⟩⟩;have ee:ah (jc F1 x) (upd H' x o):=cX7 ⟨λb o z e n=>by rw[aZ z];exact c2.ext.get b o e n,λb ps e=>by rw[aZ (λz=>Rb ps (by rw[<-z];exact e))];exact c2.ext.tb b ps e⟩;have kn:∀a ws,H' a=some (.lst ws)->F1 a=none->jc F1 x a=none:=λa ws _ f=>by unfold jc;rw[f];exact ite_self _
 have c3:=(c2.forget 0).off h0 f0 hx hl m2 sx qw ee (λa ws z=>.inl (yY z).2) m5;have hd1:=s1.r (by
  obtain⟨A,C',r',_⟩:=c'.own;obtain⟨_,_,A1,_,e',_,r1,_⟩:=R.dA r';exact(r1.cV c'.ext A1 λ_ h=>h).pl)
 have r3:=(r.append hd1).off hx hl m2 c2.ext sx qw kn (by simp[m3,m4]);have c4:=c3.pushS (d:=.obj C (ns++[y]) (xs++[d.sh])) (v:=.ref x) (.obj (by rw[dm,<- eo]) (by simp[hl]) r3 .nil) rfl;have h2:0<ag.length:=by
  rcases qY 0 ag.length with z | z
  ·exact z
  ·rw[gu z]at ed;cases ed
 have c5:=c4.fill (i:=0) (by rw[tH h2]) e0;rw[xi]at c5;exact k _ _ _ _ hq c5 e0
abbrev oJ:=Addr->List D->List Str->List D->List Str->List D->Prop
def jF(tl:List Addr)(sp:oJ):L2.Sp:=λvs H Q _=>∃F x C dx ns ws xs cW ds bw bC,vs=.ref x::cW/\Tb tl H/\ah F H/\H x=some (.ins C dx (ns.zip ws))/\ns.length=ws.length/\R F H xs ws []/\R F H ds cW []/\sp C ds ns xs bw bC /\
 ∀F' H' y7 eP,fG x H H'->fG x F F'->ah F' H'->(∀a us,F' a=some (.lst us)->F a=some (.lst us)\/H a=none)->H' x=some (.ins C y7 (bw.zip eP))->bw.length=eP.length->R F' H' bC eP []->Q .aA H'
def wF(sp:oJ)(ta:b8):bO:=λDd δ=>ta δ λds ag=>∃C ns xs bw bC ks,ag[0]?=some (some (.obj C ns xs))/\ds.all D.pl=true/\sp C ds ns xs bw bC/\(kX ks ns&&fX ks (ag.set 0 none))=true/\Dd.nx (ag.set 0 (some (.obj C bw bC)))
theorem Jo{pl:Sem Bool}{k:Nat}(M:qj X.K Cb m f)(Fo:aF X.prog X.w X.K X.mg X.base aN k f fd ps (jF [] sp))(hr:bJ k X.A)(hb:Binds X.K fd ps [])(hg:Gl X y)(hm:X.mg y=some (.ref Cb))
  (hN:X.N[0]?=some z) (hv:km X.env.scope z) (ha:PA X (e::es) (lA ta)) (hd:(z==("__debug__":Str))=false:=by decide) (bZ:(z==("__classdict__":Str))=false:=by decide)
  (cM:(y==("__debug__":Str))=false:=by decide) (bG:starEach (.Name z p0::e::es) X.env=(false,eval (.Name z p0) X.env)::starEach (e::es) X.env:=by rfl) (bh:(backTo pos (starEach (e::es) X.env)).any (·.1)=false:=by rfl)
  (ht:eval (.Call (.Attribute (.Name y p) m apos) (.Name z p0::e::es) [] pos) X.env=(do
   let ov<-eval (.Name y p) X.env
   standAt apos.atName
   let (f,first)<-holding [ov] (getMethod ov m pl)
   callWith pos f first (backTo pos (starEach (.Name z p0::e::es) X.env)) (backToKw pos (keywordEach [] X.env))):=by rfl)
  (hs:swapsWith (.Call (.Attribute (.Name y p) m apos) (.Name z p0::e::es) [] pos) none oE.line X.env=pure false:=by rfl) :
  PS X (.Expr (.Call (.Attribute (.Name y p) m apos) (.Name z p0::e::es) [] pos) oE) (lN tl x (wF sp ta)) :=
 jq (CH (cW6 (pl:=pl) (E:=E0) M Fo hr hb iH hg hm (gI (nJ hN hv hd bZ) ha bG) cM bG bh ht) hs) λD σ H zq=>by
 obtain⟨B,F,δ,Dd,c,hT,h0,f0,e0,q,k⟩:=zq;refine⟨.ref x,e0,B,F,δ,[],_,c,q,λds ag vs F1 H1 hd sf sh c1 s1=>?_⟩;obtain⟨C,ns,xs,bw,bC,ks,ed,hp,eA,nt,hq⟩:=hd;obtain⟨u,eu,su⟩:=c1.look ed;obtain rfl:u=.ref x:=by rw[e0]at eu;injection eu with eu;injection eu with eu;exact eu.symm
 obtain⟨p1,dx,ws,ep,hx,hl,r⟩:=m6 su;obtain rfl:x=p1:=by injection ep
 rw[cA]at nt;refine⟨F1,x,C,dx,ns,ws,xs,vs,ds,bw,bC,rfl,yZ,c1.ext,hx,hl,r,s1.r hp,eA,λF' H' y7 eP sx qw e' b3 gA jQ r'=>?_⟩;have c2:=(c1.forget 0).off h0 f0 hx hl nt.1 sx qw e' b3 nt.2;have c4:=c2.pushS (d:=.obj C bw bC) (v:=.ref x) (.obj gA jQ r' .nil) rfl;have h2:0<ag.length:=by
  rcases qY 0 ag.length with z | z
  ·exact z
  ·rw[gu z]at ed;cases ed
 have c5:=c4.fill (i:=0) (by rw[tH h2]) e0;rw[xi]at c5;exact k _ _ _ _ hq c5 e0
end
theorem R.dT0(ext:ah F H)(hf:H f=some (.ext φ))(hc:H c=some (.own f)){ds:List D}(r:R F H ds vs A):ds.all (D.nb [])=true->R (rem F f c) (rem H f c) ds vs A:=by
 have k:∀{a o},H a=some o->o≠.ext φ->o≠.own f->a≠f/\a≠c:=λ{a o} e h1 h2=>⟨λz=>by rw[z,hf]at e;injection e with e;exact h1 e.symm,λz=>by rw[z,hc]at e;injection e with e;exact h2 e.symm⟩;have kh:∀{a o},H a=some o->o≠.ext φ->o≠.own f->rem H f c a=some o:=λ{a o} e h1 h2=>by
  obtain⟨z1,z2⟩:=k e h1 h2;rw[fS z1 z2];exact e
 have kf:∀{a o},F a=some o->jo o=true->o≠.ext φ->o≠.own f->rem F f c a=some o:=λ{a o} e n h1 h2=>by
  obtain⟨z1,z2⟩:=k (ext.get _ _ e n) h1 h2;rw[fS z1 z2];exact e
 induction r with
 | nil=>exact λ_=>.nil
 | aA _ ih=>exact λh=>.aA (ih (by simpa[D.nb]using h))
 | bl _ ih=>exact λh=>.bl (ih (by simpa[D.nb]using h))
 | int _ ih=>exact λh=>.int (ih (by simpa[D.nb]using h))
 | str _ ih=>exact λh=>.str (ih (by simpa[D.nb]using h))
 | shr e _ _ ih1 ih2 =>
  intro h;rw[bB,cA,D.nb,jE]at h;exact .shr (kf e rfl (by simp) (by simp)) (ih1 h.1) (ih2 h.2)
 | own e g _ _ ih1 ih2 =>
  intro h;rw[bB,cA,D.nb,jE]at h;exact .own (kh e (by simp) (by simp)) (mZ g) (ih1 h.1) (ih2 h.2)
 | tup e _ _ ih1 ih2 =>
  intro h;rw[bB,cA,D.nb,jE]at h;exact .tup (kh e (by simp) (by simp)) (ih1 h.1) (ih2 h.2)
 | obj e l _ _ ih1 ih2 =>
  intro h;rw[bB,cA,D.nb,jE,cA]at h;exact .obj (kh e (by simp) (by simp)) l (ih1 h.1.2) (ih2 h.2)
 | fz e _ _ ih1 ih2 =>
  intro h;rw[bB,cA,D.nb,jE]at h;exact .fz (kf e rfl (by simp) (by simp)) (ih1 h.1) (ih2 h.2)
 | bt e _ ih=>exact λh=>nomatch (FE.mp h).1
section
variable{X:Cx}{tl:List Addr}{x:Addr}{e:Expr}{p p0 pos apos oE lp:Pos}{te:aK}{y:Str}
def wH(params:Arguments)(body:Expr)(scope:Scope)(yc:Str)(c:Addr)(i:Nat)(sp:oJ)(te:aK):bO:=λDd δ=>te δ λd ag=>∃C ns xs bw bC ks n0,ag[0]?=some (some (.obj C ns xs))/\ag[i]?=some (some (.int n0))/\d.pl=true/\(kX ks ns&&fX ks (ag.set 0 none))=true/\bC.all (D.nb [])=true /\
 (∀qn pm gR k oc tm,oc.data=.cell (some (.int n0 tm))->sp C [d,.bt (.lam (PySem.W.kla_obj "<lambda>" qn params body scope [(yc,c)] pm k gR) oc c k)] ns xs bw bC)/\Dd.nx (ag.set 0 (some (.obj C bw bC)))
theorem Rc{pl:Sem Bool}{k i:Nat}(M:qj X.K Cb m f)(Fo:aF X.prog X.w X.K X.mg X.base aN k f fd ps (jF [] sp))(hr:bJ k X.A)(hb:Binds X.K fd ps [])(hg:Gl X y)(hm:X.mg y=some (.ref Cb))
  (hN:X.N[0]?=some z) (hv:km X.env.scope z) (hNc:X.N[i]?=some yc) (hyc:X.env.scope.names.lookup yc=some .cell) (fF:X.env.cells.lookup yc=some c) (oZ:X.fn yc=true) (hcf:closureFor scope X.env=pure [(yc,c)]) (r9:X.env.code=.ref cc) (hK:PySem.W.codeHdIn X.K cc Pt=true) (hPt:Pt∈tl) (vK:Bm X.mg X.base)
  (he:PE X e (lE te)) (hd:(z==("__debug__":Str))=false:=by decide) (bZ:(z==("__classdict__":Str))=false:=by decide)
  (cM:(y==("__debug__":Str))=false:=by decide) (bG:starEach [.Name z p0,e,.Lambda params body scope lp] X.env=(false,eval (.Name z p0) X.env)::starEach [e,.Lambda params body scope lp] X.env:=by rfl)
  (dT5:starEach [e,.Lambda params body scope lp] X.env=(false,eval e X.env)::starEach [.Lambda params body scope lp] X.env:=by rfl) (dT6:starEach [.Lambda params body scope lp] X.env=(false,eval (.Lambda params body scope lp) X.env)::starEach [] X.env:=by rfl) (bh:(backTo pos (starEach [e,.Lambda params body scope lp] X.env)).any (·.1)=false:=by rfl)
  (ht:eval (.Call (.Attribute (.Name y p) m apos) [.Name z p0,e,.Lambda params body scope lp] [] pos) X.env=(do
   let ov<-eval (.Name y p) X.env
   standAt apos.atName
   let (f,first)<-holding [ov] (getMethod ov m pl)
   callWith pos f first (backTo pos (starEach [.Name z p0,e,.Lambda params body scope lp] X.env)) (backToKw pos (keywordEach [] X.env))):=by rfl)
  (hs:swapsWith (.Call (.Attribute (.Name y p) m apos) [.Name z p0,e,.Lambda params body scope lp] [] pos) none oE.line X.env=pure false:=by rfl) (HM:defaultsOf params X.env=([],[]):=by rfl) :
  PS X (.Expr (.Call (.Attribute (.Name y p) m apos) [.Name z p0,e,.Lambda params body scope lp] [] pos) oE) (lN tl x (wH params body scope yc c i sp te)) :=
 jq (CH (cD2 (pl:=pl) (E:=E0) M Fo hr hb hg hm hNc hyc fF oZ (gI (nJ hN hv hd bZ) (gI he (gI (cI1 hcf r9 hK vK HM) mx dT6) dT5) bG) cM bG bh ht) hs) λD σ H zq=>by
 obtain⟨B,F,δ,Dd,c',hT,h0,f0,e0,q,kk⟩:=zq;refine⟨.ref x,e0,B,F,δ,[],_,c',q,λd ag v F1 H1 hd sf sh c1=>?_⟩;obtain⟨C,ns,xs,bw,bC,ks,n0,ed,ei,hp,nt,i7,eA,hq⟩:=hd;obtain⟨P1,e1⟩:=hT _ hPt;obtain⟨more,e1⟩:=c1.b1.tb _ _ e1;refine⟨⟨_,e1⟩,λf k qn pm gR H3 nf hf3 hk kf BB hl3=>?_⟩;have s1:=c1.top;have c2:=c1.pop;obtain⟨u,eu,su⟩:=c2.look ed;obtain rfl:u=.ref x:=by rw[e0]at eu;injection eu with eu;injection eu with eu;exact eu.symm
 obtain⟨p1,dx,ws,ep,hx,hl,r⟩:=m6 su;obtain rfl:x=p1:=by injection ep
 obtain⟨vi,ev,si⟩:=c2.look ei;obtain rfl:vi=.int n0:=by cases si;rfl
 rw[cA]at nt;refine⟨f,_,_,.int n0,hf3,rfl,ev,λoc u iV hu nc AZ=>?_⟩;obtain⟨tm,rfl⟩:∃tm,u=wW n0 tm:=hu;have xf:x≠f:=λz=>by rw[z,nf]at hx;cases hx
 have hx3:=BB.get _ _ hx rfl;have sc:ah H1 (L2.upd (L2.upd H3 f (.ext (kB (PySem.W.kla_obj "<lambda>" qn params body scope [(yc,c)] pm k gR) oc c f))) c (.own f)):=⟨λb o e n=>Bc (BB.get b o e n) (dQ e nf) nc,λb ps e=>by
  obtain⟨m1,g1⟩:=BB.tb b ps e;exact⟨m1,Bc g1 (dQ e nf) nc⟩⟩
 refine⟨F1,x,C,dx,ns,ws,xs,[v,.ref f],[d,.bt (.lam _ oc c k)],bw,bC,rfl,yZ,c2.ext.trans sc,sc.get _ _ hx rfl,hl,r.shared (ah.refl _) sc,R.cons (A:=[]) ((s1.r (by simpa using hp)).shared (ah.refl _) sc) (.bt (z:=.lam _ oc c k) (cl8 AZ nc hk kf) .nil),eA qn pm gR k oc tm iV,λF' H' y7 eP sx qw e' b3 gA jQ r'=>?_⟩;have gf:H' f=some (.ext (kB _ oc _ f)):=sx.get f _ xf.symm (by rw[aZ AZ.symm,dm]) rfl;have gc:H' c=some (.own f):=sx.get _ _ (dQ hx3 nc).symm dm rfl;refine⟨gf,gc,?_⟩;have sx4:fG x H1 (rem H' f c):=ca8 BB nf nc sx;have Rh:F1 f=none:=c2.ext.free nf;have Ri:F1 c=none:=c2.ext.free (BB.free nc);have sf4:fG x F1 (rem F' f c):=⟨λb o z e n=>by rw[fS (dQ e Rh) (dQ e Ri)];exact qw.get b o z e n,λb ps e=>by rw[fS (dQ e Rh) (dQ e Ri)];exact qw.tb b ps e⟩;have e4:ah (rem F' f c) (rem H' f c):=⟨λb o e n=>by
  obtain⟨z1,z2,e⟩:=vM e;rw[fS z1 z2];exact e'.get b o e n,λb ps e=>by
  obtain⟨z1,z2,e⟩:=vM e;rw[fS z1 z2];exact e'.tb b ps e⟩
 have c3:=(c2.forget 0).off h0 f0 hx hl nt.1 sx4 sf4 e4 (λa us h=>by
  obtain⟨z1,z2,h⟩:=vM h;exact(b3 a us h).imp_right λz=>sc.free z) nt.2
 have hx4:rem H' f c x=some (.ins C y7 (bw.zip eP)):=by rw[fS xf (λz=>by rw[z,gc]at gA;cases gA)];exact gA
 have c4:=c3.pushS (d:=.obj C bw bC) (v:=.ref x) (.obj hx4 jQ (r'.dT0 e' gf gc i7) .nil) rfl;have h2:0<ag.length:=by
  rcases qY 0 ag.length with z | z
  ·exact z
  ·rw[gu z]at ed;cases ed
 have c5:=c4.fill (i:=0) (by rw[tH h2]) e0;rw[xi]at c5;exact kk _ _ _ _ hq c5 e0
end
section
variable{P:Program}{w:World}{K:PySem.W.Frag}{mg:Str->Option Value}{base:Heap}
theorem Jp{tl:List Addr}{ps:List Str}{sp:oJ}(len:∀C ds ns xs bw bC,sp C ds ns xs bw bC->ds.length+1=ps.length):∀vs H Q E,jF tl sp vs H Q E->vs.length=ps.length:=λvs H Q E zz=>by
 obtain⟨F,x,C,dx,ns,ws,xs,cW,ds,bw,bC,rfl,tb,ext,hx,hl,r1,r2,eA,k⟩:=zz;rw[<-len _ _ _ _ _ _ eA,r2.length];rfl
theorem Jq(fi:∀a:Addr,∃t:bO,PSs X kq (lN tl a t)/\∀C ds ns xs bw bC,sp C ds ns xs bw bC->t { nx:=λδ=>δ[0]?=some (some (.obj C bw bC)),rt:=λ_=>False } (iK N (.obj C ns xs::ds)))
  (zz:jF tl sp vs H Q E):∃t,PSs X kq t/\t { nx:=λ_ H'=>Q .aA H',rt:=Q } (L2.start N vs) H:=by
 obtain⟨F,x,C,dx,ns,ws,xs,cW,ds,bw,bC,rfl,tb,ext,hx,hl,r1,r2,eA,k⟩:=zz;obtain⟨t,ht,hq⟩:=fi x;have r:R F H (.obj C ns xs::ds) (.ref x::cW) []:=.obj hx hl r1 r2;have e1:L2.start N (.ref x::cW)=(V.ref x::cW).map some++aM (N.length-(D.obj C ns xs::ds).length) none:=by unfold L2.start;rw[r.length]
 have fx:∀ps,F x≠some (.dF ps):=λps z=>by
  obtain⟨m,z⟩:=ext.tb _ _ z;rw[hx]at z;cases z
 refine⟨_,ht,⟨jc H x,jc F x⟩,F,iK N (.obj C ns xs::ds),_,?_,λP hP=>?_,Jm _ _,Jm _ _,?_,hq _ _ _ _ _ _ eA,λag aJ F' H' hd c e'=>?_⟩
 ·rw[e1];have c:=ax.start ext r (N.length-(D.obj C ns xs::ds).length);obtain⟨A,C',r',s',nd,fr⟩:=c.own;refine⟨c.ext,(Q9 H x).trans c.b1,Q9 F x,λa us h=>.inl ?_,A,C',r',s',nd,λa ha=>?_⟩
  ·show jc F x a=_;rw[sY λz=>?_]
   ·exact h
   ·have:=ext.get _ _ h rfl;rw[z,hx]at this;cases this
  ·have:=fr a ha;show jc H x a=none;unfold jc;rw[show H a=none from this];exact ite_self _
 ·obtain⟨ps,e⟩:=tb P hP;exact⟨ps,by show jc H x P=_;rw[sY λz=>by rw[z,hx]at e;cases e];exact e⟩
 ·rw[e1];rfl
 ·obtain⟨u,eu,su⟩:=c.look hd;obtain rfl:u=.ref x:=by rw[e']at eu;injection eu with eu;injection eu with eu;exact eu.symm
  obtain⟨p1,y7,eP,ep,gA,jQ,r'⟩:=m6 su;obtain rfl:x=p1:=by injection ep
  refine k F' H' y7 eP (Ra (λps z=>by rw[hx]at z;cases z) c.b1) (Ra fx c.b2) c.ext (λa us h=>?_) gA jQ r';rcases c.b3 a us h with z | z
  ·exact .inl (yY z).2
  ·refine .inr ?_;rw[<-sY (F:=H) (x:=x) λy=>?_]
   ·exact z
   ·have:=c.ext.get _ _ h rfl;rw[y,gA]at this;cases this
theorem Ej{x qual:Str}{st:Stmt}{f:Addr}{fd:FuncData}{N ps:List Str}{k:Nat}{tl:List Addr}{sp:oJ}(F:iJ K x qual st f fd)(S:aS N ps (aG st))(len:∀C ds ns xs bw bC,sp C ds ns xs bw bC->ds.length+1=ps.length)
  (fi:∀(aC:Value) (A:Around) (outer:List Env) (s:Shared) (H:Hp) (E:XK),bJ k (A.deeper (envOfC qual (aG st) s.heap.objs.size f aC))->∀a:Addr,
   ∃t:bO,PSs (hV aN P w K mg base N qual (aG st) f aC A outer s H E).fZ (gL st) (lN tl a t)/\∀C ds ns xs bw bC,sp C ds ns xs bw bC->t { nx:=λδ=>δ[0]?=some (some (.obj C bw bC)),rt:=λ_=>False } (iK N (.obj C ns xs::ds))):aF P w K mg base aN (k+1) f fd ps (jF tl sp) :=
 F.ok S (Jp len) λaC A outer s H _ _ E hr zz=>Jq (fi aC A outer s H E hr) zz
theorem cA9{x qual:Str}{st:Stmt}{f:Addr}{fd:FuncData}{N ps:List Str}{k:Nat}{tl:List Addr}{sp:oJ}(F:Bw K x qual st f fd)(S:aS N ps (aG st))(len:∀C ds ns xs bw bC,sp C ds ns xs bw bC->ds.length+1=ps.length)
  (fi:∀(aC:Value) (A:Around) (outer:List Env) (s:Shared) (H:Hp) (E:XK),bJ k (A.deeper (envOfC qual (aG st) s.heap.objs.size f aC))->∀a:Addr,
   ∃t:bO,PSs (hV aN P w K mg base N qual (aG st) f aC A outer s H E).fZ (gL st) (lN tl a t)/\∀C ds ns xs bw bC,sp C ds ns xs bw bC->t { nx:=λδ=>δ[0]?=some (some (.obj C bw bC)),rt:=λ_=>False } (iK N (.obj C ns xs::ds))):aF P w K mg base aN (k+1) f fd ps (jF tl sp) :=
 F.ok S (Jp len) λaC A outer s H _ _ E hr zz=>Jq (fi aC A outer s H E hr) zz
theorem Rj{x qual:Str}{st:Stmt}{f cc:Addr}{fd:FuncData}{N ps:List Str}{k:Nat}{tl:List Addr}{sp:oJ}(F:iJ K x qual st f fd)(r9:fd.code=.ref cc)(S:aS N ps (aG st))(len:∀C ds ns xs bw bC,sp C ds ns xs bw bC->ds.length+1=ps.length)
  (fi:∀(A:Around) (outer:List Env) (s:Shared) (H:Hp) (E:XK),bJ k (A.deeper (envOfC qual (aG st) s.heap.objs.size f (.ref cc)))->∀a:Addr,
   ∃t:bO,PSs (hV aN P w K mg base N qual (aG st) f (.ref cc) A outer s H E).fZ (gL st) (lN tl a t)/\∀C ds ns xs bw bC,sp C ds ns xs bw bC->t { nx:=λδ=>δ[0]?=some (some (.obj C bw bC)),rt:=λ_=>False } (iK N (.obj C ns xs::ds))):aF P w K mg base aN (k+1) f fd ps (jF tl sp) :=
 cB9 F r9 S (Jp len) λA outer s H _ _ E hr zz=>Jq (fi A outer s H E hr) zz
end
def y8(C:Addr)(sk:List D->List Str->List D->Prop):oJ:=λC' ds ns xs bw bC=>C'=C/\ns=[]/\xs=[]/\∃zs,sk ds bw zs/\bC=zs.map D.sh
section
variable{X:Cx}{CX:eW}{n:Nat}{f C:Addr}{fd:FuncData}{ps:List Str}{sk:List D->List Str->List D->Prop}{E:XK}{x:Str}{p pos:Pos}{e:Expr}{es:List Expr}{t:b8}{tl:List Addr}
theorem y9(hT:Tb tl X.ly)(M:L2.Mk X.K C f)(F:aF X.prog X.w X.K X.mg X.base CX n f fd ps (jF tl (y8 C sk)))(hr:bJ (n+1) X.A)(hg:Gl X x)(hm:X.mg x=some (.ref C))(hb:Binds X.K fd ps [])(hx:my CX X E)
  (ha:PA X (e::es) (lA t)) (cM:(x==("__debug__":Str))=false:=by decide) (he:starEach (e::es) X.env=(false,eval e X.env)::starEach es X.env:=by rfl) (bh:(backTo pos (starEach es X.env)).any (·.1)=false:=by rfl) :
  PE X (.Call (.Name x p) (e::es) [] pos) (lE (we C sk t)):=by
 intro pins s σ H Q I zz;obtain⟨B,F',δ,ts,Qd,c,q,k⟩:=zz;have tb:=OU I hT;refine cD6 M F hr hg hm hb .nil hx ha cM he bh pins s σ H Q I ⟨B,F',δ,ts,_,c,q,λds aq vs F1 H1 q1 f1 h1 c1 s1=>?_⟩;intro x dx iZ Aw fj;obtain⟨hp,ns,xs,hI,hq⟩:=q1;have sm:ah H1 (upd (upd H1 dx (.own x)) x (.ins C dx [])):=.of λb o e=>by rw[aZ (dQ e iZ),aZ (dQ e Aw)];exact e
 refine⟨F1,x,C,dx,[],[],[],vs,ds,ns,xs.map D.sh,by rw[fY],HQ (HQ tb h1) sm,c1.ext.trans sm,dm,rfl,.nil,(s1.r hp).shared (ah.refl _) sm,⟨rfl,rfl,rfl,xs,hI,rfl⟩,λF2 H2 dx2 Di sx qw e2 b3 gA jQ r'=>⟨rfl,?_⟩⟩;have s2:ah H1 H2:=fG.of0 iZ sm sx;have sf:ah F1 F2:=fG.of0 (c1.ext.free iZ) (ah.refl _) qw;refine k _ aq _ F2 H2 hq (f1.trans sf) (h1.trans s2) (c1.call s2 sf e2 (λa us h=>(b3 a us h).imp_right sm.free) (.obj gA jQ r' .nil) .nil (by simp))
end
end L3
namespace L3
open PySem L2 Mf
theorem cS3(ks:List Str)(i:Int):(D.int i).nb ks=true:=rfl
theorem Rk(ks:List Str):∀l:List Nat,(av l).all (D.nb ks)=true
 | []=>rfl
 | _::l=>Rk ks l
theorem kY(ks:List Str)(o:Bool)(l:List Nat):(D.lst o (av l)).nb ks=true:=by rw[D.nb,jE];exact Rk ks l
theorem kZ(ks:List Str)(o b:Bool):∀G:List (List Nat),(D.lst o (aL b G)).nb ks=true
 | []=>rfl
 | g::G=>by
  have h1:=kY ks b g;have h2:=kZ ks o b G;rw[D.nb,jE]at h2 ⊢;rw[aL,dN,bB];exact FE.mpr ⟨h1,h2⟩
theorem qy(ks:List Str)(o:Bool):∀l:List Int,(D.lst o (aP l)).nb ks=true
 | []=>rfl
 | _::l=>qy ks o l
theorem Rl(ks:List Str)(l g:List Int):(D.lst false (m8 l g)).nb ks=true:=by
 rw[D.nb,jE,m8,mj,cU];exact λa _=>qy _ _ _
theorem l7(cb cp:Addr)(m:Bool × Nat):(fD cb cp m).nb ["many"]=true:=by
 have hp:∀m,(pD m).all (D.nb ["many"])=true:=λm=>by simp only[pD,bB,e6,cS3,qy,mm]
 obtain⟨k,n⟩:=m;cases k
 ·show(D.obj _ _ _).nb _=true;rw[D.nb,jE,hp];rfl
 ·show(D.obj _ _ (_++[_])).nb _=true;rw[D.nb,jE,List.all_append,hp,bB,Rl];rfl
theorem je(o b:Bool)(G:List (List Nat)):(D.lst o (aL b G)).sh=.lst false (aL false G):=by rw[dX,gn]
theorem qA(o:Bool)(l:List Int):(D.lst o (aP l)).sh=.lst false (aP l):=by rw[dX,j6]
theorem nu(o:Bool)(l:List Nat):(D.lst o (av l)).sh=.lst false (av l):=by rw[dX,qg]
structure BC(ns:List Str)(xs:List D):Prop where
 look:∀y∈wj,∀ms ys,((ns++ms).zip (xs++ys)).lookup y=(ms.zip ys).lookup y
 nb:∀y∈wj,∀ms ys d δ,gC ["many"] ms y ys d δ=true->gC ["many"] (ns++ms) y (xs++ys) d δ=true
 len:∀ms:List Str,ms.length<=6->(ns++ms).length<1000
theorem BC.nil:BC [] []:=⟨λ_ _ _ _=>rfl,λ_ _ _ _ _ _ h=>h,λms h=>zE h (by decide)⟩
theorem BC.two(e f:Int):BC ["extra","first"] [.int e,.int f]:=by
 refine⟨λy hy ms ys=>?_,λy hy ms ys d δ h=>?_,λms h=>by rw[dO];exact zE (Nat.add_le_add_left h 2) (by decide)⟩
 ·simp only[cO,iD,or_false]at hy;rcases hy with rfl | rfl | rfl | rfl | rfl | rfl<;>rfl
 ·simp only[cO,iD,or_false]at hy;rcases hy with rfl | rfl | rfl | rfl | rfl | rfl<;>exact h
end L3
namespace L3
open PySem L2 PySem.Spec PyProof.Rows
def tX(X:Cx)(tx:qa):TE:=λσ H Q=>∃Z:XC->Hp->Prop,(∀pins a T c dc H' s',Inv X pins σ H' s'->XD H' c dc->gM s'.heap a T (.ref c.C) dc->Apart X pins H' a->Apart X pins H' T->Z c H'->X.xe (.ref a) s')/\lX tx σ H Q Z
section
variable{X:Cx}{a o:Expr}{to:aK}{tx:qa}{m:Str}{n:Nat}{pos apos p2 p3 OP:Pos}{tk:Nat}
theorem c28(h:PX X a (lX tx)):PE X a (tX X tx):=λpins s σ H Q I zz=>by
 obtain⟨Z,hz,q⟩:=zz;exact h pins s σ H Q Z I (hz pins) q
def wI(MO:Addr->aX->Prop)(m:Str)(to:aK)(tx:qa):bO:=λDd δ=>to δ λd aq=>∃C ns xs sp,d=.obj C ns xs/\MO C sp/\m ∉ ns/\tx aq (λx _=>∃y ys,x=.tup (y::ys)/\sp [D.obj C ns xs,y.sh] λr=>(y.pl||r.fr)=true/\Dd.rt r) Dd.xc
theorem cy3{pl:Sem Bool}{P:Program}{w:World}{K:PySem.W.Frag}{mg:Str->Option Value}{base:Heap}(ho:PE X o (lB to))(hr:bJ n X.A)(hx:PX X a (lX tx))(hs:Gg (.Constant (.int 0) tk p2))
  (hP:P=X.prog:=by rfl) (hw:w=X.w:=by rfl) (hK:K=X.K:=by rfl) (hm:mg=X.mg:=by rfl) (hb:base=X.base:=by rfl)
  (bG:starEach [.Subscript a (.Constant (.int 0) tk p2) p3] X.env=(false,eval (.Subscript a (.Constant (.int 0) tk p2) p3) X.env)::starEach [] X.env:=by rfl) (bh:(backTo pos (starEach [] X.env)).any (·.1)=false:=by rfl)
  (ht:eval (.Call (.Attribute o m apos) [.Subscript a (.Constant (.int 0) tk p2) p3] [] pos) X.env=(do
   let ov<-eval o X.env
   standAt apos.atName
   let (f,first)<-holding [ov] (getMethod ov m pl)
   callWith pos f first (backTo pos (starEach [.Subscript a (.Constant (.int 0) tk p2) p3] X.env)) (backToKw pos (keywordEach [] X.env))):=by rfl) :
  PS X (.Return (some (.Call (.Attribute o m apos) [.Subscript a (.Constant (.int 0) tk p2) p3] [] pos)) OP) (lS X (wI (iP P w K mg base n m) m to tx)):=by
 subst hP hw hK hm hb;have ha:PA X [.Subscript a (.Constant (.int 0) tk p2) p3] _:=gI (MI MM (c28 hx) L8 hs) mx bG;intro pins s σ H En I zz;obtain⟨B,F,δ,Dd,c,q,k1,k2,k3,k4,xl⟩:=zz;suffices h:wpAny (model X.prog X.w) X.A (eval (.Call (.Attribute o m apos) [.Subscript a (.Constant (.int 0) tk p2) p3] [] pos) X.env) (EP X pins σ En.rt) X.xe s from wpAny_Return_some (aU h λv s1 ⟨x,H1,I1,r1,q1⟩=>⟨x,σ,H1,I1,r1,q1⟩)
 refine PySem.W.methodCall_KW (pl:=pl) (aU (ho pins s σ H (λx H1=>∃d aq F1,S F1 H1 [d] [x]/\ax B F1 H1 σ aq []/\ah F F1/\ah H H1/\∃C ns xs sp,d=.obj C ns xs/\iP X.prog X.w X.K X.mg X.base n m C sp/\m ∉ ns/\tx aq (λx _=>∃y ys,x=.tup (y::ys)/\sp [D.obj C ns xs,y.sh] λr=>(y.pl||r.fr)=true/\Dd.rt r) Dd.xc) I
  ⟨B,F,δ,[],_,c,q,λd aq v F1 H1 hq f1 h1 c1 s1=>⟨d,aq,F1,s1,c1,f1,h1,hq⟩⟩) λu s1 zq=>?_) ht
 obtain⟨x,H1,I1,rx,d,aq,F1,sd,c1,f1,h1,C,ns,xs,sp,ed,M,hm,hq⟩:=zq;subst ed;obtain⟨ad,dx,ws,rfl,ea,hl,r0⟩:=m6 sd;obtain rfl:u=cN ad:=rx;obtain⟨f,fd,ps,j7,FO,hb⟩:=M.ex;refine Af I1 ea M.cls j7 (A6 hm) ?_;refine PySem.W.callWith_K (first:=[.ref ad]) (h₀:=X.base) I.ok.mod.lu j7.kp (aU (ha pos pins s1 σ H1 (λvs H2=>∃y aR F2,S F2 H2 [y] vs/\ax B F2 H2 σ aR []/\ah F1 F2/\ah H1 H2/\sp [D.obj C ns xs,y.sh] λr=>(y.pl||r.fr)=true/\Dd.rt r) I1
  ⟨λc H'=>∃ag F',Dd.xc c ag/\ax B F' H' σ ag [],λpins=>Hl (H:=H1) (F:=F1) xl,B,F1,aq,_,_,c1,hq,λd aR v F2 H2 hd f2 h2 c2=>?_,λC ag F' H' hC _ _ c'=>⟨ag,F',hC,c'⟩⟩) λus s2 ⟨vs,H2,I2,r,y,aR,F2,vR,c2,f2,h2,eA⟩=>⟨I2.bY,?_⟩) bG bh
 ·obtain⟨y,ys,rfl,eA⟩:=hd;obtain⟨p,eP,rfl,e1,mW,_⟩:=ci2 c2.top c2.ext;have jQ:=mW.length
  cases eP with
  | nil=>simp at jQ
  | cons z vs=>exact⟨p,_,0,z,rfl,rfl,iF.of e1,(by unfold dW;rw[vW (LF 0) (by show 0<(z::vs).length;simp)];rfl),y,aR,F2,(c2.QO e1).top,(c2.QO e1).pop,f2,h2,eA⟩
 ·refine xF (us:=.ref ad::us) (vs:=.ref ad::vs) (gx:=[]) FO hr hb .nil iH I2 (.cons rfl r) ?_;rw[fY];exact xU (Qd:=λr=>Dd.rt r) c2 (.obj (h2 _ _ ea) hl (r0.shared f2 h2) vR) (by simpa[D.sh,D.pl]using eA) λd v F' H' hd hf hs c'=>k2 d v aR σ F' H' hd c'
end
end L3
namespace L3
open PySem L2 Mf
def oi:Option Int->D
 | none=>.aA
 | some i=>.int i
def cP(y:List (Option Int)):List D:=y.map oi
theorem jG(y:List (Option Int)):(cP y).length=y.length:=bq _
theorem Rm:∀o:Option Int,(oi o).sh=oi o
 | none=>rfl
 | some _=>rfl
theorem cW4:∀o:Option Int,(oi o).pl=true
 | none=>rfl
 | some _=>rfl
theorem cZ7:∀o:Option Int,(oi o).fr=true
 | none=>rfl
 | some _=>rfl
theorem jf(y:List (Option Int)):(cP y).map D.sh=cP y:=by
 unfold cP;rw[cE];exact tT λo _=>Rm o
theorem oK(y:List (Option Int)):(cP y).all D.pl=true:=by
 unfold cP;rw[mj,cU];exact λo _=>cW4 o
theorem cO1(y:List (Option Int)):(cP y).all D.fr=true:=by
 unfold cP;rw[mj,cU];exact λo _=>cZ7 o
theorem Rn{y:List (Option Int)}{i:Nat}{d:D}(h:(fE (cP y))[i]?=some d):∃hi:i<y.length,d=.tup [.int i,oi y[i]]:=by
 obtain⟨x,e,rfl⟩:=b63 h;unfold cP at e;rw[cy]at e
 cases q:y[i]? with
 | none=>rw[q]at e;cases e
 | some o =>
  rw[q]at e;cases e;obtain⟨hi,rfl⟩:=jh.mp q;exact⟨hi,rfl⟩
def sO(l:List Nat):List (Option Int):=l.map λ(n:Nat)=>some (n:Int)
theorem sZ(l:List Nat):cP (sO l)=av l:=by unfold cP sO;rw[cE,cj];rfl
theorem jH(l:List Nat):(sO l).length=l.length:=bq _
def gD(m:Bool × Nat):Option Int->Bool
 | none=>false
 | some i=>decide (0<=i)&&decide (i<(af m:Nat))
def k6(m:Bool × Nat):Option Int->Bool
 | none=>true
 | some i=>decide (0<=i)&&decide (i<(af m:Nat))
def jg(p:Option Int->Bool)(y:List (Option Int))(j:Nat):Prop:=(∀i,i<j->p (y.getD i none)=true)/\j<y.length/\p (y.getD j none)=false
theorem Ro{n:Int}(h0:0<=n)(h:n<1000):(qZ (toString n)).length<=3/\n.natAbs.log2<1920:=by
 have:∀k,k<1000->(qZ (toString ((k:Nat):Int))).length<=3/\((k:Nat):Int).natAbs.log2<1920:=by decide +kernel
 obtain⟨k,rfl⟩:=ZT h0;exact this k (by omega)
theorem Rp{m:Bool × Nat}:∀{y:List (Option Int)},(∀i,i<y.length->gD m (y.getD i none)=true)->∃l:List Nat,y=sO l/\AllLt (af m) l
 | [],_=>⟨[],rfl,λ_ h=>nomatch h⟩
 | o::y,h=>by
  obtain⟨l,rfl,hl⟩:=Rp (y:=y) λi hi=>h (i+1) (Nat.succ_lt_succ hi);have h0:=h 0 (FF _)
  cases o with
  | none=>cases h0
  | some i =>
   obtain⟨a,b⟩:=FE.mp (show(decide (0<=i)&&decide (i<(af m:Nat)))=true from h0);have a:=of_decide_eq_true a;have b:=of_decide_eq_true b;obtain⟨n,rfl⟩:=ZT a;exact⟨n::l,rfl,λx hx=>by
    rcases cO.mp hx with rfl | hx
    ·omega
    ·exact hl x hx⟩
theorem Rq(l:List Nat){i:Nat}(h:i<l.length):(sO l).getD i none=some ((l.getD i 0:Nat):Int):=by
 unfold sO;rw[aT,cy,aV h,aT,aV h];rfl
theorem Rt:∀{l l':List Nat},sO l=sO l'->l=l'
 | [],[],_=>rfl
 | a::l,b::l',h=>by
  obtain⟨h1,h2⟩:=mi h;injection h1 with h1
  rw[Int.ofNat.inj h1,Rt h2]
theorem BD{m:Bool × Nat}{l:List Nat}(h:AllLt (af m) l):∀i,i<(sO l).length->gD m ((sO l).getD i none)=true:=λi hi=>by
 rw[jH]at hi;rw[Rq l hi];have:=h _ (eU hi);have e:l.getD i 0=l[i]:=by rw[aT,aV hi];rfl
 rw[e];show(decide (0<=(l[i]:Int))&&decide ((l[i]:Int)<(af m:Nat)))=true;rw[decide_eq_true (by omega),decide_eq_true (by omega)];rfl
def Ek(m:Bool × Nat)(G:List (List Nat))(l:List Nat):Kd->Prop
 | .jD b=>1<=b/\b<=15/\0<ay G/\∀r∈G,gd m r l=0
 | .rep=>1<=ay G/\∃s,l=aM (ay G) s
 | .oF e f=>e<=63/\∀i<e,i8 m (eS m ((f:Int)+(i:Int))) l=0
def Jr(m:Bool × Nat)(G:List (List Nat)):Kd->Prop
 | .jD b=>1<=b/\b<=15
 | .rep=>∃n,2<=n/\G=fK m n
 | .oF e f=>∃n,1<=e/\e<=63/\G=fJ m f (aI n) e
theorem cG3{m:Bool × Nat}(hm:m∈aD){f i n:Nat}{l:List Nat}(al:AllLt (af m) l)(ll:l.length=n):gd m ((aI n).map λ(p:Nat)=>eS m (((f:Int)+(i:Int))*(p:Int))) l=i8 m (eS m ((f:Int)+(i:Int))) l:=by
 rw[QP hm _ al n (by omega),D0 m (by rw[bq,bW];exact ll.symm),bq,bW];refine dD λj hj=>?_;rw[show cf ((aI n).map λ(p:Nat)=>eS m (((f:Int)+(i:Int))*(p:Int))) j=eS m (((f:Int)+(i:Int))*(j:Int)) from DZ _ hj,Ig hm,gj]
theorem Jr.cw{m:Bool × Nat}{G:List (List Nat)}{k:Kd}{l:List Nat}(h:Jr m G k)(hc:dU m G)(w0:0<ay G)(hl:l.length=(bV m G).length)(al:AllLt (af m) l):Ek m G (iA m G l) k:=by
 have hm:=hc.hm;have wd:=hc.wd hl
 cases k with
 | jD b=>exact⟨h.1,h.2,w0,wd.z⟩
 | rep =>
  obtain⟨n,h2,rfl⟩:=h;obtain⟨_,_,w⟩:=wk hm h2;have e1:bV m (fK m n)=[n-1]:=by unfold bV;rw[QZ hm h2,w,IZ hm h2]
  have e2:kW m (fK m n)=[aM n 1]:=by unfold kW;rw[QZ hm h2,w,cD4 hm h2]
  rw[e1]at hl;obtain⟨s,rfl⟩:=List.length_eq_one_iff.mp hl;refine⟨w0,s,?_⟩;unfold iA;rw[e2,w,cA4 hm (al s (eT.mpr rfl))]
 | oF e f =>
  obtain⟨n,e1,e63,rfl⟩:=h;obtain⟨_,_,g3⟩:=Eh hm f n e1;refine⟨e63,λi hi=>?_⟩;rw[<-cG3 hm wd.lt (wd.ln.trans g3)];exact wd.z _ (zM (cJ.mpr hi))
def l8(m:Bool × Nat)(w:Nat):Option Int->Bool:=if w<2 then gD m else k6 m
def l9(m:Bool × Nat)(G:List (List Nat))(w:Nat):Nat:=if w=0 then(bV m G).length else ay G
theorem jg.no{p:Option Int->Bool}{y:List (Option Int)}{j:Nat}(h:jg p y j)(h2:∀i,i<y.length->p (y.getD i none)=true):False:=by
 have:=h.2.2;rw[h2 j h.2.1]at this;cases this
theorem jg.one{p:Option Int->Bool}{y:List (Option Int)}{i j:Nat}(h:jg p y i)(h2:jg p y j):i=j:=by
 rcases FA i j with c | c | c
 ·have:=h2.1 i c;rw[h.2.2]at this;cases this
 ·exact c
 ·have:=h.1 j c;rw[h2.2.2]at this;cases this
theorem El(y:List (Option Int))(j:Nat)(o:Option Int):(cP y).set j (oi o)=cP (y.set j o):=by unfold cP;rw[xk]
theorem Js(y:List (Option Int)){j:Nat}(x:Option Int)(i:Nat)(hj:j<y.length):(y.set j x).getD i none=if i=j then x else y.getD i none:=by
 rw[aT,LQ];by_cases c:i=j
 ·subst c;rw[if_pos rfl,if_pos rfl,if_pos hj];rfl
 ·rw[if_neg c,if_neg λz=>c z.symm,aT]
theorem Jt(m:Bool × Nat)(v:Nat){b:Int}(h:b<0\/((af m:Nat):Int)<=b):l8 m v (some b)=false:=by
 have e:(decide (0<=b)&&decide (b<(af m:Nat)))=false:=by
  rcases h with h | h
  ·rw[decide_eq_false (by omega)];rfl
  ·rw[decide_eq_false (p:=b<_) (by omega),Lo]
 unfold l8;split<;>exact e
theorem cN1{m:Bool × Nat}(v:Nat){l:List Nat}(h:AllLt (af m) l){i:Nat}(hi:i<l.length):l8 m v ((sO l).getD i none)=true:=by
 have e:=BD h i (by rw[jH];exact hi);unfold l8;split
 ·exact e
 ·rw[Rq l hi]at e ⊢;exact e
theorem Ru(m:Bool × Nat){v:Nat}:l8 m v none=!decide (v<2):=by
 unfold l8;by_cases h:v<2
 ·rw[if_pos h,decide_eq_true h];rfl
 ·rw[if_neg h,decide_eq_false h];rfl
end L3
namespace HK35
open PySem.W (Frag codeHdIn kitOne exmOne CodeHd)
open PySem L2 L3 Mf
seal L2.PSs L2.PS L2.PE L2.PT L2.PA L2.PI L2.PG L2.PO L2.PW
local macro_rules | `(tactic| nofun) => do
  let l ← (("uA mP uB uC dT nS mL pF dC rB mO pJ pI rE uz pW vg rS vh vj uo uq ur uu uv uw rC u7 rO rP ii rG uN rH uO uP uQ uR uT uU uV iI iM uW uX uY uZ rJ rK nW u5 u6 gN vk ve uD uG rF uI uJ uK vm vn mQ jZ fR jY ij tP tM zR zS pK iK jt rQ rR n6 vv vy vA vw vB vC vE qf vF i6 vJ rX vH iq vG yG yH dN jK lj jL jJ xm aM oV oW du fP xo exists_eq_left' exists_eq_left D.bl.injEq D.int.injEq D.lst.injEq D.fz.injEq D.str.injEq D.tup.injEq zT and_true true_and bB e6 mm qS ye yf yg yh yi yj eO kD p9 yo yp yq yr yt dX mI vo yk ym yn kE rn zU zV tI jM zW zX w5 yx yy yz yA yB yC yD lR kJ vp j6 rT yv vt yu rV yw jy vq if_true mh if_false reduceIte yE decide_eq_true_eq e7 lW qg yL om yK uE vP sD sE vU vI se sg sj vV sI sJ vX sM gn lZ j8 yS sN v7 v9 dJ wa wb wc we wg sU wu wz wD wC wF wH wI jz sL ft Bf cx9 cv6 Bh Bi".splitOn " ").toArray.map fun (s : String) => Lean.mkIdent s.toName).mapM fun i => `(Lean.Parser.Tactic.simpLemma| $i:term)
  `(tactic| (try dsimp only [$l,*]) <;> (try simp only [$l,*]))
set_option hygiene false in
local macro_rules|`(tactic|subst_eqs)=>`(tactic|(refine au λU hU=>?_;nofun))
def top (i:Nat):Stmt:=PySem.Challenge.pw_mendfield_k35_words_refused.main.body.getD i (.Pass ⟨0,0,0,0⟩)
abbrev Rw:Stmt:=top 89
theorem Ju:aS ["_law_cell_here","_law_some","_law_primes"] ["_law_cell_here"] (aG Rw):=aW
abbrev Rx:Stmt:=top 90
theorem aP9:aS ["_law_told_here"] ["_law_told_here"] (aG Rx):=aW
abbrev Ry:Stmt:=top 102
theorem aS8:aS ["_law_many_here","_law_cell_here"] ["_law_many_here","_law_cell_here"] (aG Ry):=aW
abbrev Rz:Stmt:=top 103
theorem qB:aS ["_law_signs","_law_many_here","_law_way","_law_kind","_law_cell_here","_law_less","_law_by","_law_one","_law_two"] ["_law_signs","_law_many_here","_law_way","_law_kind","_law_cell_here"] (aG Rz):=aW
abbrev RA:Stmt:=top 29
theorem aH7:aS ["signs","length"] ["signs","length"] (aG RA):=aW
abbrev RB:Stmt:=dq (top 7) 0
theorem aM1:aS ["self","place"] ["self","place"] (aG RB):=aW
abbrev RC:Stmt:=dq (top 62) 1
theorem aM2:aS ["self","x"] ["self","x"] (aG RC):=aW
abbrev RD:Stmt:=top 30
theorem RE:aS ["field","signs","place","sign"] ["field","signs"] (aG RD):=aW
abbrev RF:Stmt:=dq (top 63) 5
theorem BE:aS ["self","xs","ys","products","total","x","y"] ["self","xs","ys"] (aG RF):=aW
abbrev RG:Stmt:=dq (top 64) 5
theorem aE9:aS ["self","xs","ys"] ["self","xs","ys"] (aG RG):=aW
abbrev RH:Stmt:=top 15
theorem aS9:aS ["table"] ["table"] (aG RH):=aW
abbrev RI:Stmt:=top 16
theorem aV1:aS ["table"] ["table"] (aG RI):=aW
abbrev RJ:Stmt:=top 18
theorem aV2:aS ["field","row","table"] ["field","row","table"] (aG RJ):=aW
abbrev RK:Stmt:=dq (top 32) 5
theorem aJ7:aS ["self","message"] ["self","message"] (aG RK):=aW
abbrev RL:Stmt:=top 87
theorem aQ0:aS ["_law_script","_law_k"] ["_law_script","_law_k"] (aG RL):=aW
abbrev RM:Stmt:=top 56
theorem Em:aS ["a","product","found","power"] ["a","product"] (aG RM):=aW
abbrev RN:Stmt:=top 57
theorem BF:aS ["many","product","step","found"] ["many","product"] (aG RN):=aW
abbrev RO:Stmt:=top 58
theorem Jv:aS ["powers","logs","n","a"] ["powers"] (aG RO):=aW
abbrev RP:Stmt:=dq (top 62) 8
theorem ay3:aS ["self","n"] ["self","n"] (aG RP):=aW
abbrev RQ:Stmt:=dq (top 62) 0
theorem aN9:aS ["self","many","product"] ["self","many","product"] (aG RQ):=aW
abbrev RU:Stmt:=top 61
theorem av0:aS ["prime"] ["prime"] (aG RU):=aW
abbrev BG:Stmt:=dq (top 64) 0
theorem az4:aS ["self","prime"] ["self","prime"] (aG BG):=aW
abbrev RV:Stmt:=top 59
theorem Eo:aS ["powers","logs","many","rows","a"] ["powers","logs"] (aG RV):=aW
abbrev RW:Stmt:=top 53
theorem za:aS ["a","b","quotient","rest","shift"] ["a","b"] (aG RW):=aW
abbrev RX:Stmt:=top 54
theorem Jw:aS ["a","half","b"] ["a"] (aG RX):=aW
abbrev RY:Stmt:=top 60
theorem az5:aS ["bits"] ["bits"] (aG RY):=aW
abbrev RZ:Stmt:=top 52
theorem Ep:aS ["a","b","product","k"] ["a","b"] (aG RZ):=aW
abbrev BH:Stmt:=dq (top 63) 0
theorem R0:aS ["self","bits","many"] ["self","bits"] (aG BH):=aW
abbrev R1:Stmt:=top 93
theorem aO0:aS ["_law_told_here"] ["_law_told_here"] (aG R1):=aW
abbrev R3:Stmt:=top 95
theorem aO1:aS ["_law_cell_here","_law_k"] ["_law_cell_here","_law_k"] (aG R3):=aW
abbrev R4:Stmt:=top 98
theorem BI:aS ["_law_many_here","_law_length","_law_extra","_law_cell_here","_law_sparse","_law_table","_law_i","_law_row"] ["_law_many_here","_law_length","_law_extra","_law_cell_here","_law_sparse"] (aG R4):=aW
abbrev R5:Stmt:=top 20
theorem R6:aS ["rows","place","number","row"] ["rows","place"] (aG R5):=aW
abbrev R7:Stmt:=dq (top 63) 6
theorem R8:aS ["self","a","row","by_a"] ["self","a","row"] (aG R7):=aW
abbrev R9:Stmt:=dq (top 64) 6
theorem Sa:aS ["self","a","row","prime"] ["self","a","row"] (aG R9):=aW
abbrev Sb:Stmt:=dq (top 63) 7
theorem Sd:aS ["self","row","a","other","by_a"] ["self","row","a","other"] (aG Sb):=aW
abbrev Se:Stmt:=dq (top 64) 7
theorem Sf:aS ["self","row","a","other","prime"] ["self","row","a","other"] (aG Se):=aW
abbrev Sg:Stmt:=top 21
theorem aU4:aS ["field","rows","lead_row","place"] ["field","rows","lead_row","place"] (aG Sg):=aW
abbrev Sh:Stmt:=dq (top 62) 5
theorem aO2:aS ["self","a","b"] ["self","a","b"] (aG Sh):=aW
abbrev Si:Stmt:=top 22
theorem s8:aS ["field","table","done","left","place","number","lead_row"] ["field","table"] (aG Si):=aW
abbrev Sj:Stmt:=top 28
theorem aV3:aS ["table"] ["table"] (aG Sj):=aW
abbrev Sk:Stmt:=top 23
theorem cl1:aS ["rows"] ["rows"] (aG Sk):=aW
abbrev Sl:Stmt:=top 25
theorem at2:aS ["rows","width","taken"] ["rows","width"] (aG Sl):=aW
abbrev Sm:Stmt:=dq (top 63) 2
theorem aF0:aS ["self","a","b"] ["self","a","b"] (aG Sm):=aW
abbrev Sn:Stmt:=dq (top 64) 2
theorem ay4:aS ["self","a","b"] ["self","a","b"] (aG Sn):=aW
abbrev So:Stmt:=top 26
theorem zb:aS ["field","rows","width","taken","found","free","x","lead","row"] ["field","rows","width"] (aG So):=aW
abbrev Sq:Stmt:=dq (top 32) 0
theorem Sr:aS ["self","field","checks","rows"] ["self","field","checks"] (aG Sq):=aW
abbrev Ss:Stmt:=top 49
theorem Su:aS ["field","table","width"] ["field","table"] (aG Ss):=aW
abbrev Sv:Stmt:=top 24
theorem cB8:aS ["field","table"] ["field","table"] (aG Sv):=aW
abbrev Sw:Stmt:=top 36
theorem aQ1:aS ["column"] ["column"] (aG Sw):=aW
abbrev Sy:Stmt:=dq (top 63) 3
theorem aF1:aS ["self","a","b"] ["self","a","b"] (aG Sy):=aW
abbrev Sz:Stmt:=dq (top 64) 3
theorem ay5:aS ["self","a","b"] ["self","a","b"] (aG Sz):=aW
abbrev SA:Stmt:=top 37
theorem zc:aS ["field","column","others","place","inverse","found","other","left"] ["field","column","others"] (aG SA):=aW
abbrev SD:Stmt:=top 38
theorem s9:aS ["field","table","width","sets","larger","places","behind","number","column","bigger"] ["field","table"] (aG SD):=aW
abbrev SE:Stmt:=dq (top 50) 0
theorem aF2:aS ["self","field","table"] ["self","field","table"] (aG SE):=aW
abbrev SG:Stmt:=top 92
theorem zd:aS ["_law_told_here","_law_a","_law_b","_law_total"] ["_law_told_here","_law_a","_law_b"] (aG SG):=aW
abbrev SH:Stmt:=top 94
theorem Jx:aS ["_law_told_here","_law_a","_law_powers_here"] ["_law_told_here"] (aG SH):=aW
abbrev SI:Stmt:=top 97
theorem Er:aS ["_law_told_here","_law_length","_law_extra","_law_first","_law_powers_here","_law_table","_law_i"] ["_law_told_here","_law_length","_law_extra","_law_first"] (aG SI):=aW
abbrev SJ:Stmt:=top 84
theorem aA1:aS ["many","length","extra","first"] ["many","length","extra","first"] (aG SJ):=aW
abbrev SK:Stmt:=dq (top 85) 0
theorem SM:aS ["self","field","length","extra","first","checks"] ["self","field","length","extra","first"] (aG SK):=aW
abbrev SN:Stmt:=dq (top 50) 1
theorem at3:aS ["self"] ["self"] (aG SN):=aW
abbrev bg8:Stmt:=dq (top 34) 1
abbrev bl0:Stmt:=dq (top 85) 2
abbrev SO:Stmt:=top 33
theorem SQ:aS ["field","length","less_one"] ["field","length"] (aG SO):=aW
abbrev SR:Stmt:=dq (top 34) 0
theorem aA2:aS ["self","field","length"] ["self","field","length"] (aG SR):=aW
abbrev SS:Stmt:=top 96
theorem Es:aS ["_law_told_here","_law_length","_law_table","_law_i","_law_row"] ["_law_told_here","_law_length"] (aG SS):=aW
abbrev SU:Stmt:=top 99
theorem ka:aS ["_law_script","_law_told_here","_law_many_here","_law_field_here","_law_kind","_law_length","_law_extra","_law_table","_law_code_here","_law_first"] ["_law_script","_law_told_here"] (aG SU):=aW
abbrev SV:Stmt:=dq (top 32) 10
theorem aA3:aS ["self","word"] ["self","word"] (aG SV):=aW
abbrev SW:Stmt:=top 31
theorem SX:aS ["field","signs","place","sign"] ["field","signs"] (aG SW):=aW
abbrev SY:Stmt:=top 10
theorem aM3:aS ["signs"] ["signs"] (aG SY):=aW
abbrev S0:Stmt:=top 11
theorem ay6:aS ["signs"] ["signs"] (aG S0):=aW
abbrev S1:Stmt:=top 19
theorem aQ2:aS ["field","table","column"] ["field","table","column"] (aG S1):=aW
abbrev S2:Stmt:=top 44
theorem S3:aS ["field","columns","lost","place"] ["field","columns","lost"] (aG S2):=aW
abbrev S4:Stmt:=top 43
theorem aF3:aS ["field","columns","due","most","number","column","behind","further","found"] ["field","columns","due","most"] (aG S4):=aW
abbrev S5:Stmt:=top 45
theorem Et:aS ["field","table","lost","sums","most","columns","others","numbers"] ["field","table","lost","sums","most"] (aG S5):=aW
abbrev by4:Stmt:=top 47
theorem ze:aS ["field","table","room","word","lost","known","sums","wrong","places"] ["field","table","room","word"] (aG by4):=aW
abbrev S6:Stmt:=dq (top 50) 2
theorem av1:aS ["self","word"] ["self","word"] (aG S6):=aW
abbrev S7:Stmt:=dq (top 34) 2
theorem Jy:aS ["self","word","kept","sign"] ["self","word"] (aG S7):=aW
abbrev S8:Stmt:=dq (top 63) 1
theorem aH8:aS ["self","a","b"] ["self","a","b"] (aG S8):=aW
abbrev S9:Stmt:=dq (top 64) 1
theorem aA5:aS ["self","a","b"] ["self","a","b"] (aG S9):=aW
abbrev Ta:Stmt:=top 70
theorem Eu:aS ["field","a","x","value","number"] ["field","a","x"] (aG Ta):=aW
abbrev Tc:Stmt:=top 72
theorem aQ3:aS ["field","first","extra","word"] ["field","first","extra","word"] (aG Tc):=aW
abbrev Td:Stmt:=top 73
theorem Jz:aS ["field","places","finder","place"] ["field","places"] (aG Td):=aW
abbrev Te:Stmt:=top 77
theorem aV4:aS ["field","row","c","place"] ["field","row","c","place"] (aG Te):=aW
abbrev Tf:Stmt:=top 67
theorem aV5:aS ["a","length"] ["a","length"] (aG Tf):=aW
abbrev Tg:Stmt:=top 78
theorem qC:aS ["field","row","size","c","old","old_off","back","place","off","mended"] ["field","row"] (aG Tg):=aW
abbrev Th:Stmt:=top 74
theorem aQ4:aS ["field","finder","length"] ["field","finder","length"] (aG Th):=aW
abbrev Ti:Stmt:=top 80
theorem BJ:aS ["field","lost","sums","length","known","left","rule","found"] ["field","lost","sums","length"] (aG Ti):=aW
abbrev Tj:Stmt:=top 75
theorem aT0:aS ["field","first","places","sums","table"] ["field","first","places","sums"] (aG Tj):=aW
abbrev Tn:Stmt:=top 12
theorem JA:aS ["field","word","places","signs","left","place","sign"] ["field","word","places","signs"] (aG Tn):=aW
abbrev To:Stmt:=top 82
theorem wJ:aS ["field","first","extra","word","lost","known","sums","wrong","places","signs"] ["field","first","extra","word"] (aG To):=aW
abbrev Tp:Stmt:=dq (top 85) 3
theorem ay7:aS ["self","word"] ["self","word"] (aG Tp):=aW
abbrev Tq:Stmt:=top 13
theorem Ew:aS ["signs","sent","found","place","due","was"] ["signs","sent"] (aG Tq):=aW
abbrev Tr:Stmt:=dq (top 32) 9
theorem Ts:aS ["self","word","sent"] ["self","word"] (aG Tr):=aW
abbrev Tt:Stmt:=dq (top 32) 11
theorem aQ5:aS ["self","word"] ["self","word"] (aG Tt):=aW
abbrev Tu:Stmt:=dq (top 32) 6
theorem aJ8:aS ["self","word"] ["self","word"] (aG Tu):=aW
abbrev Tv:Stmt:=top 100
theorem aO3:aS ["_law_code_here","_law_way","_law_signs"] ["_law_code_here","_law_way","_law_signs"] (aG Tv):=aW
abbrev Tw:Stmt:=top 88
theorem aO4:aS ["_law_x"] ["_law_x"] (aG Tw):=aW
abbrev Tx:Stmt:=top 101
theorem Ey:aS ["_law_code_here","_law_way","_law_signs","_law_refusal_here","e"] ["_law_code_here","_law_way","_law_signs"] (aG Tx):=aW
abbrev Tz:Stmt:=dq (top 32) 7
theorem aJ9:aS ["self","word"] ["self","word"] (aG Tz):=aW
abbrev TB:Stmt:=top 104
theorem nv:aS ["_law_script","_law_told_here","_law_many_here","_law_code_here","_law_way","_law_size","_law_signs","_law_spoilt_here","_law_message","_law_word"] ["_law_script"] (aG TB):=aW
set_option genInjectivity false in
set_option genSizeOf false in
structure cH where
 TC:Addr
 TF:FuncData
 TH:Addr
 TK:FuncData
 TL:Addr
 TM:FuncData
 TN:Addr
 TQ:FuncData
 TR:Addr
 TU:FuncData
 JB:Addr
 TV:FuncData
 Ez:Addr
 TX:FuncData
 TY:Addr
 TZ:FuncData
 JC:Addr
 T3:FuncData
 JE:Addr
 T4:FuncData
 T5:Addr
 T6:FuncData
 T7:Addr
 T8:FuncData
 T9:Addr
 Ua:FuncData
 BK:Addr
 Ub:FuncData
 Uc:Addr
 Ud:FuncData
 Ue:Addr
 Ug:FuncData
 Uh:Addr
 Ui:FuncData
 Uj:Addr
 Uk:FuncData
 BL:Addr
 Ul:FuncData
 JF:Addr
 Um:FuncData
 Uo:Addr
 Up:FuncData
 JG:Addr
 JH:FuncData
 Uq:Addr
 Ur:FuncData
 Us:Addr
 Ut:FuncData
 Uu:Addr
 Uv:FuncData
 Uw:Addr
 Ux:FuncData
 Uy:Addr
 Uz:FuncData
 JI:Addr
 JJ:FuncData
 UA:Addr
 UB:FuncData
 UC:Addr
 UD:FuncData
 UE:Addr
 UG:FuncData
 UH:Addr
 UI:FuncData
 JK:Addr
 UJ:FuncData
 JL:Addr
 UK:FuncData
 JM:Addr
 UL:FuncData
 JN:Addr
 UM:FuncData
 UN:Addr
 UO:FuncData
 EA:Addr
 UP:FuncData
 UQ:Addr
 UR:FuncData
 US:Addr
 UT:FuncData
 UU:Addr
 UW:FuncData
 UX:Addr
 UY:FuncData
 JO:Addr
 UZ:FuncData
 JP:Addr
 U0:FuncData
 U1:Addr
 U2:FuncData
 JQ:Addr
 U3:FuncData
 U4:Addr
 U5:FuncData
 U6:Addr
 U7:FuncData
 U8:Addr
 U9:FuncData
 JR:Addr
 Va:FuncData
 JS:Addr
 Vb:FuncData
 Vc:Addr
 Vd:FuncData
 Ve:Addr
 Vf:FuncData
 JT:Addr
 Vg:FuncData
 Vh:Addr
 Vi:FuncData
 Vj:Addr
 Vk:FuncData
 Vl:Addr
 Vm:FuncData
 Vn:Addr
 Vo:FuncData
 JU:Addr
 JV:FuncData
 JW:Addr
 Vp:FuncData
 Vq:Addr
 d05:FuncData
 Vr:Addr
 d06:FuncData
 Vs:Addr
 Vt:FuncData
 JX:Addr
 Vu:FuncData
 Vv:Addr
 Vw:FuncData
 Vx:Addr
 Vy:FuncData
 BM:Addr
 Vz:FuncData
 VA:Addr
 VB:FuncData
 VC:Addr
 VD:FuncData
 VE:Addr
 VF:FuncData
 VG:Addr
 VH:FuncData
 VI:Addr
 VJ:FuncData
 VL:Addr
 VM:FuncData
 VN:Addr
 VO:FuncData
 VP:Addr
 VQ:FuncData
 JY:Addr
 VR:FuncData
 JZ:Addr
 VS:FuncData
 J4:Addr
 VT:FuncData
 J5:Addr
 VU:FuncData
 VV:Addr
 VW:FuncData
 VX:Addr
 VY:FuncData
 VZ:Addr
 V0:FuncData
 V1:Addr
 V2:FuncData
 V3:Addr
 V4:FuncData
 V5:Addr
 V6:FuncData
 V7:Addr
 V8:FuncData
 V9:Addr
 Wa:FuncData
 Wb:Addr
 Wc:FuncData
 We:Addr
 Wf:FuncData
 Wg:Addr
 Wh:FuncData
 J6:Addr
 Wi:FuncData
 Wj:Addr
 Wk:FuncData
 BN:Addr
 Wl:FuncData
 BO:Addr
 Wm:FuncData
 BP:Addr
 Wn:FuncData
 Wo:Addr
 Wq:FuncData
 Wr:Addr
 Ws:FuncData
 Wt:Addr
 Wu:FuncData
 BQ:Addr
 Wv:FuncData
 J7:Addr
 EB:FuncData
 J8:Addr
 qD:Addr
 J9:Addr
 qE:Addr
 a7:Addr
 nz:Addr
 e8:Addr
 tf:Addr
 Ww:Addr
 BR:Addr
 BS:Addr
 fM:Addr
 g5:Addr
 a8:Addr
 fu:Addr
 eR:Addr
 BU:Addr
structure Txt(K:Frag)(mg:Str->Option Value)(t:cH):Prop where
 aU5:mg "BitField"=some (.ref t.a7)
 aX5:mg "ByNought"=some (.ref t.nz)
 Wx:mg "CheckCode"=some (.ref t.e8)
 EC:mg "Code"=some (.ref t.tf)
 Wy:mg "Field"=some (.ref t.Ww)
 Wz:mg "MendError"=some (.ref t.BR)
 d08:mg "NoCode"=some (.ref t.BS)
 ED:mg "NoSign"=some (.ref t.fM)
 d09:mg "NoWord"=some (.ref t.g5)
 aQ6:mg "PrimeField"=some (.ref t.a8)
 d12:mg "RepeatCode"=some (.ref t.fu)
 d13:mg "RootCode"=some (.ref t.eR)
 d14:mg "TooFar"=some (.ref t.BU)
 d15:mg "ValueError"=none
 d16:mg "abs"=none
 wK:mg "all"=none
 WA:mg "any"=none
 WB:mg "bool"=none
 oM:mg "enumerate"=none
 Ka:mg "int"=none
 nA:mg "isinstance"=none
 dj:mg "len"=none
 wL:mg "list"=none
 wM:mg "min"=none
 fv:mg "range"=none
 d17:mg "reversed"=none
 d18:mg "sum"=none
 zf:mg "zip"=none
 aK1:Meth K t.a7 "dot" t.JC
 aF4:Meth K t.a7 "holds" t.Ez
 av2:Meth K t.a7 "lessened" t.JM
 aF5:Meth K t.a7 "minus" t.JO
 aH9:Meth K t.a7 "over" t.EA
 aI0:Meth K t.a7 "plus" t.J4
 aB7:Meth K t.a7 "scaled" t.JK
 Kb:Meth K t.a7 "step_power" t.BL
 WC:Meth K t.a7 "times" t.JR
 d26:Meth K t.e8 "checked" t.BP
 d27:Meth K t.e8 "distance" t.JW
 WD:Meth K t.e8 "is_word" t.BQ
 WE:Meth K t.e8 "mended" t.BN
 d28:Meth K t.e8 "message_in" t.BM
 d29:Meth K t.e8 "nearest" t.JY
 WG:Meth K t.e8 "read" t.BO
 WH:Meth K t.e8 "written" t.BK
 aF6:Meth K t.a8 "dot" t.JE
 ay8:Meth K t.a8 "holds" t.Ez
 as9:Meth K t.a8 "lessened" t.JN
 ay9:Meth K t.a8 "minus" t.JP
 aB8:Meth K t.a8 "over" t.EA
 aB9:Meth K t.a8 "plus" t.J5
 av3:Meth K t.a8 "scaled" t.JL
 Ke:Meth K t.a8 "step_power" t.BL
 WI:Meth K t.a8 "times" t.JS
 d37:Meth K t.fu "checked" t.BP
 ev7:Meth K t.fu "distance" t.Vq
 WJ:Meth K t.fu "is_word" t.BQ
 WK:Meth K t.fu "mended" t.BN
 d38:Meth K t.fu "message_in" t.BM
 d39:Meth K t.fu "nearest" t.JZ
 WL:Meth K t.fu "read" t.BO
 WM:Meth K t.fu "written" t.BK
 d40:Meth K t.eR "checked" t.BP
 ev8:Meth K t.eR "distance" t.Vr
 WN:Meth K t.eR "is_word" t.BQ
 WO:Meth K t.eR "mended" t.BN
 d41:Meth K t.eR "message_in" t.BM
 d42:Meth K t.eR "nearest" t.J6
 WQ:Meth K t.eR "read" t.BO
 WR:Meth K t.eR "written" t.BK
 aT1:Mk K t.a7 t.JI
 WS:Mk K t.e8 t.JT
 aO5:Mk K t.a8 t.JG
 d45:Mk K t.fu t.JX
 d46:Mk K t.eR t.JU
 Kf:qj K t.tf "__init__" t.JQ
 WT:qj K t.Ww "__init__" t.JF
 aQ7:Ji K t.BR
 tu:sX K t.fM t.JB "place"
 WU:Fk K mg "_law_told" Rw ["_law_cell_here"] t.TC t.TF
 BV:Fk K mg "_law_many" Rx ["_law_told_here"] t.TH t.TK
 Kg:Fk K mg "_law_bad" Ry ["_law_many_here","_law_cell_here"] t.TL t.TM
 WV:Fk K mg "_law_spoilt" Rz ["_law_signs","_law_many_here","_law_way","_law_kind","_law_cell_here"] t.TN t.TQ
 oN:Fk K mg "refuse_length" RA ["signs","length"] t.TR t.TU
 wN:Fk K mg "refuse_no_sign" RD ["field","signs"] t.TY t.TZ
 BW:Fk K mg "width_of" RH ["table"] t.T5 t.T6
 EE:Fk K mg "turned" RI ["table"] t.T7 t.T8
 WW:Fk K mg "row_by" RJ ["field","row","table"] t.T9 t.Ua
 kb:Fk K mg "_law_cell" RL ["_law_script","_law_k"] t.Uc t.Ud
 Kh:Fk K mg "powers_of" RM ["a","product"] t.Ue t.Ug
 WX:Fk K mg "step_powers" RN ["many","product"] t.Uh t.Ui
 WY:Fk K mg "logs_of" RO ["powers"] t.Uj t.Uk
 WZ:Fk K mg "makes_prime_field" RU ["prime"] t.Uo t.Up
 W0:Fk K mg "product_rows" RV ["powers","logs"] t.Uq t.Ur
 wO:Fk K mg "bits_divided" RW ["a","b"] t.Us t.Ut
 W2:Fk K mg "stands_alone" RX ["a"] t.Uu t.Uv
 W3:Fk K mg "makes_bit_field" RY ["bits"] t.Uw t.Ux
 EF:Fk K mg "bits_times" RZ ["a","b"] t.Uy t.Uz
 EG:Fk K mg "_law_field" R1 ["_law_told_here"] t.UA t.UB
 BX:Fk K mg "_law_mixed" R3 ["_law_cell_here","_law_k"] t.UC t.UD
 W4:Fk K mg "_law_free_table" R4 ["_law_many_here","_law_length","_law_extra","_law_cell_here","_law_sparse"] t.UE t.UG
 W5:Fk K mg "first_with" R5 ["rows","place"] t.UH t.UI
 Ki:Fk K mg "cleared" Sg ["field","rows","lead_row","place"] t.UN t.UO
 Kj:Fk K mg "reduced" Si ["field","table"] t.UQ t.UR
 W6:Fk K mg "copied" Sj ["table"] t.US t.UT
 Kk:Fk K mg "leads" Sk ["rows"] t.UU t.UW
 Kl:Fk K mg "free_places" Sl ["rows","width"] t.UX t.UY
 W7:Fk K mg "kernel_of_reduced" So ["field","rows","width"] t.U1 t.U2
 W8:Fk K mg "is_small_table" Ss ["field","table"] t.U4 t.U5
 W9:Fk K mg "rank" Sv ["field","table"] t.U6 t.U7
 Km:Fk K mg "is_nought" Sw ["column"] t.U8 t.U9
 Xa:Fk K mg "past" SA ["field","column","others"] t.Vc t.Vd
 Xb:Fk K mg "first_bound" SD ["field","table"] t.Ve t.Vf
 Kn:Fk K mg "_law_times" SG ["_law_told_here","_law_a","_law_b"] t.Vh t.Vi
 Xc:Fk K mg "_law_powers" SH ["_law_told_here"] t.Vj t.Vk
 Ko:Fk K mg "_law_root_table" SI ["_law_told_here","_law_length","_law_extra","_law_first"] t.Vl t.Vm
 Xd:Fk K mg "makes_root_code" SJ ["many","length","extra","first"] t.Vn t.Vo
 Xe:Fk K mg "repeat_checks" SO ["field","length"] t.Vs t.Vt
 Xf:Fk K mg "_law_repeat_table" SS ["_law_told_here","_law_length"] t.Vv t.Vw
 EH:Fk K mg "_law_code" SU ["_law_script","_law_told_here"] t.Vx t.Vy
 EI:Fk K mg "refuse_no_sign_but_lost" SW ["field","signs"] t.VA t.VB
 Kp:Fk K mg "lost_places" SY ["signs"] t.VC t.VD
 Kq:Fk K mg "noughts_for_lost" S0 ["signs"] t.VE t.VF
 Kr:Fk K mg "by_column" S1 ["field","table","column"] t.VG t.VH
 Xg:Fk K mg "past_lost" S2 ["field","columns","lost"] t.VI t.VJ
 Xh:Fk K mg "numbers_within" S4 ["field","columns","due","most"] t.VL t.VM
 Xi:Fk K mg "near_row" by4 ["field","table","room","word"] t.VP t.VQ
 Ks:Fk K mg "value_at" Ta ["field","a","x"] t.VV t.VW
 Xj:Fk K mg "root_sums" Tc ["field","first","extra","word"] t.VX t.VY
 Xk:Fk K mg "place_finder" Td ["field","places"] t.VZ t.V0
 Kt:Fk K mg "off_at" Te ["field","row","c","place"] t.V1 t.V2
 Xl:Fk K mg "filled" Tf ["a","length"] t.V3 t.V4
 Xm:Fk K mg "shortest" Tg ["field","row"] t.V5 t.V6
 Xn:Fk K mg "places_in" Th ["field","finder","length"] t.V7 t.V8
 Xo:Fk K mg "signs_at" Tj ["field","first","places","sums"] t.Wb t.Wc
 Xp:Fk K mg "taken_off" Tn ["field","word","places","signs"] t.We t.Wf
 Xq:Fk K mg "root_nearest" To ["field","first","extra","word"] t.Wg t.Wh
 Xr:Fk K mg "differences" Tq ["signs","sent"] t.Wj t.Wk
 EJ:Fk K mg "_law_asked" Tv ["_law_code_here","_law_way","_law_signs"] t.Wo t.Wq
 Xs:Fk K mg "_law_whole" Tw ["_law_x"] t.Wr t.Ws
 Xt:Fk K mg "_law_refusal" Tx ["_law_code_here","_law_way","_law_signs"] t.Wt t.Wu
 Ku:Fk K mg "law" TB ["_law_script"] t.J7 t.EB
 Xu:Fa K mg "wrong_places_searchmend" "wrong_places" S5 ["field","table","lost","sums","most"] t.VN t.VO
 Xv:Fa K mg "wrong_places_rootmend" "wrong_places" Ti ["field","lost","sums","length"] t.V9 t.Wa
 Kv:Fm K "__init__" "NoSign.__init__" RB ["self","place"] t.JB t.TV
 Kw:Fm K "holds" "Field.holds" RC ["self","x"] t.Ez t.TX
 Xw:Fm K "dot" "BitField.dot" RF ["self","xs","ys"] t.JC t.T3
 Xx:Fm K "dot" "PrimeField.dot" RG ["self","xs","ys"] t.JE t.T4
 Kx:Fm K "written" "Code.written" RK ["self","message"] t.BK t.Ub
 zh:Fm K "step_power" "Field.step_power" RP ["self","n"] t.BL t.Ul
 Ky:Fm K "__init__" "Field.__init__" RQ ["self","many","product"] t.JF t.Um
 Xy:Fm K "__init__" "PrimeField.__init__" BG ["self","prime"] t.JG t.JH
 Xz:Fm K "__init__" "BitField.__init__" BH ["self","bits"] t.JI t.JJ
 XA:Fm K "scaled" "BitField.scaled" R7 ["self","a","row"] t.JK t.UJ
 XB:Fm K "scaled" "PrimeField.scaled" R9 ["self","a","row"] t.JL t.UK
 XE:Fm K "lessened" "BitField.lessened" Sb ["self","row","a","other"] t.JM t.UL
 XF:Fm K "lessened" "PrimeField.lessened" Se ["self","row","a","other"] t.JN t.UM
 Kz:Fm K "over" "Field.over" Sh ["self","a","b"] t.EA t.UP
 XG:Fm K "minus" "BitField.minus" Sm ["self","a","b"] t.JO t.UZ
 XH:Fm K "minus" "PrimeField.minus" Sn ["self","a","b"] t.JP t.U0
 EK:Fm K "__init__" "Code.__init__" Sq ["self","field","checks"] t.JQ t.U3
 KA:Fm K "times" "BitField.times" Sy ["self","a","b"] t.JR t.Va
 KC:Fm K "times" "PrimeField.times" Sz ["self","a","b"] t.JS t.Vb
 KD:Fm K "__init__" "CheckCode.__init__" SE ["self","field","table"] t.JT t.Vg
 XI:Fm K "distance" "CheckCode.distance" SN ["self"] t.JW t.Vp
 ev9:Fm K "distance" "RepeatCode.distance" bg8 ["self"] t.Vq t.d05
 ew0:Fm K "distance" "RootCode.distance" bl0 ["self"] t.Vr t.d06
 XJ:Fm K "__init__" "RepeatCode.__init__" SR ["self","field","length"] t.JX t.Vu
 XM:Fm K "message_in" "Code.message_in" SV ["self","word"] t.BM t.Vz
 XN:Fm K "nearest" "CheckCode.nearest" S6 ["self","word"] t.JY t.VR
 XO:Fm K "nearest" "RepeatCode.nearest" S7 ["self","word"] t.JZ t.VS
 XQ:Fm K "plus" "BitField.plus" S8 ["self","a","b"] t.J4 t.VT
 XR:Fm K "plus" "PrimeField.plus" S9 ["self","a","b"] t.J5 t.VU
 XS:Fm K "nearest" "RootCode.nearest" Tp ["self","word"] t.J6 t.Wi
 KG:Fm K "mended" "Code.mended" Tr ["self","word"] t.BN t.Wl
 KH:Fm K "read" "Code.read" Tt ["self","word"] t.BO t.Wm
 XT:Fm K "checked" "Code.checked" Tu ["self","word"] t.BP t.Wn
 KI:Fm K "is_word" "Code.is_word" Tz ["self","word"] t.BQ t.Wv
 d48:Bw K "__init__" "RootCode.__init__" SK t.JU t.JV
 d49:Binds K t.JV ["self","field","length","extra","first"] []
 aC1:t.JH.code=.ref t.J8
 aI1:t.JJ.code=.ref t.J9
 aC2:codeHdIn K t.J8 t.qD=true
 aI2:codeHdIn K t.J9 t.qE=true
 eY:cF K t.a7
 qF:cF K t.e8
 fc:cF K t.a8
 BY:cF K t.fu
 qG:cF K t.eR
 aX6:sF K t.a7
 d54:sF K t.e8
 aX4:sF K t.a8
 d55:sF K t.fu
 d56:sF K t.eR
 aI3:bc K t.a7 "bits"
 EL:bc K t.a7 "logs"
 BZ:bc K t.a7 "many"
 EM:bc K t.a7 "powers"
 zi:bc K t.a7 "products"
 aI4:bc K t.a7 "step"
 aI5:bc K t.a7 "wide"
 KJ:bc K t.e8 "bound"
 XU:bc K t.e8 "check_rows"
 XW:bc K t.e8 "field"
 XX:bc K t.e8 "length"
 XY:bc K t.e8 "message_places"
 XZ:bc K t.e8 "size"
 X0:bc K t.e8 "word_rows"
 KL:bc K t.a8 "logs"
 B0:bc K t.a8 "many"
 KN:bc K t.a8 "powers"
 tw:bc K t.a8 "prime"
 aC3:bc K t.a8 "step"
 aC4:bc K t.a8 "wide"
 X1:bc K t.fu "check_rows"
 X2:bc K t.fu "field"
 X3:bc K t.fu "length"
 X4:bc K t.fu "message_places"
 X5:bc K t.fu "size"
 X6:bc K t.fu "word_rows"
 X7:bc K t.eR "check_rows"
 X8:bc K t.eR "extra"
 X9:bc K t.eR "field"
 Ya:bc K t.eR "first"
 Yb:bc K t.eR "length"
 Yc:bc K t.eR "message_places"
 Yd:bc K t.eR "size"
 Ye:bc K t.eR "word_rows"
 Yf:Dq K mg "ByNought" t.nz
 d62:Dq K mg "NoWord" t.g5
 aX7:jn K t.nz
 wQ:jn K t.fM
 B3:jn K t.g5
 aX1:kitOne K (.ref t.a7) (.ref t.tf)=some false
 d63:kitOne K (.ref t.e8) (.ref t.tf)=some true
 aV6:kitOne K (.ref t.a8) (.ref t.tf)=some false
 d64:kitOne K (.ref t.fu) (.ref t.tf)=some true
 d65:kitOne K (.ref t.eR) (.ref t.tf)=some true
 aW7:kitOne K (.ref t.nz) (.ref t.BS)=some false
 aW8:kitOne K (.ref t.nz) (.ref t.fM)=some false
 aW9:kitOne K (.ref t.nz) (.ref t.g5)=some false
 aX0:kitOne K (.ref t.nz) (.ref t.BU)=some false
 aU3:kitOne K (.ref t.nz) (.type "ValueError")=some true
 d66:kitOne K (.ref t.fM) (.ref t.BS)=some false
 d67:kitOne K (.ref t.fM) (.ref t.fM)=some true
 d68:kitOne K (.ref t.fM) (.ref t.g5)=some false
 d69:kitOne K (.ref t.fM) (.ref t.BU)=some false
 d70:kitOne K (.ref t.fM) (.type "ValueError")=some true
 d71:kitOne K (.ref t.g5) (.ref t.BS)=some false
 d72:kitOne K (.ref t.g5) (.ref t.fM)=some false
 d73:kitOne K (.ref t.g5) (.ref t.g5)=some true
 d74:kitOne K (.ref t.g5) (.ref t.BU)=some false
 d75:kitOne K (.ref t.g5) (.type "ValueError")=some true
 ex1:kitOne K (.type "NoneType") (.ref t.BS)=some false
 ex2:kitOne K (.type "NoneType") (.ref t.fM)=some false
 ex3:kitOne K (.type "NoneType") (.ref t.g5)=some false
 ex4:kitOne K (.type "NoneType") (.ref t.BU)=some false
 aU6:exmOne K (.ref t.nz) (.ref t.BR)=some true
 aC5:exmOne K (.ref t.fM) (.ref t.BR)=some true
 aC6:exmOne K (.ref t.g5) (.ref t.BR)=some true
structure Sx where
 P:Program
 w:World
 K:Frag
 mg:Str->Option Value
 base:Heap
 t:cH
def KO(x:Sx):Prop:=Txt x.K x.mg x.t->Bm x.mg x.base->aF x.P x.w x.K x.mg x.base aN 12 x.t.J7 x.t.EB ["_law_script"] (vL [x.t.qD,x.t.qE] (aY Hi))
theorem cU0:Nonempty Sx:=⟨⟨default,⟨λ_ _=>0,{ strHash:=λ_=>0,shareClass:=λ_=>0,mergeTok:=id,idOf:=λ_=>0,idOfShared:=λ_ _=>0,followText:=λ_=>false,idOfImm:=λ_=>0 }⟩,default,λ_=>none,default,by constructor<;>exact default⟩⟩
def x0:Sx:=@Classical.epsilon Sx cU0 λx=>¬ KO x
def P:Program:=x0.P
def w:World:=x0.w
def K:Frag:=x0.K
def mg:Str->Option Value:=x0.mg
def base:Heap:=x0.base
def t:cH:=x0.t
seal P w K mg base t
section
theorem cL9(T:Txt K mg t)(m:Bool × Nat){Q:D->Prop}(q:Q (.int (af m))):∃C ns xs v,fD t.a7 t.a8 m=.obj C ns xs/\cF K C/\bc K C "many"/\(ns.zip xs).lookup ("many":Str)=some v/\Q v:=by
 obtain⟨k,n⟩:=m
 cases k with
 | true=>exact⟨_,_,_,_,rfl,T.eY,T.BZ,rfl,q⟩
 | false=>exact⟨_,_,_,_,rfl,T.fc,T.B0,rfl,q⟩
abbrev dM(t:cH)(m:Bool × Nat)(G:List (List Nat))(k:Kd):D:=xP t.a7 t.a8 t.e8 t.fu t.eR m G k
theorem zj(T:Txt K mg t)(m:Bool × Nat)(G:List (List Nat))(k:Kd){a:Str}{v:D}(n1:bc K t.e8 a)(n2:bc K t.fu a)(n3:bc K t.eR a)(ha:a∈wj)(h:(wj.zip (l6 t.a7 t.a8 false m G)).lookup a=some v){Q:D->Prop}(q:Q v):∃C ns xs v,dM t m G k=.obj C ns xs/\cF K C/\bc K C a/\(ns.zip xs).lookup a=some v/\Q v:=by
 have ha:a="field"\/a="length"\/a="check_rows"\/a="word_rows"\/a="message_places"\/a="size":=by simpa only[cO,iD,or_false]using ha
 rcases ha with rfl | rfl | rfl | rfl | rfl | rfl<;>cases k
 all_goals first | exact⟨_,_,_,v,rfl,T.qF,n1,h,q⟩ | exact⟨_,_,_,v,rfl,T.BY,n2,h,q⟩ | exact⟨_,_,_,v,rfl,T.qG,n3,h,q⟩
theorem tD(T:Txt K mg t)(m:Bool × Nat)(G:List (List Nat))(k:Kd){Q:D->Prop}(q:Q (fD t.a7 t.a8 m)):∃C ns xs v,dM t m G k=.obj C ns xs/\cF K C/\bc K C "field"/\(ns.zip xs).lookup ("field":Str)=some v/\Q v:=zj T m G k T.XW T.X2 T.X9 (by decide) rfl q
theorem B4(T:Txt K mg t)(m:Bool × Nat)(G:List (List Nat))(k:Kd){Q:D->Prop}(q:Q (.int (ay G:Nat))):∃C ns xs v,dM t m G k=.obj C ns xs/\cF K C/\bc K C "length"/\(ns.zip xs).lookup ("length":Str)=some v/\Q v:=zj T m G k T.XX T.X3 T.Yb (by decide) rfl q
theorem Yg(T:Txt K mg t)(m:Bool × Nat)(G:List (List Nat))(k:Kd){Q:D->Prop}(q:Q (.lst false (aL false G))):∃C ns xs v,dM t m G k=.obj C ns xs/\cF K C/\bc K C "check_rows"/\(ns.zip xs).lookup ("check_rows":Str)=some v/\Q v:=zj T m G k T.XU T.X1 T.X7 (by decide) rfl q
theorem cD9(T:Txt K mg t)(m:Bool × Nat)(G:List (List Nat))(k:Kd){Q:D->Prop}(q:Q (.lst false (aL false (kW m G)))):∃C ns xs v,dM t m G k=.obj C ns xs/\cF K C/\bc K C "word_rows"/\(ns.zip xs).lookup ("word_rows":Str)=some v/\Q v:=zj T m G k T.X0 T.X6 T.Ye (by decide) rfl q
theorem cc3(T:Txt K mg t)(m:Bool × Nat)(G:List (List Nat))(k:Kd){Q:D->Prop}(q:Q (.lst false (av (bV m G)))):∃C ns xs v,dM t m G k=.obj C ns xs/\cF K C/\bc K C "message_places"/\(ns.zip xs).lookup ("message_places":Str)=some v/\Q v:=zj T m G k T.XY T.X4 T.Yc (by decide) rfl q
theorem KP(T:Txt K mg t)(m:Bool × Nat)(G:List (List Nat))(k:Kd){Q:D->Prop}(q:Q (.int ((bV m G).length:Nat))):∃C ns xs v,dM t m G k=.obj C ns xs/\cF K C/\bc K C "size"/\(ns.zip xs).lookup ("size":Str)=some v/\Q v:=zj T m G k T.XZ T.X5 T.Yd (by decide) rfl q
theorem KQ(T:Txt K mg t)(m:Bool × Nat)(G:List (List Nat))(k:Kd){me:Str}{n:Nat}{f:Addr}{fd:FuncData}{ps:List Str}{sp:aX}(h1:Meth K t.e8 me f)(h2:Meth K t.fu me f)(h3:Meth K t.eR me f)(F:aF P w K mg base aN n f fd ps (aY sp))(b:Binds K fd ps [])(nm:me ∉ (["extra","first","field","length","check_rows","word_rows","message_places","size","bound"]:List Str)):∃C ns zs Ag,dM t m G k=.obj C ns zs/\iP P w K mg base n me C Ag/\me ∉ ns/\∀ds Q,sp (dM t m G k::ds) Q->Ag (.obj C ns zs::ds) Q:=by
 simp only[cO,iD,or_false,not_or]at nm;cases k
 ·exact⟨_,_,_,sp,rfl,⟨T.qF,_,_,_,h1,F,b⟩,by simp[nm],λ_ _ q=>q⟩
 ·exact⟨_,_,_,sp,rfl,⟨T.BY,_,_,_,h2,F,b⟩,by simp[nm],λ_ _ q=>q⟩
 ·exact⟨_,_,_,sp,rfl,⟨T.qG,_,_,_,h3,F,b⟩,by simp[nm],λ_ _ q=>q⟩
abbrev aQ8:aX:=λds Q=>∃c:Int,ds=[.int c]/\Q (eG (sG c))
local macro_rules | `(tactic| obtain $p:rcasesPatMed : $q:term) => do
  let o := q.raw[1].getArgs
  let some z := o.back!.isStrLit? | Lean.Macro.throwUnsupported
  let d := ("T0 - /1č /5č aa1 /_ɞ /)č rfl0 20 /Zč aQ:i5 /o% b90 40 - /F% 30 /Űƀ /ɥƠ /,0 10 60 /;č /.č dh0 /@č 50 - /6č /,N /(ɤ 70 /ɝŎ /ɟ^ /ɐɡ /T* em1 az3 aw2 /_ɶ /AŎ /ɚɮ /F+ /n% /BĀ /ɕǟ /Šğ cC0 /^Ā /vč /ɫɬ hr0 /_ɹ bH1 /ɚɺ *01 /ĩ( 00 /GG - /Iŵ aB1 /(( /CV /*h /^i /+z *60 [ fq0 /Aŵ /,C fo5 /ɴɵ /ɻ& /JP /BG /Aɖ aj0 /AƸ /ɘɭ /($ /Ɣŵ /&Ʋ fC1 80 /T$ /ʀd /+1 eK0 /EĂ /ăī /ǶL /&o /ɢɋ nZ:i5 /B[ fk0 /_ʁ /ʃʄ iH0 /ş5 /Ǣư /3$ /ĭĬ /Ĉ% nU0 bv1 /ɜƣ /-, pU0 /$V pS0 /$' /Aɸ [row /IƸ /ĈB pY:i4 /wg /&ŀ /]% [x /(' /T# /*q /şZ /ɓ& /*4 /PƳ /$4 /Aʅ /fǘ /^G /'> /ȗT /FB /%N /Ō? iS:K4 /ɕɎ /^[ /őM /ē0 /Ŵŵ /D$ /%u qC.nd0 /FM /Ƿ& /ʉʊ /ʏʐ /Iɖ /84 /ĴƝ /V+ /{G /ɗʑ /əǈ /T' /ƾƾ /cH /9Ĥ /Ĕ1 /#0 /'4 /ʙX /g+ s9.nd0 90 K0 /[[ ae2 /ŋč u00 kF0 /ĂG /,ɍ /ZE /*, yd1 yb0 /ʝƻ x95 /ʞǎ /_ʟ /Iʠ xW:i6 /(* fQ1 /j5 /Iɑ xX3 /(ȯ /Iʡ y61 hB0 /ɛǈ y99 /Ǣʢ /Ĉm /74 /Ĳ+ xV2 /Aʂ [place /ɗɧ /ȩL /+; /PƢ /ƔŎ a54 /ăM /ʣ& /,9 /Ǚ% /4> /ɜǲ /ƳĻ /Ăō /(d /ŮǛ /ȮX /ċL AF3 /$* /Ƭ` /&ǧ /)? /$Ź /,F /Ƽ] /T3 /ǩł /ʤ, /,K /Jǝ za.nd0 /&Ǉ /Pf /*F AK0 /IŎ /ǜ& /Ǹ% /*V zb.nd0 /.? /Ǡƻ zc.nd0 /VȦ mM1 /S' zd.nd0 cm:K2 /Ĕ) /ȷǱ kG1 [sign /ʥ& /Aʦ /#ʧ Dk6 T.ED0 BE.nd0 Df0 /*$ T.BW0 ER1 *21 cS8 BF.nd0 i5:i4 jw0 hT0 BI.nd0 T.BX0 EU1 fV:P:w:K:mg:base:n9 Dg0 DK:P:w:K:mg:base:n9 PW.pt1 /w' T.EC0 fL2 T.BV0 EN1 [i Ef1 yZ0 [_law_row BJ.nd0 Dn1 uS0 cX1 G10 Hm4 T.Ka0 GA0 mT0 rD2 [j T.EE0 KZ1 KS1 T.oN.g0 T.oN.F.kp0 T.oN.b0 Em.nd0 Eo.nd0 /ǧ% mX1 Ep.nd0 /)1 s8.nd0 /$> *90 bj4 /ʚǡ pH2 /X( T.Kf0 K21 T.EK.b0 Jo9 /oŧ Er.nd0 wB1 Es.nd0 Et.nd0 Eu.nd0 Ew.nd0 Ey.nd0 *11 /ɽɾ /,ě bI2 Ju.nd0 *50 OC:ns2 /S* qB.nd0 yJ3 T.Kg0 Yh1 QU2 T.WB0 Nr0 NY1 PassesOwn.leaving0 T.tu.ex0 T.tu.fn0 Yj1 T.Kv.b0 Q7A Yl1 T.wN.g0 T.wN.F.kp0 T.wN.b0 O1:n:i6 T.Kh0 Yp1 Ob0 Jv.nd0 T.WT0 Yq1 T.Ky.b0 T.Wy0 ke0 Rc:iJ T.Yf0 Oc0 Jw.nd0 /ɘɷ Oa0 N90 FT:i5 Jn:i2 *40 [_law_at T.Ki0 Yx1 PR2 T.Kk0 YD1 P00 T.Kl0 YE1 xY1 T.Kj0 YB1 /S$ Ot1 T.WA0 Nq0 [field:0 /Xɦ /ʗʘ T.Km0 YJ1 Jx.nd0 T.Kn0 YU1 Qw1 Pe9 /ǰD T.WS0 YT1 T.Wx0 T.KD.b0 T.Ko0 YY1 T.Kp0 Y21 T.Kq0 Y31 T.Kr0 Y41 Q34 Jy.nd0 T.Ks0 Za1 Jz.nd0 T.Kt0 Zb1 bx3 QW4 u91 pG4 JA.nd0 /(ǯ /ʒʓ Q81 nv.nd0 [_law_j /Ȝɠ bL5 *31 *80 bP0 /Tɣ /əǲ /ɛǲ ai0 ao1 aO1 a91 bu3 bD0 bU1 *70 /Ō* cQ0 cT:i2 di0 /ɨd T.dj0 /ɩɪ de0 hr.mono1 dB1 P0 w0 /ɯɰ /ɱŌ mg0 /ɲɳ base0 T.fv0 aF.mono2 gP3 bg1 jx1 ka.nd0 T.kb0 /ɼ! k81 T.nA0 /dɿ T.oM0 oh3 /&& mY:i1:i28 rN5 va0 /ʆd T.wL0 /ʇʈ ui0 vb1 /(ʋ /ʌd T.wM0 /ʍʎ ug0 wq:i1:i23 vx8 vz1 vd1 /ʔd T.wK0 /ʕʖ uh0 uM1 t71 xw1 xT2 /ʛʜ xx1 T.zf0 yI3 xZ3 yU:iC wJ.nd0 /ǍǍ ze.nd0 Be:P:w:K:mg:base:nA AR5".splitOn " ").toArray
  let v := (["aC A outer s H E hr|ds Q h", "aC A outer s H E hr|ds Q Ex h", "aC A outer s H E hr a|C ds ns xs bw bC h", "A outer s H E hr a|C ds ns xs bw bC h", "aC A outer s H E hT hr|ds Q h"][z.front.toNat - 48]!).splitOn "|"
  let h := Lean.mkIdent (v.getLast!.splitOn " ").getLast!.toName
  let b ← `(by obtain $p:rcasesPatMed := $h:ident <;> rfl)
  let t := pOlZ q.raw[0] o.pop.toList v.head! v.getLast! b (pOlK [] (pOlY d false ((z.drop 1).toString.splitOn "<")))
  `(tactic| (refine $t; obtain $p:rcasesPatMed := $h:ident))
theorem aQ9(T:Txt K mg t):aF P w K mg base aN 1 t.TC t.TF ["_law_cell_here"] (aY (aQ8 )):=by
 obtain⟨c,rfl,q⟩:bf T.WU.F Ju "05ǳ&<[7 11 13 19 25 31 37 41 47 55 59 61 67 73 87 91 97 103 109 115 117<Ǵǵ+)ǳ&<[2 3 5 7 11 13 17 19 23 29 31 37 41 43 47 53 59 61<Ǵǵ+lĢ>ő$ģĢ4`ĎMő'ģĢ4`ĎŒ";subst_eqs;refine⟨by decide,hU _ ?_⟩;clear hU U;subst_eqs;refine⟨by decide,hU _ ?_⟩;clear hU U;subst_eqs;refine⟨by decide,?_⟩;have n1:=fO (c/2) (show(21:Int)≠0 by decide);have n2:=g9 (c/2) (show(0:Int)<21 by decide);have n3:=fO (c/2) (show(18:Int)≠0 by decide);have n4:=g9 (c/2) (show(0:Int)<18 by decide);split
 ·rename_i hc;refine⟨jv (by decide) (by decide),by decide,_,n5 n1 (by simpa using n2),rfl,by decide,?_⟩;have e:eG (sG c)=.tup [.bl true,.int (([7,11,13,19,25,31,37,41,47,55,59,61,67,73,87,91,97,103,109,115,117]:List Int).getD (c/2%21).toNat 0)]:=by
   unfold sG eG;rw[if_pos hc];have:∀k:Nat,((ir.getD k 0:Nat):Int)=([7,11,13,19,25,31,37,41,47,55,59,61,67,73,87,91,97,103,109,115,117]:List Int).getD k 0:=λk=>by
    show _=(ir.map (λ(n:Nat)=>(n:Int))).getD k ((0:Nat):Int);rw[aT,aT,cy];cases ir[k]?<;>rfl
   rw[<-this]
  rw[<-e];exact q
 ·rename_i hc;refine hU _ ?_;nofun;refine⟨jv (by decide) (by decide),by decide,_,n5 n3 (by simpa using n4),rfl,by decide,?_⟩;have e:eG (sG c)=.tup [.bl false,.int (([2,3,5,7,11,13,17,19,23,29,31,37,41,43,47,53,59,61]:List Int).getD (c/2%18).toNat 0)]:=by
   unfold sG eG;rw[if_neg hc];have:∀k:Nat,((qk.getD k 0:Nat):Int)=([2,3,5,7,11,13,17,19,23,29,31,37,41,43,47,53,59,61]:List Int).getD k 0:=λk=>by
    show _=(qk.map (λ(n:Nat)=>(n:Int))).getD k ((0:Nat):Int);rw[aT,aT,cy];cases qk[k]?<;>rfl
   rw[<-this]
  rw[<-e];exact q
abbrev aR0:aX:=λds Q=>∃m:Bool × Nat,ds=[eG m]/\bl m.2<=1000/\1<=bl m.2/\Q (.int (af m:Nat))
theorem EN(T:Txt K mg t):aF P w K mg base aN 1 t.TH t.TK ["_law_told_here"] (aY (aR0 )):=by
 obtain⟨m,rfl,h1,h2,q⟩:bf T.BV.F aP9 "0auǇŸaŹ4ĶaVm";unfold eG at *;subst_eqs;obtain⟨b,n⟩:=m
 cases b with
 | true =>
  refine⟨_,rfl,true,rfl,?_⟩;rw[if_pos rfl];refine⟨_,rfl,?_⟩;have o1:bl (1:Int).natAbs=1:=by decide
  have e:(1:Int)*2 ^ (((bl ((n:Int)).natAbs:Nat):Int)-1).toNat=((af (true,n):Nat):Int):=by
   have kA:1<=bl n:=h2;rw[jN,show(((bl n:Nat):Int)-1)=((bl n-1:Nat):Int) by omega,show(1:Int)=((1:Nat):Int) from rfl,xK,FG];rfl
  refine⟨?_,by rw[e];exact q⟩;rw[jN];have lK:bl n<=1000:=h1;have kA:1<=bl n:=h2;exact⟨by omega,by omega⟩
 | false =>
  refine⟨_,rfl,false,rfl,?_⟩;rw[if_neg (by decide)];refine hU _ ?_;nofun;exact⟨_,rfl,rfl,q⟩
abbrev aT2:aX:=λds Q=>∃(n:Nat) (c:Int),ds=[.int n,.int c]/\0<=c/\n<=64/\∀b:Int,(b<0\/(n:Int)<=b)->Q (.int b)
theorem Yh(T:Txt K mg t):aF P w K mg base aN 1 t.TL t.TM ["_law_many_here","_law_cell_here"] (aY (aT2 )):=by
 obtain⟨n,c,rfl,hc,hn,q⟩:bf T.Kg.F aS8 "0lĤ>9œ%ģĤ4ĶlĤ>ŔMlĤ>-*ģĤ<cV90<,40Ķ-ŕFŒ";subst_eqs;refine⟨by decide,?_⟩;split
 ·exact⟨jv (by decide) (by decide),by decide,q _ (.inl (by omega))⟩
 refine hU _ ?_;clear hU U;subst_eqs;refine⟨by decide,?_⟩;split
 ·exact q _ (.inr (LF _))
 refine hU _ ?_;clear hU U;subst_eqs;refine⟨by decide,?_⟩;split
 ·refine⟨jv (by decide) (by decide),?_⟩;exact⟨⟨by decide,by decide,by decide⟩,by decide,q _ (.inr (by have:=fO (c/4) (show(10:Int) ^ dZ 30≠0 by decide);omega))⟩
 refine hU _ ?_;clear hU U;nofun;exact q _ (.inr (by omega))
abbrev aM4:aX:=λds Q=>∃(m:Bool × Nat) (l:List Nat) (v:Nat) (kd c:Int),ds=[.lst false (av l),.int (af m:Nat),.int v,.int kd,.int c]/\m∈aD/\AllLt (af m) l/\1<=l.length/\l.length<=30/\v<4/\0<=c/\∀(y:List (Option Int)) (d:Int),y.length<=64->((y.length≠l.length/\d=0)\/(y.length=l.length/\∃j:Nat,jg (l8 m v) y j/\d=1+(j:Int)))->Q (.tup [.lst true (cP y),.int d])
theorem aM5(T:Txt K mg t):aF P w K mg base aN 2 t.TN t.TQ ["_law_signs","_law_many_here","_law_way","_law_kind","_law_cell_here"] (aY (aM4 )):=by
 obtain⟨m,l,v,kd,c,rfl,hm,al,l1,l30,hv,hc,q⟩:bf T.WV.F qB "0Zķĸ*ĥ+l#ź;ķǶnoĹ,}ĺŻǈ+6ķ7PĻ`+lżź6Ƿ~+Zķ-*ĦďģĻ400KħĀZķ*=ŖŗǸ+Đ}>lżźŘZ?đ,āQŔoĎĂ[GĀ@ķP8}KvķģĻ}KZ?ǹ!Ǻwż]Rāl#źZ?ǹ!Ǻwż]:āŔďĹ:Rĺ%FĎmĀW:RNZ?ă:āQĒĨĒ:RNŘŔď:FĎMŔďRFĎŽ[";have tE:=(bX hm).hi;subst_eqs;refine hU _ ?_;clear hU U;subst_eqs;refine⟨by decide,?_⟩;split
 ·clear hU;subst_eqs;refine⟨by decide,hU _ ?_⟩;clear hU U;subst_eqs;obtain⟨w,ew,w1,wl⟩:∃w:Nat,dW [D.int (l.length:Nat),D.int 1,D.int (if(l.length:Int)<2 then(l.length:Int)else 2)] (c%3)=some (.int (w:Nat))/\1<=w/\w<=l.length:=by
   have h3:c%3=0\/c%3=1\/c%3=2:=by omega
   rcases h3 with h | h | h<;>rw[h]
   ·exact⟨l.length,rfl,by omega,by omega⟩
   ·exact⟨1,rfl,by omega,by omega⟩
   ·by_cases h2:(l.length:Int)<2
    ·exact⟨l.length,by rw[if_pos h2];rfl,by omega,by omega⟩
    ·exact⟨2,by rw[if_neg h2];rfl,by omega,by omega⟩
  refine⟨by decide,_,ew,rfl,hU _ ?_⟩;clear hU U ew;subst_eqs;have key:∀(l':List Nat) (w':Nat) (o:Option D),AllLt (af m) l'->l'.length<=33->w'<=l'.length->l'.length-w'≠l.length->U [some (D.lst true (av l')),some (D.int (af m:Nat)),some (D.int v),some (D.int kd),some (D.int c),o,some (D.int (w':Nat)),none,none]:=λl' w' o al' h33 hw' fj=>by
   refine hU _ ?_;clear hU U;subst_eqs;rw[Dv];refine hU _ ?_;clear hU U;have ld:(l'.drop w').length=l'.length-w':=lh;have d90:∀y:List (Option Int),y.length=l'.length-w'->Q (.tup [.lst true (cP y),.int 0]):=λy hy=>q y 0 (by omega) (.inl ⟨by omega,rfl⟩);generalize l'.drop w'=z at ld ⊢;rw[<-sZ];subst_eqs;have fin:∀y:List (Option Int),y.length=l'.length-w'->U [some (D.lst true (cP y)),some (D.int (af m:Nat)),some (D.int v),some (D.int kd),some (D.int c),o,some (D.int (w':Nat)),none,none]:=λy hy=>by
    refine hU _ ?_;clear hU;nofun;exact⟨by decide,d90 y hy⟩
   clear hU;have e1:=fin (sO z) (by rw[jH];exact ld);split
   ·rename_i h0;rw[jG]at h0;refine⟨jv (by decide) (by decide),by decide,?_⟩;split
    ·refine⟨_,0,rfl,?_,?_⟩
     ·rw[vW (by decide) (by rw[jG];exact Int.ofNat_lt.mp h0)];rfl
     ·rw[show D.int (af m:Nat)=oi (some ((af m:Nat):Int)) from rfl,El];exact fin _ (by rw[iU,jH];exact ld)
    ·exact e1
   ·exact e1
  refine⟨jv (by decide) (by decide),by decide,?_⟩;split
  ·clear hU;subst_eqs;refine hU _ ?_;clear hU;nofun;have g0:0<=c/6%2/\c/6%2<2:=by omega
   obtain⟨r,er,r1,r2⟩:∃r:Nat,(1+c/6%2).toNat=r/\1<=r/\r<=2:=⟨_,rfl,by omega,by omega⟩;rw[er,dE,show av l++aP (aM r 0)=av (l++aM r 0) by rw[<-om];congr 1;rw[cj,mn];unfold aP;rw[mn];rfl];have lr:(l++aM r 0).length=l.length+r:=by rw[dO,dE]
   exact⟨by decide,jv (by decide) (by decide),by decide,⟨by omega,by omega,by omega⟩,by omega,key _ 0 _ (λx hx=>(cZ.mp hx).elim (al x) λh=>by rw[(qW.mp h).2];have:=(bX hm).lo;omega) (by omega) (iT _) (by omega)⟩
  ·exact key l w _ al (by omega) wl (by omega)
 refine hU _ ?_;clear hU U;subst_eqs;refine⟨by omega,hU _ ?_⟩;clear hU U;subst_eqs;refine⟨jv (by decide) (by decide),by omega,hU _ ?_⟩;clear hU U;obtain⟨a,ea,ha⟩:∃a:Nat,c%(l.length:Int)=a/\a<l.length:=⟨(c%(l.length:Int)).toNat,by have:=fO c (show(l.length:Int)≠0 by omega);omega,by have:=g9 c (show(0:Int)<l.length by omega);have:=fO c (show(l.length:Int)≠0 by omega);omega⟩;obtain⟨b,eb,hb⟩:∃a:Nat,c/64%(l.length:Int)=a/\a<l.length:=⟨(c/64%(l.length:Int)).toNat,by have:=fO (c/64) (show(l.length:Int)≠0 by omega);omega,by have:=g9 (c/64) (show(0:Int)<l.length by omega);have:=fO (c/64) (show(l.length:Int)≠0 by omega);omega⟩;rw[ea,eb];clear ea eb;rw[<-sZ];have lS:=jH l;have EO:∀i,i<l.length->l8 m v ((sO l).getD i none)=true:=λi hi=>cN1 v al hi;generalize sO l=y0 at lS EO ⊢;have KR:∀(y:List (Option Int)) (i:Nat),y.length=l.length->i<l.length->ib (cP y).length (i:Int)=some i:=λy i hy hi=>by rw[jG,hy,vW (E4 i) (by rw[gr];exact hi),gr]
 subst_eqs;refine⟨jv (by decide) (by decide),af m,c/4096,rfl,by omega,tE,λzk h1=>⟨_,b,rfl,KR y0 b lS hb,?_⟩⟩;rw[show D.int zk=oi (some zk) from rfl,El];have l2:(y0.set b (some zk)).length=l.length:=by rw[iU];exact lS
 have g2:∀i,(y0.set b (some zk)).getD i none=if i=b then some zk else y0.getD i none:=λi=>Js y0 _ i (by omega)
 generalize y0.set b (some zk)=y1 at l2 g2 ⊢;refine hU _ ?_;clear hU U;subst_eqs;refine⟨by decide,?_⟩;split
 ·clear hU;subst_eqs;refine⟨jv (by decide) (by decide),af m,c/4097,rfl,by omega,tE,λzo h2=>⟨_,a,rfl,KR y1 a l2 ha,?_⟩⟩;rw[show D.int zo=oi (some zo) from rfl,El];have l3:(y1.set a (some zo)).length=l.length:=by rw[iU];exact l2
  have g3:∀i,(y1.set a (some zo)).getD i none=if i=a then some zo else y1.getD i none:=λi=>Js y1 _ i (by omega)
  generalize y1.set a (some zo)=y2 at l3 g3 ⊢;refine hU _ ?_;clear hU U;nofun;refine⟨by decide,q y2 _ (by omega) (.inr ⟨l3,min a b,⟨λi hi=>?_,by omega,?_⟩,?_⟩)⟩
  ·rw[g3,if_neg (by omega),g2,if_neg (by omega)];exact EO i (by omega)
  ·by_cases Bu:a<=b
   ·rw[Lu Bu,g3,if_pos rfl];exact Jt m v h2
   ·rw[Ly (by omega),g3,if_neg (by omega),g2,if_pos rfl];exact Jt m v h1
  ·split<;>omega
 refine hU _ ?_;clear hU U;subst_eqs;have key:∀y2:List (Option Int),y2.length=l.length->(∀i,y2.getD i none=if i=a/\a≠b then none else y1.getD i none)->U [some (D.lst true (cP y2)),some (D.int (af m:Nat)),some (D.int v),some (D.int kd),some (D.int c),none,none,some (D.int a),some (D.int b)]:=λy2 l3 g3=>by
  refine hU _ ?_;clear hU U;have hB:¬ (v<2/\a<b)->Q (.tup [.lst true (cP y2),.int (1+(b:Int))]):=λhn=>q y2 _ (by omega) (.inr ⟨l3,b,⟨λi hi=>?_,by omega,?_⟩,rfl⟩)
  ·have hA:v<2->a<b->Q (.tup [.lst true (cP y2),.int (1+(a:Int))]):=λh2 Bu=>q y2 _ (by omega) (.inr ⟨l3,a,⟨λi hi=>by rw[g3,if_neg (by omega),g2,if_neg (by omega)];exact EO i (by omega),by omega,by rw[g3,if_pos ⟨rfl,by omega⟩,Ru,decide_eq_true h2];rfl⟩,rfl⟩);subst_eqs;have Yi:¬ (v<2/\a<b)->U [some (D.lst true (cP y2)),some (D.int (af m:Nat)),some (D.int v),some (D.int kd),some (D.int c),none,none,some (D.int a),some (D.int b)]:=λhn=>by
    refine hU _ ?_;nofun;exact⟨by decide,hB hn⟩
   split
   ·split
    ·exact⟨by decide,hA (by omega) (by omega)⟩
    ·exact Yi (by omega)
   ·exact Yi (by omega)
  ·rw[g3];split
   ·rename_i hh;rw[Ru,decide_eq_false (by omega)];rfl
   ·rw[g2,if_neg (by omega)];exact EO i (by omega)
  ·rw[g3,if_neg (by omega),g2,if_pos rfl];exact Jt m v h1
 split
 ·rename_i fj;have fj:a≠b:=λz=>by rw[z,decide_eq_true rfl]at fj;cases fj
  refine⟨_,a,rfl,KR y1 a l2 ha,?_⟩;rw[show D.aA=oi none from rfl,El];refine key _ (by rw[iU];exact l2) λi=>?_;rw[Js y1 _ i (by omega)];by_cases c1:i=a
  ·rw[if_pos c1,if_pos ⟨c1,fj⟩]
  ·rw[if_neg c1,if_neg λz=>c1 z.1]
 ·rename_i fj;have Bu:a=b:=Decidable.byContradiction λz=>fj (by rw[decide_eq_false (by omega)];rfl);exact key y1 l2 λi=>by rw[if_neg λz=>z.2 Bu]
abbrev aI6(t:cH):gQ:=λds Q Ex=>∃(xs:List D) (n:Nat),ds=[.lst false xs,.int n]/\xs.length<=1000/\n<=900/\(xs.length=n->Q .aA)/\(xs.length≠n->Ex t.g5)
theorem KS(T:Txt K mg t):aF P w K mg base (gz P w) 1 t.TR t.TU ["signs","length"] (iN (aI6 t )):=by
 obtain⟨xs,n,rfl,hx,hn,q,qx⟩:n8 T.oN.F aH7 "1W}$N<T.d620<ž$<cW81<%ǉ%<cV40<ǻǻ<cL61<%AǊQ^";nofun;by_cases h:xs.length=n
 ·rw[if_neg (by rw[decide_eq_true (by omega)];decide)];exact q h
 ·rw[if_pos (by rw[decide_eq_false (by omega)];decide)];have la:∀x y:Str,(x++y).length=x.length+y.length:=λx y=>by
   show(x.cps++y.cps).size=_;rw[ZU];rfl
  have e0:qO.length=0:=by decide +kernel
  have e1:(qZ " signs are wanted").length<=40:=by decide +kernel
  obtain⟨l1,l2⟩:=Ro (n:=n) (by omega) (by omega);have b:(qO++qZ (toString (n:Int))++qZ " signs are wanted").length<=16777216:=by rw[la,la];omega
  exact⟨l2,by rw[la];omega,b,b,by decide,qx h⟩
theorem Yj(T:Txt K mg t):aF P w K mg base aN 1 t.JB t.TV ["self","place"] (Jk t.fM "place"):=by
 refine T.Kv.F.ok aM1 (λvs H Q E h=>?_) λaC A outer s H vs Q E hr h=>?_
 ·obtain⟨a,n,rfl,_⟩:=h;rfl
 obtain⟨a,n,rfl,n0,n1,hH,q⟩:=h;obtain⟨l1,l2⟩:=Ro n0 n1;refine⟨_,FN (CH (cf1 T.aQ7 T.tu.ex (by rfl) T.Wz (gI (pv 0) (gI (QR (IV L9 (IV (QS (pv 1)) QQ))) mx))) rfl) (FP (cy8 T.tu.C6 rfl (pv 0) (pv 1))),?_⟩
 try dsimp only[vF,vG]
 have la:∀x y:Str,(x++y).length=x.length+y.length:=λx y=>by
  show(x.cps++y.cps).size=_;rw[ZU];rfl
 have e0:qO.length=0:=by decide +kernel
 have e1:(qZ "no element stands at place ").length<=40:=by decide +kernel
 have b1:(qO++qZ "no element stands at place ").length<=sizeLine:=by rw[la,sizeLine_eq];omega
 have b2:(qO++qZ "no element stands at place "++qZ (toString n)).length<=sizeLine:=by rw[la,la,sizeLine_eq];omega
 exact⟨.ref a,rfl,_,rfl,b1,.int n,rfl,n,rfl,l2,_,rfl,b2,b2,a,_,rfl,Nat.succ_le_of_lt (Nat.zero_lt_succ 8),hH,.int n,rfl,.ref a,rfl,a,n,rfl,rfl,hH,q⟩
abbrev KU(K:Frag):aX:=λds Q=>∃(C:Addr) (ns:List Str) (xs:List D) (n:Nat) (x:D),ds=[.obj C ns xs,x]/\cF K C/\bc K C "many"/\(ns.zip xs).lookup ("many":Str)=some (.int n)/\((∃i,x=.int i/\Q (.bl (decide (0<=i)&&decide (i<n))))\/(x=.aA/\Q (.bl false)))
theorem Yk(T:Txt K mg t):aF P w K mg base aN 1 t.Ez t.TX ["self","x"] (aY (KU K)):=by
 obtain⟨C,ns,xs,n,x,rfl,h1,h2,h3,q⟩:bf T.Kw.F aM2 "0xǋǌ$ƨ%xǼǽ$ƨ%Ǿ%ǍĒ,$3řŚǎB";rcases q with⟨i,rfl,q⟩ | ⟨rfl,q⟩
 ·nofun;split
  ·rename_i h0;refine⟨C,ns,xs,_,rfl,h1,h2,h3,?_⟩;dsimp only;rw[decide_eq_true h0,qS]at q;exact q
  ·rename_i h0;rw[decide_eq_false h0,tI]at q;exact q
 ·nofun;exact q
theorem B5(T:Txt K mg t)(m:Bool × Nat){x:D}{Q:D->Prop}(h:(∃i,x=.int i/\Q (.bl (decide (0<=i)&&decide (i<af m))))\/(x=.aA/\Q (.bl false))):Ia P w K mg base 1 t.a7 t.a8 m "holds" [x] Q:=by
 obtain⟨k,n⟩:=m
 cases k with
 | true=>exact⟨_,_,_,KU K,rfl,⟨T.eY,_,_,_,T.aF4,Yk T,T.Kw.b⟩,by decide,_,_,_,af (true,n),x,rfl,T.eY,T.BZ,rfl,h⟩
 | false=>exact⟨_,_,_,KU K,rfl,⟨T.fc,_,_,_,T.ay8,Yk T,T.Kw.b⟩,by decide,_,_,_,af (false,n),x,rfl,T.fc,T.B0,rfl,h⟩
abbrev aF7(t:cH):gQ:=λds Q Ex=>∃(m:Bool × Nat) (y:List (Option Int)),ds=[fD t.a7 t.a8 m,.lst false (cP y)]/\m∈aD/\y.length<=64/\((∀i,i<y.length->gD m (y.getD i none)=true)->Q .aA)/\(∀j,jg (gD m) y j->Ex ⟨t.fM,some ("place",j)⟩)
theorem Yl(T:Txt K mg t):aF P w K mg base (gz P w) 3 t.TY t.TZ ["field","signs"] (iN (aF7 t )):=by
 obtain⟨m,y,rfl,hm,hy,q,qx⟩:n8 T.wN.F RE "1ǿĄ$ſ(<RE.nd0<ąO#pļƩȀȁ!ȂĩȃĆž'AȄQb^";nofun;refine⟨oK y,?_⟩;refine fm.mk (λj δ=>(∀i,i<j->gD m (y.getD i none)=true)/\∃o1 o2,δ=[some (fD t.a7 t.a8 m),some (D.lst false (cP y)),o1,o2]) ⟨λi hi=>absurd hi (LR i),_,_,rfl⟩ ?_ ?_
 ·rintro j d δ hd ⟨hb,o1,o2,rfl⟩;obtain⟨h1,rfl⟩:=Rn hd;have eg:y.getD j none=y[j]:=by rw[aT,aV h1];rfl
  have nx:gD m y[j]=true->∀i,i<j+1->gD m (y.getD i none)=true:=λh i hi=>by
   by_cases c:i<j
   ·exact hb i c
   ·rw[show i=j by omega,eg];exact h
  have bd:gD m y[j]=false->Ex ⟨t.fM,some ("place",(j:Int))⟩:=λh=>qx j ⟨hb,h1,by rw[eg];exact h⟩;clear hd eg;generalize y[j]=o at nx bd ⊢;unfold iq;nofun
  cases o with
  | none=>exact B5 T m (.inr ⟨rfl,rfl,false,rfl,by rw[if_pos (by rfl)];exact⟨by omega,by omega,bd rfl⟩⟩)
  | some i =>
   refine B5 T m (.inl ⟨i,rfl,rfl,_,rfl,?_⟩)
   cases h:gD m (some i)with
   | true=>rw[if_neg (by rw[show(decide (0<=i)&&decide (i<(af m:Nat)))=true from h];decide)];exact⟨nx h,_,_,rfl,rfl⟩
   | false=>rw[if_pos (by rw[show(decide (0<=i)&&decide (i<(af m:Nat)))=false from h];decide)];exact⟨by omega,by omega,bd h⟩
 ·rintro δ ⟨hb,o1,o2,rfl⟩;rw[jz,jG]at hb;exact q hb
abbrev Ym(K:Frag):aX:=λds Q=>∃(C:Addr) (p:Nat) (xs ys:List Nat),ds=[vS C p,.lst false (av xs),.lst false (av ys)]/\cF K C/\bc K C "products"/\p∈ir/\xs.length=ys.length/\xs.length<=64/\(∀x∈xs,x<af (true,p))/\(∀y∈ys,y<af (true,p))/\Q (.int ((dP (gm (true,p)) xs ys).foldl (· ^^^ ·) 0:Nat))
theorem aK3(T:Txt K mg t):aF P w K mg base aN 1 t.JC t.T3 ["self","xs","ys"] (aY (Ym K)):=by
 obtain⟨C,p,xs,ys,rfl,hC,hn,hp,hl,k7,hx,hy,q⟩:bf T.Xw.F BE "01ƪ&3Ľ.ƪ~cśēŜ;6(ƪą.ƪ&#7C=Cƫŝb.ľ";subst_eqs;refine⟨C,_,_,_,rfl,hC,hn,rfl,by rw[eO,cd2];rfl,hU _ ?_⟩;clear hU U;subst_eqs;refine hU _ ?_;clear hU U;subst_eqs;refine⟨_,_,rfl,rfl,?_⟩;refine fm.mk (λi δ=>∃o1 o2,δ=[some (vS C p),some (.lst false (av xs)),some (.lst false (av ys)),some (.lst false (m8 (fl (true,p)) (fU (fl (true,p))))),some (.int (((dP (gm (true,p)) xs ys).take i).foldl (· ^^^ ·) 0:Nat)),o1,o2]) ⟨none,none,rfl⟩ ?_ ?_
 ·rintro i d δ hd ⟨o1,o2,rfl⟩;obtain⟨hi,hj,rfl⟩:∃(hi:i<xs.length) (hj:i<ys.length),d=.tup [.int (xs[i]:Nat),.int (ys[i]:Nat)]:=by
   unfold f9 at hd;rw[cj,cj,LD]at hd;by_cases hi:i<xs.length
   ·have hj:i<ys.length:=by omega
    rw[zP,aV hi,aV hj]at hd;exact⟨hi,hj,(dr hd).symm⟩
   ·rw[gu (by simp;omega)]at hd;cases hd
  have iZ:=hx xs[i] (eU _);have KW:=hy ys[i] (eU _);nofun;refine⟨_,DJ hp iZ,_,DI hp iZ KW,_,_,?_,rfl,rfl⟩;rw[pz,List.take_succ,Fy,zP,aV hi,aV hj];rfl
 ·rintro δ ⟨o1,o2,rfl⟩;refine hU _ ?_;nofun;have e:(f9 (av xs) (av ys)).length=xs.length:=by unfold f9;rw[oU,e7,e7];omega
  rw[e,Fs (by rw[oU];omega)];exact q
abbrev Yn(K:Frag):aX:=λds Q=>∃(C:Addr) (p:Nat) (xs ys:List Int),ds=[sA C p,.lst false (aP xs),.lst false (aP ys)]/\cF K C/\bc K C "prime"/\0<p/\xs.length=ys.length/\xs.length<=64/\(∀x∈xs,0<=x/\x<64)/\(∀y∈ys,0<=y/\y<64)/\Q (.int ((dP (· * ·) xs ys).sum%p))
theorem aF8(T:Txt K mg t):aF P w K mg base aN 1 t.JE t.T4 ["self","xs","ys"] (aY (Yn K)):=by
 obtain⟨C,p,xs,ys,rfl,hC,hn,hp,hl,k7,hx,hy,q⟩:bf T.Xx.F aE9 "0P(<cX51<d<T.d180<<cR10<e<[x y<śēŜZ5<[x y<ĿƀfƬFƁ3Ī";nofun;refine⟨_,_,rfl,rfl,?_⟩;refine HX (xs.zip ys) (λz=>D.tup [.int z.1,.int z.2]) (λz=>D.int (z.1*z.2)) (Py xs ys) (λa b h=>by injection h with h;simp at h;exact Prod.ext h.1 h.2) (λz hz=>?_) HY (.inr λ_ _=>rfl) (by rw[Cr,sL];omega) ?_
 ·have z1:=hx z.1 (tK hz).1;have z2:=hy z.2 (tK hz).2;nofun;exact gG.ok (.inr ⟨by omega,by omega⟩)
 ·refine⟨(xs.zip ys).map λz=>z.1*z.2,?_,?_⟩
  ·unfold aP;rw[cE];rfl
  ·nofun;refine⟨C,_,_,.int p,rfl,hC,hn,rfl,?_⟩;refine⟨by omega,?_⟩;rw[List.map_zip_eq_zipWith];exact q
theorem KY(T:Txt K mg t){m:Bool × Nat}(hm:m∈aD):∃C ns zs sp,fD t.a7 t.a8 m=.obj C ns zs/\iP P w K mg base 1 "dot" C sp/\("dot":Str) ∉ ns/\∀(xs ys:List Nat) (Q:D->Prop),xs.length=ys.length->xs.length<=64->(∀x∈xs,x<af m)->(∀y∈ys,y<af m)->Q (.int (gd m xs ys:Nat))->sp [.obj C ns zs,.lst false (av xs),.lst false (av ys)] Q:=by
 have hF:=bX hm;obtain⟨k,n⟩:=m
 cases k with
 | true=>exact⟨_,_,_,Ym K,rfl,⟨T.eY,_,_,_,T.aK1,aK3 T,T.Xw.b⟩,by decide,λxs ys Q hl k7 hx hy q=>⟨_,n,xs,ys,rfl,T.eY,T.zi,vT hm,hl,k7,hx,hy,q⟩⟩
 | false =>
  have qH:n<=64:=hF.hi;have l2:2<=n:=hF.lo;have cx:∀l:List Nat,(∀x∈l,x<af (false,n))->∀z∈l.map (λ(n:Nat)=>(n:Int)),0<=z/\z<64:=λl h z hz=>by
   obtain⟨x,hx,rfl⟩:=bE.mp hz;have:x<n:=h x hx;omega
  refine⟨_,_,_,Yn K,rfl,⟨T.fc,_,_,_,T.aF6,aF8 T,T.Xx.b⟩,by decide,λxs ys Q hl k7 hx hy q=>⟨_,n,xs.map (λ(n:Nat)=>(n:Int)),ys.map (λ(n:Nat)=>(n:Int)),rfl,T.fc,T.tw,by omega,by rw[bq,bq];exact hl,by rw[bq];exact k7,cx xs hx,cx ys hy,?_⟩⟩;have e:((gd (false,n) xs ys:Nat):Int)=(dP (· * ·) (xs.map λ(n:Nat)=>(n:Int)) (ys.map λ(n:Nat)=>(n:Int))).sum%n:=by
   unfold gd;rw[PC (by omega) _ _ (by omega),Fx,PD,PF,oS]
  rw[<-e];exact q
abbrev aT3:aX:=λds Q=>∃T:List (List Nat),ds=[.lst false (aL false T)]/\T.length<=1000/\(∀r∈T,r.length<=1000)/\Q (.int (ay T:Nat))
theorem ER(T:Txt K mg t):aF P w K mg base aN 1 t.T5 t.T6 ["table"] (aY (aT3 )):=by
 obtain⟨G,rfl,hG,hr,q⟩:bf T.BW.F aS9 "0W*ŀīSanoƂB";nofun;refine⟨by decide,⟨P2 4 _ _ _,rfl⟩,?_⟩;rw[show(D.lst true ([]:List D))=D.lst true (aL true []) from rfl,cu3]
 cases G with
 | nil=>rw[if_neg (by simp)];exact q
 | cons r G =>
  rw[if_pos (by simp)];refine⟨.lst false (av r),yT false (T:=r::G) (i:=0) (FF _),?_⟩;show Q (D.int ((av r).length:Nat));rw[e7];exact q
abbrev aV7:aX:=λds Q=>∃T:List (List Nat),ds=[.lst false (aL false T)]/\T.length<=1000/\(∀r∈T,r.length=ay T)/\ay T<=1000/\Q (.lst true (aL true (dS T)))
theorem KZ(T:Txt K mg t):aF P w K mg base aN 2 t.T7 t.T8 ["table"] (aY (aV7 )):=by
 obtain⟨G,rfl,hG,hr,hw,q⟩:bf T.EE.F aV1 "0<[table:0<ǏHƭ!ƮDg%Ĕ5<[table j<2<[j:1<ĕŞć<[j row<2ƃ`ĈXƯ(ưB";nofun;refine⟨G,rfl,hG,λr bo=>by rw[hr r bo];exact hw,?_⟩;dsimp only;refine⟨_,rfl,⟨by omega,by omega⟩,?_⟩;refine sW (ay G) (λj=>D.lst true (av (G.map λr=>r.getD j 0))) (λj hj=>?_) (.inr λj _=>gU _) ?_
 ·have hj:=cJ.mp hj;nofun;refine qv G (λr=>D.int ((r.getD j 0:Nat):Int)) (λr bo=>?_) (.inr λr _=>rfl) ?_
  ·nofun;have hl:=hr r bo;exact⟨.int (r.getD j 0:Nat),by rw[oy (by omega) (by omega),gr],rfl,rfl⟩
  ·rw[cj,cE];rfl
 ·unfold dS aL at q;rw[cE]at q;exact q
abbrev aV8(t:cH):aX:=λds Q=>∃(m:Bool × Nat) (xs:List Nat) (G:List (List Nat)),ds=[fD t.a7 t.a8 m,.lst false (av xs),.lst false (aL false G)]/\m∈aD/\AllLt (af m) xs/\G.length=xs.length/\xs.length<=64/\RT (af m) (ay G) G/\ay G<=64/\Q (.lst true (av (nj m xs G (ay G))))
theorem aV9(T:Txt K mg t):aF P w K mg base aN 3 t.T9 t.Ua ["field","row","table"] (aY (aV8 t)):=by
 obtain⟨m,xs,G,rfl,hm,hx,hG,AL,hR,hw,q⟩:bf T.WW.F aV2 "0<[row:1 field:0<<[column<(ǐ!ǑŁg%ş)<[row field column<2Š$q*'Ėė";have dw:=(bX hm).lo;obtain⟨C,ns,zs,sp,e1,e2,e3,e4⟩:=KY T hm;nofun;refine⟨G,rfl,by omega,λr bo=>(hR r bo).1,by omega,?_⟩;dsimp only;refine⟨_,rfl,?_⟩;refine oj (dS G) (λr=>D.lst false (av r)) (λr=>D.int ((gd m xs r:Nat):Int)) (gn true _) (λa b h=>PU a b h) (λr bo=>?_) (.inr λr _=>rfl) (by unfold dS;rw[bq,bW,sL];omega) ?_
 ·nofun;unfold dS at bo;obtain⟨j,hj,rfl⟩:=bE.mp bo;exact⟨C,ns,zs,sp,e1,e2,e3,e4 _ _ _ (by rw[bq,hG]) AL hx (λy hy=>by
   obtain⟨r,bo,rfl⟩:=bE.mp hy;exact(hR r bo).2.getD (by omega) j) rfl⟩
 ·unfold nj at q;rw[cj,cE]at q;unfold dS;rw[cE];exact q
abbrev aK4(t:cH):gQ:=λds Q Ex=>∃(m:Bool × Nat) (G:List (List Nat)) (k:Kd) (y:List (Option Int)),ds=[dM t m G k,.lst false (cP y)]/\dU m G/\y.length<=64/\(y.length≠(bV m G).length->Ex t.g5)/\(∀j,y.length=(bV m G).length->jg (gD m) y j->Ex ⟨t.fM,some ("place",j)⟩)/\(∀l,y=sO l->l.length=(bV m G).length->AllLt (af m) l->Q (.lst true (av (iA m G l))))
theorem Yo(T:Txt K mg t):aF P w K mg base (gz P w) 4 t.BK t.Ub ["self","message"] (iN (aK4 t )):=by
 obtain⟨m,G,k,y,rfl,hc,hy,q1,q2,q⟩:n8 T.Kx.F aJ7 "1!ǒYǓǔǕr3š!ȅYȆȇȈ(ĉš<T.WW0<!<aV91<Tĉ3sĂ";have hw:=hc.sV;have hf:=hc.vZ;subst_eqs;refine KP T m G k ⟨cP y,(bV m G).length,by rw[jf];rfl,by rw[jG];omega,by omega,λh1=>⟨by rw[oK];rfl,hU _ ?_⟩,λh1=>q1 (by rw[jG]at h1;exact h1)⟩;clear hU U;rw[jG]at h1;subst_eqs;refine tD T m G k ⟨m,y,by rw[ft,jf],hc.hm,hy,λh2=>⟨by rw[Bf,oK];rfl,hU _ ?_⟩,λj hj=>q2 j h1 hj⟩;clear hU U;obtain⟨l,rfl,al⟩:=Rp h2;rw[jH]at h1;rw[sZ];nofun;refine tD T m G k (cD9 T m G k ⟨m,l,kW m G,by rw[ft,dX,gn],hc.hm,al,by rw[wo];exact h1.symm,by omega,by rw[hc.wide];exact hc.rows,by rw[hc.wide];omega,by rw[gU,jM],?_⟩);rw[hc.wide];exact q l rfl h1 al
abbrev aR1:aX:=λds Q=>∃(ns:List Int) (k:Int),ds=[.fz (aP ns),.int k]/\0<=k/\Q (.int (ns.getD k.toNat 0))
theorem k8(T:Txt K mg t):aF P w K mg base aN 1 t.Uc t.Ud ["_law_script","_law_k"] (aY (aR1 )):=by
 obtain⟨ns,k,rfl,hk,q⟩:bf T.kb.F aQ0 "0Ē$}NƄMom";subst_eqs;split
 ·rename_i h;exact⟨_,n5 hk h,rfl,q⟩
 ·rename_i h;refine hU _ ?_;nofun;rw[aT,gu (by omega)]at q;exact q
abbrev aR2(L:Obj->Obj->Addr->Addr->yP->Prop):aX:=λds Q=>∃(a:Nat) (of oc:Obj) (c k:Addr) (g:Nat->Nat->Nat) (l:List Int),ds=[.int a,.bt (.lam of oc c k)]/\L of oc c k (A8 g)/\a<64/\HS g a=some l/\Q (.lst true (aP l))
theorem Yp(T:Txt K mg t):aF P w K mg base aN 5 t.Ue t.Ug ["a","product"] (aY (aR2 (AW P w K mg base 4))):=by
 obtain⟨a,of,oc,c,k,g,l,rfl,hL,ha,hp,q⟩:bf T.Kh.F Em "0)ǖƅyǖ&.5?q,*IȉcW#>Ɔ#VĘ1ǖ&.5?q#*Iȉ+ħŢ)ľ";subst_eqs;refine⟨by decide,hU _ ?_⟩;clear hU U;subst_eqs;refine⟨of,oc,c,k,A8 g,rfl,hL,1,a,⟨rfl,rfl⟩,1,a,rfl,rfl,by decide,ha,hU _ ?_⟩;clear hU U;subst_eqs;refine⟨λm δ=>∃(p:Nat) (acc:List Int),δ=[some (.int a),some (.bt (.lam of oc c k)),some (.lst true (aP acc)),some (.int p)]/\acc.length+m<=70/\DD g a m p acc=some l,⟨64,_,[1],rfl,by decide,hp⟩,?_⟩;rintro m δ ⟨p,acc,rfl,hn,hg⟩;nofun
 cases m with
 | zero=>cases hg
 | succ m =>
  unfold DD at hg;split at hg
  ·rename_i h1;subst h1;cases hg;rw[if_neg (by simp)];refine hU _ ?_;nofun;exact q
  ·rename_i h1;rw[if_pos (by simp;omega)];split at hg
   ·rename_i h2;clear hU;subst_eqs;refine⟨⟨_,rfl⟩,by omega,hU _ ?_⟩;clear hU;nofun;exact⟨of,oc,c,k,A8 g,rfl,hL,p,a,⟨rfl,rfl⟩,p,a,rfl,rfl,h2,ha,m,by omega,g p a,acc++[(p:Int)],⟨by rw[<-rT];rfl,rfl⟩,by simp;omega,hg⟩
   ·cases hg
abbrev aM6(L:Obj->Obj->Addr->Addr->yP->Prop):aX:=λds Q=>∃(n:Nat) (of oc:Obj) (c k:Addr) (g:Nat->Nat->Nat) (l:List Int),ds=[.int n,.bt (.lam of oc c k)]/\L of oc c k (A8 g)/\A7 g n=some l/\Q (.lst true (aP l))
theorem aM7(T:Txt K mg t):aF P w K mg base aN 6 t.Uh t.Ui ["many","product"] (aY (aM6 (AW P w K mg base 4))):=by
 obtain⟨n,of,oc,c,k,g,l,rfl,hL,hp,q⟩:bf T.WX.F BF "0)Ʊ~yƱ&Ȋ!ȋŁ$]cĒS#L9ĢN)Ʊ&,Ȍŝ1Ʊ&Ȋ!ȋŁ$]+ħŢ1ľ";unfold A7 at hp;split at hp
 ·rename_i l0 h0;subst_eqs;refine hU _ ?_;clear hU U;subst_eqs;refine⟨1,of,oc,c,k,g,l0,rfl,hL,by decide,h0,hU _ ?_⟩;clear hU U;subst_eqs;refine⟨λm δ=>∃(st:Nat) (l1:List Int),δ=[some (.int n),some (.bt (.lam of oc c k)),some (.int st),some (.lst true (aP l1))]/\st+m<=63/\DE g n m st l1=some l,⟨62,1,l0,rfl,by decide,hp⟩,?_⟩;rintro m δ ⟨st,l1,rfl,hn,hg⟩;nofun
  cases m with
  | zero=>cases hg
  | succ m =>
   unfold DE at hg;split at hg
   ·rename_i h1;rw[if_pos (by omega)];split at hg
    ·rename_i l2 h2;clear hU;subst_eqs;refine hU _ ?_;clear hU;nofun;exact⟨st+1,of,oc,c,k,g,l2,rfl,hL,by omega,h2,m,by omega,st+1,l2,⟨rfl,rfl⟩,by omega,hg⟩
    ·cases hg
   ·rename_i h1;rw[if_neg (by omega)];cases hg;refine hU _ ?_;nofun;exact q
 ·cases hp
abbrev aU7:aX:=λds Q=>∃(l:List Int),ds=[.lst false (aP l)]/\l.length<=64/\(∀x∈l,0<=x/\x.toNat<=l.length)/\Q (.lst true (aP (fU l)))
theorem aU8(T:Txt K mg t):aF P w K mg base aN 1 t.Uj t.Uk ["powers"] (aY (aU7 )):=by
 obtain⟨l,rfl,hl,hx,q⟩:bf T.WY.F Jv "05ȍ&Ħ-}4KzĄ*ſ(ȍą5?'V#āb5{";subst_eqs;refine⟨by decide,⟨by omega,by omega,by omega⟩,hU _ ?_⟩;clear hU U;subst_eqs;refine fm.mk (λi δ=>∃o1 o2,δ=[some (.lst false (aP l)),some (.lst true (aP (ql l i))),o1,o2]) ⟨none,none,?_⟩ ?_ ?_
 ·rw[show((l.length:Int)+1).toNat=l.length+1 by omega];rfl
 ·rintro i d δ hd ⟨o1,o2,rfl⟩;obtain⟨hi,rfl⟩:∃h:i<l.length,d=.tup [.int i,.int l[i]]:=by
   unfold fE aP at hd;rw[zG,cy]at hd;by_cases hi:i<l.length
   ·rw[aV hi]at hd;simp at hd;exact⟨hi,hd.symm⟩
   ·rw[gu (by omega)]at hd;simp at hd
  have iZ:=hx l[i] (eU _);nofun;refine⟨_,(l[i]).toNat,rfl,?_,_,_,?_,rfl,rfl⟩
  ·unfold ib;rw[lR,A9,if_pos iZ.1,if_pos (by omega)]
  ·unfold aP;rw[<-xk];congr 1;show _=(ql l i).set (l.getD i 0).toNat (i:Int);rw[aT,aV hi];rfl
 ·rintro δ ⟨o1,o2,rfl⟩;refine hU _ ?_;simp only[uA,mP,uB,uC,dT,nS,mL,pF,dC,rB,mO,pJ,pI,rE,uz,pW,vg,rS,vh,vj,uo,uq,ur,uu,uv,uw,rC,u7,rO,rP,ii,rG,uN,rH,uO,uP,uQ,uR,uT,uU,uV,iI,iM,uW,uX,uY,uZ,rJ,rK,nW,u5,u6,gN,vk,ve,uD,uG,rF,uI,uJ,uK,vm,vn,mQ,jZ,fR,jY,ij,tP,tM,zR,zS,pK,iK,jt,rQ,rR,n6,vv,vy,vA,vw,vB,vC,vE,qf,vF,i6,vJ,rX,vH,iq,vG,yG,yH,dN,jK,lj,jL,jJ,xm,aM,oV,oW,du,fP,xo,exists_eq_left',exists_eq_left,D.bl.injEq,D.int.injEq,D.lst.injEq,D.fz.injEq,D.str.injEq,D.tup.injEq,zT,and_true,true_and,bB,e6,mm,qS,ye,yf,yg,yh,yi,yj,eO,kD,p9,yo,yp,yq,yr,yt,dX,mI,vo,yk,ym,yn,kE,rn,zU,zV,tI,jM,zW,zX,w5,yx,yy,yz,yA,yB,yC,yD,lR,kJ,vp,j6,rT,yv,vt,yu,rV,yw,jy,vq,if_true,mh,if_false,reduceIte,yE,decide_eq_true_eq,e7,lW,qg,yL,om,yK,uE,vP,sD,sE,vU,vI,se,sg,sj,vV,sI,sJ,vX,sM,gn,lZ,j8,yS,sN,v7,v9,dJ,wa,wb,wc,we,wg,sU,wu,wz,wD,wC,wF,wH,wI,jz,jz];exact q
abbrev zr(K:Frag):aX:=λds Q=>∃(C:Addr) (ns:List Str) (xs:List D) (n:Int) (many:Nat) (l:List Int) (r:Int),ds=[.obj C ns xs,.int n]/\cF K C/\bc K C "powers"/\bc K C "many"/\(ns.zip xs).lookup ("powers":Str)=some (.lst false (aP l))/\(ns.zip xs).lookup ("many":Str)=some (.int many)/\2<=many/\l[(n%((many:Int)-1)).toNat]?=some r/\Q (.int r)
theorem B6(T:Txt K mg t):aF P w K mg base aN 1 t.BL t.Ul ["self","n"] (aY (zr K)):=by
 obtain⟨C,ns,xs,n,many,l,r,rfl,hC,h1,h2,h3,h4,h5,h6,q⟩:bf T.zh.F ay3 "03P$9340`B";nofun;refine⟨C,ns,xs,_,rfl,hC,h1,h3,C,ns,xs,_,rfl,hC,h2,h4,?_⟩;refine⟨by omega,_,ph (d:=.int r) (fO _ (by omega)) ?_,rfl,q⟩;unfold aP;rw[cy,h6];rfl
theorem K0(T:Txt K mg t){m:Bool × Nat}(hm:m∈aD){n:Int}{Q:D->Prop}(q:Q (.int (eS m n:Nat))):Ia P w K mg base 1 t.a7 t.a8 m "step_power" [.int n] Q:=by
 have hF:=bX hm;have hl:=PK hm n;obtain⟨k,b⟩:=m
 cases k with
 | true=>exact⟨_,_,_,zr K,rfl,⟨T.eY,_,_,_,T.Kb,B6 T,T.zh.b⟩,by decide,_,_,_,_,af (true,b),fl (true,b),_,rfl,T.eY,T.EM,T.BZ,rfl,rfl,hF.lo,hl,q⟩
 | false=>exact⟨_,_,_,zr K,rfl,⟨T.fc,_,_,_,T.Ke,B6 T,T.zh.b⟩,by decide,_,_,_,_,af (false,b),fl (false,b),_,rfl,T.fc,T.KN,T.B0,rfl,rfl,hF.lo,hl,q⟩
abbrev aO6(P:Program)(w:World)(K:Frag)(mg:Str->Option Value)(base:Heap)(fs:Addr):oJ:=λC ds ns xs bw bC=>∃(b:Str) (n0:Int) (many:Nat) (of oc:Obj) (c k:Addr) (g:Nat->Nat->Nat) (l:List Int) (st:Int),ds=[.int many,.bt (.lam of oc c k)]/\ns=[b]/\xs=[.int n0]/\(b="bits"\/b="prime")/\dC5 K C fs/\AW P w K mg base 4 of oc c k (A8 g)/\Pf g many l st/\bw=jA b/\bC=[.int n0,.int many,.int ((bl many:Nat)-1),.lst false (aP l),.lst false (aP (fU l)),.int st]
theorem Yq(T:Txt K mg t):aF P w K mg base aN 7 t.JF t.Um ["self","many","product"] (jF [] (aO6 P w K mg base t.BL)):=by
 obtain⟨b,n0,many,of,oc,c,k,g,l,st,rfl,rfl,rfl,hb,hC,hL,hF,rfl,rfl⟩:Ej T.Ky.F aN9 "2ĬđĊ9ƇƈĊ<T.WX0<!<aM71<ƉĊ<T.WY0<!<aU81<ƊgĊO,pĭƋł";subst_eqs;refine⟨C,_,_,["p"],rfl,hC.cls,hC.many,by show 1<1000;decide,by rcases hb with rfl | rfl<;>rfl,hU _ ?_⟩;clear hU U;subst_eqs;rw[jN];refine⟨C,_,_,["p"],rfl,hC.cls,hC.wide,by show 2<1000;decide,by rcases hb with rfl | rfl<;>rfl,hU _ ?_⟩;clear hU U;subst_eqs;refine⟨many,of,oc,c,k,g,l,rfl,hL,hF.step,?_⟩;refine⟨C,_,_,["p"],rfl,hC.cls,hC.HU,by show 3<1000;decide,by rcases hb with rfl | rfl<;>(simp only[gC,fX,qA,du,bB,e6,qy];rfl),hU _ ?_⟩;clear hU U;rw[qA];subst_eqs;refine⟨C,_,_,.lst false (aP l),rfl,hC.cls,hC.HU,by rcases hb with rfl | rfl<;>rfl,l,by rw[qA],by have:=hF.len;have:=hF.hi;omega,hF.ins,by rw[eO,kJ];rfl,?_⟩;refine⟨C,_,_,["p"],rfl,hC.cls,hC.dC6,by show 4<1000;decide,by rcases hb with rfl | rfl<;>(simp only[gC,fX,qA,du,bB,e6,qy];rfl),hU _ ?_⟩;clear hU U;rw[qA];nofun;refine⟨C,_,_,zr K,rfl,⟨hC.cls,_,_,_,hC.sp,B6 T,T.zh.b⟩,by rcases hb with rfl | rfl<;>decide,C,_,_,1,many,l,st,rfl,hC.cls,hC.HU,hC.many,by rcases hb with rfl | rfl<;>rfl,by rcases hb with rfl | rfl<;>rfl,hF.lo,hF.st,?_⟩;refine⟨C,_,_,["p"],rfl,hC.cls,hC.step,by show 5<1000;decide,by rcases hb with rfl | rfl<;>(simp only[gC,fX,qA,du,bB,e6,qy];rfl),rfl⟩
abbrev av5:aX:=λds Q=>∃a:Int,ds=[.int a]/\Q (.bl (decide (2<=a)&&decide (a<=61)&&(aI (a.toNat-2)).all λi=>a%(2+(i:Int)) != 0))
theorem av6(T:Txt K mg t):aF P w K mg base aN 1 t.Uo t.Up ["prime"] (aY (av5 )):=by
 obtain⟨a,rfl,q⟩:bf T.WZ.F av0 "0ƌŕř%ţ<[prime:0<<[d<H,*Ť5<[prime d<2WPƬ0,ĮċnŚB";nofun;split
 ·rename_i h1;split
  ·rename_i h2;refine⟨2,a,⟨rfl,rfl⟩,⟨by decide,by decide,by omega,by omega⟩,?_⟩;have e0:(a-2).toNat=a.toNat-2:=by omega
   rw[e0];refine oj (aI (a.toNat-2)) (λ(k:Nat)=>D.int (2+(k:Int))) (λ(k:Nat)=>D.bl (a%(2+(k:Int)) != 0)) (by rw[uH]) (λx y h=>by injection h with h;omega) (λk hk=>?_) (.inr λ_ _=>rfl) (by rw[bW,sL];omega) ?_
   ·nofun;refine⟨by omega,?_⟩;by_cases z:a%(2+(k:Int))=0<;>simp[z]
   ·refine⟨(aI (a.toNat-2)).map λ(k:Nat)=>a%(2+(k:Int)) != 0,?_,?_⟩
    ·unfold mV;rw[cE];rfl
    ·have e:(decide (2<=a)&&decide (a<=61)&&(aI (a.toNat-2)).all λi=>a%(2+(i:Int)) != 0)=((aI (a.toNat-2)).map λ(k:Nat)=>a%(2+(k:Int)) != 0).all id:=by
      simp[h1,h2,mj]
     rw[<-e];exact q
  ·rename_i h2;have e:(decide (2<=a)&&decide (a<=61)&&(aI (a.toNat-2)).all λi=>a%(2+(i:Int)) != 0)=false:=by simp[h2]
   rw[e]at q;exact q
 ·rename_i h1;have e:(decide (2<=a)&&decide (a<=61)&&(aI (a.toNat-2)).all λi=>a%(2+(i:Int)) != 0)=false:=by simp[h1]
  rw[e]at q;exact q
abbrev aM8:List D->List Str->List D->Prop:=λds ns xs=>∃p:Nat,ds=[.int p]/\p∈qk/\ns=jA "prime"/\xs=[.int p,.int p,.int ((bl p:Nat)-1),.lst true (aP (fl (false,p))),.lst true (aP (fU (fl (false,p)))),.int (fst (false,p))]
theorem aC9(T:Txt K mg t)(hB:Bm mg base):aF P w K mg base aN 8 t.JG t.JH ["self","prime"] (jF [t.qD,t.qE] (y8 t.a8 aM8)):=by
 obtain⟨rfl,rfl,rfl,zs,⟨p,rfl,hp,rfl,rfl⟩,rfl⟩:Rj T.Xy.F T.aC1 az4 "3<T.WZ0<!<av61<ęļťĬđĭ5Ȏ!ȏĩȐ(ȑ?___<T.aC20<ȒŦđȓƋ";have hm:(false,p)∈aD:=fN _ (zM hp);have hF:=bX hm;subst_eqs;refine⟨p,rfl,?_⟩;rw[ck4 p hp];refine⟨true,rfl,rfl,hU _ ?_⟩;clear hU U;subst_eqs;refine⟨t.a8,_,_,["p"],rfl,T.fc,T.tw,by decide,rfl,hU _ ?_⟩;clear hU U;nofun;refine⟨t.a8,_,_,_,_,["p"],p,rfl,rfl,rfl,by simp only[bB,e6,qy];rfl,λqn pm gR k oc tm iV=>⟨"prime",p,p,_,oc,_,k,gm (false,p),fl (false,p),fst (false,p),rfl,rfl,rfl,.inr rfl,⟨T.fc,T.B0,T.aC4,T.KN,T.KL,T.aC3,T.Ke⟩,?_,hF,rfl,rfl⟩,?_⟩
 ·refine Pd (n:=3) ⟨rfl,rfl,rfl,by decide,rfl,rfl,by decide,by decide,rfl⟩ iV (λu1 u2=>rfl) λq f A outer s H E hr=>?_;refine⟨_,az cC (aa (az fq (bv 0) (bv 1))) (bv 2),λi j Qd h=>?_⟩;obtain⟨a,b,rfl,rfl,ha,hb,hq⟩:=h;nofun;have oH:2<=p:=hF.lo;refine⟨gG.ok (.inr ⟨by omega,by omega⟩),by omega,?_⟩;have e:((gm (false,p) a b:Nat):Int)=(a:Int)*b%p:=by
   show((a*b%p:Nat):Int)=_;rw[oS,tU]
  rw[<-e];exact hq
 ·simp only[dN,jK,qA,af]
abbrev aK5:aX:=λds Q=>∃(l g:List Int),ds=[.lst false (aP l),.lst false (aP g)]/\1<=l.length/\l.length<=63/\g.length=l.length+1/\(∀x∈g,0<=x)/\Q (.lst true (Bb l g))
theorem aK6(T:Txt K mg t):aF P w K mg base aN 1 t.Uq t.Ur ["powers","logs"] (aY (aK5 )):=by
 obtain⟨l,g,rfl,h1,h2,h3,h4,q⟩:bf T.W0.F Eo "0)ǗU-}ƍ1Ǘ&Ħ'FŧŃ,'Ť.ǗUƲ1?-ǘ<[powers:0 many:2 logs:1 a:4<<[b<H,'Ť.<[powers many logs a b<2*P-'#C'8C0ń0`ċFĘb1ľ";subst_eqs;refine hU _ ?_;clear hU U;subst_eqs;refine⟨by decide,⟨by omega,by omega,by omega⟩,by decide,hU _ ?_⟩;clear hU U;subst_eqs;refine⟨1,(l.length:Int)+1,⟨rfl,rfl⟩,⟨by decide,by decide,by omega,by omega⟩,?_⟩;have en:((l.length:Int)+1-1).toNat=l.length:=by omega
 rw[en];refine fm.mk (λi δ=>∃o,δ=[some (.lst false (aP l)),some (.lst false (aP g)),some (.int ((l.length:Int)+1)),some (.lst true (Ba l g (i+1))),o]) ⟨none,?_⟩ ?_ ?_
 ·rw[show((l.length:Int)+1).toNat=l.length+1 by omega];rfl
 ·rintro i d δ hd ⟨o,rfl⟩;obtain⟨hi,rfl⟩:i<l.length/\d=.int (1+(i:Int)):=by
   rw[cy]at hd;by_cases hi:i<l.length
   ·rw[kj hi]at hd;exact⟨hi,(dr hd).symm⟩
   ·rw[gu (by simpa using hi)]at hd;cases hd
  nofun;refine⟨⟨_,rfl⟩,by decide,1,(l.length:Int)+1,⟨rfl,rfl⟩,⟨by decide,by decide,by omega,by omega⟩,?_⟩;rw[en];refine oj (aI l.length) (λ(k:Nat)=>D.int (1+(k:Int))) (λ(k:Nat)=>D.int (l.getD ((g.getD (i+1) 0+g.getD (k+1) 0)%(l.length:Int)).toNat 0)) (by rw[uH]) (λx y h=>by injection h with h;omega) (λk hk=>?_) (.inr λ_ _=>rfl) (by rw[bW,sL];omega) ?_
  ·have Qc:=cJ.mp hk;nofun;have e1:(1+(i:Int)).toNat=i+1:=by omega
   have e2:(1+(k:Int)).toNat=k+1:=by omega
   have e3:(l.length:Int)+1-1=l.length:=by omega
   have n0:=fO (g.getD (i+1) 0+g.getD (k+1) 0) (show(l.length:Int)≠0 by omega);have n1:=g9 (g.getD (i+1) 0+g.getD (k+1) 0) (show(0:Int)<l.length by omega);refine⟨_,n5 (by omega) (by omega),_,n5 (by omega) (by omega),?_⟩;rw[e1,e2,e3];exact⟨by omega,_,n5 n0 n1,rfl,rfl⟩
  ·nofun;refine⟨⟨by simp;omega,by rw[mj,cU];intro x _;rfl⟩,by simp[Ba];omega,_,?_,rfl⟩;unfold Ba;rw[zO (n:=i+1),eV];congr 1;show _=[D.lst true (aP (sq l g (i+1)))];unfold sq;rw[if_neg (by omega)];unfold aP;rw[dN,cE];rfl
 ·rintro δ ⟨o,rfl⟩;refine hU _ ?_;simp only[uA,mP,uB,uC,dT,nS,mL,pF,dC,rB,mO,pJ,pI,rE,uz,pW,vg,rS,vh,vj,uo,uq,ur,uu,uv,uw,rC,u7,rO,rP,ii,rG,uN,rH,uO,uP,uQ,uR,uT,uU,uV,iI,iM,uW,uX,uY,uZ,rJ,rK,nW,u5,u6,gN,vk,ve,uD,uG,rF,uI,uJ,uK,vm,vn,mQ,jZ,fR,jY,ij,tP,tM,zR,zS,pK,iK,jt,rQ,rR,n6,vv,vy,vA,vw,vB,vC,vE,qf,vF,i6,vJ,rX,vH,iq,vG,yG,yH,dN,jK,lj,jL,jJ,xm,aM,oV,oW,du,fP,xo,exists_eq_left',exists_eq_left,D.bl.injEq,D.int.injEq,D.lst.injEq,D.fz.injEq,D.str.injEq,D.tup.injEq,zT,and_true,true_and,bB,e6,mm,qS,ye,yf,yg,yh,yi,yj,eO,kD,p9,yo,yp,yq,yr,yt,dX,mI,vo,yk,ym,yn,kE,rn,zU,zV,tI,jM,zW,zX,w5,yx,yy,yz,yA,yB,yC,yD,lR,kJ,vp,j6,rT,yv,vt,yu,rV,yw,jy,vq,if_true,mh,if_false,reduceIte,yE,decide_eq_true_eq,e7,lW,qg,yL,om,yK,uE,vP,sD,sE,vU,vI,se,sg,sj,vV,sI,sJ,vX,sM,gn,lZ,j8,yS,sN,v7,v9,dJ,wa,wb,wc,we,wg,sU,wu,wz,wD,wC,wF,wH,wI,jz,bq,bW];exact q
abbrev aK7(t:cH):gQ:=λds Q Ex=>∃a b:Nat,ds=[.int a,.int b]/\bl a<=1000000/\bl b<=1000000/\(b=0->Ex t.nz)/\(b≠0->∀q r:Nat,a=cl q b ^^^ r->bl r<bl b->Q (.tup [.int q,.int r]))
theorem Yr(T:Txt K mg t):aF P w K mg base (gz P w) 1 t.Us t.Ut ["a","b"] (iN (aK7 t )):=by
 obtain⟨a,b,rfl,ha,hb,qx,q⟩:n8 T.wO.F za "1ƎȔžǉ%AǊQ)Ə~yƏ&Ŕcȕ#Ź$Ǚī.Ə&9#ŹƇK)ƏƐ,80ƫŝ1ƏƐ$80ƫŝįŢ<cU71<)E1EĎĂ[";subst_eqs;split
 ·rename_i h0;exact⟨by decide,qx (by omega)⟩
 ·rename_i h0;have b0:b≠0:=by omega
  refine hU _ ?_;clear hU U;subst_eqs;refine hU _ ?_;clear hU U;subst_eqs;refine hU _ ?_;clear hU U;subst_eqs;refine⟨λm δ=>∃(x r:Nat) (o sh:Option D),δ=[o,some (.int b),some (.int (x:Nat)),some (.int (r:Nat)),sh]/\a=cl x b ^^^ r/\bl r<=bl a/\m=bl r,
   ⟨bl a,0,a,_,none,rfl,by rw[rk,qR],bR _,rfl⟩,?_⟩
  rintro m δ ⟨x,r,o,sh,rfl,inv,hra,rfl⟩;simp only[uA,mP,uB,uC,dT,nS,mL,pF,dC,rB,mO,pJ,pI,rE,uz,pW,vg,rS,vh,vj,uo,uq,ur,uu,uv,uw,rC,u7,rO,rP,ii,rG,uN,rH,uO,uP,uQ,uR,uT,uU,uV,iI,iM,uW,uX,uY,uZ,rJ,rK,nW,u5,u6,gN,vk,ve,uD,uG,rF,uI,uJ,uK,vm,vn,mQ,jZ,fR,jY,ij,tP,tM,zR,zS,pK,iK,jt,rQ,rR,n6,vv,vy,vA,vw,vB,vC,vE,qf,vF,i6,vJ,rX,vH,iq,vG,yG,yH,dN,jK,lj,jL,jJ,xm,aM,oV,oW,du,fP,xo,exists_eq_left',exists_eq_left,D.bl.injEq,D.int.injEq,D.lst.injEq,D.fz.injEq,D.str.injEq,D.tup.injEq,zT,and_true,true_and,bB,e6,mm,qS,ye,yf,yg,yh,yi,yj,eO,kD,p9,yo,yp,yq,yr,yt,dX,mI,vo,yk,ym,yn,kE,rn,zU,zV,tI,jM,zW,zX,w5,yx,yy,yz,yA,yB,yC,yD,lR,kJ,vp,j6,rT,yv,vt,yu,rV,yw,jy,vq,if_true,mh,if_false,reduceIte,yE,decide_eq_true_eq,e7,lW,qg,yL,om,yK,uE,vP,sD,sE,vU,vI,se,sg,sj,vV,sI,sJ,vX,sM,gn,lZ,j8,yS,sN,v7,v9,dJ,wa,wb,wc,we,wg,sU,wu,wz,wD,wC,wF,wH,wI,jz,jN];split
  ·rename_i hc;have hle:bl b<=bl r:=by omega
   have less:=Nk b0 hle;have es:(((bl r:Nat):Int)-((bl b:Nat):Int))=((bl r-bl b:Nat):Int):=by omega
   clear hU;subst_eqs;simp only[jN,es];refine hU _ ?_;clear hU;subst_eqs;have o1:bl (1:Int).natAbs=1:=by decide
   refine⟨⟨by omega,by omega⟩,hU _ ?_⟩;clear hU;simp only[uA,mP,uB,uC,dT,nS,mL,pF,dC,rB,mO,pJ,pI,rE,uz,pW,vg,rS,vh,vj,uo,uq,ur,uu,uv,uw,rC,u7,rO,rP,ii,rG,uN,rH,uO,uP,uQ,uR,uT,uU,uV,iI,iM,uW,uX,uY,uZ,rJ,rK,nW,u5,u6,gN,vk,ve,uD,uG,rF,uI,uJ,uK,vm,vn,mQ,jZ,fR,jY,ij,tP,tM,zR,zS,pK,iK,jt,rQ,rR,n6,vv,vy,vA,vw,vB,vC,vE,qf,vF,i6,vJ,rX,vH,iq,vG,yG,yH,dN,jK,lj,jL,jJ,xm,aM,oV,oW,du,fP,xo,exists_eq_left',exists_eq_left,D.bl.injEq,D.int.injEq,D.lst.injEq,D.fz.injEq,D.str.injEq,D.tup.injEq,zT,and_true,true_and,bB,e6,mm,qS,ye,yf,yg,yh,yi,yj,eO,kD,p9,yo,yp,yq,yr,yt,dX,mI,vo,yk,ym,yn,kE,rn,zU,zV,tI,jM,zW,zX,w5,yx,yy,yz,yA,yB,yC,yD,lR,kJ,vp,j6,rT,yv,vt,yu,rV,yw,jy,vq,if_true,mh,if_false,reduceIte,yE,decide_eq_true_eq,e7,lW,qg,yL,om,yK,uE,vP,sD,sE,vU,vI,se,sg,sj,vV,sI,sJ,vX,sM,gn,lZ,j8,yS,sN,v7,v9,dJ,wa,wb,wc,we,wg,sU,wu,wz,wD,wC,wF,wH,wI,jz,jN];refine⟨⟨by omega,by rw[jN];omega⟩,_,less,x ^^^ 2 ^ (bl r-bl b),r ^^^ b <<< (bl r-bl b),o,_,⟨rfl,?_,?_,rfl⟩,ci5 inv,by omega,rfl⟩
   ·rw[show(1:Int)=((1:Nat):Int) from rfl,xK,pz,FG]
   ·rw[xK,pz]
  ·rename_i hc;refine hU _ ?_;nofun;refine⟨by decide,q b0 x r inv (by omega)⟩
abbrev aK8:aX:=λds Q=>∃a:Nat,ds=[.int a]/\bl a<=60/\Q (.bl (al a))
theorem aK9(T:Txt K mg t):aF P w K mg base aN 2 t.Uu t.Uv ["a"] (aY (aK8 )):=by
 obtain⟨a,rfl,ha,q⟩:bf T.W2.F Jw "0Ē*>İ5Ȗ&Ƴ9*Ź4ƍzH,Ǉ,-Ĥ0Ť)ȖtJ!<Yr1<ȗ<Hy1<T(<T.wO.g0<<T.wO.F.kp0<<T.wO.b0<<Hx0<*'I<AG8<%h>İbőŒ";subst_eqs;split
 ·rename_i h2;rw[cj8 (by omega)]at q;exact q
 ·rename_i h2;have h2:2<=a:=by omega
  have hp:=iX (show a≠0 by omega);refine hU _ ?_;clear hU U;subst_eqs;simp only[jN];refine⟨jv (by omega) (by omega),hU _ ?_⟩;clear hU U;have eh:((((bl a:Nat):Int)-1)/2+1)=(((bl a-1)/2+1:Nat):Int):=by omega
  have e1:(1:Int)*2 ^ ((((bl a:Nat):Int)-1)/2+1).toNat=((2 ^ ((bl a-1)/2+1):Nat):Int):=by
   rw[eh,show(1:Int)=((1:Nat):Int) from rfl,xK,FG]
  have big:2 ^ ((bl a-1)/2+1)<=2 ^ 40:=zC (by decide) (by omega);have o1:bl (1:Int).natAbs=1:=by decide
  subst_eqs;rw[e1];have ex9:((2 ^ ((bl a-1)/2+1):Nat):Int)<=2 ^ 40:=by exact_mod_cast big
  have nn:(0:Int)<=((2 ^ ((bl a-1)/2+1):Nat):Int):=E4 _;refine⟨⟨by omega,by omega⟩,_,_,⟨rfl,rfl⟩,⟨by decide,by decide,by omega,by omega⟩,?_⟩;have en:(((2 ^ ((bl a-1)/2+1):Nat):Int)-2).toNat=2 ^ ((bl a-1)/2+1)-2:=by omega
  rw[en];refine fm.mk (λi δ=>(∃o1 o2,δ=[some (.int a),o1,o2])/\∀j,j<i->md a (2+j)≠0) ⟨⟨_,_,rfl⟩,λj hj=>absurd hj (by omega)⟩ ?_ ?_
  ·rintro i d δ hd ⟨⟨o1,o2,rfl⟩,inv⟩;obtain⟨hi,rfl⟩:i<2 ^ ((bl a-1)/2+1)-2/\d=.int (2+(i:Int)):=by
    rw[cy]at hd;by_cases hi:i<2 ^ ((bl a-1)/2+1)-2
    ·rw[kj hi]at hd;exact⟨hi,(dr hd).symm⟩
    ·rw[gu (by simpa using hi)]at hd;cases hd
   have bi:bl (2+i)<=60:=by
    have:=(ce2 h2 (show 2+i<2 ^ ((bl a-1)/2+1) by omega)).2;omega
   nofun;refine⟨a,2+i,by rw[show((2+i:Nat):Int)=2+(i:Int) by omega],by omega,by omega,by omega,λ_ x r e l=>?_⟩;have em:md a (2+i)=r:=Au e l;refine⟨.int r,rfl,rfl,?_⟩;rw[jy];split
   ·rename_i hz;have r0:r=0:=by have:=of_decide_eq_true hz;omega
    rw[ci9 hi (em.trans r0)]at q;exact q
   ·rename_i hz;refine⟨⟨_,_,rfl,rfl⟩,λj hj=>?_⟩;by_cases ej:j=i
    ·rw[ej,em];intro r0;exact hz (decide_eq_true (by omega))
    ·exact inv j (by omega)
  ·rintro δ ⟨⟨o1,o2,rfl⟩,inv⟩;rw[bq,bW]at inv;rw[cD1 h2 inv]at q;refine hU _ ?_;nofun;exact q
abbrev aD0:aX:=λds Q=>∃a:Int,ds=[.int a]/\Q (.bl (decide (4<=a)&&decide (a<=127)&&al a.toNat))
theorem aD1(T:Txt K mg t):aF P w K mg base aN 3 t.Uw t.Ux ["bits"] (aY (aD0 )):=by
 obtain⟨a,rfl,q⟩:bf T.W3.F az5 "0ƌŕř%<T.W20<!<aK91<DgŚB";nofun;split
 ·rename_i h1;split
  ·rename_i h2;refine⟨a.toNat,by rw[zL (by omega)],?_,?_⟩
   ·have:bl a.toNat<=bl 127:=Gx (by omega);exact ff this (by decide)
   ·have e:(decide (4<=a)&&decide (a<=127)&&al a.toNat)=al a.toNat:=by simp[h1,h2]
    rw[e]at q;exact q
  ·rename_i h2;have e:(decide (4<=a)&&decide (a<=127)&&al a.toNat)=false:=by simp[h2]
   rw[e]at q;exact q
 ·rename_i h1;have e:(decide (4<=a)&&decide (a<=127)&&al a.toNat)=false:=by simp[h1]
  rw[e]at q;exact q
abbrev aO7:aX:=λds Q=>∃a b:Nat,ds=[.int a,.int b]/\bl a<=1000/\bl b<=1000/\Q (.int (cl a b:Nat))
theorem aO8(T:Txt K mg t):aF P w K mg base aN 1 t.Uy t.Uz ["a","b"] (aY (aO7 )):=by
 obtain⟨a,b,rfl,ha,hb,q⟩:bf T.EF.F Ep "0)ǚ~ŃƇŅǚtJȘș$ņź)ǚƐ*ņƫŝQb){";subst_eqs;refine hU _ ?_;clear hU U;subst_eqs;simp only[jN];refine⟨⟨by omega,by omega⟩,AN (λi δ=>∃o,δ=[some (.int a),some (.int b),some (.int (Mf.P a b i:Nat)),o]) ⟨none,rfl⟩ ?_ ?_⟩
 ·rintro i δ hi ⟨o,rfl⟩;nofun;refine⟨by omega,?_⟩;have ES:(qM ((b:Int)/2 ^ ((i:Int)).toNat) 1=1)↔b.testBit i=true:=by
   have h:=cG0 b i;rw[LB]at h;rw[<-h,dI]
  split
  ·rename_i hc;have h:=ci8 (a:=a) (ES.mp hc);rw[LB]at h;exact⟨⟨by omega,by rw[jN];omega⟩,_,h,rfl⟩
  ·rename_i hc;exact⟨_,by rw[bX9 (λz=>hc (ES.mpr z))],rfl⟩
 ·rintro δ ⟨o,rfl⟩;refine hU _ ?_;nofun;exact q
abbrev aR3:List D->List Str->List D->Prop:=λds ns xs=>∃p:Nat,ds=[.int p]/\p∈ir/\ns=jA "bits"++[("products":Str)]/\xs=[.int p,.int (af (true,p)),.int ((bl (af (true,p)):Nat)-1),.lst true (aP (fl (true,p))),.lst true (aP (fU (fl (true,p)))),.int (fst (true,p)),.lst true (Bb (fl (true,p)) (fU (fl (true,p))))]
theorem aI7(T:Txt K mg t)(hB:Bm mg base):aF P w K mg base aN 8 t.JI t.JJ ["self","bits"] (jF [t.qD,t.qE] (y8 t.a7 aR3)):=by
 obtain⟨rfl,rfl,rfl,zs,⟨p,rfl,hp,rfl,rfl⟩,rfl⟩:Rj T.Xz.F T.aI1 R0 "3<T.W30<!<aD11<ęļťĬđĭ5)<R0.nd0<ƐŸƇ4FȚț5Ȏ!ȏĩȐ(ȑ?___<T.aI20<ȜȒ<iB2<Ŧ'VȓĬ<T.W00<!<aK61<Ɗ3]ĭƋł";have hm:(true,p)∈aD:=gE _ (zM hp);have hF:=bX hm;have bp:bl p<=7:=Pk p hp;have ET:1<=bl p:=Pl p hp;subst_eqs;refine⟨p,rfl,?_⟩;rw[cF3 p hp];refine⟨true,rfl,rfl,hU _ ?_⟩;clear hU U;subst_eqs;refine⟨t.a7,_,_,["p"],rfl,T.eY,T.aI3,by decide,rfl,hU _ ?_⟩;clear hU U;subst_eqs;refine⟨?_,?_⟩
 ·have o1:bl (1:Int).natAbs=1:=by decide
  rw[jN];exact⟨by omega,by omega⟩
 have em:(1:Int)*2 ^ (((bl ((p:Int)).natAbs:Nat):Int)-1).toNat=((af (true,p):Nat):Int):=by
  rw[jN,show(((bl p:Nat):Int)-1)=((bl p-1:Nat):Int) by omega,show(1:Int)=((1:Nat):Int) from rfl,xK,FG];rfl
 rw[em];refine hU _ ?_;clear hU U;subst_eqs;refine⟨t.a7,_,_,_,_,["p"],p,rfl,rfl,rfl,by simp only[bB,e6,qy];rfl,λqn pm gR k oc tm iV=>⟨"bits",p,af (true,p),_,oc,_,k,gm (true,p),fl (true,p),fst (true,p),rfl,rfl,rfl,.inl rfl,⟨T.eY,T.BZ,T.aI5,T.EM,T.EL,T.aI4,T.Kb⟩,?_,hF,rfl,rfl⟩,hU _ ?_⟩
 ·refine Pd (n:=3) ⟨rfl,rfl,rfl,by decide,rfl,rfl,by decide,by decide,rfl⟩ iV (λu1 u2=>rfl) λq f A outer s H E hr=>?_;refine⟨_,bH (bu (aa (AG (Hy ((Yr T).mono (by decide))) hr rfl T.wO.g T.wO.F.kp T.wO.b Hx (ae (aa (AG ((aO8 T).mono (by decide)) hr rfl T.EF.g T.EF.F.kp T.EF.b iH (ae (bv 0) (ae (bv 1) ai)))) (ae (bv 2) ai)))) (aa aj) (λ_ _=>rfl)),λi j Qd h=>?_⟩;obtain⟨a,b,rfl,rfl,ha,hb,hq⟩:=h;nofun;have b1:bl a<=6:=by
   have:bl a<=bl 63:=Gx (by omega);exact ff this (by decide)
  have b2:bl b<=6:=by
   have:bl b<=bl 63:=Gx (by omega);exact ff this (by decide)
  have p0:p≠0:=by
   intro z;rw[z]at ET;exact absurd ET (by decide)
  refine⟨a,b,rfl,by omega,by omega,cl a b,p,rfl,ff (cg5 a b) (by omega),by omega,λz=>p0 z,λ_ x r e l=>⟨by simp[D.pl],.int r,rfl,rfl,r,rfl,?_⟩⟩;have er:gm (true,p) a b=r:=Au e l;rw[<-er];exact hq
 ·clear hU U;nofun;refine⟨_,_,_,.lst false (aP (fl (true,p))),rfl,T.eY,T.EM,rfl,_,_,_,.lst false (aP (fU (fl (true,p)))),rfl,T.eY,T.EL,rfl,fl (true,p),fU (fl (true,p)),by rw[qA,qA],by have:=hF.len;have:=hF.lo;omega,by have:=hF.len;have:=hF.hi;omega,A9 _ _,Pj _ _,by rw[eO,eO,kJ,kJ];rfl,_,_,_,["p"],rfl,T.eY,T.zi,by show 6<1000;decide,?_,?_⟩
  ·rw[Pm];simp only[gC,fX,du,bB,e6,qy,Rl];rfl
  ·rw[dX];rfl
abbrev aO9(cb cp:Addr):aX:=λds Q=>∃m:Bool × Nat,ds=[eG m]/\m∈aD/\Q (fD cb cp m)
theorem aP0(T:Txt K mg t)(hB:Bm mg base):aF P w K mg base aN 10 t.UA t.UB ["_law_told_here"] (vL [t.qD,t.qE] (aY (aO9 t.a7 t.a8))):=by
 obtain⟨m,rfl,hm,q⟩:HR T.EG.F aO0 "4auƴ<T.aT10<!Ŧ<aI72<Y<T.aU50<<T.Xz.b0<ĆaAŨMƴ<T.aO50<!Ŧ<aC92<Y<T.aQ60<<T.Xy.b0<ĆaAŨm";unfold eG at *;subst_eqs;obtain⟨b,n⟩:=m
 cases b with
 | true =>
  refine⟨_,rfl,true,rfl,?_⟩;rw[if_pos rfl];refine⟨_,rfl,rfl,_,_,⟨n,rfl,vT hm,rfl,rfl⟩,?_⟩;rw[cP0];exact q
 | false =>
  refine⟨_,rfl,false,rfl,?_⟩;rw[if_neg (by decide)];refine hU _ ?_;nofun;refine⟨_,rfl,rfl,_,_,⟨n,rfl,bO6 hm,rfl,rfl⟩,?_⟩;rw[cm1];exact q
def jI(c k:Int):Int:=(c%999983+7*k+1)*(k*k+48271)%1000003
abbrev aP1:aX:=λds Q=>∃(c k:Int),ds=[.int c,.int k]/\0<=k/\k<=100000/\Q (.int (jI c k))
theorem EU(T:Txt K mg t):aF P w K mg base aN 1 t.UC t.UD ["_law_cell_here","_law_k"] (aY (aP1 )):=by
 obtain⟨c,k,rfl,k0,k1,q⟩:bf T.BX.F aO1 "0Ƒ--PĢf,$004-f$$040,Ī";nofun;have c0:=fO c (show(999983:Int)≠0 by decide);have c1:=g9 c (show(0:Int)<999983 by decide);exact⟨by decide,gG.ok (.inl ⟨by decide,by decide⟩),gG.ok (.inl ⟨by omega,by omega⟩),gG.ok (.inl ⟨by omega,by omega⟩),by decide,q⟩
abbrev aD2:aX:=λds Q=>∃(M n e:Nat) (c:Int) (b:Bool),ds=[.int M,.int n,.int e,.int c,.bl b]/\1<=M/\M<=64/\n<=16/\e<=16/\∀T:List (List Nat),T.length=e->RT M n T->Q (.lst true (aL true T))
theorem aD3(T:Txt K mg t):aF P w K mg base aN 2 t.UE t.UG ["_law_many_here","_law_length","_law_extra","_law_cell_here","_law_sparse"] (aY (aD2 )):=by
 obtain⟨M,n,e,c,b,rfl,hM,ec7,hn,he,q⟩:bf T.W4.F BI "0;ƵĚŃ'Ĕ6ƵUƲ@Ƶ&<[_law_many_here:0 _law_cell_here:3 _law_i:6<ȝH$Ņ<[_law_many_here _law_cell_here _law_i _law_at<2ģƶ!Ʒw-fŇņě4ƒũ8u@Ƶ&<[_law_cell_here:3 _law_i:6<<[_law_at _law_x<Ą:ſ<[_law_cell_here _law_i _law_at _law_x<Ŀƀf#ģƶ!ƷT-Ģ-fĤ'0ě44FũQ;?@EĘįi;{";have ec8:∀z:Int,z%(M:Int)=(((z%(M:Int)).toNat:Nat):Int):=λz=>by
  have n0:=fO z (show(M:Int)≠0 by omega);omega
 have ec9:∀z:Int,(z%(M:Int)).toNat<M:=λz=>by
  have n1:=g9 z (show(0:Int)<(M:Int) by omega);omega
 subst_eqs;refine⟨by decide,hU _ ?_⟩;clear hU U;subst_eqs;refine⟨⟨by omega,by omega⟩,AN (λi δ=>∃(G:List (List Nat)) (o1 o2:Option D),δ=[some (.int M),some (.int n),some (.int e),some (.int c),some (.bl b),some (.lst true (aL true G)),o1,o2]/\G.length=i/\RT M n G) ⟨[],_,_,rfl,rfl,λ_ h=>nomatch h⟩ ?_ ?_⟩
 ·rintro i δ hi ⟨G,o1,o2,rfl,hG,hR⟩;simp only[gN,fP,du];clear hU;subst_eqs;refine⟨⟨by omega,by omega⟩,sW n (λk=>D.int (((jI c ((i:Int)*16+(k:Int))/5%(M:Int)).toNat:Nat):Int)) (λk hk=>?_) (.inr λ_ _=>rfl) ?_⟩
  ·have hk:=cJ.mp hk;nofun;exact⟨gG.ok (.inl ⟨by omega,by omega⟩),_,_,rfl,by omega,by omega,jv (by decide) (by decide),by omega,ec8 _⟩
  obtain⟨row,er,B7,B8⟩:∃wd:List Nat,((aI n).map λ(k:Nat)=>D.int (((jI c ((i:Int)*16+(k:Int))/5%(M:Int)).toNat:Nat):Int))=av wd/\AllLt M wd/\wd.length=n:=by
   refine⟨(aI n).map λ(k:Nat)=>(jI c ((i:Int)*16+(k:Int))/5%(M:Int)).toNat,by rw[cj,cE];rfl,λa ha=>?_,by simp⟩;obtain⟨k,_,rfl⟩:=bE.mp ha;exact ec9 _
  rw[er];refine hU _ ?_;clear hU;subst_eqs;have fin:∀row:List Nat,AllLt M row->row.length=n->U [some (D.int M),some (D.int n),some (D.int e),some (D.int c),some (D.bl b),some (D.lst true (aL true G)),some (D.int i),some (D.lst true (av row))]:=by
   clear er B7 B8 row;intro row B7 B8;refine hU _ ?_;nofun;refine⟨⟨_,rfl⟩,by omega,G++[row],_,_,⟨sP true G [row],rfl,rfl⟩,by rw[dO,hG];rfl,hR.app λx hx=>?_⟩;rw[eT]at hx;rw[hx];exact⟨B8,B7⟩
  clear hU
  cases b with
  | false=>exact fin row B7 B8
  | true =>
   rw[if_pos rfl];have e2:∀z:Int,z%2=0\/z%2=1:=λz=>by omega
   refine HX (aI row.length) (λ(k:Nat)=>D.tup [.int (k:Int),.int ((row.getD k 0:Nat):Int)]) (λk=>D.int ((row.getD k 0*(jI (c+7) ((i:Int)*16+(k:Int))/3%2).toNat:Nat):Int)) (DP row) (λa b h=>by injection h with h;simp at h;omega) (λk hk=>?_) HY (.inr λ_ _=>rfl) (by rw[bW,sL];omega) ?_
   ·have hk:=cJ.mp hk;nofun;refine⟨gG.ok (.inl ⟨by omega,by omega⟩),_,_,rfl,by omega,by omega,jv (by decide) (by decide),by decide,gG.ok (.inr ⟨by omega,by omega⟩),?_⟩;rw[tU,zL (by omega)]
   dsimp only[fP,du];rw[show((aI row.length).map λ(k:Nat)=>D.int ((row.getD k 0*(jI (c+7) ((i:Int)*16+(k:Int))/3%2).toNat:Nat):Int))=av ((aI row.length).map λk=>row.getD k 0*(jI (c+7) ((i:Int)*16+(k:Int))/3%2).toNat) by rw[cj,cE];rfl];refine fin _ (λa ha=>?_) (by rw[bq,bW,B8]);obtain⟨k,_,rfl⟩:=bE.mp ha;have h1:=B7.getD (show 0<M by omega) k;rcases e2 (jI (c+7) ((i:Int)*16+(k:Int))/3)with h | h
   ·rw[h];show row.getD k 0*0<M;omega
   ·rw[h];show row.getD k 0*1<M;omega
 ·rintro δ ⟨G,o1,o2,rfl,hG,hR⟩;refine hU _ ?_;nofun;exact q G hG hR
abbrev aP2:aX:=λds Q=>∃(T:List (List Nat)) (j:Nat),ds=[.lst false (aL false T),.int j]/\T.length<=1000/\(∀r∈T,j<r.length)/\Q (match kM T j with | some i=>.int (i:Nat) | none=>.aA)
theorem aP3(T:Txt K mg t):aF P w K mg base aN 1 t.UH t.UI ["rows","place"] (aY (aP2 )):=by
 obtain⟨G,j,rfl,hG,hr,q⟩:bf T.W5.F R6 "0zĄ*ſ(<R6.nd0<ąW#$C>)EMbăm";subst_eqs;refine fm.mk (λi δ=>∃o1 o2,δ=[some (D.lst false (aL false G)),some (D.int j),o1,o2]/\∀k,k<i->(G.getD k []).getD j 0=0) ⟨_,_,rfl,λk hk=>absurd hk (LR k)⟩ ?_ ?_
 ·rintro i d δ hd ⟨o1,o2,rfl,hz⟩;obtain⟨hi,rfl⟩:=P5 hd;have hj:=hr _ (eU hi);have eg:G.getD i []=G[i]:=by rw[aT,aV hi];rfl
  nofun;refine⟨.int (G[i].getD j 0:Nat),by rw[oy (by omega) (by omega),gr],rfl,?_⟩;rw[jy];by_cases h0:G[i].getD j 0=0
  ·rw[if_neg (by rw[h0];decide)];refine⟨_,_,⟨rfl,rfl⟩,λk hk=>?_⟩;by_cases e:k=i
   ·rw[e,eg];exact h0
   ·exact hz k (by omega)
  ·rw[if_pos (by rw[decide_eq_false (by omega)];rfl)];have ef:kM G j=some i:=by
    unfold kM;rw[ZI];refine⟨hi,by simpa using h0,λk hk=>?_⟩;have:=hz k hk;rw[aT (l:=G),aV (by omega)]at this;simpa using this
   rw[ef]at q;exact q
 ·rintro δ ⟨o1,o2,rfl,hz⟩;refine hU _ ?_;nofun;have ef:kM G j=none:=by
   unfold kM;rw[ZJ];intro r bo;obtain⟨i,hi,rfl⟩:=ki bo;have:=hz i (by rw[jz,j8];exact hi);rw[aT (l:=G),aV hi]at this;simpa using this
  rw[ef]at q;exact q
abbrev Ys(K:Frag):aX:=λds Q=>∃(C:Addr) (p a:Nat) (xs:List Nat),ds=[vS C p,.int a,.lst false (av xs)]/\cF K C/\bc K C "products"/\p∈ir/\a<af (true,p)/\(∀y∈xs,y<af (true,p))/\xs.length<=1000/\Q (.lst true (av (xs.map (gm (true,p) a))))
theorem aD4(T:Txt K mg t):aF P w K mg base aN 1 t.JK t.UJ ["self","a","row"] (aY (Ys K)):=by
 obtain⟨C,p,a,xs,rfl,hC,hn,hp,ha,hy,hl,q⟩:bf T.XA.F R8 "01<R8.nd0<Uĉ`+<[by_a:3<Ĝĝć<[by_a x<2ƄŪ";subst_eqs;refine⟨C,_,_,_,rfl,hC,hn,rfl,_,DJ hp ha,?_⟩;refine⟨by rw[eO,kJ];rfl,hU _ ?_⟩;clear hU U;nofun;refine nq xs (λx=>D.int ((gm (true,p) a x:Nat):Int)) (λx hx=>?_) (.inr λ_ _=>rfl) ?_
 ·nofun;exact⟨_,DI hp ha (hy x hx),rfl,rfl⟩
 ·rw[cj,cE]at q;exact q
abbrev Yt(K:Frag):aX:=λds Q=>∃(C:Addr) (p a:Nat) (xs:List Nat),ds=[sA C p,.int a,.lst false (av xs)]/\cF K C/\bc K C "prime"/\0<p/\a<64/\(∀y∈xs,y<64)/\xs.length<=1000/\Q (.lst true (av (xs.map (gm (false,p) a))))
theorem av7(T:Txt K mg t):aF P w K mg base aN 1 t.JL t.UK ["self","a","row"] (aY (Yt K)):=by
 obtain⟨C,p,a,xs,rfl,hC,hn,hp,ha,hy,hl,q⟩:bf T.XB.F Sa "01<Sa.nd0<U3Ľ<[prime:3 a:1<Ĝĝş)<[prime a x<2ƑıƒŪ";subst_eqs;refine⟨C,_,_,.int p,rfl,hC,hn,rfl,rfl,hU _ ?_⟩;clear hU U;nofun;refine nq xs (λx=>D.int ((gm (false,p) a x:Nat):Int)) (λx hx=>?_) (.inr λ_ _=>rfl) ?_
 ·have h2:=hy x hx;nofun;refine⟨gG.ok (.inr ⟨by omega,by omega⟩),by omega,?_⟩;show _=((a*x%p:Nat):Int);rw[oS,tU]
 ·rw[cj,cE]at q;exact q
theorem ce1(T:Txt K mg t){m:Bool × Nat}(hm:m∈aD):∃C ns zs sp,fD t.a7 t.a8 m=.obj C ns zs/\iP P w K mg base 1 "scaled" C sp/\("scaled":Str) ∉ ns/\∀(xs:List Nat) (a:Nat) (Q:D->Prop),a<af m->(∀y∈xs,y<af m)->xs.length<=1000->Q (.lst true (av (xs.map (gm m a))))->sp [.obj C ns zs,.int a,.lst false (av xs)] Q:=by
 have hF:=bX hm;obtain⟨k,n⟩:=m
 cases k with
 | true=>exact⟨_,_,_,Ys K,rfl,⟨T.eY,_,_,_,T.aB7,aD4 T,T.XA.b⟩,by decide,λxs a Q ha hy hl q=>⟨_,n,a,xs,rfl,T.eY,T.zi,vT hm,ha,hy,hl,q⟩⟩
 | false =>
  have qH:n<=64:=hF.hi;have l2:2<=n:=hF.lo;exact⟨_,_,_,Yt K,rfl,⟨T.fc,_,_,_,T.av3,av7 T,T.XB.b⟩,by decide,λxs a Q ha hy hl q=>⟨_,n,a,xs,rfl,T.fc,T.tw,by omega,cY (show a<n from ha) qH,λy h=>cY (show y<n from hy y h) qH,hl,q⟩⟩
abbrev Yu(K:Frag):aX:=λds Q=>∃(C:Addr) (p a:Nat) (xs ys:List Nat),ds=[vS C p,.lst false (av xs),.int a,.lst false (av ys)]/\cF K C/\bc K C "products"/\p∈ir/\a<af (true,p)/\(∀y∈ys,y<af (true,p))/\xs.length<=1000/\Q (.lst true (av (dP (λx y=>bA (true,p) x (gm (true,p) a y)) xs ys)))
theorem av8(T:Txt K mg t):aF P w K mg base aN 1 t.JM t.UL ["self","row","a","other"] (aY (Yu K)):=by
 obtain⟨C,p,a,xs,ys,rfl,hC,hn,hp,ha,hy,hl,q⟩:bf T.XE.F Sd "0.<Sd.nd0<U3'`+<[by_a:4<<[x y<ś$#Ŝ5)<[by_a x y<ĿƀƓƃ'CFŪ";subst_eqs;refine⟨C,_,_,_,rfl,hC,hn,rfl,_,DJ hp ha,?_⟩;refine⟨by rw[eO,kJ];rfl,hU _ ?_⟩;clear hU U;nofun;refine⟨_,_,rfl,rfl,PQ (λx y=>bA (true,p) x (gm (true,p) a y)) (λx hx y EV=>?_) (by omega) q⟩;nofun;refine⟨_,DI hp ha (hy y EV),?_⟩;show qN (x:Int) ((gm (true,p) a y:Nat):Int)=_;rw[pz];rfl
abbrev Yv(K:Frag):aX:=λds Q=>∃(C:Addr) (p a:Nat) (xs ys:List Nat),ds=[sA C p,.lst false (av xs),.int a,.lst false (av ys)]/\cF K C/\bc K C "prime"/\0<p/\a<64/\(∀y∈ys,y<64)/\xs.length<=1000/\Q (.lst true (av (dP (λx y=>bA (false,p) x (gm (false,p) a y)) xs ys)))
theorem at0(T:Txt K mg t):aF P w K mg base aN 1 t.JN t.UM ["self","row","a","other"] (aY (Yv K)):=by
 obtain⟨C,p,a,xs,ys,rfl,hC,hn,hp,ha,hy,hl,q⟩:bf T.XF.F Sf "0.<Sf.nd0<U3Ľ<[prime:4 a:2<<[x y<ś$#ŜǛ<[prime a x y<ĿƀP9'f$ņ0ƒŪ";subst_eqs;refine⟨C,_,_,.int p,rfl,hC,hn,rfl,rfl,hU _ ?_⟩;clear hU U;nofun;refine⟨_,_,rfl,rfl,PQ (λx y=>bA (false,p) x (gm (false,p) a y)) (λx hx y EV=>?_) (by omega) q⟩;have h2:=hy y EV;nofun;refine⟨gG.ok (.inr ⟨by omega,by omega⟩),by omega,?_⟩;have e:((x:Int)-((a*y%p:Nat):Int))%(p:Int)=((x:Int)-(a:Int)*y)%p:=by
  rw[oS,tU,Int.sub_emod,Int.emod_emod,<- Int.sub_emod]
 show _=(((((x:Int)-((a*y%p:Nat):Int))%(p:Int)).toNat:Nat):Int);rw[e,zL (fO _ (by omega))]
theorem Yw(T:Txt K mg t){m:Bool × Nat}(hm:m∈aD):∃C ns zs sp,fD t.a7 t.a8 m=.obj C ns zs/\iP P w K mg base 1 "lessened" C sp/\("lessened":Str) ∉ ns/\∀(xs ys:List Nat) (a:Nat) (Q:D->Prop),a<af m->(∀y∈ys,y<af m)->xs.length<=1000->Q (.lst true (av (dP (λx y=>bA m x (gm m a y)) xs ys)))->sp [.obj C ns zs,.lst false (av xs),.int a,.lst false (av ys)] Q:=by
 have hF:=bX hm;obtain⟨k,n⟩:=m
 cases k with
 | true=>exact⟨_,_,_,Yu K,rfl,⟨T.eY,_,_,_,T.av2,av8 T,T.XE.b⟩,by decide,λxs ys a Q ha hy hl q=>⟨_,n,a,xs,ys,rfl,T.eY,T.zi,vT hm,ha,hy,hl,q⟩⟩
 | false =>
  have qH:n<=64:=hF.hi;have l2:2<=n:=hF.lo;exact⟨_,_,_,Yv K,rfl,⟨T.fc,_,_,_,T.as9,at0 T,T.XF.b⟩,by decide,λxs ys a Q ha hy hl q=>⟨_,n,a,xs,ys,rfl,T.fc,T.tw,by omega,cY (show a<n from ha) qH,λy h=>cY (show y<n from hy y h) qH,hl,q⟩⟩
abbrev aU9(cb cp:Addr):aX:=λds Q=>∃(m:Bool × Nat) (T:List (List Nat)) (l:List Nat) (j:Nat),ds=[fD cb cp m,.lst false (aL false T),.lst false (av l),.int j]/\m∈aD/\T.length<=1000/\AllLt (af m) l/\(∀r∈T,j<r.length/\r.length<=1000/\AllLt (af m) r)/\Q (.lst true (aL true (T.map λr=>dP (λx y=>bA m x (gm m (r.getD j 0) y)) r l)))
theorem Yx(T:Txt K mg t):aF P w K mg base aN 2 t.UN t.UO ["field","rows","lead_row","place"] (aY (aU9 t.a7 t.a8)):=by
 obtain⟨m,G,l,j,rfl,hm,hG,hl,hr,q⟩:bf T.Ki.F aU4 "0<[lead_row:2 field:0 place:3<ĕrş1<[lead_row field place row<2Š$q##'C*ƔƸė";nofun;refine qv G (λr=>D.lst true (av (dP (λx y=>bA m x (gm m (r.getD j 0) y)) r l))) (λr bo=>?_) (.inr λr _=>gU _) ?_
 ·obtain⟨h1,h2,h3⟩:=hr r bo;obtain⟨C,ns,zs,sp,e1,e2,e3,e4⟩:=Yw T hm;nofun;refine⟨C,ns,zs,sp,e1,e2,e3,.int (r.getD j 0:Nat),by rw[oy (by omega) (by omega),gr],e4 _ _ _ _ (h3.getD (by have:=(bX hm).lo;omega) j) hl h2 ⟨rfl,rfl⟩⟩
 ·rw[aL,cE]at q;exact q
abbrev Yy(t:cH):gQ:=λds Q Ex=>∃(m:Bool × Nat) (a b:Nat),ds=[fD t.a7 t.a8 m,.int a,.int b]/\m∈aD/\a<af m/\b<af m/\(b=0->Ex t.nz)/\(b≠0->∀r:Nat,r<af m->gm m r b=a->Q (.int (r:Nat)))
theorem Yz(T:Txt K mg t):aF P w K mg base (gz P w) 2 t.EA t.UP ["self","a","b"] (iN (Yy t )):=by
 obtain⟨m,a,b,rfl,hm,ha,hb,qx,q⟩:n8 T.Kz.F aO2 "1JĨȔžǉ%AǊQƎoMO9ĉC3'C0pĂ";subst_eqs;split
 ·rename_i h0;exact⟨by decide,qx (by omega)⟩
 ·rename_i h0;have b0:b≠0:=by omega
  refine hU _ ?_;clear hU U;subst_eqs;split
  ·rename_i h1;have a0:a=0:=by omega
   subst a0;exact q b0 0 ha (fH m b (cI m hm))
  ·rename_i h1;have a0:a≠0:=by omega
   refine hU _ ?_;clear hU U;have hF:=bX hm;obtain⟨r,e,DY,hr2⟩:=Pz hm (show 1<=a by omega) ha (show 1<=b by omega) hb;have qr:=q b0 r DY hr2;obtain⟨k,n⟩:=m
   cases k with
   | true =>
    nofun;have ll:(fU (fl (true,n))).length=af (true,n):=(A9 _ _).trans hF.len;have n0:=fO (lg (true,n) a-lg (true,n) b) (show(af (true,n):Int)-1≠0 by have:=hF.lo;omega);have n1:=g9 (lg (true,n) a-lg (true,n) b) (show(0:Int)<(af (true,n):Int)-1 by have:=hF.lo;omega);refine⟨_,_,_,zr K,rfl,⟨T.eY,_,_,_,T.Kb,B6 T,T.zh.b⟩,by decide,_,_,_,_,rfl,T.eY,T.EL,rfl,_,n5 (by omega) (by rw[ll];omega),_,_,_,_,rfl,T.eY,T.EL,rfl,_,n5 (by omega) (by rw[ll];omega),?_⟩;refine⟨_,_,_,_,af (true,n),fl (true,n),r,rfl,T.eY,T.EM,T.BZ,rfl,rfl,hF.lo,?_,qr⟩;have hk:((lg (true,n) a-lg (true,n) b)%((af (true,n):Int)-1)).toNat<(fl (true,n)).length:=by have:=hF.len;omega
    show(fl (true,n))[((lg (true,n) a-lg (true,n) b)%((af (true,n):Int)-1)).toNat]?=some (r:Int);rw[<-e];unfold pw;rw[aT,aV hk];rfl
   | false =>
    nofun;have ll:(fU (fl (false,n))).length=af (false,n):=(A9 _ _).trans hF.len;have n0:=fO (lg (false,n) a-lg (false,n) b) (show(af (false,n):Int)-1≠0 by have:=hF.lo;omega);have n1:=g9 (lg (false,n) a-lg (false,n) b) (show(0:Int)<(af (false,n):Int)-1 by have:=hF.lo;omega);refine⟨_,_,_,zr K,rfl,⟨T.fc,_,_,_,T.Ke,B6 T,T.zh.b⟩,by decide,_,_,_,_,rfl,T.fc,T.KL,rfl,_,n5 (by omega) (by rw[ll];omega),_,_,_,_,rfl,T.fc,T.KL,rfl,_,n5 (by omega) (by rw[ll];omega),?_⟩;refine⟨_,_,_,_,af (false,n),fl (false,n),r,rfl,T.fc,T.KN,T.B0,rfl,rfl,hF.lo,?_,qr⟩;have hk:((lg (false,n) a-lg (false,n) b)%((af (false,n):Int)-1)).toNat<(fl (false,n)).length:=by have:=hF.len;omega
    show(fl (false,n))[((lg (false,n) a-lg (false,n) b)%((af (false,n):Int)-1)).toNat]?=some (r:Int);rw[<-e];unfold pw;rw[aT,aV hk];rfl
theorem YA(T:Txt K mg t)(m:Bool × Nat):sC P w K mg base 2 "over" (if m.1 then t.a7 else t.a8) (Yy t):=by
 obtain⟨k,n⟩:=m
 cases k with
 | true=>exact⟨T.eY,_,_,_,T.aH9,Yz T,T.Kz.b⟩
 | false=>exact⟨T.fc,_,_,_,T.aB8,Yz T,T.Kz.b⟩
abbrev aV0(t:cH):aX:=λds Q=>∃(m:Bool × Nat) (G:List (List Nat)),ds=[fD t.a7 t.a8 m,.lst false (aL false G)]/\m∈aD/\G.length<=900/\RT (af m) (ay G) G/\ay G<=900/\Q (.lst true (aL true (c9 m G)))
theorem YB(T:Txt K mg t):aF P w K mg base aN 3 t.UQ t.UR ["field","table"] (aY (aV0 t)):=by
 obtain⟨m,G,rfl,hm,hG,hR,hw,q⟩:bf T.Kj.F s8 "0)ǜĚyƕđŃƭ!Ʈę%Ĕ.ǜt1;ƕ<T.W50<!<aP31<Ğ8]+ƹ7|6ƕOj)ğ,#7C8CIƺ%#7CĖyƕȞ!ȟD-#ŗ7ŖƖ#-ūŖŗƖ0=8Ŭ)ƕȞ!ȟD'=8Ĳ6EŧȠ+įĀħŭi)ľ";have dw:=(bX hm).lo;subst_eqs;refine⟨by decide,hU _ ?_⟩;clear hU U;subst_eqs;refine hU _ ?_;clear hU U;subst_eqs;refine⟨G,rfl,by omega,λr bo=>?_,?_⟩
 ·rw[(hR r bo).1];omega
 refine⟨_,rfl,⟨by omega,by omega⟩,?_⟩;refine AN (λk δ=>∃(o:Bool) (o1 o2 o3:Option D),δ=[some (fD t.a7 t.a8 m),some (D.lst false (aL false G)),some (D.lst true (aL true (kN m G k).1)),some (D.lst o (aL o (kN m G k).2)),o1,o2,o3]) ⟨false,none,none,none,rfl⟩ ?_ ?_
 ·rintro k δ hk ⟨o,o1,o2,o3,rfl⟩;have I:=DS hm hR k;rw[Im];generalize kN m G k=s at I ⊢;simp only[gN,pK,fP,du,oW,oV,xo,exists_eq_left',dX,gn];clear hU;have il:=I.l;subst_eqs;refine⟨s.2,k,rfl,by omega,λr bo=>by rw[(I.b r bo).1];omega,?_⟩
  cases e:kM s.2 k with
  | none =>
   rw[show i9 m s k=s by unfold i9;rw[e]]at hU;refine hU _ ?_;nofun;exact⟨false,_,_,_,⟨rfl,rfl⟩,rfl,rfl,rfl⟩
  | some i =>
   obtain⟨hi,h1,h2⟩:=DR e;have er:i9 m s k=(iy m s.1 (eX m s.2 i k) k++[eX m s.2 i k],iy m (s.2.take i++s.2.drop (i+1)) (eX m s.2 i k) k):=by unfold i9;rw[e]
   rw[er]at hU;refine hU _ ?_;clear hU;nofun;obtain⟨C,ns,xs,sp,e1,e2,e3,e4⟩:=ce1 T hm;subst_eqs;obtain⟨lw,lr⟩:=I.b _ (eU hi);have bk:=lr.getD (show 0<af m by omega) k;refine⟨C,ns,xs,sp,e1,e2,e3,_,_,_,_,yQ _ _ m,YA T m,PB m _ (by decide),.lst false (av s.2[i]),yT false hi,?_⟩;dsimp only;refine⟨.int (s.2[i].getD k 0:Nat),by rw[oy (by omega) (by omega),gr],m,1,s.2[i].getD k 0,by rw[yQ];rfl,hm,dw,bk,λz=>absurd z h1,λ_ f hf hfo=>⟨rfl,.lst false (av s.2[i]),yT false hi,?_⟩⟩;have ef:oB m (s.2[i].getD k 0)=f:=DQ hm hf hfo;rw[m9];refine e4 _ _ _ hf lr (by omega) ⟨by rw[gU,jM],hU _ ?_⟩;have el:s.2[i].map (gm m f)=eX m s.2 i k:=by unfold eX;rw[h2,ef]
   rw[el];have ll:(eX m s.2 i k).length=ay G:=by rw[<-el,bq];exact lw
   have la:AllLt (af m) (eX m s.2 i k):=λx hx=>by
    rw[<-el]at hx;obtain⟨y,_,rfl⟩:=bE.mp hx;exact cR hm _ _
   generalize eX m s.2 i k=ld at ll la ⊢;clear hU;subst_eqs;have K1:∀r∈s.2.take i++s.2.drop (i+1),r.length=ay G/\AllLt (af m) r:=λr bo=>by
    rcases cZ.mp bo with h | h
    ·exact I.b r (zF h)
    ·exact I.b r (qX h)
   have YC:∀X:List (List Nat),(D.lst true (aL true X)).fr=true:=λX=>by rw[kE,Il];rfl
   rw[OR,show((i:Int)+1)=((i+1:Nat):Int) by omega,Dv,sP,gn];refine⟨by rw[kg,lh];omega,m,_,ld,k,rfl,hm,by rw[dO,kg,lh];omega,la,λr bo=>⟨by rw[(K1 r bo).1];exact hk,by rw[(K1 r bo).1];omega,(K1 r bo).2⟩,YC _,hU _ ?_⟩;clear hU;nofun;refine⟨m,s.1,ld,k,rfl,hm,by omega,la,λr bo=>⟨by rw[(I.a r bo).1];exact hk,by rw[(I.a r bo).1];omega,(I.a r bo).2⟩,YC _,by decide,_,_,rfl,rfl,?_,true,_,_,_,sP true _ [ld],⟨rfl,rfl⟩,rfl,rfl,rfl⟩;rw[j8,bq];show s.1.length+1<=_;omega
 ·rintro δ ⟨o,o1,o2,o3,rfl⟩;refine hU _ ?_;nofun;exact q
abbrev aW0:aX:=λds Q=>∃T:List (List Nat),ds=[.lst false (aL false T)]/\T.length<=1000/\Q (.lst true (aL true T))
theorem aW1(T:Txt K mg t):aF P w K mg base aN 1 t.US t.UT ["table"] (aY (aW0 )):=by
 obtain⟨G,rfl,hG,q⟩:bf T.W6.F aV3 "0eĕŞĠĕ2ĸ*ĥė";nofun;refine qv G (λr=>D.lst true (av r)) (λr bo=>?_) (.inr λr _=>gU r) q;nofun
abbrev cn2:aX:=λds Q=>∃T:List (List Nat),ds=[.lst false (aL false T)]/\T.length<=1000/\(∀r∈T,r.length<=1000/\∃x∈r,x≠0)/\Q (.lst true (av (T.map a6)))
theorem YD(T:Txt K mg t):aF P w K mg base aN 1 t.UU t.UW ["rows"] (aY (cn2 )):=by
 obtain⟨G,rfl,hG,hr,q⟩:bf T.Kk.F cl1 "0eĕŞĠĕ2e<[place x<Ą*ŮZ5<[place x<ĿXWǝňƗċhVXƯ(ưB";nofun;refine qv G (λr=>D.int (a6 r:Nat)) (λr bo=>?_) (.inr λr _=>rfl) ?_
 ·obtain⟨h1,x,hx,h3⟩:=hr r bo;nofun;refine vY (aI r.length) (λ(i:Nat)=>D.tup [.int (i:Int),.int ((r.getD i 0:Nat):Int)]) (λ(i:Nat)=>D.int (i:Int)) (λi=>r.getD i 0 != 0) (DP r) (λa b h=>by injection h with h;simp at h;omega) (λi hi=>?_) (.inr λ_ _ _=>rfl) (by rw[bW,sL];omega) ?_
  ·nofun;refine⟨?_,λ_=>trivial⟩;by_cases h0:r.getD i 0=0
   ·rw[h0];rfl
   ·rw[decide_eq_false (by omega),bne_iff_ne.mpr h0];rfl
  ·refine⟨.int (a6 r:Nat),L3.HA (k:=0) ?_,rfl,rfl⟩;rw[cy,P6 ⟨x,hx,h3⟩];rfl
 ·rw[cj,cE]at q;exact q
abbrev aM9:aX:=λds Q=>∃(T:List (List Nat)) (w:Nat),ds=[.lst false (aL false T),.int w]/\T.length<=1000/\w<=1000/\(∀r∈T,r.length<=1000/\∃x∈r,x≠0)/\Q (.lst true (av (gW T w)))
theorem YE(T:Txt K mg t):aF P w K mg base aN 2 t.UX t.UY ["rows","width"] (aY (aM9 )):=by
 obtain⟨G,w,rfl,hG,hw,hr,q⟩:bf T.Kl.F at2 "0)<at2.nd0<Uȡ!ȢDŉ<[taken:2<ůH$Ĕ5<[taken place<ŰXȣƃǞǟňđŪ";subst_eqs;refine⟨G,rfl,hG,hr,?_⟩;refine hU _ ?_;clear hU U;nofun;refine⟨⟨by omega,by omega⟩,vY (aI w) (λ(i:Nat)=>D.int (i:Int)) (λ(i:Nat)=>D.int (i:Int)) (λj=>!(G.map a6).contains j) (Bj _ rfl) rY (λj hj=>?_) (.inr λ_ _ _=>rfl) (by rw[bW,sL];omega) ?_⟩
 ·nofun;exact⟨_,rfl,by rw[cm9],λ_=>trivial⟩
 ·rw[cj]at q;exact q
abbrev YF:aX:=λds Q=>∃(d:D) (a b:Nat),ds=[d,.int a,.int b]/\Q (.int (a ^^^ b:Nat))
theorem aF9(T:Txt K mg t):aF P w K mg base aN 1 t.JO t.UZ ["self","a","b"] (aY (YF )):=by
 obtain⟨d,a,b,rfl,q⟩:bf T.XG.F aF0 "0ƓēĪ";nofun;rw[pz];exact q
abbrev YG(K:Frag):aX:=λds Q=>∃(C:Addr) (p:Nat) (a b:Int),ds=[sA C p,.int a,.int b]/\cF K C/\bc K C "prime"/\0<p/\Q (.int ((a-b)%p))
theorem az0(T:Txt K mg t):aF P w K mg base aN 1 t.JP t.U0 ["self","a","b"] (aY (YG K)):=by
 obtain⟨C,p,a,b,rfl,hC,hn,hp,q⟩:bf T.XH.F ay4 "0P9ı3Ī";nofun;refine⟨C,_,_,.int p,rfl,hC,hn,rfl,?_⟩;exact⟨by omega,q⟩
theorem YH(T:Txt K mg t){m:Bool × Nat}(h0:0<m.2):∃C ns xs sp,fD t.a7 t.a8 m=.obj C ns xs/\iP P w K mg base 1 "minus" C sp/\("minus":Str) ∉ ns/\∀(a b:Nat) (Q:D->Prop),Q (.int (gl m a b))->sp [.obj C ns xs,.int a,.int b] Q:=by
 obtain⟨k,n⟩:=m
 cases k with
 | true=>exact⟨_,_,_,YF,rfl,⟨T.eY,_,_,_,T.aF5,aF9 T,T.XG.b⟩,by decide,λa b Q q=>⟨_,a,b,rfl,q⟩⟩
 | false=>exact⟨_,_,_,YG K,rfl,⟨T.fc,_,_,_,T.ay9,az0 T,T.XH.b⟩,by decide,λa b Q q=>⟨_,n,a,b,rfl,T.fc,T.tw,h0,q⟩⟩
abbrev av9(cb cp:Addr):aX:=λds Q=>∃(m:Bool × Nat) (T:List (List Nat)) (w:Nat),ds=[fD cb cp m,.lst false (aL false T),.int w]/\m∈aD/\T.length<=1000/\w<=1000/\RT (af m) w T/\(∀r∈T,∃x∈r,x≠0)/\Q (.lst true (aL true (jB m T w)))
theorem aw0(T:Txt K mg t):aF P w K mg base aN 3 t.U1 t.U2 ["field","rows","width"] (aY (av9 t.a7 t.a8)):=by
 obtain⟨m,G,wi,rfl,hm,hG,hw,hR,hr,q⟩:bf T.W7.F zb "01Ƙ&ȡ!Ȣę+.ƘĚyz(Ȥ!ȥƉȦ;Ƙt6Ƙ&Ħ'K6?o7āzś#$Ŝ@v(Ƙą6?O,R7CĖ:ābƙ6EĘįGi.Emŭ[";have m0:=cI m hm;have dw:=(bX hm).lo;subst_eqs;refine⟨G,rfl,hG,λr bo=>⟨by rw[(hR r bo).1];exact hw,hr r bo⟩,hU _ ?_⟩;clear hU U;subst_eqs;refine⟨by decide,hU _ ?_⟩;clear hU U;refine⟨_,rfl,?_⟩;rw[m9];simp only[fP,du];subst_eqs;refine⟨G,wi,rfl,hG,hw,λr bo=>⟨by rw[(hR r bo).1];exact hw,hr r bo⟩,?_⟩;refine⟨_,rfl,?_⟩;have hfp:∀j∈gW G wi,j<wi:=λj hj=>cJ.mp (qK.mp hj).1;have lfp:(gW G wi).length<=wi:=by
  have:=ZR (λj=>!(G.map a6).contains j) (aI wi);rw[bW]at this;exact this
 rw[qg];refine fm.mk (λi δ=>∃o1 o2 o3 o4,δ=[some (fD t.a7 t.a8 m),some (D.lst false (aL false G)),some (D.int wi),some (D.lst false (av (G.map a6))),some (D.lst true (aL true (((gW G wi).take i).map (iz m G wi)))),o1,o2,o3,o4]) ⟨_,_,_,_,rfl⟩ ?_ ?_
 ·rintro i d δ hd ⟨o1,o2,o3,o4,rfl⟩;rw[cj,cy]at hd;obtain⟨f,hf,rfl⟩:=tR.mp hd;have hfw:=hfp f (w4 hf);clear hd;subst_eqs;have er:aP (aM wi 0)=av (aM wi 0):=by
   rw[cj,mn];unfold aP;rw[mn];rfl
  rw[gr,er];refine⟨by decide,⟨by omega,by omega,by omega⟩,hU _ ?_⟩;clear hU;subst_eqs;refine⟨_,f,rfl,?_,?_⟩
  ·rw[vW (by omega) (by rw[e7,dE];omega)];rfl
  rw[show(av (aM wi 0)).set f (D.int 1)=av ((aM wi 0).set f 1) from PM _ _ 1];refine hU _ ?_;clear hU;subst_eqs;refine⟨_,_,rfl,rfl,?_⟩;refine fm.mk (λk δ=>∃o3 o4,δ=[some (fD t.a7 t.a8 m),some (D.lst false (aL false G)),some (D.int wi),some (D.lst false (av (G.map a6))),some (D.lst true (aL true (((gW G wi).take i).map (iz m G wi)))),some (D.int f),some (D.lst true (av ((((G.map a6).zip G).take k).foldl (λx z=>x.set z.1 (bA m 0 (z.2.getD f 0))) ((aM wi 0).set f 1)))),o3,o4]) ⟨_,_,rfl⟩ ?_ ?_
  ·rintro k d δ hd ⟨o3,o4,rfl⟩;obtain⟨hk,rfl⟩:=cE1 hd;clear hd;obtain⟨lw,la⟩:=hR _ (eU hk);have xl:=P8 (λz:Nat × List Nat=>z.1) (λz=>bA m 0 (z.2.getD f 0)) (((G.map a6).zip G).take k) ((aM wi 0).set f 1);rw[iU,dE]at xl;obtain⟨C,ns,xs,sp,e1,e2,e3,e4⟩:=YH T m0;have hld:a6 G[k]<wi:=by
    rw[<-lw];obtain⟨x,hx,h0⟩:=hr _ (eU hk);exact LJ ⟨x,hx,by simpa using h0⟩
   have ga:=kL hm (a:=0) (b:=G[k].getD f 0) (by omega) (la.getD (by omega) f);nofun;refine⟨C,ns,xs,sp,e1,e2,e3,.int (G[k].getD f 0:Nat),by rw[oy (by omega) (by omega),gr],e4 0 (G[k].getD f 0) _ ⟨rfl,_,a6 G[k],rfl,?_,_,_,?_,rfl,rfl⟩⟩
   ·rw[vW (by omega) (by rw[e7,xl];omega)];rfl
   ·rw[ga.1,PM,tQ,Fy];have ez:((G.map a6).zip G)[k]?=some (a6 G[k],G[k]):=by
     rw[List.zip,zP,cy,aV hk];rfl
    rw[ez];rfl
  ·rintro δ ⟨o3,o4,rfl⟩;refine hU _ ?_;nofun;refine⟨⟨_,rfl⟩,by rw[bq,kg];omega,_,_,_,_,?_,rfl,rfl,rfl,rfl⟩;rw[show((G.map a6).zip G).take (f9 (av (G.map a6)) (aL false G)).length=(G.map a6).zip G from Fs (by unfold f9;rw[Cr,oU,e7,j8];exact bR _),tQ,hf,eV];exact sP true _ [iz m G wi f]
 ·rintro δ ⟨o1,o2,o3,o4,rfl⟩;refine hU _ ?_;nofun;rw[xh];exact q
abbrev aR4(t:cH)(K:Frag):oJ:=λC ds ns xs bw bC=>∃(m:Bool × Nat) (G:List (List Nat)),ds=[fD t.a7 t.a8 m,.lst false (aL false G)]/\dO2 K C/\BC ns xs/\m∈aD/\RT (af m) (ay G) G/\G.length<=64/\ay G<=64/\bw=ns++wj/\bC=xs++l6 t.a7 t.a8 false m G
theorem K2(T:Txt K mg t):aF P w K mg base aN 4 t.JQ t.U3 ["self","field","checks"] (jF [] (aR4 t K)):=by
 obtain⟨m,G,rfl,hC,hp,hm,hG,hGl,hGw,rfl,rfl⟩:Ej T.EK.F Sr "2Ǜ<Sr.nd0<&ȧ!ȨƉȚțĬđĊƭ!ƮŁgĊ<T.W60<!<aW11<ŁgĊ<T.W70<!<aw01<w#3sĊȤ!ȥĞ3]ĊS3nĭƋłł";obtain⟨_,iR,iL,_⟩:=nh hm hG;have hn:=cO6 hm hG;rw[<-fY ns,<- fY xs];subst_eqs;refine⟨m,G,rfl,hm,by omega,hG,by omega,hU _ ?_⟩;clear hU U;subst_eqs;refine⟨C,_,_,["many"],rfl,hC.cls,hC.field,hp.len _ (by decide),hp.nb _ (by decide) _ _ _ _ ?_,hU _ ?_⟩
 ·simp only[gC,fX,ft,je,nu,du,bB,e6,l7,kZ,kY];rfl
 clear hU U;simp only[je,nu,ft,dk,lj,jL];subst_eqs;refine⟨G,rfl,by omega,λr bo=>by rw[(hG r bo).1];omega,?_⟩;refine⟨C,_,_,["many"],rfl,hC.cls,hC.length,hp.len _ (by decide),hp.nb _ (by decide) _ _ _ _ ?_,hU _ ?_⟩
 ·simp only[gC,fX,ft,je,nu,du,bB,e6,l7,kZ,kY];rfl
 clear hU U;simp only[je,nu,ft,dk,lj,jL];subst_eqs;refine⟨G,rfl,by omega,?_⟩;refine⟨C,_,_,["many"],rfl,hC.cls,hC.dO3,hp.len _ (by decide),hp.nb _ (by decide) _ _ _ _ ?_,hU _ ?_⟩
 ·simp only[gC,fX,ft,je,nu,du,bB,e6,l7,kZ,kY];rfl
 clear hU U;simp only[je,nu,ft,dk,lj,jL];subst_eqs;refine⟨C,_,_,.int (ay G:Nat),rfl,hC.cls,hC.length,(hp.look _ (by decide) _ _).trans rfl,m,c9 m G,ay G,rfl,hm,by omega,by omega,iR,hn,by rw[kE,Il];rfl,?_⟩;refine⟨C,_,_,["many"],rfl,hC.cls,hC.dO4,hp.len _ (by decide),hp.nb _ (by decide) _ _ _ _ ?_,hU _ ?_⟩
 ·simp only[gC,fX,ft,je,nu,du,bB,e6,l7,kZ,kY];rfl
 clear hU U;simp only[je,nu,ft,dk,lj,jL];subst_eqs;refine⟨C,_,_,.int (ay G:Nat),rfl,hC.cls,hC.length,(hp.look _ (by decide) _ _).trans rfl,c9 m G,ay G,rfl,by omega,by omega,λr bo=>⟨by rw[(iR r bo).1];omega,hn r bo⟩,gU _,?_⟩;refine⟨C,_,_,["many"],rfl,hC.cls,hC.QY,hp.len _ (by decide),hp.nb _ (by decide) _ _ _ _ ?_,hU _ ?_⟩
 ·simp only[gC,fX,ft,je,nu,du,bB,e6,l7,kZ,kY];rfl
 clear hU U;simp only[je,nu,ft,dk,lj,jL];nofun;refine⟨C,_,_,.lst false (av (bV m G)),rfl,hC.cls,hC.QY,(hp.look _ (by decide) _ _).trans rfl,?_⟩;nofun;refine⟨C,_,_,["many"],rfl,hC.cls,hC.size,hp.len _ (by decide),hp.nb _ (by decide) _ _ _ _ ?_,by rw[dk,dk];rfl⟩
 ·simp only[gC,fX,ft,je,nu,du,bB,e6,l7,kZ,kY];rfl
abbrev aG0(t:cH):aX:=λds Q=>∃(m:Bool × Nat) (G:List (List Nat)),ds=[fD t.a7 t.a8 m,.lst false (aL false G)]/\m∈aD/\RT (af m) (ay G) G/\1<=G.length/\G.length<=12/\2<=ay G/\ay G<=12/\Q (.bl true)
theorem aG1(T:Txt K mg t):aF P w K mg base aN 2 t.U4 t.U5 ["field","table"] (aY (aG0 t)):=by
 obtain⟨m,G,rfl,hm,hR,g1,zt,w2,YI,q⟩:bf T.W8.F Su "0Ēű>Đű>ƚİ)<Su.nd0<Uȩhn+ĒĨĐĨ(ȪdȫȬ<[width:2<ĕrć<[width row<2Wű*ĮƁuǠǡƻİţȭĕrć<[field row<ŰȮǢȯȭĜrć<[field x<2O$pċnXƯ(ư%nŒ";obtain⟨g,G',rfl⟩:∃g G',G=g::G':=by
  cases G with
  | nil=>exact absurd g1 (by decide)
  | cons g G'=>exact⟨g,G',rfl⟩
 subst_eqs;rw[if_neg (by omega),if_neg (by rw[jJ]at zt;omega)];refine hU _ ?_;clear hU U;subst_eqs;refine⟨.lst false (av g),yT false (T:=g::G') (i:=0) (FF _),?_⟩;show U [some (fD t.a7 t.a8 m),some (.lst false (aL false (g::G'))),some (.int ((av g).length:Nat))];have gl:(av g).length=ay (g::G'):=by rw[e7];rfl
 rw[gl];generalize g::G'=G at hR g1 zt w2 YI gl hU ⊢;refine hU _ ?_;clear hU U;subst_eqs;rw[if_neg (by omega),if_neg (by omega)];refine qv G (λ_=>D.bl false) (λr bo=>?_) (.inr λr _=>rfl) ?_
 ·have:=(hR r bo).1;nofun;rw[decide_eq_true (by omega)];rfl
 refine⟨G.map λ_=>false,by unfold mV;rw[cE];rfl,?_⟩;rw[if_neg (by simp)];refine hU _ ?_;clear hU U;nofun;refine qv G (λ_=>D.bl true) (λr bo=>?_) (.inr λr _=>rfl) ?_
 ·obtain⟨r1,r2⟩:=hR r bo;nofun;refine nq r (λ_=>D.bl true) (λi hi=>?_) (.inr λ_ _=>rfl) ?_
  ·have:=r2 i hi;nofun;refine B5 T m (.inl ⟨_,rfl,?_⟩);rw[decide_eq_true (by omega),decide_eq_true (by omega)];rfl
  ·refine⟨r.map λ_=>true,by unfold mV;rw[cE];rfl,?_⟩;simp
 ·refine⟨G.map λ_=>true,by unfold mV;rw[cE];rfl,?_⟩;rw[show(G.map λ_=>true).all id=true by simp];exact q
abbrev cE9(t:cH):aX:=λds Q=>∃(m:Bool × Nat) (G:List (List Nat)),ds=[fD t.a7 t.a8 m,.lst false (aL false G)]/\m∈aD/\G.length<=900/\RT (af m) (ay G) G/\ay G<=900/\Q (.int (c9 m G).length)
theorem cE2(T:Txt K mg t):aF P w K mg base aN 4 t.U6 t.U7 ["field","table"] (aY (cE9 t)):=by
 obtain⟨m,G,rfl,hm,hG,hR,hw,q⟩:bf T.W9.F cB8 "0Sȧ!ȨĳěnB";nofun;refine⟨m,G,rfl,hm,hG,hR,hw,?_⟩;dsimp only;rw[j8];exact q
abbrev aR5:aX:=λds Q=>∃c:List Nat,ds=[.lst false (av c)]/\c.length<=1000/\Q (.bl (nul c))
theorem YJ(T:Txt K mg t):aF P w K mg base aN 1 t.U8 t.U9 ["column"] (aY (aR5 )):=by
 obtain⟨c,rfl,hc,q⟩:bf T.Km.F aQ1 "0ţeĜŞĠĜ2JŕĮċnB";nofun;refine nq c (λ(x:Nat)=>D.bl (x==0)) (λx hx=>?_) (.inr λ_ _=>rfl) ?_
 ·nofun;congr 1;exact propext (by omega)
 dsimp only;refine⟨c.map (·==0),by unfold mV;rw[cE];rfl,?_⟩;rw[mj];exact q
abbrev K3(K:Frag):aX:=λds Q=>∃(C:Addr) (p a b:Nat),ds=[vS C p,.int a,.int b]/\cF K C/\bc K C "products"/\p∈ir/\a<af (true,p)/\b<af (true,p)/\Q (.int (gm (true,p) a b:Nat))
theorem YK(T:Txt K mg t):aF P w K mg base aN 1 t.JR t.Va ["self","a","b"] (aY (K3 K)):=by
 obtain⟨C,p,a,b,rfl,hC,hn,hp,ha,hb,q⟩:bf T.KA.F aF1 "0ĉC'`B";nofun;refine⟨C,_,_,_,rfl,hC,hn,rfl,?_⟩;exact⟨_,DJ hp ha,_,DI hp ha hb,rfl,q⟩
abbrev K4(K:Frag):aX:=λds Q=>∃(C:Addr) (p:Nat) (a b:Int),ds=[sA C p,.int a,.int b]/\cF K C/\bc K C "prime"/\0<p/\IntMulOk a b/\Q (.int (a*b%p))
theorem YL(T:Txt K mg t):aF P w K mg base aN 1 t.JS t.Vb ["self","a","b"] (aY (K4 K)):=by
 obtain⟨C,p,a,b,rfl,hC,hn,hp,hm,q⟩:bf T.KC.F ay5 "0Ƒı3Ī";nofun;exact⟨hm,C,_,_,.int p,rfl,hC,hn,rfl,by omega,q⟩
theorem cz3(T:Txt K mg t){m:Bool × Nat}(hm:m∈aD){a b:Nat}(ha:a<af m)(hb:b<af m){Q:D->Prop}(q:Q (.int (gm m a b:Nat))):Ia P w K mg base 1 t.a7 t.a8 m "times" [.int a,.int b] Q:=by
 have hF:=bX hm;obtain⟨k,n⟩:=m
 cases k with
 | true=>exact⟨_,_,_,K3 K,rfl,⟨T.eY,_,_,_,T.WC,YK T,T.KA.b⟩,by decide,_,n,a,b,rfl,T.eY,T.zi,vT hm,ha,hb,q⟩
 | false =>
  have qH:n<=64:=hF.hi;have rW:a<n:=ha;have lU:b<n:=hb;refine⟨_,_,_,K4 K,rfl,⟨T.fc,_,_,_,T.WI,YL T,T.KC.b⟩,by decide,_,n,a,b,rfl,T.fc,T.tw,by omega,gG.ok (.inr ⟨by omega,by omega⟩),?_⟩;have e:((gm (false,n) a b:Nat):Int)=(a:Int)*b%n:=by
   show((a*b%n:Nat):Int)=_;rw[oS,tU]
  rw[<-e];exact q
theorem cC5(T:Txt K mg t){m:Bool × Nat}(hm:m∈aD):∃C ns xs sp,fD t.a7 t.a8 m=.obj C ns xs/\iP P w K mg base 1 "times" C sp/\("times":Str) ∉ ns/\∀(a b:Nat) (Q:D->Prop),a<af m->b<af m->Q (.int (gm m a b:Nat))->sp [.obj C ns xs,.int a,.int b] Q:=by
 have hF:=bX hm;obtain⟨k,n⟩:=m
 cases k with
 | true=>exact⟨_,_,_,K3 K,rfl,⟨T.eY,_,_,_,T.WC,YK T,T.KA.b⟩,by decide,λa b Q ha hb q=>⟨_,n,a,b,rfl,T.eY,T.zi,vT hm,ha,hb,q⟩⟩
 | false =>
  have qH:n<=64:=hF.hi;refine⟨_,_,_,K4 K,rfl,⟨T.fc,_,_,_,T.WI,YL T,T.KC.b⟩,by decide,λa b Q ha hb q=>?_⟩;have rW:a<n:=ha;have lU:b<n:=hb;refine⟨_,n,a,b,rfl,T.fc,T.tw,by omega,gG.ok (.inr ⟨by omega,by omega⟩),?_⟩;have e:((gm (false,n) a b:Nat):Int)=(a:Int)*b%n:=by
   show((a*b%n:Nat):Int)=_;rw[oS,tU]
  rw[<-e];exact q
abbrev cw9(t:cH):aX:=λds Q=>∃(m:Bool × Nat) (c:List Nat) (os:List (List Nat)),ds=[fD t.a7 t.a8 m,.lst false (av c),.lst false (aL false os)]/\m∈aD/\nul c=false/\c.length<=64/\AllLt (af m) c/\RT (af m) c.length os/\os.length<=1000/\Q (.lst true (aL true (gX m c os)))
theorem cF8(T:Txt K mg t):aF P w K mg base aN 3 t.Vc t.Vd ["field","column","others"] (aY (cw9 t)):=by
 obtain⟨m,c,os,rfl,hm,hn,hc,K5,nk,hol,q⟩:bf T.Xa.F zc "01ƛ&e<[k x<Ą$ŮZ5<[k x<ĿXWǝňƗċhĽ.ƛ&j)ğ,$#CIƺŲƛĚcĝƜ6ƛt@ƛ&O=O=#C8Ė%$ƔƸŲ?-:ŗ#ŖƖ:-#4ŖŗƖFĘħi;{[";have dw:=(bX hm).lo;obtain⟨pl,pn⟩:=IH hn;have cp:=K5.getD (show 0<af m by omega) (a6 c);have cx:∃x∈c,x≠0:=⟨_,dR pl 0,pn⟩;subst_eqs;refine vY (aI c.length) (λ(i:Nat)=>D.tup [.int (i:Int),.int ((c.getD i 0:Nat):Int)]) (λ(i:Nat)=>D.int (i:Int)) (λi=>c.getD i 0 != 0) (DP c) (λa b h=>by injection h with h;simp at h;omega) (λi hi=>?_) (.inr λ_ _ _=>rfl) (by rw[bW,sL];omega) ?_
 ·nofun;refine⟨?_,λ_=>trivial⟩;by_cases h0:c.getD i 0=0
  ·rw[h0];rfl
  ·rw[decide_eq_false (by omega),bne_iff_ne.mpr h0];rfl
 dsimp only;refine⟨.int (a6 c:Nat),L3.HA (k:=0) (by rw[cy,P6 cx];rfl),rfl,hU _ ?_⟩;clear hU U;subst_eqs;refine⟨_,_,_,_,yQ _ _ m,YA T m,PB m _ (by decide),.int (c.getD (a6 c) 0:Nat),by rw[oy (by omega) (by omega),gr],m,1,c.getD (a6 c) 0,by rw[yQ];rfl,hm,dw,cp,λz=>absurd z pn,λ_ iv YM II=>?_⟩;have ei:oB m (c.getD (a6 c) 0)=iv:=DQ hm YM II;refine⟨rfl,hU _ ?_⟩;clear hU U;subst_eqs;refine⟨by decide,hU _ ?_⟩;clear hU U;subst_eqs;refine fm.mk (λi δ=>∃o6 o7,δ=[some (fD t.a7 t.a8 m),some (D.lst false (av c)),some (D.lst false (aL false os)),some (D.int (a6 c)),some (D.int iv),some (D.lst true (aL true (gX m c (os.take i)))),o6,o7]) ⟨_,_,rfl⟩ ?_ ?_
 ·rintro i d δ hd ⟨o6,o7,rfl⟩;obtain⟨hi,rfl⟩:=ci0 hd;clear hd hU;obtain⟨ol,oa⟩:=nk _ (eU hi);have op:=oa.getD (show 0<af m by omega) (a6 c);obtain⟨C,ns,xs,sp,e1,e2,e3,e4⟩:=Yw T hm;subst_eqs;obtain⟨C1,n1,x1,sp1,g1,g2,g3,g4⟩:=cC5 T hm;refine⟨C,ns,xs,sp,e1,e2,e3,C1,n1,x1,sp1,g1,g2,g3,.int (os[i].getD (a6 c) 0:Nat),by rw[oy (by omega) (by omega),gr],g4 _ iv _ op YM ⟨rfl,e4 os[i] c (gm m (os[i].getD (a6 c) 0) iv) _ (cR hm _ _) K5 (by omega) ⟨rfl,hU _ ?_⟩⟩⟩;clear hU;have ep:gX m c (os.take (i+1))=gX m c (os.take i)++[(dP (λx y=>bA m x (gm m (gm m (os[i].getD (a6 c) 0) iv) y)) os[i] c).take (a6 c)++(dP (λx y=>bA m x (gm m (gm m (os[i].getD (a6 c) 0) iv) y)) os[i] c).drop (a6 c+1)]:=by
   unfold gX;rw[tQ,aV hi,Ln,eV,dN,jK,ei]
  rw[ep];have ll:(dP (λx y=>bA m x (gm m (gm m (os[i].getD (a6 c) 0) iv) y)) os[i] c).length<=64:=by rw[oU];omega
  generalize dP (λx y=>bA m x (gm m (gm m (os[i].getD (a6 c) 0) iv) y)) os[i] c=lf at ll ⊢;have pl2:(gX m c (os.take i)).length<=1000:=by rw[IK,kg];omega
  nofun;rw[OR,show((a6 c:Int)+1)=((a6 c+1:Nat):Int) by omega,Dv];exact⟨⟨_,rfl⟩,by rw[kg,lh];omega,by omega,_,_,sP true _ [lf.take (a6 c)++lf.drop (a6 c+1)],rfl,rfl⟩
 ·rintro δ ⟨o6,o7,rfl⟩;refine hU _ ?_;nofun;rw[xh];exact q
def gg(o:Bool)(l:List Cs):List D:=l.map λs=>.tup [.lst o (av s.1),.lst o (aL o s.2)]
theorem YN(o:Bool)(l:List Cs):(gg o l).map D.sh=gg false l:=by
 unfold gg;rw[cE];refine tT λs _=>?_;show(D.tup [.lst o (av s.1),.lst o (aL o s.2)]).sh=_;rw[mI,dN,dN,jK,m9,dX,gn]
theorem cy0(l:List Cs):(gg false l).all D.pl=true:=by
 rw[cU];intro d hd;obtain⟨s,_,rfl⟩:=bE.mp hd;show(D.tup [.lst false (av s.1),.lst false (aL false s.2)]).pl=true;rw[kD,bB,bB,eO,eO,lW,lZ];rfl
theorem cf8(o:Bool)(a b:List Cs):gg o a++gg o b=gg o (a++b):=by unfold gg;rw[eV]
theorem cw6{o:Bool}{l:List Cs}{i:Nat}{d:D}(hd:(gg o l)[i]?=some d):∃hi:i<l.length,d=.tup [.lst o (av l[i].1),.lst o (aL o l[i].2)]:=by
 unfold gg at hd;rw[cy]at hd;by_cases hi:i<l.length
 ·rw[aV hi]at hd;exact⟨hi,(dr hd).symm⟩
 ·rw[gu (by omega)]at hd;cases hd
theorem cl2(o:Bool)(l:List Cs):eE 6 (.lst o (gg o l))=true:=by
 show(gg o l).all (eE 5)=true;rw[cU];intro d hd;obtain⟨s,_,rfl⟩:=bE.mp hd;show([D.lst o (av s.1),.lst o (aL o s.2)]).all (eE 4)=true;rw[bB,bB,Bh 3 o s.1,P2 2 o o s.2];rfl
theorem cc7{m:Bool × Nat}{c:List Nat}{os:List (List Nat)}{N:Nat}(h:∀o∈os,o.length<=N):∀x∈gX m c os,x.length<=N:=λx hx=>by
 obtain⟨o,ho,rfl⟩:=bE.mp hx;have:=h o ho;rw[dO,kg,lh,oU];omega
def k9(l:List Cs):Nat:=(l.map λs=>2 ^ s.2.length).sum
theorem K6(a b:List Cs):k9 (a++b)=k9 a+k9 b:=by unfold k9;rw[eV,List.sum_append]
theorem YO:∀l:List Cs,(dY l).length<=k9 l
 | []=>iT _
 | s::l=>by
  have ih:=YO l;have h1:=Nat.lt_two_pow_self (n:=s.2.length);show(fW s++dY l).length<=2 ^ s.2.length+k9 l;rw[dO,show(fW s).length=s.2.length by unfold fW;rw[bq,bW]];omega
theorem YQ(m:Bool × Nat)(w:Nat)(s:Cs):∀i,i<=s.2.length->k9 (((aI i).map λi=>(s,i)).map (gY m w))+2 ^ (s.2.length-i)=2 ^ s.2.length
 | 0,_=>Fx _
 | i+1,h=>by
  have ih:=YQ m w s i (by omega);rw[zO,eV,eV,K6];have e:k9 (([i].map λi=>(s,i)).map (gY m w))=2 ^ (s.2.length-(i+1)):=by
   show 2 ^ (gX m _ (s.2.drop (i+1))).length+0=_;rw[IK,lh];rfl
  rw[e];have:2 ^ (s.2.length-i)=2 ^ (s.2.length-(i+1))*2:=by rw[<-qQ];congr 1;omega
  omega
theorem YR(m:Bool × Nat)(w:Nat):∀l:List Cs,k9 ((dY l).map (gY m w))<=k9 l
 | []=>bR _
 | s::l=>by
  have ih:=YR m w l;have h1:=YQ m w s s.2.length (bR _);show k9 ((fW s++dY l).map (gY m w))<=2 ^ s.2.length+k9 l;rw[eV,K6];exact Nat.add_le_add (by rw[<-h1];exact Nat.le_add_right ..) ih
def c21:Option (List Nat)->D
 | some l=>.lst true (av l)
 | none=>.aA
abbrev aN0(t:cH):aX:=λds Q=>∃(m:Bool × Nat) (G:List (List Nat)),ds=[fD t.a7 t.a8 m,.lst false (aL false G)]/\m∈aD/\G.length<=64/\RT (af m) (ay G) G/\0<ay G/\ay G<=12/\Q (c21 (j9 m G))
theorem aN1(T:Txt K mg t):aF P w K mg base aN 4 t.Ve t.Vf ["field","table"] (aY (aN0 t)):=by
 obtain⟨m,G,rfl,hm,hG,hR,EW,hw,q⟩:bf T.Xb.F s9 "0)Ŋ&ƭ!ƮęyŊĚǐ!ǑęĎŧcW#ŀī.ŊĚyz(#Ɯ;6(ŊązĄ=Ů@v(ŊąŋŊ&-7-9'S=L0:Fŧ%KȰ!ȱTRgĴŋEMƙŋE<T.Xa0<!<cF81<DR=-:4ŖŗƖsĎĘįib1Ŋ&.E+ħŭGŢăŒ";have dw:=(bX hm).lo;subst_eqs;refine⟨G,rfl,by omega,λr bo=>by rw[(hR r bo).1];omega,hU _ ?_⟩;clear hU U;subst_eqs;refine⟨by decide,G,rfl,by omega,λr bo=>(hR r bo).1,by omega,by decide,by decide,hU _ ?_⟩;clear hU U;have Ls:=Lv.start hm EW hR;subst_eqs;refine⟨λn δ=>∃(l:List Cs) (k:Nat) (o4 o5 o6 o7 o8 o9:Option D),δ=[some (fD t.a7 t.a8 m),some (D.lst false (aL false G)),some (D.int (ay G)),some (D.lst true (gg true l)),o4,o5,o6,o7,o8,o9]/\Lv m (gZ G) (ay G) k l/\k+n=ay G+1/\v3 m (ay G) n l=j9 m G/\k9 l<=4096/\∀s∈l,∀r∈s.2,r.length<=64,⟨ay G+1,[([],dS G)],0,_,_,_,_,_,_,rfl,Ls,by omega,rfl,?_,λs hs r bo=>?_⟩,?_⟩
 ·show 2 ^ (dS G).length+0<=4096;rw[(D2 (by omega) EW hR).1];exact zC (by decide) hw
 ·rw[eT.mp hs]at bo;have:=((D2 (by omega) EW hR).2.2 r bo).1;omega
 rintro n δ ⟨l,k,o4,o5,o6,o7,o8,o9,rfl,L,hk,K7,hll,k7⟩;nofun;refine⟨by decide,⟨cl2 true l,rfl⟩,?_⟩;by_cases l0:l=[]
 ·subst l0;rw[show bS (D.lst true (gg true [])) (D.lst true [])=true from rfl,if_neg (by decide)];refine hU _ ?_;nofun;have e0:j9 m G=none:=by
   rw[<-K7]
   cases n with
   | zero=>rfl
   | succ n=>rfl
  rw[e0]at q;exact q
 have d0:bS (D.lst true (gg true l)) (D.lst true [])=false:=by
  cases l with
  | nil=>exact absurd rfl l0
  | cons s l=>rfl
 rw[d0,if_pos (by decide)];have K8:∀s∈l,iQ (ay G) s.1/\s.2.length<=12:=λs hs=>by
  have g:=(L.gs s hs).1;have gl:=g.le;exact⟨⟨g.inc,λx hx=>by have:=g.off x hx;omega⟩,by omega⟩
 obtain⟨n,rfl⟩:∃n',n=n'+1:=by
  cases n with
  | succ n=>exact⟨n,rfl⟩
  | zero =>
   exfalso
   cases l with
   | nil=>exact l0 rfl
   | cons s l =>
    have h1:=(K8 s (ke ..)).1.len;have h2:=(L.gs s (ke ..)).2;omega
 clear hU;have eh3:∀a,(dY (l.take a)).length<=4096:=λa=>by
  have h1:=YO (l.take a);have h2:=K6 (l.take a) (l.drop a);rw[FD]at h2;omega
 subst_eqs;refine⟨by decide,hU _ ?_⟩;clear hU;refine⟨_,rfl,?_⟩;rw[dX,YN];simp only[fP,du];subst_eqs;refine⟨cy0 l,?_⟩;rw[YN];refine fm.mk (λa δ=>(∀z∈dY (l.take a),qt z=false)/\∃o5 o6 o7 o8 o9,δ=[some (fD t.a7 t.a8 m),some (D.lst false (aL false G)),some (D.int (ay G)),some (D.lst false (gg false l)),some (D.lst true (gg true ((dY (l.take a)).map (gY m (ay G))))),o5,o6,o7,o8,o9]) ⟨λz hz=>absurd hz iD,_,_,_,_,_,rfl⟩ ?_ ?_
 ·rintro a d δ hd ⟨sT,o5,o6,o7,o8,o9,rfl⟩;obtain⟨ha,rfl⟩:=cw6 hd;clear hd hU;have hs:=eU ha;obtain⟨gs,gk⟩:=L.gs _ hs;obtain⟨hh,K9⟩:=gs.rt;have g6:=(K8 _ hs).2;have et:dY (l.take (a+1))=dY (l.take a)++fW l[a]:=by
   unfold dY;rw[tQ,aV ha,Ln,ZV,List.flatMap_cons,List.flatMap_nil,fY]
  rw[et];have YS:=eh3 (a+1);rw[et,dO]at YS;generalize hS:l[a]=s0 at hs gs gk K9 g6 et YS ⊢;have l1:(fW s0).length=s0.2.length:=by unfold fW;rw[bq,bW]
  nofun;refine fm.mk (λi δ=>(∀z∈(fW s0).take i,qt z=false)/\∃o7 o8 o9,δ=[some (fD t.a7 t.a8 m),some (D.lst false (aL false G)),some (D.int (ay G)),some (D.lst false (gg false l)),some (D.lst true (gg true ((dY (l.take a)++(fW s0).take i).map (gY m (ay G))))),some (D.lst false (av s0.1)),some (D.lst false (aL false s0.2)),o7,o8,o9]) ⟨λz hz=>absurd hz iD,_,_,_,by rw[List.take_zero,fY]⟩ ?_ ?_
  ·rintro i d δ hd ⟨B9,o7,o8,o9,rfl⟩;obtain⟨hi,rfl⟩:=P5 hd;clear hd;obtain⟨cl,ca⟩:=K9 _ (eU hi);have gc:s0.2.getD i []=s0.2[i]:=by rw[aT,aV hi];rfl
   have gle:=gs.le;have ei:(fW s0).take (i+1)=(fW s0).take i++[(s0,i)]:=by
    rw[tQ];congr 1;unfold fW;rw[cy,kj hi];rfl
   have hh6:hh<=64:=by have:=k7 _ hs _ (eU hi);omega
   have il1:=(K8 _ hs).1.len;simp only[iq,fP,du];subst_eqs;have eb:av s0.1++[D.int ((ay G:Int)-(s0.2.length:Int)+(i:Int))]=av (kT (ay G) (s0,i)):=by
    unfold kT;rw[cj,cj,eV];show _=_++[D.int ((ay G-s0.2.length+i:Nat):Int)];rw[show(ay G:Int)-(s0.2.length:Int)+(i:Int)=((ay G-s0.2.length+i:Nat):Int) by omega]
   rw[eb];refine⟨by decide,by omega,hU _ ?_⟩;clear hU;subst_eqs;refine⟨s0.2[i],rfl,by omega,nul s0.2[i],rfl,?_⟩
   cases hz:nul s0.2[i]with
   | true =>
    rw[if_pos rfl];have ef:j9 m G=some (kT (ay G) (s0,i)):=by
     rw[<-K7,v3,if_neg l0];have:(dY l).find? qt=some (s0,i):=by
      refine ZO.mpr ⟨by show nul (s0.2.getD i [])=true;rw[gc];exact hz,dY (l.take a)++(fW s0).take i,(fW s0).drop (i+1)++dY (l.drop (a+1)),?_,λz La=>?_⟩
      ·have e1:dY l=dY (l.take (a+1))++dY (l.drop (a+1)):=by
        conv=>lhs;rw[<-FD (a+1) l]
        unfold dY;rw[ZV]
       have e2:fW s0=(fW s0).take i++(s0,i)::(fW s0).drop (i+1):=by
        conv=>lhs;rw[<-FD (i+1) (fW s0),ei,dk]
        rfl
       rw[e1,et]
       conv=>lhs;rw[e2]
       simp only[dk,lj]
      ·have:=(cZ.mp La).elim (sT z) (B9 z);rw[this];rfl
     rw[this];rfl
    rw[ef]at q;exact q
   | false =>
    rw[if_neg (by decide)];refine hU _ ?_;clear hU;nofun;rw[show((i:Int)+1)=((i+1:Nat):Int) by omega,Dv,ei];refine⟨⟨_,rfl⟩,m,s0.2[i],s0.2.drop (i+1),rfl,hm,hz,by omega,ca,λr bo=>by rw[cl];exact K9 r (qX bo),by rw[lh];omega,by rw[kE,Il];rfl,by decide,?_,λz La=>?_,_,_,_,?_,rfl,rfl,rfl⟩
    ·unfold gg;rw[bq,bq,dO,kg];omega
    ·rcases cZ.mp La with y | y
     ·exact B9 z y
     ·rw[eT.mp y];show nul (s0.2.getD i [])=false;rw[gc];exact hz
    ·rw[<-dk,eV (l₁:=dY (l.take a)++(fW s0).take i),<- cf8];congr 1;show _=[D.tup [.lst true (av (gY m (ay G) (s0,i)).1),.lst true (aL true (gY m (ay G) (s0,i)).2)]];show _=[D.tup [.lst true (av (kT (ay G) (s0,i))),.lst true (aL true (gX m (s0.2.getD i []) (s0.2.drop (i+1))))]];rw[gc]
  ·rintro δ ⟨B9,o7,o8,o9,rfl⟩;rw[show(fE (aL false s0.2)).length=(fW s0).length by rw[jz,j8,l1],xh]at B9 ⊢;exact⟨λz hz=>(cZ.mp hz).elim (sT z) (B9 z),_,_,_,_,_,rfl⟩
 ·rintro δ ⟨sT,o5,o6,o7,o8,o9,rfl⟩;refine hU _ ?_;clear hU;rw[show(gg false l).length=l.length by unfold gg;rw[bq],xh]at sT ⊢;nofun;have hf:(dY l).find? qt=none:=LL.mpr λz hz=>by rw[sT z hz];decide
  refine⟨n,by omega,_,k+1,_,_,_,_,_,_,⟨rfl,rfl,rfl,rfl,rfl,rfl,rfl⟩,L.next hm (IQ hm hR) sT,by omega,?_,?_,λs hs r bo=>?_⟩
  ·rw[<-K7,v3,if_neg l0,hf]
  ·exact ff (YR m (ay G) l) hll
  ·obtain⟨z,hz,rfl⟩:=bE.mp hs;exact cc7 (λo ho=>k7 _ (yV.mp hz).1 o (qX ho)) r bo
abbrev bF0(t:cH):List D->List Str->List D->Prop:=λds ns xs=>∃(m:Bool × Nat) (G:List (List Nat)) (Fb:List Nat),ds=[fD t.a7 t.a8 m,.lst false (aL false G)]/\dU m G/\1<=G.length/\G.length<=12/\2<=ay G/\ay G<=12/\j9 m G=some Fb/\ns=(["field","length","check_rows","word_rows","message_places","size","bound"]:List Str)/\xs=l6 t.a7 t.a8 true m G++[.int (Fb.length:Nat)]
theorem YT(T:Txt K mg t):aF P w K mg base aN 5 t.JT t.Vg ["self","field","table"] (jF [] (y8 t.e8 (bF0 t))):=by
 obtain⟨rfl,rfl,rfl,zs,⟨m,G,Fb,rfl,hc,g1,zt,w2,w6,hF,rfl,rfl⟩,rfl⟩:Ej T.KD.F aF2 "2<T.W80<!<aG11<ƼěuƝťJ<T.W90<!<cE21<ƼěƞhLNťǣ!Ǥĩǥ(ƽ?ēIǦĬS<T.Xb0<!<aN11<ƼěnĭƋƾ";have hm:=hc.hm;have hG:=hc.rt;subst_eqs;refine⟨m,G,rfl,hm,hG,g1,zt,w2,by omega,true,rfl,rfl,hU _ ?_⟩;clear hU U;have nr:(c9 m G).length≠ay G:=λz=>by
  obtain⟨⟨Hd,I⟩,iR⟩:=hc.red;have:=I.IF hm iR;have h0:=hc.sz;unfold bV at h0;omega
 subst_eqs;refine⟨m,G,rfl,hm,by omega,hG,by omega,?_⟩;obtain⟨g,G',rfl⟩:∃g G',G=g::G':=by
  cases G with
  | nil=>exact absurd g1 (by decide)
  | cons g G'=>exact⟨g,G',rfl⟩
 refine⟨.lst false (av g),yT false (T:=g::G') (i:=0) (FF _),rV 5 ((c9 m (g::G')).length:Nat),?_⟩;rw[jy,e7];refine⟨decide_eq_false λz=>nr (Int.ofNat.inj z),hU _ ?_⟩;clear hU U nr;generalize g::G'=G at *;subst_eqs;refine⟨_,_,_,_,_,["many"],rfl,⟨m,G,rfl,⟨T.qF,T.XW,T.XX,T.XU,T.X0,T.XY,T.XZ⟩,.nil,hm,hG,by omega,by omega,rfl,rfl⟩,by simp only[kX,fX,gC,je,ft,du,fP,bB,e6,l7,kZ,kY];rfl,hU _ ?_⟩;clear hU U;nofun;refine⟨m,G,rfl,hm,by omega,hG,by omega,w6,?_⟩;rw[hF];nofun;refine⟨t.e8,_,_,["many"],rfl,T.qF,T.KJ,by decide,?_,?_⟩
 ·simp only[gC,fX,jL,l6,du,bB,e6,l7,kZ,kY];rfl
 ·rw[eV,wm,e7];rfl
abbrev aP4:aX:=λds Q=>∃(m:Bool × Nat) (a b:Nat),ds=[eG m,.int a,.int b]/\m∈aD/\a<af m/\b<af m/\Q (.int (gm m a b:Nat))
theorem YU(T:Txt K mg t):aF P w K mg base aN 1 t.Vh t.Vi ["_law_told_here","_law_a","_law_b"] (aY (aP4 )):=by
 obtain⟨m,a,b,rfl,hm,ha,hb,q⟩:bf T.Kn.F zd "0auƝƑıaĶ1Ɵ~cĐĨJȘŇ>1Ɵ&Ɠ#$KQ5ƟƐ$ƍJƇaǙī5Ɵ&Ɠ$aKQ)Ɵ&ș'ƍįGŢ1ľ";unfold eG at *;obtain⟨k,n⟩:=m;subst_eqs;have hF:=bX hm
 cases k with
 | false =>
  refine⟨_,rfl,false,rfl,?_⟩;have qH:n<=64:=hF.hi;have l2:2<=n:=hF.lo;have rW:a<n:=ha;have lU:b<n:=hb;rw[if_pos (by decide)];refine⟨gG.ok (.inr ⟨by omega,by omega⟩),_,rfl,by omega,?_⟩;have e:((gm (false,n) a b:Nat):Int)=(a:Int)*b%n:=by
   show((a*b%n:Nat):Int)=_;rw[oS,tU]
  rw[<-e];exact q
 | true =>
  refine⟨_,rfl,true,rfl,?_⟩;rw[if_neg (by decide)];have hp:=vT hm;have bp:=Pk n hp;have ET:=Pl n hp;have p0:n≠0:=λz=>by rw[z,pq]at ET;omega
  have G8:bl a<bl n:=by
   have:=fA.mpr (show a<2 ^ (bl n-1) from ha);omega
  have hy0:bl b<bl n:=by
   have:=fA.mpr (show b<2 ^ (bl n-1) from hb);omega
  refine hU _ ?_;clear hU U;subst_eqs;refine hU _ ?_;clear hU U;subst_eqs;refine⟨λm δ=>∃(x y z:Nat),δ=[some (.tup [.bl true,.int n]),some (.int (x:Nat)),some (.int (y:Nat)),some (.int (z:Nat))]/\z ^^^ md (cl x y) n=gm (true,n) a b/\bl x<bl n/\bl y<bl n/\m=bl y,
   ⟨bl b,a,b,0,rfl,by rw[qR];rfl,G8,hy0,rfl⟩,?_⟩
  rintro m δ ⟨x,y,z,rfl,inv,hx,hy,rfl⟩;nofun;split
  ·rename_i KW;have hp2:=iX (show y≠0 by omega);have EV:bl (y/2)=bl y-1:=cu9 y;have e1:((x:Int)*2 ^ (1:Int).toNat)=((2*x:Nat):Int):=by
    show(x:Int)*(2:Int) ^ 1=_;omega
   have e2:((y:Int)/2 ^ (1:Int).toNat)=((y/2:Nat):Int):=by
    show(y:Int)/(2:Int) ^ 1=_;omega
   have a1:qM (y:Int) 1=((y%2:Nat):Int):=by
    rw[show(1:Int)=((1:Nat):Int) from rfl,Nm,Nat.and_one_is_mod]
   have tm:=cu2 (y:=y) p0 hx;have tb:=cy1 p0 hx;clear hU;subst_eqs;have fin:∀z':Nat,z'=z ^^^ (if y%2=1 then x else 0)->U [some (.tup [.bl true,.int n]),some (.int x),some (.int y),some (.int z')]:=by
    intro z' hz;have eh7:z' ^^^ md (cl (if bl (2*x)=bl n then 2*x ^^^ n else 2*x) (y/2)) n=gm (true,n) a b:=by
     rw[hz,tO,<- tm];exact inv
    refine hU _ ?_;clear hU;subst_eqs;refine⟨⟨by decide,by simp only[jN];omega⟩,hU _ ?_⟩;clear hU;rw[e1];subst_eqs;have last:∀x':Nat,x'=(if bl (2*x)=bl n then 2*x ^^^ n else 2*x)->U [some (.tup [.bl true,.int n]),some (.int (x':Nat)),some (.int y),some (.int z')]:=by
     intro x' gA;refine hU _ ?_;nofun;exact⟨by decide,bl (y/2),by omega,x',y/2,z',⟨rfl,e2,rfl⟩,by rw[gA];exact eh7,by rw[gA];exact tb,by omega,rfl⟩
    refine⟨_,rfl,?_⟩;show(if(((bl (((2*x:Nat):Int)).natAbs:Nat):Int)=((bl ((n:Int)).natAbs:Nat):Int))then _ else _);rw[jN,jN];split
    ·rename_i hc;refine⟨_,rfl,?_⟩;have g:=last (2*x ^^^ n) (by rw[if_pos (by omega)]);rw[<-pz]at g;exact g
    ·rename_i hc;exact last (2*x) (by rw[if_neg (by omega)])
   rw[a1];split
   ·rename_i ES;have odd:y%2=1:=by omega
    have g:=fin (z ^^^ x) (by rw[if_pos odd]);rw[<-pz]at g;exact g
   ·rename_i ES;exact fin z (by rw[if_neg (by omega),nF])
  ·rename_i KW;have hy:y=0:=by omega
   subst hy;rw[cx7,Bd (by rw[pq];exact iX p0),nF]at inv;subst inv;refine hU _ ?_;nofun;exact q
def qI(g:Nat->Nat->Nat)(a:Nat):Nat->List Int->Nat->Option (List Int)
 | 0,_,_=>none
 | f+1,l,p=>if g p a=1 then some l else qI g a f (l++[((g p a:Nat):Int)]) (g p a)
def YV(m:Bool × Nat):Bool:=decide (1<=(fst m).toNat)&&decide ((fst m).toNat<af m)&&((aI ((fst m).toNat-1)).all λi=>match qI (gm m) (i+1) 64 [1] 1 with | none=>false | some l=>decide (l.length≠af m-1))&&decide (qI (gm m) (fst m).toNat 64 [1] 1=some (fl m))
theorem cL2:aD.all YV=true:=by decide +kernel
theorem cY1{m:Bool × Nat}(hm:m∈aD):∃s:Nat,1<=s/\s<af m/\(∀i,i<s-1->∃l,qI (gm m) (i+1) 64 [1] 1=some l/\l.length≠af m-1)/\qI (gm m) s 64 [1] 1=some (fl m):=by
 have h:=cU.mp cL2 m hm;simp only[YV,cA,cU,decide_eq_true_eq,cJ]at h;refine⟨_,h.1.1.1,h.1.1.2,λi hi=>?_,h.2⟩;have h3:=h.1.2 i hi
 cases e:qI (gm m) (i+1) 64 [1] 1 with
 | none=>rw[e]at h3;cases h3
 | some l=>rw[e]at h3;exact⟨l,rfl,of_decide_eq_true h3⟩
abbrev aN2:aX:=λds Q=>∃m:Bool × Nat,ds=[eG m]/\m∈aD/\Q (.lst true (aP (fl m)))
theorem aN3(T:Txt K mg t):aF P w K mg base aN 2 t.Vj t.Vk ["_law_told_here"] (aY (aN2 )):=by
 obtain⟨m,rfl,hm,q⟩:bf T.Xc.F Jx "0zH,ƿ!ǀDg%Ť5Ȳt)ȲƅcWȳ!ȴD'œ%C$s%>Ɔȳ!ȴD'œ%C$sĘ^ŢJƞL9ƿ!ǀDg%4N)EMįiǧm";have hF:=bX hm;have dw:=hF.lo;have tE:=hF.hi;have YW:=HZ m hm;obtain⟨st,s1,s2,s3,s4⟩:=cY1 hm;subst_eqs;refine⟨m,rfl,by omega,by omega,1,_,⟨rfl,rfl⟩,⟨by decide,by decide,by omega,by omega⟩,?_⟩;refine fm.mk (λi δ=>i<=st-1/\∃o1 o2,δ=[some (eG m),o1,o2]) ⟨by omega,none,none,rfl⟩ ?_ ?_
 ·rintro i d δ hd ⟨hi,o1,o2,rfl⟩;obtain⟨og,rfl⟩:=PN hd;rw[show(1:Int)+(i:Int)=((i+1:Nat):Int) by omega];clear hd;obtain⟨L,eL,hL⟩:∃L,qI (gm m) (i+1) 64 [1] 1=some L/\((i=st-1/\L=fl m)\/(i<st-1/\L.length≠af m-1)):=by
   by_cases YX:i=st-1
   ·exact⟨_,by rw[YX,show st-1+1=st by omega];exact s4,.inl ⟨YX,rfl⟩⟩
   ·obtain⟨l,h1,h2⟩:=s3 i (by omega);exact⟨l,h1,.inr ⟨by omega,h2⟩⟩
  subst_eqs;refine⟨by decide,hU _ ?_⟩;clear hU;subst_eqs;refine⟨λn δ=>∃(l:List Int) (p:Nat),δ=[some (eG m),some (.int ((i+1:Nat):Int)),some (.lst true (aP (l++[(p:Int)])))]/\p<af m/\l.length+n=64/\qI (gm m) (i+1) n (l++[(p:Int)]) p=some L,
   ⟨64,[],1,rfl,by omega,rfl,eL⟩,?_⟩
  rintro n δ ⟨l,p,rfl,hp,hl,he⟩;nofun;have ea:dW (aP (l++[(p:Int)])) (-1)=some (.int (p:Int)):=by rw[b34 (by rw[dO];show 0<l.length+1;omega),dO,nE,Nat.add_sub_cancel,aT,nB (bR _),zQ];rfl
  cases n with
  | zero=>cases he
  | succ n =>
   rw[qI]at he;refine⟨_,ea,m,p,i+1,rfl,hm,hp,by omega,rfl,rfl,?_⟩;rw[jy];by_cases c:gm m p (i+1)=1
   ·rw[if_pos c]at he;cases he;rw[decide_eq_true (by omega),if_neg (by decide)];refine hU _ ?_;nofun;refine⟨m,rfl,by omega,by omega,?_⟩;dsimp only;rcases hL with⟨h1,h2⟩ | ⟨h1,h2⟩
    ·have:=hF.len;rw[h2,if_pos (by omega)];exact q
    ·rw[if_neg (by omega)];exact⟨by omega,_,_,rfl,rfl⟩
   ·rw[if_neg c]at he;rw[decide_eq_false (by omega),if_pos (by decide)];exact⟨⟨_,rfl⟩,_,ea,m,p,i+1,rfl,hm,hp,by omega,rfl,by rw[dO];show l.length+1<_;omega,n,by omega,l++[(p:Int)],gm m p (i+1),by simp only[aP,eV,dN,jK],cR hm _ _,by rw[dO];show l.length+1+n=64;omega,he⟩
 ·rintro δ ⟨hi,_⟩;simp at hi;omega
abbrev aD6:aX:=λds Q=>∃(m:Bool × Nat) (n e f:Nat),ds=[eG m,.int n,.int e,.int f]/\m∈aD/\n<=64/\e<=64/\f<=64/\Q (.lst true (aL true (fJ m f (aI n) e)))
theorem YY(T:Txt K mg t):aF P w K mg base aN 3 t.Vl t.Vm ["_law_told_here","_law_length","_law_extra","_law_first"] (aY (aD6 )):=by
 obtain⟨m,n,e,f,rfl,hm,hn,he,hf,q⟩:bf T.Ko.F Er "0.ǨU<T.Xc0<!<aN31<Dŉ;ǨĚŃ'Ĕ6ǨUƲ;?<[_law_powers_here:4 _law_first:3 _law_i:6<ȝH$Ņ<[_law_powers_here _law_first _law_i _law_at<2*Ƒ-ıņ}0`ĈĘb;ľ";have hF:=bX hm;have dw:=hF.lo;have tE:=hF.hi;have hlen:=hF.len;subst_eqs;refine⟨m,rfl,hm,hU _ ?_⟩;clear hU U;subst_eqs;refine⟨by decide,hU _ ?_⟩;clear hU U;subst_eqs;refine⟨⟨by omega,by omega⟩,AN (λi δ=>∃(o1:Option D),δ=[some (eG m),some (.int n),some (.int e),some (.int f),some (.lst true (aP (fl m))),some (.lst true (aL true (fJ m f (aI n) i))),o1]) ⟨_,rfl⟩ ?_ ?_⟩
 ·rintro i δ hi ⟨o1,rfl⟩;simp only[gN,fP,du];clear hU;nofun;refine⟨⟨_,rfl⟩,⟨by omega,by omega⟩,sW n (λ(p:Nat)=>D.int ((eS m (((f:Int)+(i:Int))*(p:Int)):Nat):Int)) (λp hp=>?_) (.inr λ_ _=>rfl) ?_⟩
  ·have hp:=cJ.mp hp;have n0:=fO (((f:Int)+(i:Int))*(p:Int)) (show(af m:Int)-1≠0 by omega);have el:(((fl m).length:Nat):Int)=(af m:Int)-1:=by omega
   nofun;rw[el];refine⟨gG.ok (.inl ⟨by omega,by omega⟩),by omega,_,ph (d:=.int (eS m (((f:Int)+(i:Int))*(p:Int)):Nat)) n0 ?_,rfl,rfl⟩;unfold aP;rw[cy,PK hm];rfl
  ·refine⟨_,rfl,by rw[j8,(Eb hm f (aI n) i).2];omega,some (D.int i),?_⟩;rw[show fJ m f (aI n) (i+1)=fJ m f (aI n) i++[(aI n).map λ(p:Nat)=>eS m (((f:Int)+(i:Int))*(p:Int))] by unfold fJ;rw[zO,eV];rfl,<- sP,show((aI n).map λ(p:Nat)=>D.int ((eS m (((f:Int)+(i:Int))*(p:Int)):Nat):Int))=av ((aI n).map λ(p:Nat)=>eS m (((f:Int)+(i:Int))*(p:Int))) by rw[cj,cE];rfl];rfl
 ·rintro δ ⟨o1,rfl⟩;refine hU _ ?_;nofun;exact q
def wR(M n e f:Int):Prop:=2<=n/\n<=M-1/\1<=e/\e<=n-1/\0<=f/\f<=M-2
instance (M n e f:Int):Decidable (wR M n e f):=by unfold wR;infer_instance
abbrev aD7:aX:=λds Q=>∃(M n e f:Int),ds=[.int M,.int n,.int e,.int f]/\Q (.bl (decide (wR M n e f)))
theorem aD8(T:Txt K mg t):aF P w K mg base aN 1 t.Vn t.Vo ["many","length","extra","first"] (aY (aD7 )):=by
 obtain⟨M,n,e,f,rfl,q⟩:bf T.Xd.F aA1 "0ƌ$9Ģř%ƌ'ńř%ƌ#9ĢřŚǎB";nofun;have z:∀b:Bool,(b=true↔wR M n e f)->Q (.bl b):=λb h=>by rw[show b=decide (wR M n e f) by rw[qT,decide_eq_true_eq];exact h];exact q
 unfold wR at z
 repeat' split
 all_goals exact z _ (by simp only[decide_eq_true_eq,mh,false_iff];omega)
abbrev bL1(t:cH):List D->List Str->List D->Prop:=λds ns xs=>∃(m:Bool × Nat) (n e f:Nat),ds=[fD t.a7 t.a8 m,.int n,.int e,.int f]/\m∈aD/\2<=n/\n+1<=af m/\1<=e/\e+1<=n/\f+2<=af m/\ns=(["extra","first","field","length","check_rows","word_rows","message_places","size"]:List Str)/\xs=[.int e,.int f]++l6 t.a7 t.a8 true m (fJ m f (aI n) e)
theorem aI8(T:Txt K mg t):aF P w K mg base aN 5 t.JU t.JV ["self","field","length","extra","first"] (jF [] (y8 t.eR (bL1 t))):=by
 obtain⟨rfl,rfl,rfl,zs,⟨m,n,e,f,rfl,hm,h1,h2,h3,h4,h5,rfl,rfl⟩,rfl⟩:cA9 T.d48 SM "2<T.Xd0<!<aD81<TŌ$Ơ'#8ĲļťĬ#VĊ8Vĭ.<SM.nd0<&<[field:1 length:2 first:4<ǁH#Ņ<[field length first i<2<[field:0 first:2 i:3<ǏH$Ņ<[field first i j<2Of-ıņpĈXƯ(<cA7:iC<;ǣ!Ǥĩǥ(ƽ?$7IǦǩ<cU42<łł";have tE:=(bX hm).hi;subst_eqs;refine cL9 T m ⟨af m,n,e,f,rfl,?_⟩;rw[decide_eq_true (by unfold wR;omega)];refine⟨rfl,true,rfl,rfl,hU _ ?_⟩;clear hU U;subst_eqs;refine⟨t.eR,_,_,["many"],rfl,T.qG,T.X8,by decide,by simp only[kX,fX,gC,je,ft,du,fP,bB,e6,l7,kZ,kY];rfl,hU _ ?_⟩;clear hU U;subst_eqs;refine⟨t.eR,_,_,["many"],rfl,T.qG,T.Ya,by decide,by simp only[kX,fX,gC,je,ft,du,fP,bB,e6,l7,kZ,kY];rfl,hU _ ?_⟩;clear hU U;obtain⟨g1,g2,g3⟩:=Eh hm f n (show 1<=e by omega);subst_eqs;refine⟨⟨by omega,by omega⟩,sW e (λ(i:Nat)=>D.lst true (av ((aI n).map λ(p:Nat)=>eS m (((f:Int)+(i:Int))*(p:Int))))) (λi hi=>?_) (.inr λ_ _=>gU _) ?_⟩
 ·have hi:=cJ.mp hi;nofun;refine⟨⟨by omega,by omega⟩,sW n (λ(p:Nat)=>D.int ((eS m (((f:Int)+(i:Int))*(p:Int)):Nat):Int)) (λp De=>?_) (.inr λ_ _=>rfl) ?_⟩
  ·have:=cJ.mp De;nofun;obtain⟨C,ns,xs,sp,e1,e2,e3,e4⟩:=K0 T hm (n:=((f:Int)+(i:Int))*(p:Int)) (Q:=λr=>r=D.int ((eS m (((f:Int)+(i:Int))*(p:Int)):Nat):Int)) rfl;exact⟨C,ns,xs,sp,e1,e2,e3,gG.ok (.inl ⟨by omega,by omega⟩),e4⟩
  ·rw[cj,cE];rfl
 ·have e1:((aI e).map λ(i:Nat)=>D.lst true (av ((aI n).map λ(p:Nat)=>eS m (((f:Int)+(i:Int))*(p:Int)))))=aL true (fJ m f (aI n) e):=by
   unfold fJ aL;rw[cE];rfl
  rw[e1];refine hU _ ?_;clear hU U;nofun;refine⟨_,_,_,_,_,["many"],rfl,⟨m,fJ m f (aI n) e,rfl,⟨T.qG,T.X9,T.Yb,T.X7,T.Ye,T.Yc,T.Yd⟩,.two _ _,hm,by rw[g3];exact g1,by omega,by omega,rfl,rfl⟩,by simp only[kX,fX,gC,je,ft,du,fP,bB,e6,l7,kZ,kY];rfl,?_⟩;rw[wm];rfl
abbrev YZ(t:cH):aX:=λds Q=>∃(m:Bool × Nat) (G:List (List Nat)) (b:Nat),ds=[dM t m G (.jD b)]/\Q (.int (b:Nat))
theorem au5(T:Txt K mg t):aF P w K mg base aN 1 t.JW t.Vp ["self"] (aY (YZ t)):=by
 obtain⟨m,G,b,rfl,q⟩:bf T.XI.F at3 "03VB";nofun;exact⟨_,_,_,_,rfl,T.qF,T.KJ,rfl,rfl,q⟩
abbrev aI9(t:cH):aX:=λds Q=>∃(m:Bool × Nat) (n:Nat),ds=[fD t.a7 t.a8 m,.int n]/\m∈aD/\2<=n/\n<=24/\Q (.lst true (aL true (fK m n)))
theorem aJ0(T:Txt K mg t):aF P w K mg base aN 2 t.Vs t.Vt ["field","length"] (aY (aI9 t)):=by
 obtain⟨m,n,rfl,hm,h2,tF,q⟩:bf T.Xe.F SQ "0)<SQ.nd0<UO,,Ė+<[less_one:2 length:1<ǁHńơ<[less_one length i<2---Ħ'0ǘ0Ħ9ń'000*AȵFŪ";have m0:=cI m hm;have dw:=(bX hm).lo;obtain⟨C,ns,zs,sp,e1,e2,e3,e4⟩:=YH T m0;subst_eqs;refine⟨C,ns,zs,sp,e1,e2,e3,e4 0 1 _ ?_⟩;rw[(kL hm (show 0<af m by omega) (show 1<af m by omega)).1];refine hU _ ?_;clear hU U e1 e2 e3 e4;nofun;refine⟨⟨by omega,by omega⟩,oj (aI (n-1)) (λ(i:Nat)=>D.int (i:Int)) (λi=>D.lst true (av (kU m n i))) (Bj _ (by omega)) rY (λi hi=>?_) (.inr λ_ _=>gU _) (by rw[bW,sL];omega) ?_⟩
 ·have hi:=cJ.mp hi;nofun;unfold kU;have zn:∀k:Nat,aP (aM k (0:Int))=av (aM k 0):=λk=>by unfold av;rw[mn];rfl
  rw[gr,show((n:Int)-2-(i:Int)).toNat=n-2-i by omega,zn,zn,show [D.int 1]=av [1] from rfl,show [D.int ((bA m 0 1:Nat):Int)]=av [bA m 0 1] from rfl,om,om,om,lW,lW,e7,e7];simp only[dO,dE,nE];exact⟨by decide,⟨by omega,by omega,by omega⟩,by decide,by omega,by decide,⟨by omega,by omega,by omega⟩,⟨by omega,trivial⟩,by decide,⟨by omega,trivial⟩,trivial⟩
 ·rw[show((aI (n-1)).map λi=>D.lst true (av (kU m n i)))=aL true (fK m n) by unfold aL fK;rw[cE];rfl];exact q
abbrev Y0(t:cH):List D->List Str->List D->Prop:=λds ns xs=>∃(m:Bool × Nat) (n:Nat),ds=[fD t.a7 t.a8 m,.int n]/\m∈aD/\2<=n/\n<=24/\ns=wj/\xs=l6 t.a7 t.a8 true m (fK m n)
theorem aD9(T:Txt K mg t):aF P w K mg base aN 5 t.JX t.Vu ["self","field","length"] (jF [] (y8 t.fu (Y0 t))):=by
 obtain⟨rfl,rfl,rfl,zs,⟨m,n,rfl,hm,h2,tF,rfl,rfl⟩,rfl⟩:Ej T.XJ.F aA2 "2ĒĨĐĨƚťǣ!Ǥĩǥ(ƽ?$<T.Xe0<!<aJ01<ƉǂIǦǩƾ";obtain⟨g1,g2,g3⟩:=wk hm h2;subst_eqs;rw[if_neg (by omega),decide_eq_false (by omega)];refine⟨rfl,hU _ ?_⟩;clear hU U;nofun;refine⟨m,n,rfl,hm,h2,tF,?_⟩;nofun;refine⟨_,_,_,_,_,["many"],rfl,⟨m,fK m n,rfl,⟨T.BY,T.X2,T.X3,T.X1,T.X6,T.X4,T.X5⟩,.nil,hm,by rw[g3];exact g1,by omega,by omega,rfl,rfl⟩,by simp only[kX,fX,gC,je,ft,du,fP,bB,e6,l7,kZ,kY];rfl,?_⟩;rw[wm];rfl
abbrev Y1:aX:=λds Q=>∃(m:Bool × Nat) (n:Nat),ds=[eG m,.int n]/\m∈aD/\2<=n/\n<=24/\Q (.lst true (aL true (fK m n)))
theorem aw1(T:Txt K mg t):aF P w K mg base aN 1 t.Vv t.Vw ["_law_told_here","_law_length"] (aY (Y1 )):=by
 obtain⟨m,n,rfl,hm,h2,tF,q⟩:bf T.Xf.F Es "0)ǪĚŃńŅǪt.Ǫ&Ħ$Kƙo#āƙońāauƝƙ9aƈńāQƆ.EĘ^ōi){";have hF:=bX hm;have dw:=hF.lo;have tE:=hF.hi;subst_eqs;refine⟨by decide,hU _ ?_⟩;clear hU U;subst_eqs;refine⟨⟨by omega,by omega⟩,?_⟩;rw[show((n:Int)-1)=((n-1:Nat):Int) by omega];refine AN (λi δ=>∃(o1 o2:Option D),δ=[some (eG m),some (.int n),some (.lst true (aL true ((aI i).map (kU m n)))),o1,o2]) ⟨_,_,rfl⟩ ?_ ?_
 ·rintro i δ hi ⟨o1,o2,rfl⟩;simp only[gN,fP,du];clear hU;have up:∀v:Nat,v=bA m 0 1->((aM n 0).set i 1).set (n-1) v=kU m n i:=λv hv=>by
   have l1:(((aM n 0).set i 1).set (n-1) v).length=n:=by rw[iU,iU,dE]
   refine Bq l1 (by unfold kU;simp only[dO,dE,nE];omega) λk hk=>?_;rw[Eg hi];unfold cf;rw[aT,LQ,LQ,iU,dE,nC,if_pos hk];by_cases c1:k=i
   ·rw[if_neg (by omega),if_pos c1.symm,if_pos (by omega),if_pos c1];rfl
   ·by_cases c2:k=n-1
    ·rw[if_pos c2.symm,if_pos (by omega),if_neg c1,if_pos c2,hv];rfl
    ·rw[if_neg (λz=>c2 z.symm),if_neg (λz=>c1 z.symm),if_neg c1,if_neg c2];rfl
  subst_eqs;refine⟨by decide,⟨by omega,by omega,by omega⟩,hU _ ?_⟩;clear hU;rw[gr];subst_eqs;refine⟨_,i,rfl,vW (by omega) (by rw[lR,dE];omega),hU _ ?_⟩;clear hU;subst_eqs;have ix:∀v:Nat,ib (av (((aM n 0).set i 1).set (n-1) v)).length ((n:Int)-1)=some (n-1):=λv=>by
   rw[show((n:Int)-1)=((n-1:Nat):Int) by omega];exact vW (by omega) (by rw[e7,iU,iU,dE];omega)
  rw[show(aP (aM n 0)).set i (D.int 1)=av ((aM n 0).set i 1) by
   rw[cj];unfold aP;rw[xk,mn,mn];rfl]
  refine⟨_,n-1,rfl,by rw[<-ix 0,e7,e7,iU (i:=n-1)],hU _ ?_⟩;rw[show(av ((aM n 0).set i 1)).set (n-1) (D.int 1)=av (((aM n 0).set i 1).set (n-1) 1) by rw[cj,cj,xk (i:=n-1)];rfl];clear hU;rw[show eG m=D.tup [.bl m.1,.int (m.2:Nat)] from rfl];subst_eqs;have fin:∀v:Nat,v=bA m 0 1->U [some (D.tup [.bl m.1,.int (m.2:Nat)]),some (D.int n),some (D.lst true (aL true ((aI i).map (kU m n)))),some (D.int i),some (D.lst true (av (((aM n 0).set i 1).set (n-1) v)))]:=λv hv=>by
   rw[up v hv];refine hU _ ?_;nofun;refine⟨⟨_,rfl⟩,by rw[bq,bW];omega,_,_,?_,rfl,rfl⟩;rw[zO,eV];exact sP true _ [kU m n i]
  refine⟨_,rfl,_,rfl,?_⟩
  cases e:m.1 with
  | true =>
   rw[if_neg (by decide)];rw[e]at fin;exact fin 1 (by unfold bA gl;rw[e];rfl)
  | false =>
   have e2:af m=m.2:=by unfold af;rw[e];rfl
   rw[if_pos (by decide)];refine⟨_,rfl,?_⟩;dsimp only;refine⟨_,n-1,rfl,ix 1,?_⟩;rw[show(av (((aM n 0).set i 1).set (n-1) 1)).set (n-1) (D.int ((m.2:Nat)-1:Int))=av (((aM n 0).set i 1).set (n-1) (m.2-1)) by
    rw[cj,cj,xk (i:=n-1),xk (i:=n-1),xi,show((m.2-1:Nat):Int)=(m.2:Int)-1 by omega]]
   rw[e]at fin;refine fin (m.2-1) ?_;unfold bA gl;rw[e,if_neg (by decide),show(((0:Nat):Int)-((1:Nat):Int))=((m.2:Int)-1)+(m.2:Int)*(-1) by omega,Int.add_mul_emod_self_left,Cp (by omega) (by omega)];omega
 ·rintro δ ⟨o1,o2,rfl⟩;refine hU _ ?_;nofun;exact q
theorem EX{m:Bool × Nat}(hm:m∈aD){G:List (List Nat)}(hR:RT (af m) (ay G) G)(h:G.length<ay G)(hw:ay G<=64):dU m G:=by
 refine⟨hm,hR,by omega,hw,?_⟩;obtain⟨⟨H,I⟩,iR,_⟩:=nh hm hR;have f:=I.IF hm iR;have r:=cA1 hm hR hR λi hi=>by
  rw[aT,aV hi];exact cq.of (eU hi)
 unfold bV;omega
theorem cX3{m:Bool × Nat}(hm:m∈aD){G:List (List Nat)}(hR:RT (af m) (ay G) G)(h:G.length<ay G):∃Fb,j9 m G=some Fb:=by
 cases e:j9 m G with
 | some Fb=>exact⟨Fb,rfl⟩
 | none=>exact absurd (QN hm (by omega) hR e (aI (ay G)) (IT (bR _))) (IU hm hR (by rw[bW];exact h))
abbrev aR6(t:cH):aX:=λds Q=>∃(m:Bool × Nat) (ns:List Int),ds=[.fz (aP ns),eG m]/\m∈aD/\∀(G:List (List Nat)) (k:Kd),dU m G->1<=G.length->2<=ay G->ay G<=15->Jr m G k->Q (.tup [dM t m G k,.lst true (aL true G),.int (Ja G k:Nat)])
theorem aR7(T:Txt K mg t)(hB:Bm mg base):aF P w K mg base aN 11 t.Vx t.Vy ["_law_script","_law_told_here"] (vL [t.qD,t.qE] (aY (aR6 t))):=by
 obtain⟨m,ns,rfl,hm,q⟩:HR T.EH.F ka "4)kƿ!ǀęykƴ!Ŧ<aP02<Y<T.EG.g0<<T.EG.F.kp0<<T.EG.b0<Ć$Aȶ+.kȷ,]Ųkďų4K6kďųĹŸūĺ%0KlĻ>@k<T.W40<!<aD31<Ł7=Ƣlż4,Į%ŴŎŵ+vkǃȸ!ȹYȺȻĆ#eǄ(:ĠǄ2ĸ*ĥĈǂIŨ+RV@EŠRq<cl7:P:w:K:mg:base:n8<ŻƣĂĀlĻ>JĨƚǃ<T.d450<!<aD91<Y<T.d120<<T.XJ.b0<Ć#-ūIŨ<T.Xf0<!<aw11<w-ū]-7ƈŻƣMŋkų9ŇKlĻ>;kĹ79Ňĺ+6kĹ=9ūĺ+@kȼ!Ƚw7=ŏŬǃȸ!ȹYȺȻĆ#eǄ(:ĠǄ2ĸ*ĥĈǂIŨ@E-=ƈŻƣŒĀ;kďųĹŸŇĺ%0K6kďųĹŸūĺ%0Kǃ<T.d460<!<aI81<Y<T.d130<<T.d490<Ć#7=ŏŴŨȼ!Ƚw7=ŏĲ-=ƈŻƣŽōG";have hF:=bX hm;have dw:=hF.lo;have tE:=hF.hi;have YW:=HZ m hm;subst_eqs;refine⟨m,rfl,by omega,by omega,hU _ ?_⟩;clear hU U;subst_eqs;refine⟨m,rfl,hm,hU _ ?_⟩;clear hU U;subst_eqs;refine⟨ns,1,rfl,by decide,hU _ ?_⟩;clear hU U;generalize ns.getD (dZ 1) 0=kd;subst_eqs;refine⟨ns,2,rfl,by decide,by decide,?_⟩;obtain⟨n,en,xE,hn6⟩:∃k:Nat,2+ns.getD (dZ 2) 0%5=k/\2<=k/\k<=6:=⟨(2+ns.getD (dZ 2) 0%5).toNat,by omega,by omega,by omega⟩;rw[en];refine hU _ ?_;clear hU U en;subst_eqs;refine⟨ns,3,rfl,by decide,?_⟩;dsimp only;obtain⟨M,eM,M0,M1,M3⟩:∃M:Int,(if(n:Int)-1<3 then(n:Int)-1 else 3)=M/\0<M/\M<=(n:Int)-1/\M<=3:=⟨_,rfl,by split<;>omega,by split<;>omega,by split<;>omega⟩;rw[eM];refine⟨M0,?_⟩;obtain⟨e,ee,he1,hen,he3⟩:∃k:Nat,1+ns.getD (dZ 3) 0%M=k/\1<=k/\k+1<=n/\k<=3:=by
  have n0:=fO (ns.getD (dZ 3) 0) (show M≠0 by omega);have n1:=g9 (ns.getD (dZ 3) 0) M0;exact⟨(1+ns.getD (dZ 3) 0%M).toNat,by omega,by omega,by omega,by omega⟩
 rw[ee];refine hU _ ?_;clear hU U ee eM M0 M1 M3 M;subst_eqs;refine⟨by decide,?_⟩;split
 ·clear hU;subst_eqs;refine⟨ns,4,rfl,by decide,jv (by decide) (by decide),by decide,af m,n,e,_,_,rfl,by omega,by omega,by omega,by omega,λG lG hG=>⟨rfl,hU _ ?_⟩⟩;clear hU U;have wG:ay G=n:=Bt hG λz=>by rw[z]at lG;exact absurd lG (by show ¬ 0=e;omega)
  rw[<-wG]at hG xE hn6 hen;subst_eqs;refine qv G (λr=>D.lst true (av r)) (λr bo=>?_) (.inr λr _=>gU r) ?_
  ·nofun
  obtain⟨Fb,eF⟩:=cX3 hm hG (by omega);rw[show((D.lst true (tS (λr=>D.lst true (av r)) G)).sh)=D.lst false (aL false G) from by rw[dX];exact congrArg _ (gn true G)];have cG:=EX hm hG (by omega) (by omega);refine⟨by rw[eO,lZ];rfl,_,_,⟨m,G,Fb,rfl,cG,by omega,by omega,by omega,by omega,eF,rfl,rfl⟩,?_⟩;rw[eV,wm];show U [some (D.fz (aP ns)),some (eG m),some (D.int (af m)),some (fD t.a7 t.a8 m),some (D.int kd),some (D.int n),some (D.int e),some (D.lst true (aL true G)),some (dM t m G (.jD Fb.length)),none];refine hU _ ?_;clear hU U;nofun;exact⟨rfl,_,_,_,YZ t,rfl,⟨T.qF,_,_,_,T.d27,au5 T,T.XI.b⟩,by decide,m,G,_,rfl,by decide,q G (.jD Fb.length) cG (by omega) (by omega) (by omega) ⟨(IS hm (by omega) hG eF).2.1,ff (IS hm (by omega) hG eF).1.len (by omega)⟩⟩
 refine hU _ ?_;clear hU U;subst_eqs;refine⟨by decide,?_⟩;have rp:∃ns xs,Y0 t [fD t.a7 t.a8 m,D.int ((n:Int)+1)] ns xs/\Y1 [eG m,D.int ((n:Int)+1)] λd=>0+1+1+1<=16777216/\Q (D.tup [D.obj t.fu ns (tS D.sh xs),d,D.int ((n:Int)+1)]):=by
  refine⟨_,_,⟨m,n+1,rfl,hm,by omega,by omega,rfl,rfl⟩,m,n+1,rfl,hm,by omega,by omega,by decide,?_⟩;obtain⟨r1,r2,r3⟩:=wk hm (show 2<=n+1 by omega);rw[wm];have:=q (fK m (n+1)) .rep (EX hm (by rw[r3];exact r1) (by omega) (by omega)) (by omega) (by omega) (by omega) ⟨n+1,by omega,rfl⟩;rw[show Ja (fK m (n+1)) .rep=n+1 from r3]at this;exact this
 split
 ·exact rp
 split
 ·exact rp
 refine hU _ ?_;clear hU U rp;rename_i hk2;have hM3:3<=af m:=by omega
 subst_eqs;refine⟨ns,4,rfl,by decide,?_⟩;dsimp only;obtain⟨f,ef,hf⟩:∃f:Nat,ns.getD (dZ 4) 0%((af m:Int)-1)=f/\f+2<=af m:=by
  have n0:=fO (ns.getD (dZ 4) 0) (show(af m:Int)-1≠0 by omega);have n1:=g9 (ns.getD (dZ 4) 0) (show 0<(af m:Int)-1 by omega);exact⟨(ns.getD (dZ 4) 0%((af m:Int)-1)).toNat,by omega,by omega⟩
 rw[ef];refine⟨by omega,hU _ ?_⟩;clear hU U ef;subst_eqs;refine⟨by decide,?_⟩;split
 ·clear hU;subst_eqs;obtain⟨n',en,ej7,hnM⟩:∃k:Nat,(if(af m:Int)-1<n then(af m:Int)-1 else n)=k/\2<=k/\k<=6/\k+1<=af m:=⟨(if(af m:Int)-1<n then(af m:Int)-1 else n).toNat,by split<;>omega,by split<;>omega,by split<;>omega,by split<;>omega⟩;rw[en];refine hU _ ?_;clear hU U en;subst_eqs;obtain⟨e',ee,ej9,ek0⟩:∃k:Nat,(if(n':Int)-1<e then(n':Int)-1 else e)=k/\1<=k/\k+1<=n':=⟨(if(n':Int)-1<e then(n':Int)-1 else e).toNat,by split<;>omega,by split<;>omega,by split<;>omega⟩;rw[ee];refine hU _ ?_;clear hU U ee;subst_eqs;refine⟨m,n',e',f,rfl,hm,by omega,by omega,by omega,hU _ ?_⟩;clear hU U;obtain⟨g1,g2,g3⟩:=Eh hm f n' (show 1<=e' by omega);have g4:RT (af m) (ay (fJ m f (aI n') e')) (fJ m f (aI n') e'):=by rw[g3];exact g1
  have eF:j9 m (fJ m f (aI n') e')=some (aI (e'+1)):=by rw[(cB0 hm (f:=f) (e:=e') (by omega)).first hm (by omega) g3,if_pos (by omega)]
  have cG:=EX hm g4 (by omega) (by omega);generalize fJ m f (aI n') e'=G at *;nofun;refine qv G (λr=>D.lst true (av r)) (λr bo=>?_) (.inr λr _=>gU r) ?_
  ·nofun
  rw[show((D.lst true (tS (λr=>D.lst true (av r)) G)).sh)=D.lst false (aL false G) from by rw[dX];exact congrArg _ (gn true G)];refine⟨by rw[eO,lZ];rfl,_,_,⟨m,G,aI (e'+1),rfl,cG,by omega,by omega,by omega,by omega,eF,rfl,rfl⟩,?_⟩;dsimp only[oW,oV];rw[eV,wm];have:=q G (.jD (aI (e'+1)).length) cG (by omega) (by omega) (by omega) ⟨by rw[bW];omega,by rw[bW];omega⟩;rw[show Ja G (.jD (aI (e'+1)).length)=e'+1 from bW]at this;exact⟨by decide,this⟩
 refine hU _ ?_;clear hU U;subst_eqs;refine⟨ns,2,rfl,by decide,?_⟩;dsimp only;obtain⟨M,eM,M0,M1,M3⟩:∃M:Int,(if(af m:Int)-2<14 then(af m:Int)-2 else 14)=M/\0<M/\M<=(af m:Int)-2/\M<=14:=⟨_,rfl,by split<;>omega,by split<;>omega,by split<;>omega⟩;rw[eM];refine⟨M0,?_⟩;obtain⟨n',en,ej7,ez1,hnM⟩:∃k:Nat,2+ns.getD (dZ 2) 0%M=k/\2<=k/\k<=15/\k+1<=af m:=by
  have n0:=fO (ns.getD (dZ 2) 0) (show M≠0 by omega);have n1:=g9 (ns.getD (dZ 2) 0) M0;exact⟨(2+ns.getD (dZ 2) 0%M).toNat,by omega,by omega,by omega,by omega⟩
 rw[en];refine hU _ ?_;clear hU U en eM M0 M1 M3 M;subst_eqs;refine⟨ns,3,rfl,by decide,?_⟩;dsimp only;obtain⟨M,eM,M0,M1⟩:∃M:Int,(if(n':Int)-1<6 then(n':Int)-1 else 6)=M/\0<M/\M<=(n':Int)-1:=⟨_,rfl,by split<;>omega,by split<;>omega⟩;rw[eM];refine⟨M0,?_⟩;obtain⟨e',ee,ej9,ek0⟩:∃k:Nat,1+ns.getD (dZ 3) 0%M=k/\1<=k/\k+1<=n':=by
  have n0:=fO (ns.getD (dZ 3) 0) (show M≠0 by omega);have n1:=g9 (ns.getD (dZ 3) 0) M0;exact⟨(1+ns.getD (dZ 3) 0%M).toNat,by omega,by omega,by omega⟩
 rw[ee];refine hU _ ?_;clear hU U ee eM M0 M1 M;nofun;refine⟨_,_,⟨m,n',e',f,rfl,hm,by omega,by omega,by omega,by omega,by omega,rfl,rfl⟩,m,n',e',f,rfl,hm,by omega,by omega,by omega,by decide,?_⟩;rw[eV,wm];obtain⟨g1,g2,g3⟩:=Eh hm f n' (show 1<=e' by omega);exact q (fJ m f (aI n') e') (.oF e' f) (EX hm (by rw[g3];exact g1) (by omega) (by omega)) (by omega) (by omega) (by omega) ⟨n',by omega,by omega,rfl⟩
abbrev aE0(t:cH):aX:=λds Q=>∃(m:Bool × Nat) (G:List (List Nat)) (k:Kd) (l:List Nat),ds=[dM t m G k,.lst false (av l)]/\dU m G/\l.length=ay G/\Q (.lst true (av ((bV m G).map λp=>l.getD p 0)))
theorem aE1(T:Txt K mg t):aF P w K mg base aN 1 t.BM t.Vz ["self","word"] (aY (aE0 t)):=by
 obtain⟨m,G,k,l,rfl,hc,ll,q⟩:bf T.XM.F aA3 "0<[word:1<ů(3ć<[word place<2Ƅė";have hw:=hc.sV;have hf:=hc.vZ;nofun;refine cc3 T m G k ⟨_,rfl,?_⟩;refine nq (bV m G) (λp=>D.int ((l.getD p 0:Nat):Int)) (λp hp=>?_) (.inr λ_ _=>rfl) ?_
 ·have:=cM0 hp;nofun;exact⟨_,oy (by omega) (by omega),rfl,by rw[gr]⟩
 ·rw[show((bV m G).map λp=>D.int ((l.getD p 0:Nat):Int))=av ((bV m G).map λp=>l.getD p 0) by rw[cj,cE];rfl];exact q
abbrev an5(t:cH):gQ:=λds Q Ex=>∃(m:Bool × Nat) (y:List (Option Int)),ds=[fD t.a7 t.a8 m,.lst false (cP y)]/\m∈aD/\y.length<=64/\((∀i,i<y.length->k6 m (y.getD i none)=true)->Q .aA)/\(∀j,jg (k6 m) y j->Ex ⟨t.fM,some ("place",j)⟩)
theorem an6(T:Txt K mg t):aF P w K mg base (gz P w) 3 t.VA t.VB ["field","signs"] (iN (an5 t )):=by
 obtain⟨m,y,rfl,hm,hy,q,qx⟩:n8 T.EI.F SX "1ǿĄ$ſ(<SX.nd0<ąƹ#|O#pļŘƩȀȁ!ȂĩȃĆž'AȄQb^";nofun;refine⟨oK y,?_⟩;refine fm.mk (λj δ=>(∀i,i<j->k6 m (y.getD i none)=true)/\∃o1 o2,δ=[some (fD t.a7 t.a8 m),some (D.lst false (cP y)),o1,o2]) ⟨λi hi=>absurd hi (LR i),_,_,rfl⟩ ?_ ?_
 ·rintro j d δ hd ⟨hb,o1,o2,rfl⟩;obtain⟨h1,rfl⟩:=Rn hd;have eg:y.getD j none=y[j]:=by rw[aT,aV h1];rfl
  have nx:k6 m y[j]=true->∀i,i<j+1->k6 m (y.getD i none)=true:=λh i hi=>by
   by_cases c:i<j
   ·exact hb i c
   ·rw[show i=j by omega,eg];exact h
  have bd:k6 m y[j]=false->Ex ⟨t.fM,some ("place",(j:Int))⟩:=λh=>qx j ⟨hb,h1,by rw[eg];exact h⟩;clear hd eg;generalize y[j]=o at nx bd ⊢;unfold iq;nofun
  cases o with
  | none=>rw[if_neg (by decide)];exact⟨nx rfl,_,_,rfl,rfl⟩
  | some i =>
   rw[if_pos (by rfl)];refine B5 T m (.inl ⟨i,rfl,rfl,_,rfl,?_⟩)
   cases h:k6 m (some i)with
   | true=>rw[if_neg (by rw[show(decide (0<=i)&&decide (i<(af m:Nat)))=true from h];decide)];exact⟨nx h,_,_,rfl,rfl⟩
   | false=>rw[if_pos (by rw[show(decide (0<=i)&&decide (i<(af m:Nat)))=false from h];decide)];exact⟨by omega,by omega,bd h⟩
 ·rintro δ ⟨hb,o1,o2,rfl⟩;rw[jz,jG]at hb;exact q hb
abbrev aN4:aX:=λds Q=>∃(l:List Nat),ds=[.lst false (av l)]/\l.length<=1000/\Q (.lst true [])
theorem Y2(T:Txt K mg t):aF P w K mg base aN 1 t.VC t.VD ["signs"] (aY (aN4 )):=by
 obtain⟨l,rfl,hl,q⟩:bf T.Kp.F aM3 "0e<[place sign<Ą*ŮZ5<[place sign<ĿXŐ$|ňƗė";nofun;refine vY (aI l.length) (λ(i:Nat)=>D.tup [.int (i:Int),.int ((l.getD i 0:Nat):Int)]) (λ(i:Nat)=>D.int (i:Int)) (λ_=>false) (DP l) (λa b h=>by injection h with h;simp at h;omega) (λi hi=>?_) (.inr λ_ _ _=>rfl) (by rw[bW,sL];omega) ?_
 ·nofun;exact λz=>nomatch z
 ·rw[LO.mpr λ_ _=>ji];exact q
abbrev az1:aX:=λds Q=>∃(l:List Nat),ds=[.lst false (av l)]/\l.length<=1000/\Q (.lst true (av l))
theorem Y3(T:Txt K mg t):aF P w K mg base aN 1 t.VE t.VF ["signs"] (aY (az1 )):=by
 obtain⟨l,rfl,hl,q⟩:bf T.Kq.F ay6 "0eƤŞĠƤ2Ő*|oƗƂė";nofun;refine nq l (λi=>D.int (i:Int)) (λi hi=>?_) (.inr λ_ _=>rfl) ?_
 ·nofun
 ·rw[cj]at q;exact q
abbrev aR8(t:cH):aX:=λds Q=>∃(m:Bool × Nat) (G:List (List Nat)) (c:List Nat),ds=[fD t.a7 t.a8 m,.lst false (aL false G),.lst false (av c)]/\m∈aD/\RT (af m) c.length G/\AllLt (af m) c/\c.length<=64/\G.length<=64/\Q (.lst true (av (G.map λr=>gd m r c)))
theorem Y4(T:Txt K mg t):aF P w K mg base aN 2 t.VG t.VH ["field","table","column"] (aY (aR8 t)):=by
 obtain⟨m,G,c,rfl,hm,hR,hc,fF,hG,q⟩:bf T.Kr.F aQ2 "0<[column:2 field:0<ĕrş)<[column field row<2Š$q'*Ėė";have dw:=(bX hm).lo;obtain⟨C,ns,xs,sp,e1,e2,e3,e4⟩:=KY T hm;nofun;refine qv G (λr=>D.int ((gd m r c:Nat):Int)) (λr bo=>?_) (.inr λr _=>rfl) ?_
 ·nofun;exact⟨C,ns,xs,sp,e1,e2,e3,e4 _ _ _ (hR r bo).1 (by rw[(hR r bo).1];exact fF) (hR r bo).2 hc rfl⟩
 ·rw[cj,cE]at q;exact q
theorem ch9(o:Bool){T:List (List Nat)}{i:Nat}(h:i<T.length):dW (aL o T) (i:Int)=some (.lst o (av (T.getD i []))):=by
 rw[yT o h,aT,aV h];rfl
abbrev aR9:aX:=λds Q=>∃(f:D) (xs:List D),ds=[f,.lst false xs,.lst false []]/\Q (.lst false xs)
theorem aS0(T:Txt K mg t):aF P w K mg base aN 1 t.VI t.VJ ["field","columns","lost"] (aY (aR9 )):=by
 obtain⟨f,xs,rfl,q⟩:bf T.Xg.F S3 "0zĝƜ1<S3.nd0<tČi5Em";subst_eqs;refine fm.mk (λj δ=>∃o1:Option D,δ=[some f,some (D.lst false xs),some (D.lst false []),o1]) ⟨_,rfl⟩ ?_ ?_
 ·rintro j d δ hd _;cases j<;>cases hd
 ·rintro δ ⟨o1,rfl⟩;refine hU _ ?_;nofun;exact q
abbrev aG2:aX:=λds Q=>∃(f cs k:D) (n:Nat),ds=[f,cs,.lst false (av (aM n 0)),k]/\n<=1000/\Q (.lst true [])
theorem aG3(T:Txt K mg t):aF P w K mg base aN 2 t.VL t.VM ["field","columns","due","most"] (aY (aG2 )):=by
 obtain⟨f,cs,k,n,rfl,hn,q⟩:bf T.Xh.F aF3 "0Ȱ!ȱŁgĴŀMČG";subst_eqs;refine⟨_,rfl,by rw[dE];omega,true,?_,?_⟩
 ·rw[show nul (aM n 0)=true by unfold nul;rw[cU];intro x hx;rw[(qW.mp hx).2];rfl]
 ·rw[if_pos rfl];exact⟨by decide,q⟩
abbrev an7(t:cH):aX:=λds Q=>∃(m:Bool × Nat) (T:List (List Nat)) (k:Nat),ds=[fD t.a7 t.a8 m,.lst false (aL false T),.lst false [],.lst false (av (aM T.length 0)),.int k]/\m∈aD/\0<ay T/\ay T<=64/\RT (af m) (ay T) T/\T.length<=64/\Q (.lst true [])
theorem an8(T:Txt K mg t):aF P w K mg base aN 3 t.VN t.VO ["field","table","lost","sums","most"] (aY (an7 t)):=by
 obtain⟨m,T,k,rfl,hm,hw,EY,hT,EZ,q⟩:bf T.Xu.F Et "0;ǫU<T.Xg0<!<aS01<Dǐ!Ǒę1EŧȠǂ'sŲ6ǫU<[lost:2<ůH9S7L4Ĕ5<[lost place<ŰXȣƃǞǟňđĈ+6@ǫ&<T.Xh0<!<aG31<D<[columns:5<ů(=ć<[columns place<2Ƅċ7œ%C8ŬŐ:|ă<[others:6<<[number<(:ć<[others number<2ƄĈƂmŭGŭG";have dw:=(bX hm).lo;obtain⟨t1,t2,t3⟩:=D2 (N:=af m) (by omega) hw hT;subst_eqs;refine⟨T,rfl,by omega,λr hr=>(hT r hr).1,by omega,?_⟩;have Y5:(aL true (dS T)++[D.lst false (av (aM T.length 0))]).map D.sh=aL false (dS T++[aM T.length 0]):=by
  rw[eV,gn,show [D.lst false (av (aM T.length 0))].map D.sh=aL false [aM T.length 0] by rw[ZS,m9];rfl,sP]
 have lc:(dS T++[aM T.length 0]).length=ay T+1:=by rw[dO,t1];rfl
 refine⟨by decide,_,_,rfl,rfl,by rw[j8,t1];show ay T+1<=_;omega,_,_,rfl,?_⟩;rw[Y5,gn];refine⟨by rw[lZ];rfl,hU _ ?_⟩;clear hU U Y5;refine⟨_,rfl,?_⟩;rw[dX,gn];have la:=cc2 false (dS T) (aM T.length 0);generalize dS T++[aM T.length 0]=C at lc la ⊢;subst_eqs;refine⟨⟨by omega,by omega⟩,vY (aI (ay T)) (λ(i:Nat)=>D.int (i:Int)) (λ(i:Nat)=>D.int (i:Int)) (λp=>true) (Bj _ (by omega)) rY (λj hj=>?_) (.inr λ_ _ _=>rfl) (by rw[bW,sL];omega) ?_⟩
 ·nofun;exact⟨[],rfl,rfl,λ_=>trivial⟩
 rw[Fq.mpr λ_ _=>rfl,<- cj];dsimp only[fP,du];refine hU _ ?_;clear hU U;refine⟨_,rfl,?_⟩;rw[m9];refine au λU hU=>?_;dsimp only[mP,mO,pJ,mL,pI,oW,oV,fP,du];unfold mQ rF;dsimp only[mL,oW,oV,jt];refine⟨_,rfl,nq (aI (ay T)) (λp=>D.lst false (av (C.getD p []))) (λp hp=>?_) (.inl ?_) ?_ (by rw[bW];omega)⟩
 ·have:=cJ.mp hp;nofun;exact⟨_,ch9 false (by omega),by rw[eO,lW];rfl,rfl⟩
 ·show((D.lst false (av _)).pl&&((D.lst false (aL false C)).pl&&true))=true;rw[eO,eO,lW,lZ];rfl
 nofun;refine⟨_,la,_,_,_,_,by rw[m9],by omega,rfl,hU _ ?_⟩;clear hU U;nofun;exact nq [] (λ_=>D.aA) (λ_ h=>nomatch h) (.inr λ_ h=>nomatch h) q (by decide)
abbrev aT4(t:cH):aX:=λds Q=>∃(m:Bool × Nat) (T:List (List Nat)) (room:Nat) (l:List Nat),ds=[fD t.a7 t.a8 m,.lst false (aL false T),.int room,.lst false (av l)]/\m∈aD/\0<ay T/\ay T<=64/\RT (af m) (ay T) T/\T.length<=64/\AllLt (af m) l/\l.length=ay T/\1<=room/\room<=15/\(∀r∈T,gd m r l=0)/\Q (.lst true (av l))
theorem aT5(T:Txt K mg t):aF P w K mg base aN 4 t.VP t.VQ ["field","table","room","word"] (aY (aT4 t)):=by
 obtain⟨m,T,room,l,rfl,hm,hw,EY,hT,EZ,hl,ll,r1,r15,hz,q⟩:bf T.Xi.F ze "0.ƥȾ!ȿĞŉȕS8L'NŶ;ƥɀ!ɁĞŉ6ƥɂ!Ƀĳ7s+@ƥ<T.Xu0<!<an81<ĳ8=Ƴ99ŇS8L04ŴŎɄ+Ő:|Ŷvƥ-8:KJRŀī;EMČōō";subst_eqs;refine⟨l,rfl,by omega,hU _ ?_⟩;clear hU U;subst_eqs;rw[if_neg (by omega)];refine hU _ ?_;clear hU U;subst_eqs;refine⟨l,rfl,by omega,hU _ ?_⟩;clear hU U;subst_eqs;refine⟨m,T,l,rfl,hm,by rw[ll];exact hT,hl,by omega,by omega,gU _,?_⟩;rw[show(T.map λr=>gd m r l)=aM T.length 0 from ZW.mpr ⟨bq _,λb hb=>by obtain⟨r,hr,rfl⟩:=bE.mp hb;exact hz r hr⟩];refine hU _ ?_;clear hU U;subst_eqs;refine⟨jv (by decide) (by decide),m,T,(room-1)/2,?_,hm,hw,EY,hT,EZ,rfl,hU _ ?_⟩
 ·rw[show(((room-1)/2:Nat):Int)=((room:Int)-1-((0:Nat):Int))/2 by omega]
 clear hU U;subst_eqs;refine hU _ ?_;clear hU U;subst_eqs;refine⟨by decide,hU _ ?_⟩;clear hU U;subst_eqs;refine⟨by decide,⟨rfl,rfl⟩,?_⟩;rw[if_pos (by rfl)];exact q
abbrev Y6(t:cH):aX:=λds Q=>∃(m:Bool × Nat) (G:List (List Nat)) (b:Nat) (l:List Nat),ds=[dM t m G (.jD b),.lst false (av l)]/\dU m G/\0<ay G/\AllLt (af m) l/\l.length=ay G/\1<=b/\b<=15/\(∀r∈G,gd m r l=0)/\Q (.lst true (av l))
theorem aw2(T:Txt K mg t):aF P w K mg base aN 5 t.JY t.VR ["self","word"] (aY (Y6 t)):=by
 obtain⟨m,G,b,l,rfl,hc,w0,hl,ll,b1,hb,hz,q⟩:bf T.XN.F av1 "0<T.Xi0<!<aT51<Ɗ3ĉĲB";have hw:=hc.sV;have hn:=hc.len;nofun;refine tD T m G (.jD b) ?_;refine Yg T m G (.jD b) ?_;refine⟨_,_,_,_,rfl,T.qF,T.KJ,rfl,?_⟩;exact⟨m,G,b,l,by rw[ft,dX,gn];rfl,hc.hm,w0,hw,hc.rt,hn,hl,ll,b1,hb,hz,by rw[Bf,eO,lZ];rfl,q⟩
theorem cz2(n s:Nat):((aM n s).map λ(n:Nat)=>(n:Int)).count (s:Int)=n:=by rw[mn,List.count_replicate_self]
abbrev Y7(t:cH):aX:=λds Q=>∃(m:Bool × Nat) (G:List (List Nat)) (s:Nat),ds=[dM t m G .rep,.lst false (av (aM (ay G) s))]/\1<=ay G/\ay G<=64/\Q (.lst true (av (aM (ay G) s)))
theorem au7(T:Txt K mg t):aF P w K mg base aN 1 t.JZ t.VS ["self","word"] (aY (Y7 t)):=by
 obtain⟨m,G,s,rfl,h2,tF,q⟩:bf T.XO.F Jy "0)Ʌ&eƤrĠƤŰXƹ*|ňƗũ)zĝƜ1ɅtĐf,'#<cz72<%0ƞLNf#Aȵ3ĶbămŭG";subst_eqs;refine vY (aM (ay G) s) (λ(i:Nat)=>D.int (i:Int)) (λ(i:Nat)=>D.int (i:Int)) (λ_=>true) (HD _) rY (λa ha=>?_) (.inr λa _ _=>rfl) (by rw[sL,dE];omega) ?_
 ·nofun;exact λ_=>trivial
 rw[Fq.mpr λ_ _=>rfl,<- cj];dsimp only[fP,du];refine hU _ ?_;clear hU U;refine⟨_,rfl,?_⟩;rw[m9];subst_eqs;refine fm.mk (λj δ=>j=0/\δ=[some (dM t m G .rep),some (D.lst false (av (aM (ay G) s))),some (D.lst false (av (aM (ay G) s))),none]) ⟨rfl,rfl⟩ ?_ ?_
 ·rintro j d δ hd ⟨rfl,rfl⟩;obtain⟨h1,rfl⟩:=ci6 hd;rw[List.getElem_replicate];clear hd hU;nofun;refine⟨false,(aM (ay G) s).map λ(n:Nat)=>(n:Int),⟨rfl,rfl⟩,?_⟩;rw[cz2,dE];refine⟨gG.ok (.inl ⟨by omega,by omega⟩),?_⟩;rw[if_pos (by omega)];refine⟨by decide,B4 T m G .rep ?_⟩;refine⟨⟨by omega,by omega,by show 1*_<=_;omega,rfl⟩,?_⟩;rw[gr,List.flatten_replicate_singleton,show aM (ay G) (D.int (s:Int))=av (aM (ay G) s) by rw[cj,mn]];exact q
 ·rintro δ ⟨h0,rfl⟩;rw[e7,dE]at h0;omega
abbrev Y8:aX:=λds Q=>∃(d:D) (a b:Nat),ds=[d,.int a,.int b]/\Q (.int (a ^^^ b:Nat))
theorem aJ1(T:Txt K mg t):aF P w K mg base aN 1 t.J4 t.VT ["self","a","b"] (aY (Y8 )):=by
 obtain⟨d,a,b,rfl,q⟩:bf T.XQ.F aH8 "0ƓēĪ";nofun;rw[pz];exact q
abbrev Y9(K:Frag):aX:=λds Q=>∃(C:Addr) (p:Nat) (a b:Int),ds=[sA C p,.int a,.int b]/\cF K C/\bc K C "prime"/\0<p/\Q (.int ((a+b)%p))
theorem aE3(T:Txt K mg t):aF P w K mg base aN 1 t.J5 t.VU ["self","a","b"] (aY (Y9 K)):=by
 obtain⟨C,p,a,b,rfl,hC,hn,hp,q⟩:bf T.XR.F aA5 "0P-ı3Ī";nofun;refine⟨C,_,_,.int p,rfl,hC,hn,rfl,?_⟩;exact⟨by omega,q⟩
theorem cJ0(T:Txt K mg t){m:Bool × Nat}(h0:0<m.2):∃C ns xs sp,fD t.a7 t.a8 m=.obj C ns xs/\iP P w K mg base 1 "plus" C sp/\("plus":Str) ∉ ns/\∀(a b:Nat) (Q:D->Prop),Q (.int (gp m a b:Nat))->sp [.obj C ns xs,.int a,.int b] Q:=by
 obtain⟨k,n⟩:=m
 cases k with
 | true=>exact⟨_,_,_,Y8,rfl,⟨T.eY,_,_,_,T.aI0,aJ1 T,T.XQ.b⟩,by decide,λa b Q q=>⟨_,a,b,rfl,q⟩⟩
 | false =>
  refine⟨_,_,_,Y9 K,rfl,⟨T.fc,_,_,_,T.aB9,aE3 T,T.XR.b⟩,by decide,λa b Q q=>⟨_,n,a,b,rfl,T.fc,T.tw,h0,?_⟩⟩;have e:((gp (false,n) a b:Nat):Int)=((a:Int)+b)%n:=by
   show(((a+b)%n:Nat):Int)=_;rw[oS,Co]
  rw[<-e];exact q
abbrev aT6(cb cp:Addr):aX:=λds Q=>∃(m:Bool × Nat) (l:List Nat) (x:Nat),ds=[fD cb cp m,.lst false (av l),.int x]/\m∈aD/\(∀a∈l,a<af m)/\x<af m/\Q (.int (i8 m x l:Nat))
theorem Za(T:Txt K mg t):aF P w K mg base aN 2 t.VV t.VW ["field","a","x"] (aY (aT6 t.a7 t.a8)):=by
 obtain⟨m,l,x,rfl,hm,ha,hx,q⟩:bf T.Ks.F Eu "01Ǭ~c_<T.d170<$A<bY53<.Ǭt1Ǭ&OO#'Ė%8Ė+b1{";have m0:=cI m hm;subst_eqs;refine hU _ ?_;clear hU U;subst_eqs;refine fm.mk (λi δ=>∃o,δ=[some (fD t.a7 t.a8 m),some (.lst false (av l)),some (.int x),some (.int (i8 m x (l.drop (l.length-i)):Nat)),o]) ⟨none,by rw[Nat.sub_zero,List.drop_length];rfl⟩ ?_ ?_
 ·rintro i d δ hd ⟨o,rfl⟩;have og:i<l.length:=by
   have:=(jh.mp hd).1;rw[Cq,e7]at this;exact this
  obtain⟨hi,rfl⟩:∃hi:l.length-1-i<l.length,d=.int (l[l.length-1-i]:Nat):=by
   refine⟨by omega,?_⟩;rw[ZF (by rw[e7];exact og),cj,cy,bq,aV (by omega)]at hd;exact(dr hd).symm
  have hv:i8 m x (l.drop (l.length-i))<af m:=cQ4 hm x λa h=>ha a (qX h);obtain⟨C,ns,xs,sp,e1,e2,e3,e4⟩:=cJ0 T m0;nofun;refine⟨C,ns,xs,sp,e1,e2,e3,cz3 T hm hv hx (e4 _ _ _ ⟨rfl,_,?_,rfl⟩)⟩;have e:l.drop (l.length-(i+1))=l[l.length-1-i]::l.drop (l.length-i):=by
   rw[show l.length-(i+1)=l.length-1-i by omega,ZN hi,show l.length-1-i+1=l.length-i by omega]
  rw[e];rfl
 ·rintro δ ⟨o,rfl⟩;refine hU _ ?_;nofun;rw[Cq,e7,zQ,List.drop_zero];exact q
abbrev aS1(cb cp:Addr):aX:=λds Q=>∃(m:Bool × Nat) (l:List Nat) (a n:Nat),ds=[fD cb cp m,.int a,.int n,.lst false (av l)]/\m∈aD/\(∀a∈l,a<af m)/\n<=1000/\Q (.lst true (av ((aI n).map λ(i:Nat)=>i8 m (eS m ((a:Int)+(i:Int))) l)))
theorem aS2(T:Txt K mg t):aF P w K mg base aN 3 t.VX t.VY ["field","first","extra","word"] (aY (aS1 t.a7 t.a8)):=by
 obtain⟨m,l,a,n,rfl,hm,hl,hn,q⟩:bf T.Xj.F aQ3 "0<[field:0 word:3 first:1<ǁH'Ņ<[field word first i<2Ɇ!ɇĳO-'ņp%sė";have m0:=cI m hm;nofun;refine⟨⟨by omega,by omega⟩,?_⟩;refine oj (aI n) (λ(i:Nat)=>D.int (i:Int)) (λi=>D.int ((i8 m (eS m ((a:Int)+(i:Int))) l:Nat):Int)) ?_ rY (λi hi=>?_) (.inr λ_ _=>rfl) ?_ ?_
 ·rw[uH];simp
 ·nofun;exact K0 T hm ⟨m,l,_,rfl,hm,hl,Bg hm _,rfl,rfl⟩
 ·simp[sL];omega
 ·rw[cj,cE]at q;exact q
abbrev aL2:aX:=λds Q=>∃(f:D),ds=[f,.lst false []]/\Q (.lst true (av [1]))
theorem aL3(T:Txt K mg t):aF P w K mg base aN 1 t.VZ t.V0 ["field","places"] (aY (aL2 )):=by
 obtain⟨f,rfl,q⟩:bf T.Xk.F Jz "0)ɈƅcrƜ1ɈtČi){";subst_eqs;refine⟨by decide,hU _ ?_⟩;clear hU U;subst_eqs;refine fm.mk (λj δ=>∃o1:Option D,δ=[some f,some (D.lst false []),some (D.lst true [.int 1]),o1]) ⟨_,rfl⟩ ?_ ?_
 ·rintro j d δ hd _;cases j<;>cases hd
 ·rintro δ ⟨o1,rfl⟩;refine hU _ ?_;nofun;exact q
abbrev aW2(cb cp:Addr):aX:=λds Q=>∃(m:Bool × Nat) (row c:List Nat) (p:Nat),ds=[fD cb cp m,.lst false (av row),.lst false (av c),.int p]/\m∈aD/\AllLt (af m) row/\AllLt (af m) c/\c.length<=64/\c.length<=p+1/\p<row.length/\Q (.int (Ih m row c p:Nat))
theorem Zb(T:Txt K mg t):aF P w K mg base aN 2 t.V1 t.V2 ["field","row","c","place"] (aY (aW2 t.a7 t.a8)):=by
 obtain⟨m,row,c,p,rfl,hm,hr,hc,k7,hp,bh,q⟩:bf T.Kt.F aV4 "0O'<[row:1 place:3<ǏHƞLơ<[row place j<2*9ı`ċĖB";have dw:=(bX hm).lo;obtain⟨C,ns,xs,sp,e1,e2,e3,e4⟩:=KY T hm;nofun;refine⟨C,ns,xs,sp,e1,e2,e3,⟨by omega,by omega⟩,?_⟩;refine sW c.length (λj=>D.int ((row.getD (p-j) 0:Nat):Int)) (λj hj=>?_) (.inr λ_ _=>rfl) ?_
 ·have hj:=cJ.mp hj;nofun;refine⟨_,oy (by omega) (by omega),?_⟩;rw[show((p:Int)-(j:Int)).toNat=p-j by omega];exact⟨rfl,rfl⟩
 ·rw[show((aI c.length).map λj=>D.int ((row.getD (p-j) 0:Nat):Int))=av ((aI c.length).map λj=>row.getD (p-j) 0) by rw[cj,cE];rfl];rw[m9];refine e4 _ _ _ (by simp) k7 hc (λy hy=>?_) ⟨by rw[vo,jM],q⟩;obtain⟨j,_,rfl⟩:=bE.mp hy;exact hr.getD (by omega) _
def cZ3(a:List Int)(n:Int):List Int:=a++aM (n-a.length).toNat 0
abbrev aW3:aX:=λds Q=>∃(a:List Int) (n:Int),ds=[.lst false (aP a),.int n]/\a.length<=100000/\0<=n/\n<=100000/\Q (.lst true (aP (cZ3 a n)))
theorem aW4(T:Txt K mg t):aF P w K mg base aN 1 t.V3 t.V4 ["a","length"] (aY (aW3 )):=by
 obtain⟨a,n,rfl,h1,h2,h3,q⟩:bf T.Xl.F aV5 "0-*Ħ9$}00Ī";simp only[uA,mP,uB,uC,dT,nS,mL,pF,dC,rB,mO,pJ,pI,rE,uz,pW,vg,rS,vh,vj,uo,uq,ur,uu,uv,uw,rC,u7,rO,rP,ii,rG,uN,rH,uO,uP,uQ,uR,uT,uU,uV,iI,iM,uW,uX,uY,uZ,rJ,rK,nW,u5,u6,gN,vk,ve,uD,uG,rF,uI,uJ,uK,vm,vn,mQ,jZ,fR,jY,ij,tP,tM,zR,zS,pK,iK,jt,rQ,rR,n6,vv,vy,vA,vw,vB,vC,vE,qf,vF,i6,vJ,rX,vH,iq,vG,yG,yH,dN,jK,lj,jL,jJ,xm,aM,oV,oW,du,fP,xo,exists_eq_left',exists_eq_left,D.bl.injEq,D.int.injEq,D.lst.injEq,D.fz.injEq,D.str.injEq,D.tup.injEq,zT,and_true,true_and,bB,e6,mm,qS,ye,yf,yg,yh,yi,yj,eO,kD,p9,yo,yp,yq,yr,yt,dX,mI,vo,yk,ym,yn,kE,rn,zU,zV,tI,jM,zW,zX,w5,yx,yy,yz,yA,yB,yC,yD,lR,kJ,vp,j6,rT,yv,vt,yu,rV,yw,jy,vq,if_true,mh,if_false,reduceIte,yE,decide_eq_true_eq,e7,lW,qg,yL,om,yK,uE,vP,sD,sE,vU,vI,se,sg,sj,vV,sI,sJ,vX,sM,gn,lZ,j8,yS,sN,v7,v9,dJ,wa,wb,wc,we,wg,sU,wu,wz,wD,wC,wF,wH,wI,jz,sL,dE];exact⟨by omega,⟨by omega,by omega,by omega⟩,by omega,q⟩
theorem Zc{m:Bool × Nat}(hm:m∈aD)(n p:Nat):Ih m (aM n 0) [1] p=0:=by
 have e:((aI [1].length).map λj=>(aM n 0).getD (p-j) 0)=[0]:=by
  show [(aM n 0).getD p 0]=_;rw[aT,nC];split<;>rfl
 unfold Ih;rw[e,cB7 hm (by have:=(bX hm).lo;omega)];exact qm (m:=m) (a:=0) (by have:=(bX hm).lo;omega)
theorem Lb{m:Bool × Nat}(hm:m∈aD):AllLt (af m) [1]:=λx hx=>by rw[eT.mp hx];exact(bX hm).lo
theorem Ze{m:Bool × Nat}(hm:m∈aD)(n:Nat):AllLt (af m) (aM n 0):=λx hx=>by rw[(qW.mp hx).2];have:=(bX hm).lo;omega
abbrev aT7(t:cH):aX:=λds Q=>∃(m:Bool × Nat) (n:Nat),ds=[fD t.a7 t.a8 m,.lst false (av (aM n 0))]/\m∈aD/\n<=63/\Q (.tup [.int 0,.lst true (av [1])])
theorem aT8(T:Txt K mg t):aF P w K mg base aN 3 t.V5 t.V6 ["field","row"] (aY (aT7 t)):=by
 obtain⟨m,n,rfl,hm,hn,q⟩:bf T.Xm.F qC "0)ĵ~yĵƅ+.ĵƅŲĵ~+6ĵ~ŃűĔ@ĵtvĵ&ɉ!Ɋĳ#:ŬJR>6ĵ&,Ȍŝ^ČɋħiƆ<T.Xl0<!<aW41<Ğ-Ň]ɌŽ";have dw:=(bX hm).lo;subst_eqs;refine hU _ ?_;clear hU U;subst_eqs;refine⟨by decide,hU _ ?_⟩;clear hU U;subst_eqs;refine⟨by decide,hU _ ?_⟩;clear hU U;subst_eqs;refine hU _ ?_;clear hU U;subst_eqs;refine hU _ ?_;clear hU U;subst_eqs;rw[dE];refine⟨⟨by omega,by omega⟩,?_⟩;refine fm.mk (λj δ=>∃(k:Int) (o1 o2 o3:Option D),δ=[some (fD t.a7 t.a8 m),some (D.lst false (av (aM n 0))),some (D.int 0),some (D.lst true [.int 1]),some (D.lst true [.int 1]),some (D.int 1),some (D.int k),o1,o2,o3]) ⟨1,none,none,none,rfl⟩ ?_ ?_
 ·rintro j d δ hd ⟨k,o1,o2,o3,rfl⟩;obtain⟨hj,rfl⟩:=PN hd;rw[show(0:Int)+(j:Int)=((j:Nat):Int) by omega];clear hd;subst_eqs;refine⟨m,aM n 0,[1],j,rfl,hm,Ze hm n,Lb hm,by decide,Nat.succ_le_succ (iT _),by rw[dE];omega,rfl,?_⟩;rw[Zc hm];refine hU _ ?_;clear hU;nofun;rw[if_pos (by rfl)];exact⟨_,_,_,_,rfl,rfl,rfl,rfl⟩
 ·rintro δ ⟨k,o1,o2,o3,rfl⟩;refine hU _ ?_;clear hU U;nofun;exact⟨[1],1,rfl,by decide,by decide,by decide,rfl,q⟩
abbrev aS3(cb cp:Addr):aX:=λds Q=>∃(m:Bool × Nat) (l:List Nat) (n:Nat),ds=[fD cb cp m,.lst false (av l),.int n]/\m∈aD/\AllLt (af m) l/\n<=1000/\Q (.lst true (av ((aI n).filter λq=>decide (i8 m (eS m (-(q:Int))) l=0))))
theorem aS4(T:Txt K mg t):aF P w K mg base aN 3 t.V7 t.V8 ["field","finder","length"] (aY (aS3 t.a7 t.a8)):=by
 obtain⟨m,l,n,rfl,hm,hl,hn,q⟩:bf T.Xn.F aQ4 "0<[field:0 finder:1<ůH'ơ<[field finder place<ŰXJɆ!ɇĳO'ɍ%p%s%>ň'Vė";have m0:=cI m hm;nofun;refine⟨⟨by omega,by omega⟩,?_⟩;refine vY (aI n) (λ(i:Nat)=>D.int (i:Int)) (λ(i:Nat)=>D.int (i:Int)) (λq=>decide (i8 m (eS m (-(q:Int))) l=0)) (Bj _ rfl) rY (λp hp=>?_) (.inr λ_ _ _=>rfl) (by rw[bW,sL];omega) ?_
 ·nofun;exact K0 T hm ⟨m,l,_,rfl,hm,hl,Bg hm _,rfl,rfl,by rw[jy];exact decide_eq_decide.mpr (by omega),λ_=>trivial⟩
 ·rw[cj]at q;exact q
abbrev ar7(t:cH):aX:=λds Q=>∃(m:Bool × Nat) (e n:Nat),ds=[fD t.a7 t.a8 m,.lst false [],.lst false (av (aM e 0)),.int n]/\m∈aD/\e<=63/\n<=1000/\Q (.lst true [])
theorem ar8(T:Txt K mg t):aF P w K mg base aN 4 t.V9 t.Wa ["field","lost","sums","length"] (aY (ar7 t)):=by
 obtain⟨m,e,n,rfl,hm,he,hn,q⟩:bf T.Xv.F BJ "0.ǅU<T.Xk0<!<aL31<ĳ]Ųǅ&<[field:0 sums:2 known:4<ǁHűƞLŤ1<[field sums known i<2ɉ!ɊDē#Ĳũ6ǅ&<T.Xm0<!<aT81<D7]+Đf,=h0S7LNŶ@ǅ&<T.Xn0<!<aS41<D=h#s+WS:L=hN(ȪdȫȬ<[lost:1<ů(:ć<[lost place<2<cU10<ƃǞɎƁuƚŶ@{ō";have dw:=(bX hm).lo;subst_eqs;refine⟨_,rfl,hU _ ?_⟩;clear hU U;subst_eqs;rw[dE];refine⟨(0:Nat),(e:Nat),⟨rfl,rfl⟩,⟨by omega,by omega,by omega,by omega⟩,?_⟩;refine oj (aI e) (λ(i:Nat)=>D.int (((0:Nat):Int)+(i:Int))) (λ_=>D.int ((0:Nat):Int)) ?_ (λa b h=>by injection h with h;omega) (λi hi=>?_) (.inr λ_ _=>rfl) (by rw[bW,sL];omega) ?_
 ·rw[uH,show((e:Int)-((0:Nat):Int)).toNat=e by omega]
 ·have hi:=cJ.mp hi;nofun;refine⟨m,aM e 0,[1],i,?_,hm,Ze hm e,Lb hm,by decide,Nat.succ_le_succ (iT _),by rw[dE];omega,by rw[Zc hm]⟩;rw[show((0:Nat):Int)+(i:Int)=(i:Int) by omega]
 rw[show((aI e).map λ(_:Nat)=>D.int ((0:Nat):Int))=av (aM e 0) by rw[cj,mn,List.map_const',bW]];refine hU _ ?_;clear hU U;subst_eqs;refine⟨m,e,rfl,hm,he,rfl,hU _ ?_⟩;clear hU U;subst_eqs;refine⟨_,rfl,gG.ok (.inl ⟨by omega,by omega⟩),?_⟩;rw[if_neg (by omega)];refine hU _ ?_;clear hU U;subst_eqs;refine⟨_,rfl,m,[1],n,by rw[m9],hm,Lb hm,hn,by rw[gU,jM],?_⟩;rw[LO.mpr λq _=>?_]
 ·refine hU _ ?_;clear hU U;subst_eqs;refine⟨_,rfl,rfl,?_⟩;rw[if_neg (by decide)];refine nq [] (λ_=>D.aA) (λ_ h=>nomatch h) (.inr λ_ h=>nomatch h) ?_ (by decide);refine⟨[],rfl,?_⟩;rw[if_neg (by decide)];refine hU _ ?_;nofun;exact q
 ·show ¬ decide (gp m (gm m 0 _) 1=0)=true;rw[fH m _ (cI m hm),qm dw];decide
abbrev aT9:aX:=λds Q=>∃(f b:D) (n:Nat),ds=[f,b,.lst false [],.lst false (av (aM n 0))]/\n<=1000/\Q (.lst true [])
theorem aU0(T:Txt K mg t):aF P w K mg base aN 1 t.Wb t.Wc ["field","first","places","sums"] (aY (aT9 )):=by
 obtain⟨f,b,n,rfl,hn,q⟩:bf T.Xo.F aT0 "0J'ŀīţeĜ(#ĠĜ2JŕĮƁuŀăƂMČG";subst_eqs;refine⟨by decide,⟨rfl,rfl⟩,?_⟩;rw[if_pos (by rfl)];refine nq (aM n 0) (λ_=>D.bl true) (λi hi=>?_) (.inr λ_ _=>rfl) ?_ (by rw[dE];omega)
 ·rw[(qW.mp hi).2];nofun;rfl
 ·refine⟨aM n true,?_,?_⟩
  ·unfold mV;rw[mn,mn]
  ·rw[if_pos (by rw[cU];intro x hx;rw[(qW.mp hx).2];rfl)];exact⟨by decide,q⟩
abbrev aS5:aX:=λds Q=>∃(f:D) (l:List Nat),ds=[f,.lst false (av l),.lst false [],.lst false []]/\l.length<=1000/\Q (.lst true (av l))
theorem aS6(T:Txt K mg t):aF P w K mg base aN 1 t.We t.Wf ["field","word","places","signs"] (aY (aS5 )):=by
 obtain⟨f,l,rfl,hl,q⟩:bf T.Xp.F JA "0.ɏ&ĸ$ĥcś'#Ŝ;6(ɏąČi.{";subst_eqs;refine hU _ ?_;clear hU U;subst_eqs;refine⟨_,_,rfl,rfl,?_⟩;refine fm.mk (λj δ=>∃o1 o2:Option D,δ=[some f,some (D.lst false (av l)),some (D.lst false []),some (D.lst false []),some (D.lst true (av l)),o1,o2]) ⟨_,_,rfl⟩ ?_ ?_
 ·rintro j d δ hd _;cases j<;>cases hd
 ·rintro δ ⟨o1,o2,rfl⟩;refine hU _ ?_;nofun;exact q
abbrev aL4(t:cH):aX:=λds Q=>∃(m:Bool × Nat) (b e:Nat) (l:List Nat),ds=[fD t.a7 t.a8 m,.int b,.int e,.lst false (av l)]/\m∈aD/\AllLt (af m) l/\l.length<=64/\e<=63/\(∀i<e,i8 m (eS m ((b:Int)+(i:Int))) l=0)/\Q (.lst true (av l))
theorem aL5(T:Txt K mg t):aF P w K mg base aN 5 t.Wg t.Wh ["field","first","extra","word"] (aY (aL4 t)):=by
 obtain⟨m,b,e,l,rfl,hm,hl,ll,he,hz,q⟩:bf T.Xq.F wJ "0.ŷȾ!ȿĞŉĐS8L'NŶ;ŷɀ!ɁĞŉ6ŷ<T.Xj0<!<aS21<Dē7Ŭ@ŷ<T.Xv0<!<ar81<D8=S#LŴɄ+Ő:|Ŷvŷ-8:Kŋŷ<T.Xo0<!<aU01<ĳR=ŬŐŏ|ă<T.Xp0<!<aS61<D7RŏĲƂŽ[";subst_eqs;refine⟨l,rfl,by omega,hU _ ?_⟩;clear hU U;subst_eqs;rw[if_neg (by omega)];refine hU _ ?_;clear hU U;subst_eqs;refine⟨l,rfl,by omega,hU _ ?_⟩;clear hU U;subst_eqs;refine⟨m,l,b,e,rfl,hm,hl,by omega,gU _,?_⟩;rw[show((aI e).map λ(i:Nat)=>i8 m (eS m ((b:Int)+(i:Int))) l)=aM e 0 from ZW.mpr ⟨by rw[bq,bW],λb hb=>by obtain⟨i,hi,rfl⟩:=bE.mp hb;exact hz i (cJ.mp hi)⟩];refine hU _ ?_;clear hU U;subst_eqs;refine⟨m,e,l.length,rfl,hm,he,by omega,rfl,hU _ ?_⟩;clear hU U;subst_eqs;refine hU _ ?_;clear hU U;subst_eqs;refine⟨by decide,hU _ ?_⟩;clear hU U;subst_eqs;refine⟨_,_,e,rfl,by omega,rfl,hU _ ?_⟩;clear hU U;nofun;exact⟨_,l,rfl,by omega,gU _,q⟩
abbrev Zf(t:cH):aX:=λds Q=>∃(m:Bool × Nat) (G:List (List Nat)) (e f:Nat) (l:List Nat),ds=[dM t m G (.oF e f),.lst false (av l)]/\m∈aD/\AllLt (af m) l/\l.length<=64/\e<=63/\(∀i<e,i8 m (eS m ((f:Int)+(i:Int))) l=0)/\Q (.lst true (av l))
theorem az2(T:Txt K mg t):aF P w K mg base aN 6 t.J6 t.Wi ["self","word"] (aY (Zf t)):=by
 obtain⟨m,G,e,f,l,rfl,hm,hl,ll,he,hz,q⟩:bf T.XS.F ay7 "0<T.Xq0<!<aL51<Ɗ3ĉĲB";nofun;refine tD T m G (.oF e f) ?_;refine⟨_,_,_,_,rfl,T.qG,T.Ya,rfl,?_⟩;refine⟨_,_,_,_,rfl,T.qG,T.X8,rfl,?_⟩;exact⟨m,f,e,l,by rw[ft];rfl,hm,hl,ll,he,hz,by rw[Bf];rfl,q⟩
abbrev aN5:aX:=λds Q=>∃(l:List Nat),ds=[.lst false (av l),.lst false (av l)]/\l.length<=1000/\Q (.lst true [])
theorem aN6(T:Txt K mg t):aF P w K mg base aN 1 t.Wj t.Wk ["signs","sent"] (aY (aN5 )):=by
 obtain⟨l,rfl,hl,q⟩:bf T.Xr.F Ew "0)ǭĚcĄ$Ů1.(ǭą;ǭ&*#`+ƹ7|W78NŘČĀħi){";subst_eqs;refine⟨by decide,hU _ ?_⟩;clear hU U;subst_eqs;refine fm.mk (λj δ=>∃o1 o2 o3:Option D,δ=[some (D.lst false (av l)),some (D.lst false (av l)),some (D.lst true []),o1,o2,o3]) ⟨_,_,_,rfl⟩ ?_ ?_
 ·rintro j d δ hd ⟨o1,o2,o3,rfl⟩;obtain⟨h1,rfl⟩:=cn0 hd;clear hd hU;unfold iq;subst_eqs;refine⟨.int (l[j]:Nat),?_,rfl,hU _ ?_⟩
  ·rw[oy (by omega) (by omega),gr,aT,aV h1];rfl
  nofun;exact⟨_,_,_,rfl,rfl,rfl⟩
 ·rintro δ ⟨o1,o2,o3,rfl⟩;refine hU _ ?_;nofun;exact q
theorem cB2(T:Txt K mg t){m:Bool × Nat}{G:List (List Nat)}{k:Kd}{l:List Nat}(hc:dU m G)(hl:AllLt (af m) l)(ll:l.length=ay G)(h:Ek m G l k){Q:D->Prop}(q:Q (.lst true (av l))):∃C ns zs sp,dM t m G k=.obj C ns zs/\iP P w K mg base 6 "nearest" C sp/\("nearest":Str) ∉ ns/\sp [.obj C ns zs,.lst false (av l)] Q:=by
 have hw:=hc.sV
 cases k with
 | jD b=>exact⟨_,_,_,Y6 t,rfl,⟨T.qF,_,_,_,T.d29,(aw2 T).mono (by decide),T.XN.b⟩,by decide,m,G,b,l,rfl,hc,h.2.2.1,hl,ll,h.1,h.2.1,h.2.2.2,q⟩
 | rep =>
  obtain⟨h1,s,rfl⟩:=h;exact⟨_,_,_,Y7 t,rfl,⟨T.BY,_,_,_,T.d39,(au7 T).mono (by decide),T.XO.b⟩,by decide,m,G,s,rfl,h1,hw,q⟩
 | oF e f=>exact⟨_,_,_,Zf t,rfl,⟨T.qG,_,_,_,T.d42,(az2 T).mono (by decide),T.XS.b⟩,by decide,m,G,e,f,l,rfl,hc.hm,hl,by omega,h.1,h.2,q⟩
abbrev aN7(t:cH):gQ:=λds Q Ex=>∃(m:Bool × Nat) (G:List (List Nat)) (k:Kd) (y:List (Option Int)),ds=[dM t m G k,.lst false (cP y)]/\dU m G/\y.length<=64/\(y.length≠ay G->Ex t.g5)/\(∀j,y.length=ay G->jg (k6 m) y j->Ex ⟨t.fM,some ("place",j)⟩)/\(y.length=ay G->(∀i,i<y.length->k6 m (y.getD i none)=true)->∃l,y=sO l/\AllLt (af m) l/\Ek m G l k/\Q (.tup [.lst true (av l),.lst true []]))
theorem Zg(T:Txt K mg t):aF P w K mg base (gz P w) 7 t.BN t.Wl ["self","word"] (iN (aN7 t )):=by
 obtain⟨m,G,k,y,rfl,hc,hy,q1,q2,q⟩:n8 T.KG.F Ts "1!ǒYǓǔǕr3š!<an61<Y<T.EI.g0<<T.EI.F.kp0<<T.EI.b0<(ĉš)<Ts.nd0<&j6ğ$p+Ő'|ČĀƆ<T.Xr0<!<aN61<ƉɌĂ[";have hw:=hc.sV;subst_eqs;refine B4 T m G k ⟨cP y,ay G,by rw[jf];rfl,by rw[jG];omega,by omega,λh1=>⟨by rw[oK];rfl,hU _ ?_⟩,λh1=>q1 (by rw[jG]at h1;exact h1)⟩;clear hU U;rw[jG]at h1;subst_eqs;refine tD T m G k ⟨m,y,by rw[ft,jf],hc.hm,hy,λh2=>⟨by rw[Bf,oK];rfl,hU _ ?_⟩,λj hj=>q2 j h1 hj⟩;clear hU U;obtain⟨l,rfl,al,Lc,q⟩:=q h1 h2;rw[jH]at h1;rw[sZ];subst_eqs;refine cB2 T hc al h1 Lc (hU _ ?_);clear hU U;subst_eqs;refine hU _ ?_;clear hU U;nofun;exact⟨l,rfl,by omega,rfl,q⟩
theorem wU(T:Txt K mg t){m:Bool × Nat}{G:List (List Nat)}{k:Kd}{me:Str}{n:Nat}{f:Addr}{fd:FuncData}{ps:List Str}{sp:gQ}(h1:Meth K t.e8 me f)(h2:Meth K t.fu me f)(h3:Meth K t.eR me f)(F:aF P w K mg base (gz P w) n f fd ps (iN sp))(b:Binds K fd ps [])(nm:me ∉ (["extra","first","field","length","check_rows","word_rows","message_places","size","bound"]:List Str)){ds:List D}{Q:D->Prop}{Ex:XC->Prop}(q:sp (dM t m G k::ds) Q Ex):∃C ns zs sp,dM t m G k=.obj C ns zs/\sC P w K mg base n me C sp/\me ∉ ns/\sp (.obj C ns zs::ds) Q Ex:=by
 simp only[cO,iD,or_false,not_or]at nm;cases k
 ·exact⟨_,_,_,sp,rfl,⟨T.qF,_,_,_,h1,F,b⟩,by simp[nm],q⟩
 ·exact⟨_,_,_,sp,rfl,⟨T.BY,_,_,_,h2,F,b⟩,by simp[nm],q⟩
 ·exact⟨_,_,_,sp,rfl,⟨T.qG,_,_,_,h3,F,b⟩,by simp[nm],q⟩
abbrev aS7(t:cH):gQ:=λds Q Ex=>∃(m:Bool × Nat) (G:List (List Nat)) (k:Kd) (y:List (Option Int)),ds=[dM t m G k,.lst false (cP y)]/\dU m G/\y.length<=64/\(y.length≠ay G->Ex t.g5)/\(∀j,y.length=ay G->jg (k6 m) y j->Ex ⟨t.fM,some ("place",j)⟩)/\(y.length=ay G->(∀i,i<y.length->k6 m (y.getD i none)=true)->∃l,y=sO l/\AllLt (af m) l/\Ek m G l k/\Q (.lst true (av ((bV m G).map λp=>l.getD p 0))))
theorem Zh(T:Txt K mg t):aF P w K mg base (gz P w) 8 t.BO t.Wm ["self","word"] (iN (aS7 t )):=by
 obtain⟨m,G,k,y,rfl,hc,hy,q1,q2,q⟩:n8 T.KH.F aQ5 "1Oj@ğrƦɐ<cy3:P:w:K:mg:base:nA<^";nofun;obtain⟨C,ns,zs,sp,e1,e2,e3,e4⟩:=KQ T m G k T.d28 T.d38 T.d41 (aE1 T) T.XM.b (by decide);refine⟨C,ns,zs,sp,e1,e2,e3,?_⟩;rw[jf];refine wU T T.WE T.WK T.WO (Zg T) T.KG.b (by decide) ⟨m,G,k,y,rfl,hc,hy,q1,q2,λh1 h2=>?_⟩;obtain⟨l,rfl,al,Lc,q⟩:=q h1 h2;rw[jH]at h1;refine⟨l,rfl,al,Lc,by rw[oK];rfl,_,_,rfl,?_⟩;rw[m9];exact e4 _ _ ⟨m,G,k,l,rfl,hc,h1,by rw[gU,jM],q⟩
abbrev aL6(t:cH):gQ:=λds Q Ex=>∃(m:Bool × Nat) (G:List (List Nat)) (k:Kd) (y:List (Option Int)),ds=[dM t m G k,.lst false (cP y)]/\dU m G/\y.length<=64/\(y.length≠ay G->Ex t.g5)/\(y.length=ay G->∃j,jg (gD m) y j)/\(∀j,y.length=ay G->jg (gD m) y j->Ex ⟨t.fM,some ("place",j)⟩)
theorem aL7(T:Txt K mg t):aF P w K mg base (gz P w) 4 t.BP t.Wn ["self","word"] (iN (aL6 t )):=by
 obtain⟨m,G,k,y,rfl,hc,hy,q1,q3,q2⟩:n8 T.XT.F aJ8 "1!ǒYǓǔǕr3š!ȅYȆȇȈ(ĉšČ[";have hw:=hc.sV;subst_eqs;refine B4 T m G k ⟨cP y,ay G,by rw[jf];rfl,by rw[jG];omega,by omega,λh1=>⟨by rw[oK];rfl,hU _ ?_⟩,λh1=>q1 (by rw[jG]at h1;exact h1)⟩;clear hU U;rw[jG]at h1;subst_eqs;refine tD T m G k ⟨m,y,by rw[ft,jf],hc.hm,hy,λh2=>?_,λj hj=>q2 j h1 hj⟩;obtain⟨j,_,hj,hb⟩:=q3 h1;rw[h2 j hj]at hb;cases hb
abbrev aP5(t:cH):gQ:=λds Q Ex=>∃(m:Bool × Nat) (G:List (List Nat)) (k:Kd) (v:Nat) (y:List (Option Int)),ds=[dM t m G k,.int v,.lst false (cP y)]/\dU m G/\v<4/\y.length<=64/\(y.length≠l9 m G v->Ex t.g5)/\(y.length=l9 m G v->∃j,jg (l8 m v) y j/\Ex ⟨t.fM,some ("place",j)⟩)
theorem aP6(T:Txt K mg t):aF P w K mg base (gz P w) 9 t.Wo t.Wq ["_law_code_here","_law_way","_law_signs"] (iN (aP5 t )):=by
 obtain⟨m,G,k,v,y,rfl,hc,hv,hy,q1,q2⟩:n8 T.EJ.F aO3 "1Ǝj.ğĝƦǆQƎj.ğĝƦǆQƎj@ğĝƦǆQjvğĝƦǆįG";have q3:∀j,y.length=l9 m G v->jg (l8 m v) y j->Ex ⟨t.fM,some ("place",j)⟩:=λj h hb=>by
  obtain⟨i,hi,e⟩:=q2 h;rw[hb.one hi];exact e
 subst_eqs;rw[jf];split
 ·rename_i h0;obtain rfl:v=0:=by omega
  refine wU T T.WH T.WM T.WR (Yo T) T.Kx.b (by decide) ⟨m,G,k,y,rfl,hc,hy,q1,q3,λl e hl al=>?_⟩;obtain⟨j,hb,_⟩:=q2 (by rw[e,jH];exact hl);rw[e]at hb;exact(hb.no (BD al)).elim
 refine hU _ ?_;clear hU U;subst_eqs;rw[jf];split
 ·rename_i h0;obtain rfl:v=1:=by omega
  exact wU T T.d26 T.d37 T.d40 (aL7 T) T.XT.b (by decide) ⟨m,G,k,y,rfl,hc,hy,q1,λh=>let⟨j,hb,_⟩:=q2 h;⟨j,hb⟩,q3⟩
 refine hU _ ?_;clear hU U;subst_eqs;rw[jf];split
 ·rename_i h0;obtain rfl:v=2:=by omega
  exact wU T T.WE T.WK T.WO (Zg T) T.KG.b (by decide) ⟨m,G,k,y,rfl,hc,hy,q1,q3,λh1 h2=>let⟨_,hb,_⟩:=q2 h1;(hb.no h2).elim⟩
 refine hU _ ?_;clear hU U;obtain rfl:v=3:=by omega
 nofun;rw[jf];exact wU T T.WG T.WL T.WQ (Zh T) T.KH.b (by decide) ⟨m,G,k,y,rfl,hc,hy,q1,q3,λh1 h2=>let⟨_,hb,_⟩:=q2 h1;(hb.no h2).elim⟩
abbrev aP7:aX:=λds Q=>∃i:Int,ds=[.int i]/\Q (.bl true)
theorem aP8(T:Txt K mg t):aF P w K mg base aN 1 t.Wr t.Ws ["_law_x"] (aY (aP7 )):=by
 obtain⟨i,rfl,q⟩:bf T.Xs.F aO4 "0xǋǌ*ƨ%xǼǽ*ƨ%ǾŚB";nofun;exact q
abbrev aL8(t:cH):aX:=λds Q=>∃(m:Bool × Nat) (G:List (List Nat)) (k:Kd) (v:Nat) (y:List (Option Int)),ds=[dM t m G k,.int v,.lst false (cP y)]/\dU m G/\v<4/\y.length<=64/\(y.length≠l9 m G v->Q (.int 0))/\(y.length=l9 m G v->∃j,jg (l8 m v) y j/\Q (.int (1+(j:Int))))
theorem aL9(T:Txt K mg t):aF P w K mg base aN 10 t.Wt t.Wu ["_law_code_here","_law_way","_law_signs"] (aY (aL8 t)):=by
 obtain⟨m,G,k,v,y,rfl,hc,hv,hy,q1,q2⟩:bf T.Xt.F Ey "01Ǯ&ă+.!<aP61<Y<T.EJ.g0<<T.EJ.F.kp0<<T.EJ.b0<ŞēƔɑ^ǯ1Ǯ&.E+^ǯd<T.Wz0<Ǯ__(<c03:iB<x<T.d150<<bE30<#<cI66<ļx<T.d140<ƧĴx<T.d080<ƧĴǠǡƻœMx<T.d090<ƧĴ9,<cO50<dǋǌxƩƧ%ĥ%ĶxƩƧĴ<T.Xs0<!<aP81<Ğɒ%gĴŘď#ɒ%ĶœĂ[G";subst_eqs;refine hU _ ?_;clear hU U;subst_eqs;rw[jf,I0];refine⟨m,G,k,v,y,rfl,hc,hv,hy,λh=>⟨T.aC6,hU _ ?_⟩,λh=>?_⟩
 ·clear hU U;subst_eqs;refine⟨_,AU T.B3 T.d75,?_⟩;rw[if_neg (by decide)];refine⟨_,AU T.B3 T.d74,?_⟩;rw[if_neg (by decide)];refine⟨_,AU T.B3 T.d71,?_⟩;rw[if_neg (by decide)];refine hU _ ?_;clear hU U;subst_eqs;refine⟨_,AU T.B3 T.d73,?_⟩;rw[if_pos rfl];refine⟨_,AU T.B3 T.d72,?_⟩;exact q1 h
 ·obtain⟨j,hb,q⟩:=q2 h;refine⟨j,hb,T.aC5,hU _ ?_⟩;clear hU U;subst_eqs;refine⟨_,AV T.wQ T.d70,?_⟩;rw[if_neg (by decide)];refine⟨_,AV T.wQ T.d69,?_⟩;rw[if_neg (by decide)];refine⟨_,AV T.wQ T.d66,?_⟩;rw[if_neg (by decide)];refine hU _ ?_;clear hU U;subst_eqs;refine⟨_,AV T.wQ T.d68,?_⟩;rw[if_neg (by decide)];refine hU _ ?_;clear hU U;subst_eqs;refine⟨_,AV T.wQ T.d67,?_⟩;rw[if_pos rfl];refine⟨_,_,rfl,T.tu.get T.wQ,_,rfl,true,rfl,?_⟩;rw[if_pos rfl];refine⟨_,_,rfl,T.tu.get T.wQ,?_⟩;exact q
theorem cT1:∀a b:Option Int,oi a=oi b->a=b
 | none,none,_=>rfl
 | some _,some _,h=>by injection h with h;rw[h]
abbrev aM0(t:cH):aX:=λds Q=>∃(m:Bool × Nat) (G:List (List Nat)) (k:Kd) (y:List (Option Int)),ds=[dM t m G k,.lst false (cP y)]/\dU m G/\y.length<=64/\((y.length≠ay G/\Q (.bl false))\/(y.length=ay G/\(∃i,i<y.length/\gD m (y.getD i none)=false)/\Q (.bl false))\/∃c:List Nat,y=sO c/\c.length=ay G/\AllLt (af m) c/\(∀r∈G,gd m r c=0)/\Q (.bl true))
theorem Zi(T:Txt K mg t):aF P w K mg base aN 3 t.BQ t.Wv ["self","word"] (aY (aM0 t)):=by
 obtain⟨m,G,k,y,rfl,hc,hy,q⟩:bf T.KI.F aJ9 "0Wű3Nţ<[self:0<Ƥrć<[self sign<2Š3q$pƁuƝƚİţeĜ(ɂ!ɃƊĉs%ĠĜ2JŕĮċnm";have hw:=hc.sV;have hl:=hc.len;have yl:=jG y;subst_eqs;refine B4 T m G k ?_;rw[yl,jy];refine⟨rfl,?_⟩;rcases q with⟨h1,q⟩ | h
 ·rw[decide_eq_false (by omega),if_pos (by decide)];exact q
 have h0:y.length=ay G:=by
  rcases h with⟨h,_⟩ | ⟨c,rfl,h,_⟩
  ·exact h
  ·rw[jH,h]
 rw[decide_eq_true (by omega),if_neg (by decide)];refine oj y oi (λa=>D.bl (gD m a)) (jf y) cT1 (λa ha=>?_) (.inr λ_ _=>rfl) (by rw[sL];omega) ?_
 ·nofun;rw[I0,Rm];refine tD T m G k ?_;refine B5 T m ?_
  cases a with
  | none=>exact .inr ⟨rfl,rfl,rfl⟩
  | some a=>exact .inl ⟨_,rfl,rfl,rfl⟩
 refine⟨y.map (gD m),by unfold mV;rw[cE];rfl,?_⟩;rcases h with⟨_,⟨i,hi,hn⟩,q⟩ | ⟨c,rfl,lc,ac,hz,q⟩
 ·rw[show(y.map (gD m)).all id=false by
   rw[List.all_eq_false];refine⟨_,zM (eU hi),?_⟩;rw[aT,aV hi]at hn;rw[show gD m y[i]=false from hn];decide,if_pos (by decide)]
  exact q
 rw[show((sO c).map (gD m)).all id=true by
  rw[cU];intro x hx;obtain⟨o,ho,rfl⟩:=bE.mp hx;obtain⟨i,hi,rfl⟩:=ki ho;have:=BD ac i hi
  rwa [aT,aV hi]at this,if_neg (by decide)]
 refine hU _ ?_;clear hU U;rw[sZ];nofun;refine tD T m G k (Yg T m G k ⟨m,G,c,by rw[ft,dX,gn],hc.hm,by rw[lc];exact hc.rt,ac,by omega,hl,by rw[gU,jM],_,rfl,?_⟩);refine nq (G.map λr=>gd m r c) (λi=>D.bl true) (λi hi=>?_) (.inr λ_ _=>rfl) ?_ (by rw[bq];omega)
 ·obtain⟨r,hr,rfl⟩:=bE.mp hi;rw[hz r hr];nofun;rfl
 ·refine⟨G.map λ_=>true,by unfold mV;rw[cE,cE];rfl,?_⟩;rw[show(G.map λ_=>true).all id=true by simp];exact q
theorem cP5(T:Txt K mg t)(m:Bool × Nat)(G:List (List Nat))(k:Kd){Q:Bool->Prop}(q:Q true):∃C ns xs r,dM t m G k=.obj C ns xs/\sF K C/\kitOne K (.ref C) (.ref t.tf)=some r/\Q r:=by
 cases k with
 | jD b=>exact⟨_,_,_,true,rfl,T.d54,T.d63,q⟩
 | rep=>exact⟨_,_,_,true,rfl,T.d55,T.d64,q⟩
 | oF e f=>exact⟨_,_,_,true,rfl,T.d56,T.d65,q⟩
theorem cR5(T:Txt K mg t)(hB:Bm mg base):aF P w K mg base aN 12 t.J7 t.EB ["_law_script"] (vL [t.qD,t.qE] (aY (Hi ))):=by
 obtain⟨ns,rfl,hl,q⟩:HR T.Ku.F nv "45ġ<T.WU0<!<aQ91<TƢŉ)ɓUƿ!ǀęyġƴ!Ŧ<aR72<Y<T.EH.g0<<T.EH.F.kp0<<T.EH.b0<ĆƬIȶ%hĽxƽ#<cL05<ļİ.ġųƍ;ġŌ#ƠĽJ8>;ġŌ#ƠĽQ6ġ<[_law_many_here:2 _law_script:0<ɔH7ơ<[_law_many_here _law_script _law_j<2Pƶ!ƷTǰwǱ'ěƒũ@ġ<T.WV0<!<aM51<T='8Ƣ<cU50<d<T.d160<<cI00<ƢLŴŎŵ+W<T.Xt0<!<aL91<Ğ8ĸ:hĥ%s%:hNİĐ8><cC00<j1#qĸ:hĥ%p%őīŘİvġ<[_law_many_here:2 _law_script:0<ɔHŌ#Ơơ<[_law_many_here _law_script _law_j<2Pƶ!ƷTǰwǱ'ěƒũŋġj.#qRAƺ+<cZ40<j1#qŏp%ő%Į%Jjv#qŏAƺ%RĮŚŽō[G";subst_eqs;refine⟨ns,0,rfl,by decide,_,rfl,rfl,hU _ ?_⟩;clear hU U;generalize Zj:sG (ns.getD (dZ 0) 0)=m;have hm:m∈aD:=by rw[<-Zj];exact cf4 _
 clear Zj;have hF:=bX hm;have dw:=hF.lo;have tE:=hF.hi;have YW:=HZ m hm;have ms:∀(c:Int) (n:Nat),∃l:List Nat,((aI n).map λ(j:Nat)=>D.int (((jI c (j:Int)%(af m:Int)).toNat:Nat):Int))=av l/\l.length=n/\AllLt (af m) l:=λc n=>⟨(aI n).map λ(j:Nat)=>(jI c (j:Int)%(af m:Int)).toNat,by rw[cj,cE];rfl,by rw[bq,bW],λx hx=>by
  obtain⟨j,_,rfl⟩:=bE.mp hx;have:=g9 (jI c (j:Int)) (show(0:Int)<af m by omega);omega⟩
 subst_eqs;refine⟨m,rfl,by omega,by omega,hU _ ?_⟩;clear hU U;subst_eqs;refine⟨m,ns,rfl,hm,λG k hc g1 w2 w15 hk=>⟨dM t m G k,rfl,cJ3 ..,hU _ ?_⟩⟩;clear hU U;have hw:=hc.sV;have hf:=hc.vZ;have hz:=hc.sz;subst_eqs;refine cP5 T m G k ?_;rw[if_neg (by decide)];refine hU _ ?_;clear hU U;subst_eqs;refine⟨ns,5,rfl,by decide,by decide,?_⟩;obtain⟨v,ev,hv⟩:∃v:Nat,ns.getD (dZ 5) 0%4=v/\v<4:=⟨(ns.getD (dZ 5) 0%4).toNat,by omega,by omega⟩;rw[ev];refine hU _ ?_;clear hU U ev;subst_eqs;refine B4 T m G k ⟨rfl,hU _ ?_⟩;clear hU U;subst_eqs;suffices key:U [some (D.fz (aP ns)),some (eG m),some (D.int (af m:Nat)),some (dM t m G k),some (D.int (v:Nat)),some (D.int (l9 m G v:Nat)),none,none,none,none] by
  split
  ·rename_i h0;obtain rfl:v=0:=by omega
   exact KP T m G k ⟨rfl,key⟩
  ·rename_i h0
   rwa [show l9 m G v=ay G from if_neg (by omega)]at key
 have n1:1<=l9 m G v/\l9 m G v<=15:=by unfold l9;split<;>omega
 refine hU _ ?_;clear hU U;generalize en:l9 m G v=n at n1 ⊢;subst_eqs;refine⟨⟨by omega,by omega⟩,sW n (λj=>D.int (((jI (ns.getD (dZ 6) 0) (j:Int)%(af m:Int)).toNat:Nat):Int)) (λj hj=>?_) (.inr λ_ _=>rfl) ?_⟩
 ·have:=cJ.mp hj;nofun;refine⟨ns,6,rfl,by decide,_,(j:Int),rfl,by omega,by omega,rfl,by omega,?_⟩;have:=fO (jI (ns.getD (dZ 6) 0) (j:Int)) (show(af m:Int)≠0 by omega);omega
 dsimp only[fP,du];obtain⟨l,e,ll,al⟩:=ms (ns.getD (dZ 6) 0) n;rw[e];clear e;refine hU _ ?_;clear hU U;subst_eqs;refine⟨ns,7,rfl,by decide,ns,8,rfl,by decide,m,l,v,_,_,rfl,hm,al,by omega,by omega,hv,by split<;>omega,λy d hy hd=>⟨by rw[rn,bB,kE,cO1];rfl,hU _ ?_⟩⟩;clear hU U;subst_eqs;suffices key:U [some (D.fz (aP ns)),some (eG m),some (D.int (af m:Nat)),some (dM t m G k),some (D.int (v:Nat)),some (D.int (n:Nat)),some (D.lst true (av l)),some (D.tup [D.lst true (cP y),D.int d]),none,none] by
  refine⟨_,rfl,oK y,?_⟩;rw[jf,I0];refine⟨m,G,k,v,y,rfl,hc,hv,hy,λh=>?_,λh=>?_⟩
  ·rcases hd with⟨_,rfl⟩ | ⟨h2,_⟩
   ·exact⟨by rw[show(D.int _).fr=true from rfl,jM],_,rfl,⟨rfl,rfl⟩,by rw[jy,decide_eq_true rfl,if_neg (by decide)];exact key⟩
   ·exact(h (by omega)).elim
  ·rcases hd with⟨h2,_⟩ | ⟨_,j,hb,rfl⟩
   ·exact(h2 (by omega)).elim
   ·exact⟨j,hb,by rw[show(D.int _).fr=true from rfl,jM],_,rfl,⟨rfl,rfl⟩,by rw[jy,decide_eq_true rfl,if_neg (by decide)];exact key⟩
 refine hU _ ?_;clear hU U;subst_eqs;suffices key:U [some (D.fz (aP ns)),some (eG m),some (D.int (af m:Nat)),some (dM t m G k),some (D.int (v:Nat)),some (D.int (n:Nat)),some (D.lst true (av l)),some (D.tup [D.lst true (cP y),D.int d]),none,none] by
  split
  ·rename_i v0;have en2:l9 m G v=ay G:=if_neg (by omega);obtain⟨C,bw,zs,sp,e1,e2,e3,e4⟩:=KQ T m G k T.WD T.WJ T.WN (Zi T) T.KI.b (by decide);refine⟨C,bw,zs,sp,e1,e2,e3,_,rfl,oK y,?_⟩;rw[jf];have kf:true=true/\(if(false != false)=true then Q (D.bl false)else U [some (D.fz (aP ns)),some (eG m),some (D.int (af m:Nat)),some (dM t m G k),some (D.int (v:Nat)),some (D.int (n:Nat)),some (D.lst true (av l)),some (D.tup [D.lst true (cP y),D.int d]),none,none]):=⟨rfl,by rw[if_neg (by decide)];exact key⟩;refine e4 _ _ ⟨m,G,k,y,rfl,hc,hy,?_⟩;rcases hd with⟨h2,_⟩ | ⟨h2,j,hb,_⟩
   ·exact .inl ⟨by omega,kf⟩
   ·refine .inr (.inl ⟨by omega,⟨j,hb.2.1,?_⟩,kf⟩);have h3:=hb.2.2;unfold l8 at h3;split at h3
    ·exact h3
    ·cases ho:y.getD j none with
     | none=>rfl
     | some i=>rw[ho]at h3;exact h3
  ·exact key
 refine hU _ ?_;clear hU U;subst_eqs;refine KP T m G k ⟨_,rfl,⟨by omega,by omega⟩,sW (bV m G).length (λj=>D.int (((jI (ns.getD (dZ 6) 0) (j:Int)%(af m:Int)).toNat:Nat):Int)) (λj hj=>?_) (.inr λ_ _=>rfl) ?_⟩
 ·have:=cJ.mp hj;nofun;refine⟨ns,6,rfl,by decide,_,(j:Int),rfl,by omega,by omega,rfl,by omega,?_⟩;have:=fO (jI (ns.getD (dZ 6) 0) (j:Int)) (show(af m:Int)≠0 by omega);omega
 dsimp only[fP,du];obtain⟨l2,e,E1,Ld⟩:=ms (ns.getD (dZ 6) 0) (bV m G).length;rw[e];clear e;refine hU _ ?_;clear hU U;subst_eqs;rw[<-sZ l2];refine wU T T.WH T.WM T.WR (Yo T) T.Kx.b (by decide) ⟨m,G,k,sO l2,rfl,hc,by rw[jH];omega,λh=>h (by rw[jH];exact E1),λj _ hb=>hb.no (BD Ld),λl' e jQ al'=>?_⟩;obtain rfl:=Rt e;refine⟨gU _,hU _ ?_⟩;clear hU U;have wd:=hc.wd E1;have cw:=hk.cw hc (by omega) E1 Ld;have rd:=hc.read E1 Ld;rw[<-sZ (iA m G l2)];nofun;obtain⟨C,bw,zs,sp,e1,e2,e3,e4⟩:=KQ T m G k T.WD T.WJ T.WN (Zi T) T.KI.b (by decide);refine⟨C,bw,zs,sp,e1,e2,e3,?_⟩;rw[jf];refine e4 _ _ ⟨m,G,k,_,rfl,hc,by rw[jH,wd.ln];omega,.inr (.inr ⟨iA m G l2,rfl,wd.ln,wd.lt,wd.z,rfl,?_⟩)⟩;dsimp only;rw[if_pos (by decide)];refine wU T T.WG T.WL T.WQ (Zh T) T.KH.b (by decide) ⟨m,G,k,_,rfl,hc,by rw[jH,wd.ln];omega,λh=>h (by rw[jH,wd.ln]),λj _ hb=>?_,λ_ _=>⟨iA m G l2,rfl,wd.lt,cw,gU _,?_⟩⟩
 ·have h3:=hb.2.2;have hj:=hb.2.1;have h4:=BD wd.lt _ hj
  cases ho:(sO (iA m G l2)).getD j none with
  | none=>rw[ho]at h3;cases h3
  | some i=>rw[ho]at h3 h4;rw[show k6 m (some i)=gD m (some i) from rfl,h4]at h3;cases h3
 ·rw[show((bV m G).map λp=>(iA m G l2).getD p 0)=l2 from rd,sZ];refine⟨⟨Bh ..,Bh ..⟩,?_⟩;rw[Bi,decide_eq_true rfl];exact q
end
theorem cd8(x:Sx):KO x:=zD λh=>Classical.epsilon_spec (p:=λx=>¬ KO x) ⟨x,h⟩ (by with_unfolding_all exact λT hB=>cR5 T hB)
theorem all_mk{l:PySem.W.OpenLaw}{w:World}{K:Frag}{h:Heap}{mg:Str->Option Value}{fa:Addr}{ts:List Addr}{t:cH}{aE5:Option Addr}{aE6:Array (Option Value)}{Zk:Array Value}{aE7:Value}{aJ2:Option Addr}{aJ3:Array (Option Value)}{Zl:Array Value}{aJ4:Value}(X:K.In h)(G:h.Ns mainGlobals mg)(hfa:mg "law"=some (.ref fa))(T:Txt K mg t)(aW5:K.lookup t.J8=some ⟨aE7,aE5,.fields Zk,aE6⟩)(aW6:Zk[11]?=some (.ref t.qD))(aX2:K.lookup t.J9=some ⟨aJ4,aJ2,.fields Zl,aJ3⟩)(aX3:Zl[11]?=some (.ref t.qE))(nl:K.all (λp=>Hh p.2)=true)(sub:∀P∈[t.qD,t.qE],P∈ts) :
  ∃fd:FuncData,(∀(s:Shared) (v:Value),BindsTo s fd ⟨[v],[]⟩ [("_law_script",v)])/\∀base:Heap,K.In base->base.Ns mainGlobals mg->Bm mg base->aF l.prog w K mg base aN 12 fa fd ["_law_script"] (Dy ts K):=by
 have e:=hfa.symm.trans T.Ku.g;injection e with e
 injection e with e
 subst e;obtain⟨_,_,_,_,_,_,_,_,_,e2,_,_⟩:=T.Ku.F.ex;exact⟨t.EB,λs v=>by rw[e2];exact .of_eq rfl,λbase _ _ hB=>(cd8 ⟨_,_,_,_,_,_⟩ T hB).imp λvs H Q E h=>let z:=ci1 nl h;⟨λP hP=>z.1 P (sub P hP),z.2⟩⟩
theorem aE8{K:Frag}{h:Heap}{c f k P:Addr}{od an:Option Addr}{sl:Array (Option Value)}{oc kV dc pm ct kt:Value}{ko:Option Addr}{ks:Array (Option Value)}{kf:Array Value}(X:K.In h)(a:PySem.W.nsIn K mainGlobals "PrimeField"=some (some (.ref c)))(b:PySem.W.findIn K (.ref c) "__init__"=some (some (.ref f)))
  (l:K.lookup f=some ⟨oc,od,.func (PySem.W.fnOf "__init__" "PrimeField.__init__" (nO BG) (gL BG) (aG BG) .none kV dc pm an (.ref k) ct),sl⟩) (lk:K.lookup k=some ⟨kt,ko,.fields kf,ks⟩) (lp:kf[11]?=some (.ref P)) (n:K.lookup P=none) (e:codeHdIn K k P=true):K.lookup P=none/\∃c,CodeHd h c P:=⟨n,k,PySem.W.codeHd_of_K X e⟩
theorem aJ5{K:Frag}{h:Heap}{c f k P:Addr}{od an:Option Addr}{sl:Array (Option Value)}{oc kV dc pm ct kt:Value}{ko:Option Addr}{ks:Array (Option Value)}{kf:Array Value}(X:K.In h)(a:PySem.W.nsIn K mainGlobals "BitField"=some (some (.ref c)))(b:PySem.W.findIn K (.ref c) "__init__"=some (some (.ref f)))
  (l:K.lookup f=some ⟨oc,od,.func (PySem.W.fnOf "__init__" "BitField.__init__" (nO BH) (gL BH) (aG BH) .none kV dc pm an (.ref k) ct),sl⟩) (lk:K.lookup k=some ⟨kt,ko,.fields kf,ks⟩) (lp:kf[11]?=some (.ref P)) (n:K.lookup P=none) (e:codeHdIn K k P=true):K.lookup P=none/\∃c,CodeHd h c P:=⟨n,k,PySem.W.codeHd_of_K X e⟩
theorem walk{l:PySem.W.OpenLaw}{q:Program}{loose:List Str}{XP:(Str->Option Value)->Heap->Prop}{YP:World->Heap->Prop}{d:DefRec}{K:Params->Frag}{ts:List Addr}(hn:l.most=some 63)(Ao:d.params.defaults=[])
  (hY:∀(w:World) (h:Heap),YP w h->(K w.params).In h/\∀P∈ts,h.get? P=some (PySem.W.tabObj #[]))
  (hC:∀(w:World) (h:Heap),(K w.params).In h->∀P∈ts,(K w.params).lookup P=none/\∃c,CodeHd h c P)
  (F:∀(w:World) (mg:Str->Option Value) (fa:Addr) (h:Heap),(K w.params).In h->h.Ns mainGlobals mg->mg d.name=some (.ref fa) ->
   ∃fd:FuncData,(∀(s:Shared) (u:Value),BindsTo s fd ⟨[u],[]⟩ [("_law_script",u)])/\∀base:Heap,(K w.params).In base->base.Ns mainGlobals mg->Bm mg base->aF l.prog w (K w.params) mg base aN 12 fa fd ["_law_script"] (Dy ts (K w.params))) :
  PySem.W.WalkO q loose XP YP l.row.toRowW d [] (λf vs=>PySem.call f vs) :=
 L2.dz1 (n:=63) (k:=12) (x:="_law_script") (CX:=λ_=>aN) (sp:=λw=>Dy ts (K w.params)) hn (by decide) Ao ⟨rfl,by decide,by decide⟩ hY hC F (λ_ _ a ns hl hO hS=>⟨a,ns,rfl,hO,hS,hl,λ_=>rfl⟩) λ_ _ _ _ _ z=>z
end HK35
open Lean in
local macro_rules|`(command|#where)=>return mkNullNode (←[("heap_",[39,46,1305]),("o_",List.range' 43 1262),("sts_",[49,71,86,101,116,131,153,199,276,299,488,539,594,642,696,898,972,1044,1118,1134,1183,1270]),("tree_",[47,70,85,100,115,130,152,198,275,298,401,484,538,593,641,695,809,894,971,1043,1117,1133,1182,1269,1304]),("view_",[39])].toArray.flatMapM fun p=>p.2.toArray.mapM fun i=>`(command|theorem $(mkIdent (.str `PySem.W.Fast ("tw"++toString (Name.str `PySem.Challenge.cw_mendfield_k35_words_refused_holds (p.1++toString i)).hash))):ident:True:=⟨⟩))
#where
theorem PySem.W.Fast.tw7138263902511101740:True:=⟨⟩
open PySem PySem.W PyProof.Rows
end
set_option maxRecDepth 100000 in
set_option maxHeartbeats 0 in
theorem PySem.Challenge.cw_mendfield_k35_words_refused_holds : PySem.Challenge.rw_mendfield_k35_words_refused.Holds := by
 w_on;o_law;k_head;(case hw=>w_witness2)
 k_fill
 refine HK35.walk (l:=PySem.Challenge.rw_mendfield_k35_words_refused) rfl rfl (λw h Y=>⟨PySem.W.km_in_of Y,PySem.W.km_tabs_of Y⟩) ?C ?F
 case C =>
  intro w h hX
  repeat' (first | exact List.forall_mem_nil _ | refine List.forall_mem_cons.mpr ⟨?_,?_⟩)
  all_goals first | (refine' HK35.aE8 hX ?a ?b ?l ?lk ?lp ?n ?e;(case a=>k_is);(case b=>k_is);(case l=>k_is);(case lk=>k_is);(case lp=>first | rfl | with_unfolding_all rfl);(case n=>kernel_rfl);(case e=>kernel_rfl)) | (refine' HK35.aJ5 hX ?a ?b ?l ?lk ?lp ?n ?e;(case a=>k_is);(case b=>k_is);(case l=>k_is);(case lk=>k_is);(case lp=>first | rfl | with_unfolding_all rfl);(case n=>kernel_rfl);(case e=>kernel_rfl))
 case F =>
  intro w mg fa h KX G Ap;refine' HK35.all_mk (t:=HK35.cH.mk ..) KX G Ap (HK35.Txt.mk ..) ?lk0 ?lp0 ?lk1 ?lp1 ?nl ?sub
  rotate_left 225
  iterate 13 ((try dsimp only);exact PySem.W.mg_of KX G (by k_is))
  iterate 15 ((try dsimp only);exact PySem.W.mg_none_of KX G (by k_is))
  iterate 42 ((try dsimp only);focus (apply L2.Meth.mk<;>k_is))
  iterate 5 ((try dsimp only);focus (apply L2.Mk.mk<;>k_is))
  iterate 2 ((try dsimp only);focus (apply L2.qj.mk<;>k_is))
  iterate 1 ((try dsimp only);focus (apply L2.Ji.mk<;>k_is))
  iterate 1 ((try dsimp only);focus (apply L2.sX.mk<;>first | k_is | kernel_rfl))
  iterate 63 ((try dsimp only);focus (apply L2.Fk.of KX G;(case a=>k_is);(case F=>apply L2.Gp<;>k_is);(case b=>first | exact λ_ _ _ _ _ _=>L2.D4 λ_=>rfl | exact λ_ _ _ _ _ _=>L2.D6 λ_ _=>rfl | exact λ_ _ _ _ _ _=>L2.D7 λ_ _ _=>rfl | exact λ_ _ _ _ _ _=>L2.D8 λ_ _ _ _=>rfl | exact λ_ _ _ _ _ _=>L2.D9 λ_ _ _ _ _=>rfl)))
  iterate 2 ((try dsimp only);focus (apply L3.Fa.of KX G;(case a=>k_is);(case F=>apply L2.Gp<;>k_is);(case b=>first | exact λ_ _ _ _ _ _=>L2.D4 λ_=>rfl | exact λ_ _ _ _ _ _=>L2.D6 λ_ _=>rfl | exact λ_ _ _ _ _ _=>L2.D7 λ_ _ _=>rfl | exact λ_ _ _ _ _ _=>L2.D8 λ_ _ _ _=>rfl | exact λ_ _ _ _ _ _=>L2.D9 λ_ _ _ _ _=>rfl)))
  iterate 34 ((try dsimp only);focus (apply L2.Fm.of;(case F=>apply L2.Gp<;>k_is);(case b=>first | exact λ_ _ _ _ _ _=>L2.D4 λ_=>rfl | exact λ_ _ _ _ _ _=>L2.D6 λ_ _=>rfl | exact λ_ _ _ _ _ _=>L2.D7 λ_ _ _=>rfl | exact λ_ _ _ _ _ _=>L2.D8 λ_ _ _ _=>rfl | exact λ_ _ _ _ _ _=>L2.D9 λ_ _ _ _ _=>rfl)))
  iterate 1 ((try dsimp only);focus (apply L2.dO8<;>k_is))
  iterate 1 ((try dsimp only);focus (apply L2.dO9 rfl;(case ho=>k_is);(case hs=>rfl);(case h=>first | exact L2.D9 λ_ _ _ _ _=>⟨_,rfl,rfl⟩)))
  iterate 2 (exact rfl)
  (case lk0=>k_is)
  (case lp0=>first | rfl | with_unfolding_all rfl)
  (case lk1=>k_is)
  (case lp1=>first | rfl | with_unfolding_all rfl)
  iterate 2 ((try dsimp only);kernel_rfl)
  iterate 5 ((try dsimp only);focus (apply L2.cF.mk<;>k_is))
  iterate 5 ((try dsimp only);focus (apply L3.sF.mk;apply L2.cF.mk;all_goals k_is))
  iterate 34 ((try dsimp only);focus (unfold L2.bc;k_is))
  iterate 2 ((try dsimp only);exact L3.dx4 (PySem.W.mg_of KX G (by k_is)) (by k_exc))
  iterate 3 ((try dsimp only);focus (apply L2.jn.mk<;>first | k_is | rfl | decide))
  iterate 24 ((try dsimp only);first | exact L3.dx5 | exact L3.kit_cls (by first | rfl | decide | k_is) (by first | k_is | rfl | decide) (by k_is) (by k_is) | exact L3.dx6 rfl (by decide +kernel) (by k_is))
  iterate 3 ((try dsimp only);exact L3.exm_cls (by first | k_is | rfl | decide) (by k_is) (by k_is) (by k_is))
  (case nl=>first | k_is | rfl | decide)
  (case sub=>decide)
