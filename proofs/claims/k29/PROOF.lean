import PyProof.Rows.All
import Wide.All
import OpenK.AllK
import Wide.FinOn
import Lean
import PyProof.EqAt
import PyProof.EqKinds
import PyProof.TupleCall
import PyProof.NeKinds
import PyProof.Rows.Range3
import PyProof.FitsBits
import PyProof.StationsW
import PyProof.NsDelKeeps
import PyProof.Rows.CatchOwn
import KE.KTryMore
import PyProof.ExcArgsOwn
import PyProof.ExcAttrAll.ValueError
import OpenK.KOwn
import PyProof.ZipIter
import PyProof.WalksEnum
import PyProof.EnumMake
import KE.KIntText
import PyProof.Conv_int
import PyProof.StrWalks
import PyProof.StrLawsFirst
import KE.KLam
import KE.KNestM
import KE.KRevIter
import PyProof.ListRange
import PyProof.Rows.SortWalk
import PySem.Challenge.RW_mendfield_k29_columns_of_powers
set_option Elab.async false
set_option linter.all false
set_option maxRecDepth 100000
namespace L2
open PySem PySem.Spec PyProof.Rows
noncomputable abbrev Key:=Sum Int Str
noncomputable def cj2:Key->Value->Bool
 | .inl k,v=>Value.isInt k v
 | .inr x,v=>Value.isStrOf x v
noncomputable def cD0 (w:World):Key->Int
 | .inl k=>hashInt k
 | .inr x=>hashStr w x
theorem aS8:∀{k:Key} {v:Value},cj2 k v=true->(∃i t,k=Sum.inl i/\v=Value.int i t)\/(∃x t,k=Sum.inr x/\v=Value.str x t)
 | .inl i,v,h=>by
  obtain ⟨t,e⟩:=Value.isInt_shape (k:=i) (v:=v) h
  exact .inl ⟨i,t,rfl,e⟩
 | .inr x,v,h=>by
  obtain ⟨t,e⟩:=Value.isStrOf_shape (x:=x) (v:=v) h
  exact .inr ⟨x,t,rfl,e⟩
theorem co5 (a b:Int):decide ((Sum.inl a:Key)=Sum.inl b)=(a == b):=by
 by_cases e:a=b
 ·subst e; simp
 ·have h:¬ (Sum.inl a:Key)=Sum.inl b:=λq=>e (Sum.inl.inj q)
  rw [decide_eq_false h]
  exact (beq_eq_false_iff_ne.mpr e).symm
theorem cl7 (a b:Str):decide ((Sum.inr a:Key)=Sum.inr b)=decide (a=b):=by
 by_cases e:a=b
 ·subst e; simp
 ·have h:¬ (Sum.inr a:Key)=Sum.inr b:=λq=>e (Sum.inr.inj q)
  rw [decide_eq_false h,decide_eq_false e]
theorem cj8 (a:Int) (b:Str):decide ((Sum.inl a:Key)=Sum.inr b)=false:=decide_eq_false (λq=>nomatch q)
theorem cj4 (a:Str) (b:Int):decide ((Sum.inr a:Key)=Sum.inl b)=false:=decide_eq_false (λq=>nomatch q)
noncomputable def bG2 (prog:Program) (w:World):PySem.KeyKind prog w Key where
 is:=cj2
 hash:=cD0 w
 inj:=λv a b ha hb=>by
  rcases aS8 ha with ⟨i,t,rfl,rfl⟩ | ⟨x,t,rfl,rfl⟩
  ·rcases aS8 hb with ⟨j,u,rfl,e⟩ | ⟨y,u,rfl,e⟩
   ·injection e with e1 _; rw [e1]
   ·exact nomatch e
  ·rcases aS8 hb with ⟨j,u,rfl,e⟩ | ⟨y,u,rfl,e⟩
   ·exact nomatch e
   ·injection e with e1 _; rw [e1]
 byValue:=λk v h=>by
  rcases aS8 h with ⟨i,t,rfl,rfl⟩ | ⟨x,t,rfl,rfl⟩ <;> rfl
 pyHash:=λhv h=>by
  rcases aS8 hv with ⟨i,t,rfl,rfl⟩ | ⟨x,t,rfl,rfl⟩
  ·exact wpAny_pyHash_int h
  ·exact wpAny_pyHash_str h
 eqBool:=λhu hv h=>by
  rcases aS8 hu with ⟨i,t,rfl,rfl⟩ | ⟨x,t,rfl,rfl⟩
  ·rcases aS8 hv with ⟨j,u,rfl,rfl⟩ | ⟨y,u,rfl,rfl⟩
   ·rw [co5] at h; exact wpAny_eqBool_int h
   ·rw [cj8] at h; exact SeqAt.EqAt.int_str i t y u _ _ _ _ h
  ·rcases aS8 hv with ⟨j,u,rfl,rfl⟩ | ⟨y,u,rfl,rfl⟩
   ·rw [cj4] at h; exact SeqAt.EqAt.str_int x t j u _ _ _ _ h
   ·rw [cl7] at h; exact wpAny_eqBool_str h
 «strs»:=λk x t v h=>by
  rcases aS8 h with ⟨i,u,rfl,e⟩ | ⟨y,u,rfl,e⟩
  ·exact nomatch e
  ·injection e with e1 _
   subst e1
   cases v <;> rfl
end L2
namespace L2
open PySem PySem.Spec PyProof.Rows
inductive V where
 | non | bl (b:Bool) | int (i:Int) | str (x:Str) | byt (b:Array UInt8) | flt (b:UInt64) | ref (a:Addr) | ty (n:String)
 deriving DecidableEq
noncomputable def RelV:V->Value->Prop
 | .non,u=>u=Value.none
 | .bl b,u=>u=Value.bool b
 | .int i,u=>∃t,u=Value.int i t
 | .str x,u=>∃t,u=Value.str x t
 | .byt b,u=>∃t,u=Value.bytes b t
 | .flt b,u=>∃t,u=Value.float b t
 | .ref a,u=>u=Value.ref a
 | .ty n,u=>u=Value.type n
noncomputable abbrev Vals:List V->List Value->Prop:=Paired RelV
theorem Vals.length {xs:List V} {us:List Value} (r:Vals xs us):xs.length=us.length:=Paired.length r
theorem Vals.get:∀{xs:List V} {us:List Value} {i:Nat} {x:V},Vals xs us->xs[i]?=some x->∃u,us[i]?=some u/\RelV x u
 | _,_,_,_,.nil,e=>by simp at e
 | _,_,0,_,.cons r _,e=>by simp at e; subst e; exact ⟨_,rfl,r⟩
 | _,_,i + 1,x,.cons _ t,e=>by
  obtain ⟨u,h1,h2⟩:=Vals.get (i:=i) (x:=x) t (by simpa using e)
  exact ⟨u,by simpa using h1,h2⟩
theorem Vals.set {x:V} {u:Value} (r:RelV x u):∀{xs:List V} {us:List Value} (i:Nat),Vals xs us->Vals (xs.set i x) (us.set i u)
 | _,_,_,.nil=>.nil
 | _,_,0,.cons _ t=>.cons r t
 | _,_,i + 1,.cons q t=>.cons q (Vals.set r i t)
theorem Vals.append:∀{xs ys:List V} {us ws:List Value},Vals xs us->Vals ys ws->Vals (xs++ys) (us++ws)
 | _,_,_,_,.nil,s=>s
 | _,_,_,_,.cons r t,s=>.cons r (Vals.append t s)
theorem Vals.take:∀{xs:List V} {us:List Value} (n:Nat),Vals xs us->Vals (xs.take n) (us.take n)
 | _,_,0,_=>.nil
 | _,_,_ + 1,.nil=>.nil
 | _,_,n + 1,.cons r t=>.cons r (Vals.take n t)
theorem Vals.drop:∀{xs:List V} {us:List Value} (n:Nat),Vals xs us->Vals (xs.drop n) (us.drop n)
 | _,_,0,r=>r
 | _,_,_ + 1,.nil=>.nil
 | _,_,n + 1,.cons _ t=>Vals.drop n t
theorem Vals.none_of:∀{xs:List V} {us:List Value} {i:Nat},Vals xs us->xs[i]?=none->us[i]?=none:=λ{xs us i} r e=>by
 have h1:=r.length
 have h2:xs.length<=i:=List.getElem?_eq_none_iff.mp e
 exact List.getElem?_eq_none_iff.mpr (by omega)
noncomputable def RelO:Option V->Option Value->Prop
 | some v,some u=>RelV v u
 | none,none=>True
 | _,_=>False
noncomputable def KV {κ:Type}:List (κ × V)->List (κ × Value)->Prop:=Paired λ(p:κ × V) (q:κ × Value)=>p.1=q.1/\RelV p.2 q.2
noncomputable def kV:Key->V
 | .inl i=>.int i
 | .inr x=>.str x
inductive HO where
 | lst (xs:List V)
 | tup (xs:List V)
 | dK (kvs:List (Key × V)) | dT (kvs:List (List Key × V))
 | set (S:Int->Bool) (n:Nat)
 | ins (C dx:Addr) (fs:List (Str × V))
 | own (x:Addr)
 | xd (fs:List (Str × V))
 | met (f x:Addr)
 | rng (lo hi:Int)
 | frz (o:Obj) (u:HO)
 | tbl (ps:Array Value)
 | ext (φ:Heap->Prop)
noncomputable abbrev Hp:=Addr->Option HO
noncomputable def upd (H:Hp) (a:Addr) (o:HO):Hp:=λb=>if b=a then some o else H b
theorem aP7 {H:Hp} {a:Addr} {o:HO}:upd H a o a=some o:=by unfold upd; rw [if_pos rfl]
theorem aP5 {H:Hp} {a b:Addr} {o:HO} (h:b≠a):upd H a o b=H b:=by unfold upd; rw [if_neg h]
theorem aQ1 {H:Hp} {a b:Addr} {o:HO} (h:H a=some o) (h':H b=none):a≠b:=by
 intro e; subst e; rw [h] at h'; cases h'
section
variable (P:Program) (w:World)
noncomputable def ObjOk (H:Hp) (h:Heap) (a:Addr):HO->Prop
 | .lst xs=>xs.length<=sizeLine/\∃(its:List Value) (n:Nat),Vals xs its/\h.get? a=some { cls:=.type "list",data:=.seq its.toArray n }
 | .tup xs=>xs.length<=sizeLine/\∃its:List Value,Vals xs its/\IsTup h a its.toArray
 | .dK kvs=>kvs.length<=sizeLine/\(a == sysModules)=false/\∃vs,KV kvs vs/\h.DictOf (bG2 P w) a vs
 | .dT kvs=>kvs.length<=sizeLine/\(a == sysModules)=false/\∃xs:List (List Key × Addr × Value),
   Paired (λ(p:List Key × V) (q:List Key × Addr × Value)=>p.1=q.1/\H q.2.1=some (.tup (p.1.map kV))/\RelV p.2 q.2.2) kvs xs /\
   ∃o es ep,h.get? a=some o/\o.ExactDict/\o.data=.dict es ep/\es.toList=xs.map (entryOfKey (tupleKind (bG2 P w)))/\(xs.map (·.1)).Nodup
 | .set S n=>h.SetOf (intKind P w) a S n
 | .ins C dx fs=>H dx=some (.own a)/\fs.length<=1000/\dx≠a/\h.get? a=some (PySem.W.instObj C dx) /\
   ∃mA,h.Ns1 dx mA/\(∀f,RelO (fs.lookup f) (mA f))/\PySem.Within mA (fs.map (·.1))
 | .own _=>∃o,h.get? a=some o
 | .xd fs=>∃mA,h.Ns1 a mA/\∀f,RelO (fs.lookup f) (mA f)
 | .rng lo hi=>∃t u v,h.get? a=some { cls:=.type "range",data:=.fields #[.int lo t,.int hi u,.int 1 v] }
 | .frz o u=>h.get? a=some o/\ObjOk H h a u
 | .tbl ps=>h.get? a=some { cls:=.none,data:=.fields ps }/\TriplesOk ps.toList/\∀pos cv,codeAmong pos ps.toList=some cv->∃c φ,cv=.ref c/\H c=some (.ext φ)/\∀h',φ h'->∃q,h'.CodeRec (.ref c) q
 | .met f x=>h.get? a=some (PySem.W.methodObj (.ref f) (.ref x))
 | .ext φ=>φ h/\(∃o,h.get? a=some o)/\∀h1 h2:Heap,φ h1->(∀b o,(b=a\/H b=some (.own a))->h1.get? b=some o->h2.get? b=some o)->φ h2
noncomputable def HOk (H:Hp) (h:Heap):Prop:=∀a o,H a=some o->ObjOk P w H h a o
end
section
variable {P:Program} {w:World} {H H':Hp} {h h':Heap} {a:Addr} {o:HO}
theorem ObjOk.lt (x:ObjOk P w H h a o):a < h.objs.size:=by
 cases o with
 | lst xs=>obtain ⟨_,_,_,_,e⟩:=x; exact Heap.lt_size e
 | tup xs=>obtain ⟨_,_,_,p⟩:=x; exact p.lt
 | dK kvs=>obtain ⟨_,_,_,_,o,_,_,e,_⟩:=x; exact Heap.lt_size e
 | dT kvs=>obtain ⟨_,_,_,_,o,_,_,e,_⟩:=x; exact Heap.lt_size e
 | set S n=>obtain ⟨o,_,_,_,e,_⟩:=x; exact Heap.lt_size e
 | ins C dx fs=>obtain ⟨_,_,_,e,_⟩:=x; exact Heap.lt_size e
 | own y=>obtain ⟨_,e⟩:=x; exact Heap.lt_size e
 | xd fs=>obtain ⟨_,⟨_,_,_,e,_⟩,_⟩:=x; exact Heap.lt_size e
 | rng lo hi=>obtain ⟨_,_,_,e⟩:=x; exact Heap.lt_size e
 | frz ob u=>obtain ⟨e,_⟩:=x; exact Heap.lt_size e
 | tbl ps=>exact Heap.lt_size (show h.get? a=some _ from x.1)
 | met f y=>exact Heap.lt_size (show h.get? a=some _ from x)
 | ext φ=>obtain ⟨_,⟨_,e⟩,_⟩:=x; exact Heap.lt_size e
theorem Paired.mapP {α β:Type} {F G:α->β->Prop}:∀{l₁:List α} {l₂:List β},Paired F l₁ l₂->(∀a b,F a b->G a b)->Paired G l₁ l₂
 | _,_,.nil,_=>.nil
 | _,_,.cons r t,f=>.cons (f _ _ r) (Paired.mapP t f)
theorem ObjOk.stay (x:ObjOk P w H h a o) (k:∀b u,(b=a\/H b=some (.own a))->h.get? b=some u->h'.get? b=some u)
  (ho:∀b,H b=some (.own a)->H' b=some (.own a)) (ht:∀b xs,H b=some (.tup xs)->H' b=some (.tup xs)) (hx:∀b φ,H b=some (.ext φ)->H' b=some (.ext φ)):ObjOk P w H' h' a o:=by
 induction o with
 | lst xs=>obtain ⟨z,its,n,r,e⟩:=x; exact ⟨z,its,n,r,k _ _ (.inl rfl) e⟩
 | tup xs=>obtain ⟨z,its,r,ob,e,c⟩:=x; exact ⟨z,its,r,ob,k _ _ (.inl rfl) e,c⟩
 | dK kvs=>obtain ⟨z,y,vs,r,ob,es,ep,e,c⟩:=x; exact ⟨z,y,vs,r,ob,es,ep,k _ _ (.inl rfl) e,c⟩
 | dT kvs =>
  obtain ⟨z,y,xs,r,ob,es,ep,e,c⟩:=x
  exact ⟨z,y,xs,Paired.mapP r λp q z=>⟨z.1,ht _ _ z.2.1,z.2.2⟩,ob,es,ep,k _ _ (.inl rfl) e,c⟩
 | set S n=>obtain ⟨ob,es,ep,t,e,c⟩:=x; exact ⟨ob,es,ep,t,k _ _ (.inl rfl) e,c⟩
 | ins C dx fs =>
  obtain ⟨d,z,ne,e,mA,⟨od,es,ep,e2,c⟩,r⟩:=x
  exact ⟨ho _ d,z,ne,k _ _ (.inl rfl) e,mA,⟨od,es,ep,k _ _ (.inr d) e2,c⟩,r⟩
 | own y=>obtain ⟨ob,e⟩:=x; exact ⟨ob,k _ _ (.inl rfl) e⟩
 | xd fs=>obtain ⟨mA,⟨od,es,ep,e,c⟩,r⟩:=x; exact ⟨mA,⟨od,es,ep,k _ _ (.inl rfl) e,c⟩,r⟩
 | rng lo hi=>obtain ⟨t,u,v,e⟩:=x; exact ⟨t,u,v,k _ _ (.inl rfl) e⟩
 | frz ob u ih=>obtain ⟨e,q⟩:=x; exact ⟨k _ _ (.inl rfl) e,ih q⟩
 | tbl ps =>
  obtain ⟨e,t,c⟩:=x
  refine ⟨k a _ (.inl rfl) e,t,λpos cv q=>?_⟩
  obtain ⟨d,φ,e1,e2,e3⟩:=c pos cv q
  exact ⟨d,φ,e1,hx _ _ e2,e3⟩
 | met f y =>
  have e:h.get? a=some (PySem.W.methodObj (.ref f) (.ref y)):=x
  show h'.get? a=some (PySem.W.methodObj (.ref f) (.ref y))
  exact k a _ (.inl rfl) e
 | ext φ=>obtain ⟨p,⟨o,e⟩,st⟩:=x; exact ⟨st _ _ p λb o hb q=>k _ _ hb q,⟨o,k _ _ (.inl rfl) e⟩,λh1 h2 p1 kk=>st h1 h2 p1 λb o hb q=>kk b o (hb.imp id (ho b)) q⟩
theorem HOk.lt (x:HOk P w H h) (e:H a=some o):a < h.objs.size:=(x a o e).lt
theorem HOk.fresh (x:HOk P w H h) (e:h.objs.size<=a):H a=none:=by
 cases q:H a with
 | none=>rfl
 | some u=>exact absurd (Nat.lt_of_lt_of_le (x.lt q) e) (Nat.lt_irrefl _)
theorem HOk.kept (x:HOk P w H h) (k:∀b u,h.get? b=some u->h'.get? b=some u):HOk P w H h':=λa o e =>
 (x a o e).stay (λb u _ q=>k b u q) (λ_ q=>q) (λ_ _ q=>q) λ_ _ q=>q
theorem HOk.laid (x:HOk P w H h) (k:∀b u,h.get? b=some u->h'.get? b=some u) (hp:h.objs.size<=a) (new:ObjOk P w (upd H a o) h' a o):HOk P w (upd H a o) h':=λb u e=>by
 have hn:=x.fresh hp
 by_cases hb:b=a
 ·subst hb; rw [aP7] at e; cases e; exact new
 ·rw [aP5 hb] at e
  exact (x b u e).stay (λc v _ q=>k c v q) (λc q=>by rw [aP5 (aQ1 q hn)]; exact q) (λc xs q=>by rw [aP5 (aQ1 q hn)]; exact q) λc xs q=>by rw [aP5 (aQ1 q hn)]; exact q
end
noncomputable def Rd (H:Hp) (a:Addr) (u:HO):Prop:=H a=some u\/∃o,H a=some (.frz o u)
theorem Rd.of {H:Hp} {a:Addr} {u:HO} (h:H a=some u):Rd H a u:=.inl h
theorem Rd.ok {P:Program} {w:World} {H:Hp} {h:Heap} {a:Addr} {u:HO} (r:Rd H a u) (x:HOk P w H h):ObjOk P w H h a u:=by
 rcases r with r | ⟨o,r⟩
 ·exact x a u r
 ·obtain ⟨_,q⟩:=x a _ r
  exact q
noncomputable def Mut:Option HO->Prop
 | some (.lst _)=>True
 | some (.dK _)=>True
 | some (.dT _)=>True
 | some (.set _ _)=>True
 | some (.ins _ _ _)=>True
 | _=>False
section
variable {P:Program} {w:World} {H:Hp} {h h':Heap} {x e:Addr} {o':HO}
theorem HOk.write (ok:HOk P w H h) (mu:Mut (H x)) (he:e=x\/H e=some (.own x)) (k:∀b u,b≠e->h.get? b=some u->h'.get? b=some u) (heo:∃u,h'.get? e=some u)
  (new:ObjOk P w (upd H x o') h' x o'):HOk P w (upd H x o') h':=λb u q=>by
 have nown:∀c y,H c=some (.own y)->c≠x:=λc y r z=>by subst z; rw [r] at mu; exact mu
 have ntup:∀c xs,H c=some (.tup xs)->c≠x:=λc xs r z=>by subst z; rw [r] at mu; exact mu
 by_cases hb:b=x
 ·subst hb; rw [aP7] at q; cases q; exact new
 ·rw [aP5 hb] at q
  by_cases hbe:b=e
  ·have q':H b=some (.own x):=by
    rcases he with z | z
    ·exact absurd (hbe.trans z) hb
    ·rw [hbe]; exact z
   rw [q] at q'; cases q'
   obtain ⟨v,hv⟩:=heo
   exact ⟨v,by rw [hbe]; exact hv⟩
  ·refine (ok b u q).stay (λc v hc r=>k c v ?_ r) (λc r=>by rw [aP5 (nown c b r)]; exact r) (λc xs r=>by rw [aP5 (ntup c xs r)]; exact r) λc φ r=>by rw [aP5 (λz=>by rw [z] at r; rw [r] at mu; exact mu)]; exact r
   rcases hc with rfl | hc
   ·exact hbe
   ·rintro rfl
    rcases he with z | z
    ·exact nown c b hc z
    ·rw [hc] at z; cases z; exact hb rfl
end
structure Un (fs ex:List Addr) (H H':Hp) (h h':Heap):Prop where
 keep:∀b o,h.get? b=some o->H b=none->b ∉ fs->b ∉ ex->h'.get? b=some o
 slot:∀b o,h.get? b=some o->H b=none->b∈fs->b ∉ ex->∃sl,h'.get? b=some { o with slots:=sl }
 free:∀b o,h.get? b=some o->H b=none->b ∉ ex->H' b=none
 there:∀b o,h.get? b=some o->b ∉ ex->∃o',h'.get? b=some o'
 tups:∀b xs,H b=some (.tup xs)->H' b=some (.tup xs)
 frzs:∀b o u,H b=some (.frz o u)->H' b=some (.frz o u)
 tbls:∀b ps,H b=some (.tbl ps)->∃more,H' b=some (.tbl (ps++more))
section
variable {fs fs' ex ex':List Addr} {H H1 H2:Hp} {h h1 h2 h':Heap} {a x e:Addr} {o:HO}
theorem Un.any (u:Un fs ex H H1 h h1) {b:Addr} {ob:Obj} (q:h.get? b=some ob) (n:H b=none) (hx:b ∉ ex):∃sl,h1.get? b=some { ob with slots:=sl }:=by
 by_cases hb:b∈fs
 ·exact u.slot b ob q n hb hx
 ·exact ⟨ob.slots,u.keep b ob q n hb hx⟩
theorem Un.trans (a:Un fs ex H H1 h h1) (b:Un fs ex H1 H2 h1 h2):Un fs ex H H2 h h2 where
 keep:=λc ob q n hc hx=>b.keep c ob (a.keep c ob q n hc hx) (a.free c ob q n hx) hc hx
 slot:=λc ob q n hc hx=>by
  obtain ⟨sl,e1⟩:=a.slot c ob q n hc hx
  obtain ⟨sl',e2⟩:=b.slot c _ e1 (a.free c ob q n hx) hc hx
  exact ⟨sl',e2⟩
 free:=λc ob q n hx=>by
  obtain ⟨o',e1⟩:=a.there c ob q hx
  exact b.free c o' e1 (a.free c ob q n hx) hx
 there:=λc ob q hx=>by
  obtain ⟨o',e1⟩:=a.there c ob q hx
  exact b.there c o' e1 hx
 tups:=λc xs q=>b.tups c xs (a.tups c xs q)
 frzs:=λc ob xs q=>b.frzs c ob xs (a.frzs c ob xs q)
 tbls:=λc ps q=>by
  obtain ⟨m1,e1⟩:=a.tbls c ps q
  obtain ⟨m2,e2⟩:=b.tbls c _ e1
  exact ⟨m1++m2,by rw [e2,Array.append_assoc]⟩
theorem Un.kept (k:∀b u,h.get? b=some u->h'.get? b=some u):Un fs ex H H h h' :=
 ⟨λb ob q _ _ _=>k b ob q,λb ob q _ _ _=>⟨ob.slots,k b ob q⟩,λ_ _ _ n _=>n,λb ob q _=>⟨ob,k b ob q⟩,λ_ _ q=>q,λ_ _ _ q=>q,λ_ ps q=>⟨#[],by rw [q]; simp⟩⟩
theorem Un.refl:Un fs ex H H h h:=Un.kept λ_ _ q=>q
theorem Un.laid (k:∀b u,h.get? b=some u->h'.get? b=some u) (hp:h.objs.size<=a) (hn:H a=none):Un fs ex H (upd H a o) h h' where
 keep:=λb u q _ _ _=>k b u q
 slot:=λb u q _ _ _=>⟨u.slots,k b u q⟩
 free:=λb u q n _=>by rw [aP5 (Nat.ne_of_lt (Nat.lt_of_lt_of_le (Heap.lt_size q) hp))]; exact n
 there:=λb u q _=>⟨u,k b u q⟩
 tups:=λb xs q=>by rw [aP5 (aQ1 q hn)]; exact q
 frzs:=λb u xs q=>by rw [aP5 (aQ1 q hn)]; exact q
 tbls:=λb ps q=>⟨#[],by rw [aP5 (aQ1 q hn),q]; simp⟩
theorem Un.write (mu:Mut (H x)) (he:e=x\/H e=some (.own x)) (k:∀b u,b≠e->h.get? b=some u->h'.get? b=some u) (heo:∃u,h'.get? e=some u):Un fs ex H (upd H x o) h h':=by
 have hx:∀b,H b=none->b≠x:=λb n z=>by subst z; rw [n] at mu; exact mu
 have hb:∀b,H b=none->b≠e:=λb n z=>by
  subst z
  rcases he with r | r
  ·exact hx b n r
  ·rw [n] at r; cases r
 have hm:∀b u,H b=some u->¬ Mut (some u)->b≠x:=λb u q nm z=>by subst z; rw [q] at mu; exact nm mu
 refine ⟨λb u q n _ _=>k b u (hb b n) q,λb u q n _ _=>⟨u.slots,k b u (hb b n) q⟩,λb u q n _=>by rw [aP5 (hx b n)]; exact n,λb u q _=>?_,
  λb xs q=>by rw [aP5 (hm b _ q λz=>z)]; exact q,λb u xs q=>by rw [aP5 (hm b _ q λz=>z)]; exact q,λb ps q=>⟨#[],by rw [aP5 (hm b _ q λz=>z),q]; simp⟩⟩
 by_cases hbe:b=e
 ·subst hbe; exact heo
 ·exact ⟨u,k b u hbe q⟩
theorem Un.mono (u:Un fs ex H H1 h h1) (hs:∀b∈fs,b∈fs') (hx:∀b∈ex,b∈ex'):Un fs' ex' H H1 h h1 :=
 ⟨λb ob q n hb he=>u.keep b ob q n (λz=>hb (hs b z)) λz=>he (hx b z),λ_ _ q n _ he=>u.any q n λz=>he (hx _ z),λb ob q n he=>u.free b ob q n λz=>he (hx b z),λb ob q he=>u.there b ob q λz=>he (hx b z),u.tups,u.frzs,u.tbls⟩
end
noncomputable def trk (h:Heap) (H:Hp):List Addr:=(List.range h.objs.size).filter λa=>(H a).isSome
noncomputable def bP6 (h:Heap) (H:Hp):Heap:=PySem.W.hideAll h (trk h H)
theorem bM7 (h:Heap) (H:Hp):(bP6 h H).objs.size=h.objs.size:=PySem.W.hideAll_size _ _
theorem bS1 {h:Heap} {H:Hp} {b:Addr} {o:Obj} (e:h.get? b=some o) (n:H b=none):(bP6 h H).get? b=some o :=
 PySem.W.hideAll_get _ e λhm=>by
  have q:(H b).isSome=true:=(List.mem_filter.mp hm).2
  rw [n] at q; simp at q
theorem cf6 {h:Heap} {H:Hp} {b:Addr} {o:Obj} (e:(bP6 h H).get? b=some o):h.get? b=some o/\H b=none:=by
 have e':h.get? b=some o:=PySem.W.of_hideAll (trk h H) e
 refine ⟨e',?_⟩
 cases q:H b with
 | none=>rfl
 | some x =>
  have hm:b∈trk h H:=List.mem_filter.mpr ⟨List.mem_range.mpr (Heap.lt_size e'),by simp [q]⟩
  have z:(bP6 h H).get? b=none:=PySem.W.hideAll_none (trk h H) hm
  rw [z] at e; cases e
noncomputable def cc5 (g h:Heap) (L:Addr):List (Addr × Obj):=(List.range h.objs.size).filterMap λa=>if a=L\/(g.get? a).isSome=true then none else (h.get? a).map λo=>(a,o)
noncomputable def bk6 (g h:Heap) (L d:Addr):List (Addr × Obj):=(cc5 g h L).filter λp=>decide (p.1≠d)
end L2
namespace L2
open PySem PySem.Spec PyProof.Rows
structure Mod (K:PySem.W.Frag) (mg:Str->Option Value) (base:Heap):Prop where
 kin:K.In base
 glob:base.Ns mainGlobals mg
 blt:∃mb,base.Ns builtinsNs mb/\∀x:Str,x≠"__name__"->mb x=bootBuiltins x
 nolimit:base.NoLimit
structure Cx where
 prog:Program
 w:World
 K:PySem.W.Frag
 mg:Str->Option Value
 base:Heap
 A:Around
 N:List Str
 s₀:Shared
 H₀:Hp
 env:Env
 outer:List Env
 stack:List Env
 ex:List Addr
 fn:Str->Bool
 calm:Bool
 pn:List (Addr × Obj)
 xe:Value->Shared->Prop
noncomputable def frs (l:List Env):List Addr:=l.filterMap (·.frame)
noncomputable abbrev Cx.fs (X:Cx):List Addr:=frs X.outer
noncomputable def Vis (sc:Scope) (x:Str):Prop:=sc.names.lookup x=some .local\/sc.names.lookup x=some .cell\/sc.names.lookup x=some .free
noncomputable def Loc (sc:Scope) (x:Str):Prop:=sc.names.lookup x=some .local\/sc.names.lookup x=some .cell
noncomputable def cC0 (env:Env) (h:Heap) (m:Str->Option Value) (x:Str) (u:Value):Prop :=
 (env.kindOf x=some .local/\m x=some u)\/((env.kindOf x=some .cell\/env.kindOf x=some .free)/\∃c,env.cells.lookup x=some c/\h.IsCell c (some u))
structure Cx.Ok (X:Cx):Prop where
 mod:Mod X.K X.mg X.base
 kind:X.env.scope.kind=.function
 glob:X.env.globals=mainGlobals
 blt:X.env.builtins=builtinsNs
 above:X.s₀.heap.objs.size<=X.env.locals
 inj:∀x y c,X.env.cells.lookup x=some c->X.env.cells.lookup y=some c->x=y
 has:∀x,(X.env.kindOf x=some .cell\/X.env.kindOf x=some .free)->∃c,X.env.cells.lookup x=some c
 cab:∀x c,X.fn x=true->X.env.cells.lookup x=some c->X.s₀.heap.objs.size<=c
 hd:X.calm=true->X.A.handled=none
 frames:X.A.frames=some X.stack
 stk:X.stack=X.outer\/(X.stack=X.env :: X.outer/\X.env.frame=some X.env.locals)
 exf:∀b∈X.ex,b≠X.env.locals/\∀x c,X.env.cells.lookup x=some c->c≠b
 bs:∀b o,X.base.get? b=some o->X.s₀.heap.get? b=some o/\X.H₀ b=none
 bsz:X.base.objs.size<=X.s₀.heap.objs.size
 noex:∀b o,X.base.get? b=some o->b ∉ X.ex
 exfs:∀b∈X.ex,b ∉ X.fs
 funs:X.s₀.heap.FunFrames X.base X.outer
 frf:∀b∈X.fs,X.H₀ b=none
structure Inv (X:Cx) (pins:List (Addr × Obj)) (σ:List (Option V)) (H:Hp) (s:Shared):Prop where
 ok:X.Ok
 os:s.os=X.s₀.os
 bare:AllBare s.gens
 base:Un X.fs X.ex X.H₀ H X.s₀.heap s.heap
 loc:∃m,s.heap.Ns X.env.locals m/\∀(i:Nat) (x:Str) (v:V),X.N[i]?=some x->σ[i]?=some (some v)->Vis X.env.scope x->∃u,RelV v u/\cC0 X.env s.heap m x u
 cell:∀x c,X.env.cells.lookup x=some c->∃v,s.heap.IsCell c v
 free:H X.env.locals=none
 freeC:∀x c,X.env.cells.lookup x=some c->H c=none
 pin:∀p∈X.pn++pins,s.heap.get? p.1=some p.2/\H p.1=none/\p.1≠X.env.locals/\p.1 ∉ X.fs/\∀v,p.2.data≠.cell v
 hok:HOk X.prog X.w H s.heap
 len:σ.length=X.N.length
section
variable {X:Cx} {pins:List (Addr × Obj)} {σ:List (Option V)} {H H':Hp} {s:Shared} {h':Heap}
theorem Cx.Ok.nofr (ok:X.Ok) {b:Addr} {o:Obj} (e:X.base.get? b=some o):b ∉ X.fs:=λhb=>by
 have:=(ok.funs.mem hb).1
 rw [e] at this; cases this
theorem Inv.bs (I:Inv X pins σ H s):∀b o,X.base.get? b=some o->s.heap.get? b=some o/\H b=none:=λb o e =>
 ⟨I.base.keep b o (I.ok.bs b o e).1 (I.ok.bs b o e).2 (I.ok.nofr e) (I.ok.noex b o e),I.base.free b o (I.ok.bs b o e).1 (I.ok.bs b o e).2 (I.ok.noex b o e)⟩
theorem Inv.bk (I:Inv X pins σ H s):∀b o,X.base.get? b=some o->s.heap.get? b=some o:=λb o e=>(I.bs b o e).1
theorem Inv.mod (I:Inv X pins σ H s):Mod X.K X.mg X.base:=I.ok.mod
theorem Inv.kIn (I:Inv X pins σ H s):X.K.In s.heap:=I.ok.mod.kin.keeps I.bk
theorem Inv.nolimit (I:Inv X pins σ H s):s.heap.NoLimit:=I.ok.mod.nolimit.keeps I.bk
theorem Inv.fr (I:Inv X pins σ H s):∃m,Fr X.base X.env.locals s.heap m :=
 let ⟨m,hn,_⟩:=I.loc
 ⟨m,hn,I.bk,Nat.le_trans I.ok.bsz I.ok.above⟩
theorem Inv.lt (I:Inv X pins σ H s):X.env.locals < s.heap.objs.size:=let ⟨_,hn,_⟩:=I.loc; hn.lt
theorem Inv.sz (I:Inv X pins σ H s):X.s₀.heap.objs.size<=s.heap.objs.size:=Nat.le_trans I.ok.above (Nat.le_of_lt I.lt)
theorem Inv.nofs (I:Inv X pins σ H s) {a:Addr} (h:s.heap.objs.size<=a):a ∉ X.fs:=λhb=>by
 obtain ⟨_,o,ho,_⟩:=I.ok.funs.mem hb
 exact absurd (Nat.lt_of_lt_of_le (Heap.lt_size ho) (Nat.le_trans I.sz h)) (Nat.lt_irrefl _)
theorem Inv.cne (I:Inv X pins σ H s):∀x c,X.env.cells.lookup x=some c->c≠X.env.locals:=λx c e z=>by
 obtain ⟨v,o,ho,hd⟩:=I.cell x c e
 obtain ⟨m,⟨o',es,ep,ho',hd',_⟩,_⟩:=I.loc
 rw [z,ho'] at ho; cases ho; rw [hd'] at hd; cases hd
theorem Inv.funs (I:Inv X pins σ H s):s.heap.FunFrames X.base X.outer:=by
 have all:∀(l:List Env),(∀b∈frs l,b∈X.fs)->X.s₀.heap.FunFrames X.base l->s.heap.FunFrames X.base l:=by
  intro l
  induction l with
  | nil=>intro _ _; trivial
  | cons env r ih =>
   intro hs hl
   obtain ⟨hk,⟨L,o,hf,hn,ho,hd⟩,hr⟩:=hl
   have hL:L∈X.fs:=hs L (by unfold frs; rw [List.filterMap_cons,hf]; exact List.mem_cons_self)
   obtain ⟨sl,e⟩:=I.base.slot L o ho (I.ok.frf L hL) hL λz=>I.ok.exfs L z hL
   exact ⟨hk,⟨L,_,hf,hn,e,hd⟩,ih (λb hb=>hs b (by unfold frs; rw [List.filterMap_cons,hf]; exact List.mem_cons_of_mem _ hb)) hr⟩
 exact all X.outer (λ_ hb=>hb) I.ok.funs
theorem Inv.stack (I:Inv X pins σ H s):s.heap.FunFrames X.base X.stack:=by
 rcases I.ok.stk with e | ⟨e,hf⟩
 ·rw [e]; exact I.funs
 ·rw [e]
  obtain ⟨m,hn,_⟩:=I.loc
  refine .cons (by rw [I.ok.kind]; decide) hf hn ?_ I.funs
  exact Heap.get?_none_of_le (Nat.le_trans I.ok.bsz I.ok.above)
theorem Inv.stkSub (I:Inv X pins σ H s):∀b∈frs X.stack,b∈X.env.locals :: X.fs:=λb hb=>by
 rcases I.ok.stk with e | ⟨e,hf⟩
 ·rw [e] at hb; exact List.mem_cons_of_mem _ hb
 ·rw [e] at hb
  unfold frs at hb
  rw [List.filterMap_cons,hf] at hb
  exact hb
theorem Inv.stkFree (I:Inv X pins σ H s):∀b∈frs X.stack,H b=none:=λb hb=>by
 rcases List.mem_cons.mp (I.stkSub b hb) with e | hb
 ·rw [e]; exact I.free
 ·obtain ⟨_,o,ho,_⟩:=I.ok.funs.mem hb
  exact I.base.free b o ho (I.ok.frf b hb) λz=>I.ok.exfs b z hb
theorem Inv.step {g':Array GenState} {t':Nat} {d':Drawn} {ch:List Addr} (I:Inv X pins σ H s)
  (hch:∀b∈ch,(b∈X.ex\/X.s₀.heap.objs.size<=b)/\b≠X.env.locals/\(∀x c,X.env.cells.lookup x=some c->c≠b)/\∀p∈X.pn++pins,p.1≠b)
  (keep:∀b o,b≠X.env.locals->b ∉ X.fs->b ∉ ch->s.heap.get? b=some o->H b=none->h'.get? b=some o)
  (slot:∀b o,b≠X.env.locals->b∈X.fs->b ∉ ch->s.heap.get? b=some o->H b=none->∃sl,h'.get? b=some { o with slots:=sl }) (free:∀b o,b ∉ ch->s.heap.get? b=some o->H b=none->H' b=none)
  (there:∀b o,b ∉ ch->s.heap.get? b=some o->∃o',h'.get? b=some o')
  (tups:∀b xs,H b=some (.tup xs)->H' b=some (.tup xs)) (frzs:∀b o u,H b=some (.frz o u)->H' b=some (.frz o u)) (tbls:∀b ps,H b=some (.tbl ps)->∃more,H' b=some (.tbl (ps++more)))
  (ns:∀m,s.heap.Ns X.env.locals m->h'.Ns X.env.locals m) (hok:HOk X.prog X.w H' h') (hg:AllBare g') :
  Inv X pins σ H' { s with heap:=h',gens:=g',drawn:=d',toks:=t' }:=by
 have neL:∀b o,X.s₀.heap.get? b=some o->b≠X.env.locals:=λb o e=>Nat.ne_of_lt (Nat.lt_of_lt_of_le (Heap.lt_size e) I.ok.above)
 have neC:∀b o,X.s₀.heap.get? b=some o->b ∉ X.ex->b ∉ ch:=λb o e hx hb=>by
  rcases (hch b hb).1 with z | z
  ·exact hx z
  ·exact absurd (Nat.lt_of_lt_of_le (Heap.lt_size e) z) (Nat.lt_irrefl _)
 have cellK:∀x c,X.env.cells.lookup x=some c->∀v,s.heap.IsCell c v->h'.IsCell c v:=λx c e v ⟨o,ho,hd⟩=>by
  have nch:c ∉ ch:=λz=>(hch c z).2.2.1 x c e rfl
  by_cases hc:c∈X.fs
  ·obtain ⟨sl,q⟩:=slot c o (I.cne x c e) hc nch ho (I.freeC x c e)
   exact ⟨_,q,hd⟩
  ·exact ⟨o,keep c o (I.cne x c e) hc nch ho (I.freeC x c e),hd⟩
 refine ⟨I.ok,I.os,hg,⟨λb o e n hb hx=>?_,λb o e n hb hx=>?_,λb o e n hx=>?_,λb o e hx=>?_,λb xs e=>tups b xs (I.base.tups b xs e),λb o xs e=>frzs b o xs (I.base.frzs b o xs e),λb ps e=>?_⟩,?_,λx c e=>?_,?_,λx c e=>?_,λp hp=>?_,hok,I.len⟩
 ·exact keep b o (neL b o e) hb (neC b o e hx) (I.base.keep b o e n hb hx) (I.base.free b o e n hx)
 ·obtain ⟨sl,e1⟩:=I.base.slot b o e n hb hx
  obtain ⟨sl',e2⟩:=slot b _ (neL b o e) hb (neC b o e hx) e1 (I.base.free b o e n hx)
  exact ⟨sl',e2⟩
 ·obtain ⟨o',e1⟩:=I.base.there b o e hx
  exact free b o' (neC b o e hx) e1 (I.base.free b o e n hx)
 ·obtain ⟨o',e1⟩:=I.base.there b o e hx
  exact there b o' (neC b o e hx) e1
 ·obtain ⟨m1,e1⟩:=I.base.tbls b ps e
  obtain ⟨m2,e2⟩:=tbls b _ e1
  exact ⟨m1++m2,by rw [e2,Array.append_assoc]⟩
 ·obtain ⟨m,hn,hl⟩:=I.loc
  refine ⟨m,ns m hn,λi x v e1 e2 e3=>?_⟩
  obtain ⟨u,r,l⟩:=hl i x v e1 e2 e3
  refine ⟨u,r,?_⟩
  rcases l with l | ⟨k,c,e,z⟩
  ·exact .inl l
  ·exact .inr ⟨k,c,e,cellK x c e _ z⟩
 ·obtain ⟨v,z⟩:=I.cell x c e
  exact ⟨v,cellK x c e v z⟩
 ·obtain ⟨m,⟨o,_,_,ho,_⟩,_⟩:=I.loc
  exact free _ o (λz=>(hch _ z).2.1 rfl) ho I.free
 ·obtain ⟨v,o,ho,hd⟩:=I.cell x c e
  exact free c o (λz=>(hch c z).2.2.1 x c e rfl) ho (I.freeC x c e)
 ·obtain ⟨e,n,ne,nf,d⟩:=I.pin p hp
  have nch:p.1 ∉ ch:=λz=>(hch p.1 z).2.2.2 p hp rfl
  exact ⟨keep p.1 p.2 ne nf nch e n,free p.1 p.2 nch e n,ne,nf,d⟩
theorem Inv.un {t':Nat} (I:Inv X pins σ H s) (u:Un X.fs [] H H' s.heap h') (hok:HOk X.prog X.w H' h'):Inv X pins σ H' { s with heap:=h',toks:=t' }:=by
 obtain ⟨m,⟨o,es,ep,ho,r⟩,_⟩:=id I.loc
 obtain ⟨sl,hL⟩:=u.any ho I.free (by simp)
 exact I.step (g':=s.gens) (d':=s.drawn) (ch:=[]) (λ_ z=>nomatch z) (λb o _ hb _ e n=>u.keep b o e n hb (by simp)) (λb o _ hb _ e n=>u.slot b o e n hb (by simp)) (λb o _ e n=>u.free b o e n (by simp)) (λb o _ e=>u.there b o e (by simp)) u.tups u.frzs u.tbls (λm' hm=>by
  obtain ⟨o',es',ep',ho',r'⟩:=hm
  rw [ho] at ho'; cases ho'
  exact ⟨_,es',ep',hL,r'⟩) hok I.bare
theorem Inv.call {g':Array GenState} {t':Nat} {d':Drawn} {ch:List Addr} (I:Inv X pins σ H s) (u:Un (frs X.stack) ch H H' s.heap h') (hok:HOk X.prog X.w H' h') (hg:AllBare g')
  (hch:∀b∈ch,(b∈X.ex\/X.s₀.heap.objs.size<=b)/\b≠X.env.locals/\(∀x c,X.env.cells.lookup x=some c->c≠b)/\∀p∈X.pn++pins,p.1≠b) :
  Inv X pins σ H' { s with heap:=h',gens:=g',drawn:=d',toks:=t' }:=by
 obtain ⟨m,⟨o,es,ep,ho,r⟩,_⟩:=id I.loc
 obtain ⟨sl,hL⟩:=u.any ho I.free λz=>(hch _ z).2.1 rfl
 exact I.step (ch:=ch) hch (λb o hL hb hc e n=>u.keep b o e n (λz=>(List.mem_cons.mp (I.stkSub b z)).elim hL hb) hc) (λb o _ _ hc e n=>u.any e n hc) (λb o hc e n=>u.free b o e n hc) (λb o hc e=>u.there b o e hc) u.tups u.frzs u.tbls (λm' hm=>by
  obtain ⟨o',es',ep',ho',r'⟩:=hm
  rw [ho] at ho'; cases ho'
  exact ⟨_,es',ep',hL,r'⟩) hok hg
theorem Inv.turned {t':Nat} {it:Addr} (I:Inv X pins σ H s) (k:∀b o,b≠it->s.heap.get? b=some o->h'.get? b=some o) (hn:H it=none) (hL:it≠X.env.locals)
  (h1:it∈X.ex\/X.s₀.heap.objs.size<=it) (h2:∀x c,X.env.cells.lookup x=some c->c≠it) (h3:∀p∈X.pn++pins,p.1≠it):Inv X pins σ H { s with heap:=h',toks:=t' }:=by
 have nit:∀b u,H b=some u->b≠it:=λb u e z=>by rw [z,hn] at e; cases e
 refine I.step (g':=s.gens) (d':=s.drawn) (ch:=[it]) (λb hb=>?_) (λb o _ _ hc e _=>k b o (λz=>hc (by simp [z])) e) (λb o _ _ hc e _=>⟨o.slots,k b o (λz=>hc (by simp [z])) e⟩) (λ_ _ _ _ n=>n)
  (λb o hc e=>⟨o,k b o (λz=>hc (by simp [z])) e⟩) (λ_ _ e=>e) (λ_ _ _ e=>e) (λb ps e=>⟨#[],by rw [e]; simp⟩) (λm hm=>?_) (λb u e=>?_) I.bare
 ·have e:b=it:=by simpa using hb
  subst e
  exact ⟨h1,hL,h2,h3⟩
 ·obtain ⟨o,es,ep,ho,r⟩:=hm
  exact ⟨o,es,ep,k _ o (Ne.symm hL) ho,r⟩
 ·refine (I.hok b u e).stay (λc v hc q=>k c v ?_ q) (λ_ q=>q) (λ_ _ q=>q) λ_ _ q=>q
  rcases hc with z | z
  ·rw [z]; exact nit b u e
  ·exact nit c _ z
theorem Inv.tok (I:Inv X pins σ H s) (t:Nat):Inv X pins σ H { s with toks:=t }:=I.un (h':=s.heap) (t':=t) Un.refl I.hok
theorem Inv.kept {t':Nat} (I:Inv X pins σ H s) (k:∀b u,s.heap.get? b=some u->h'.get? b=some u):Inv X pins σ H { s with heap:=h',toks:=t' }:=I.un (Un.kept k) (I.hok.kept k)
theorem Inv.laid {a:Addr} {o:HO} {t':Nat} (I:Inv X pins σ H s) (k:∀b u,s.heap.get? b=some u->h'.get? b=some u) (hp:s.heap.objs.size<=a) (new:ObjOk X.prog X.w (upd H a o) h' a o) :
  Inv X pins σ (upd H a o) { s with heap:=h',toks:=t' }:=I.un (Un.laid k hp (I.hok.fresh hp)) (I.hok.laid k hp new)
theorem Inv.write {x e:Addr} {o:HO} {t':Nat} (I:Inv X pins σ H s) (mu:Mut (H x)) (he:e=x\/H e=some (.own x)) (k:∀b u,b≠e->s.heap.get? b=some u->h'.get? b=some u) (heo:∃u,h'.get? e=some u)
  (new:ObjOk X.prog X.w (upd H x o) h' x o):Inv X pins σ (upd H x o) { s with heap:=h',toks:=t' }:=I.un (Un.write mu he k heo) (I.hok.write mu he k heo new)
theorem Inv.weak {σ':List (Option V)} (I:Inv X pins σ H s) (hl:σ'.length=σ.length) (w:∀(i:Nat) v,σ'[i]?=some (some v)->σ[i]?=some (some v)):Inv X pins σ' H s :=
 ⟨I.ok,I.os,I.bare,I.base,let ⟨m,hn,hl'⟩:=I.loc; ⟨m,hn,λi x v e1 e2 e3=>hl' i x v e1 (w i v e2) e3⟩,I.cell,I.free,I.freeC,I.pin,I.hok,hl.trans I.len⟩
theorem Inv.pins_of {pins':List (Addr × Obj)} (I:Inv X pins σ H s) (h:∀p∈pins',s.heap.get? p.1=some p.2/\H p.1=none/\p.1≠X.env.locals/\p.1 ∉ X.fs/\∀v,p.2.data≠.cell v):Inv X pins' σ H s :=
 ⟨I.ok,I.os,I.bare,I.base,I.loc,I.cell,I.free,I.freeC,λp hp=>(List.mem_append.mp hp).elim (λz=>I.pin p (List.mem_append_left _ z)) (h p),I.hok,I.len⟩
theorem bA7 {N:List Str} (hN:N.Nodup) {i j:Nat} {x:Str} (a:N[i]?=some x) (b:N[j]?=some x):i=j:=by
 obtain ⟨h1,e1⟩:=List.getElem?_eq_some_iff.mp a
 obtain ⟨h2,e2⟩:=List.getElem?_eq_some_iff.mp b
 exact (List.getElem_inj hN).mp (e1.trans e2.symm)
theorem bJ8 {M:Model} {A:Around} {E:Value->Shared->Prop} {i:Nat} {x:Str} {v:V} {u:Value} {Q:Unit->Shared->Prop} (I:Inv X pins σ H s) (hN:X.N.Nodup) (hi:X.N[i]?=some x) (hx:Loc X.env.scope x) (r:RelV v u)
  (h:∀s',Inv X pins (σ.set i (some v)) H s'->(∃a,Heap.SameBut a s.heap s'.heap/\(a=X.env.locals\/X.env.cells.lookup x=some a))->Q () s') (hf:X.fn x=true\/X.env.scope.names.lookup x=some .local:=by first | exact .inl rfl | exact .inr rfl | assumption):wpAny M A (storeName X.env x u) Q E s:=by
 obtain ⟨m,hn,hl⟩:=id I.loc
 have hcls:(X.env.scope.kind == .class || (X.env.scope.kind == .module && X.env.locals != X.env.globals))=false:=by rw [I.ok.kind]; rfl
 have hiσ:i < σ.length:=by rw [I.len]; exact (List.getElem?_eq_some_iff.mp hi).1
 have cne:=I.cne
 have tracked:∀{a:Addr} {h':Heap},(∃o,s.heap.get? a=some o/\H a=none)->Heap.SameBut a s.heap h'->HOk X.prog X.w H h':=λ{a h'} ha hs b ob e=>by
  obtain ⟨_,_,hfree⟩:=ha
  refine (I.hok b ob e).stay (λc w' hc q=>(hs.2 c ?_).trans q) (λ_ q=>q) (λ_ _ q=>q) λ_ _ q=>q
  rintro rfl
  rcases hc with rfl | hc
  ·rw [hfree] at e; cases e
  ·rw [hfree] at hc; cases hc
 rcases hx with hk | hk
 ·refine wpAny_storeName_local hk hn (λh' hn' hs=>?_) hcls
  obtain ⟨oL,_,_,hoL,_⟩:=id hn
  refine h _ ⟨I.ok,I.os,I.bare,⟨λb o e n hb hx=>?_,λb o e n hb hx=>?_,I.base.free,λb o e hx=>?_,I.base.tups,I.base.frzs,I.base.tbls⟩,⟨_,hn',λj y v' e1 e2 e3=>?_⟩,λy c e=>?_,I.free,I.freeC,λp hp=>?_,tracked ⟨oL,hoL,I.free⟩ hs,by simpa using I.len⟩ ⟨_,hs,.inl rfl⟩
  ·exact (hs.2 b (Nat.ne_of_lt (Nat.lt_of_lt_of_le (Heap.lt_size e) I.ok.above))).trans (I.base.keep b o e n hb hx)
  ·obtain ⟨sl,e1⟩:=I.base.slot b o e n hb hx
   exact ⟨sl,(hs.2 b (Nat.ne_of_lt (Nat.lt_of_lt_of_le (Heap.lt_size e) I.ok.above))).trans e1⟩
  ·obtain ⟨o',e1⟩:=I.base.there b o e hx
   exact ⟨o',(hs.2 b (Nat.ne_of_lt (Nat.lt_of_lt_of_le (Heap.lt_size e) I.ok.above))).trans e1⟩
  ·by_cases hj:j=i
   ·subst hj
    rw [hi] at e1; cases e1
    rw [List.getElem?_set_self hiσ] at e2
    cases e2
    exact ⟨u,r,.inl ⟨hk,by simp⟩⟩
   ·rw [List.getElem?_set_ne (Ne.symm hj)] at e2
    obtain ⟨u',r',q⟩:=hl j y v' e1 e2 e3
    refine ⟨u',r',?_⟩
    rcases q with ⟨k,e⟩ | ⟨k,c,e,z⟩
    ·refine .inl ⟨k,?_⟩
     have:y≠x:=λe=>hj (bA7 hN e1 (e ▸ hi))
     simp [this,e]
    ·exact .inr ⟨k,c,e,z.sameBut hs (cne y c e)⟩
  ·obtain ⟨w',z⟩:=I.cell y c e
   exact ⟨w',z.sameBut hs (cne y c e)⟩
  ·obtain ⟨e,n,ne,nf,d⟩:=I.pin p hp
   exact ⟨(hs.2 p.1 ne).trans e,n,ne,nf,d⟩
 ·have hfn:X.fn x=true:=by
   rcases hf with z | z
   ·exact z
   ·rw [z] at hk; cases hk
  obtain ⟨c,hc⟩:=I.ok.has x (.inl hk)
  obtain ⟨w',z⟩:=I.cell x c hc
  refine wpAny_storeName_cell I.ok.kind hk hc z (λh' hc' hs=>?_)
  obtain ⟨oc,hoc,hocd⟩:=id z
  refine h { s with heap:=h' } ⟨I.ok,I.os,I.bare,⟨λb o e n hb hx=>?_,λb o e n hb hx=>?_,I.base.free,λb o e hx=>?_,I.base.tups,I.base.frzs,I.base.tbls⟩,⟨m,hn.sameBut hs (Ne.symm (cne x c hc)),λj y v' e1 e2 e3=>?_⟩,λy c' e=>?_,I.free,I.freeC,λp hp=>?_,tracked ⟨oc,hoc,I.freeC x c hc⟩ hs,by simpa using I.len⟩ ⟨c,hs,.inr hc⟩
  ·exact (hs.2 b (Nat.ne_of_lt (Nat.lt_of_lt_of_le (Heap.lt_size e) (I.ok.cab x c hfn hc)))).trans (I.base.keep b o e n hb hx)
  ·obtain ⟨sl,e1⟩:=I.base.slot b o e n hb hx
   exact ⟨sl,(hs.2 b (Nat.ne_of_lt (Nat.lt_of_lt_of_le (Heap.lt_size e) (I.ok.cab x c hfn hc)))).trans e1⟩
  ·obtain ⟨o',e1⟩:=I.base.there b o e hx
   exact ⟨o',(hs.2 b (Nat.ne_of_lt (Nat.lt_of_lt_of_le (Heap.lt_size e) (I.ok.cab x c hfn hc)))).trans e1⟩
  ·by_cases hj:j=i
   ·subst hj
    rw [hi] at e1; cases e1
    rw [List.getElem?_set_self hiσ] at e2
    cases e2
    exact ⟨u,r,.inr ⟨.inl hk,c,hc,hc'⟩⟩
   ·rw [List.getElem?_set_ne (Ne.symm hj)] at e2
    obtain ⟨u',r',q⟩:=hl j y v' e1 e2 e3
    refine ⟨u',r',?_⟩
    rcases q with q | ⟨k,c',e,z'⟩
    ·exact .inl q
    ·refine .inr ⟨k,c',e,z'.sameBut hs ?_⟩
     rintro rfl
     exact hj (bA7 hN e1 (I.ok.inj _ _ _ e hc ▸ hi))
  ·by_cases hcc:c'=c
   ·subst hcc; exact ⟨_,hc'⟩
   ·obtain ⟨w2,z2⟩:=I.cell y c' e
    exact ⟨w2,z2.sameBut hs hcc⟩
  ·obtain ⟨e,n,ne,nf,d⟩:=I.pin p hp
   refine ⟨(hs.2 p.1 ?_).trans e,n,ne,nf,d⟩
   intro q
   rw [q,hoc] at e
   have q':oc=p.2:=Option.some.inj e
   exact d w' (by rw [<-q']; exact hocd)
theorem bn6 {M:Model} {A:Around} {E:Value->Shared->Prop} {i:Nat} {x:Str} {v:V} {u:Value} {Q:Unit->Shared->Prop} (I:Inv X pins σ H s) (hN:X.N.Nodup) (hi:X.N[i]?=some x) (hx:Loc X.env.scope x) (r:RelV v u)
  (h:∀s',Inv X pins (σ.set i (some v)) H s'->Q () s') (hf:X.fn x=true\/X.env.scope.names.lookup x=some .local:=by first | exact .inl rfl | exact .inr rfl | assumption):wpAny M A (storeName X.env x u) Q E s :=
 bJ8 I hN hi hx r (λs' I' _=>h s' I') hf
theorem Inv.call' {s':Shared} {ch:List Addr} (I:Inv X pins σ H s) (ho:s'.os=s.os) (u:Un (frs X.stack) ch H H' s.heap s'.heap) (hok:HOk X.prog X.w H' s'.heap) (hg:AllBare s'.gens)
  (hch:∀b∈ch,(b∈X.ex\/X.s₀.heap.objs.size<=b)/\b≠X.env.locals/\(∀x c,X.env.cells.lookup x=some c->c≠b)/\∀p∈X.pn++pins,p.1≠b):Inv X pins σ H' s':=by
 obtain ⟨h',g',d',t',o'⟩:=s'
 have e:o'=s.os:=ho
 subst e
 exact I.call (g':=g') (t':=t') (d':=d') u hok hg hch
end
noncomputable abbrev XK:=Value->Option Addr->Hp->Prop
noncomputable abbrev St:=List (Option V)
noncomputable abbrev VK:=V->Hp->Prop
noncomputable abbrev TE:=St->Hp->VK->Prop
noncomputable abbrev TT:=St->Hp->(Bool->Hp->Prop)->Prop
noncomputable abbrev TA:=St->Hp->(List V->Hp->Prop)->Prop
structure Ends where
 nx:St->Hp->Prop
 rt:VK
 bk:St->Hp->Prop:=λ_ _=>False
 ct:St->Hp->Prop:=λ_ _=>False
noncomputable abbrev TS:=Ends->St->Hp->Prop
noncomputable def EP (X:Cx) (pins:List (Addr × Obj)) (σ:St) (Q:VK) (u:Value) (s':Shared):Prop:=∃v H',Inv X pins σ H' s'/\RelV v u/\Q v H'
noncomputable def TP (X:Cx) (pins:List (Addr × Obj)) (σ:St) (Q:Bool->Hp->Prop) (b:Bool) (s':Shared):Prop:=∃H',Inv X pins σ H' s'/\Q b H'
noncomputable def AP (X:Cx) (pins:List (Addr × Obj)) (σ:St) (Q:List V->Hp->Prop) (us:List Value) (s':Shared):Prop:=∃vs H',Inv X pins σ H' s'/\Vals vs us/\Q vs H'
noncomputable def SP (X:Cx) (pins:List (Addr × Obj)) (D:Ends) (f:Flow) (s':Shared):Prop :=
 match f with
 | .next=>∃σ' H',Inv X pins σ' H' s'/\D.nx σ' H'
 | .brk=>∃σ' H',Inv X pins σ' H' s'/\D.bk σ' H'
 | .cont=>∃σ' H',Inv X pins σ' H' s'/\D.ct σ' H'
 | .ret u=>∃v σ' H',Inv X pins σ' H' s'/\RelV v u/\D.rt v H'
noncomputable def PE (X:Cx) (e:Expr) (t:TE):Prop :=
 ∀(pins:List (Addr × Obj)) (s:Shared) (σ:St) (H:Hp) (Q:VK),Inv X pins σ H s->t σ H Q->wpAny (model X.prog X.w) X.A (eval e X.env) (EP X pins σ Q) X.xe s
noncomputable def PT (X:Cx) (e:Expr) (t:TT):Prop :=
 ∀(pins:List (Addr × Obj)) (s:Shared) (σ:St) (H:Hp) (Q:Bool->Hp->Prop),Inv X pins σ H s->t σ H Q->wpAny (model X.prog X.w) X.A (isTrue e X.env (eval e X.env)) (TP X pins σ Q) X.xe s
noncomputable def PW (X:Cx) (e:Expr) (t:TT):Prop :=
 ∀(whole:Sem Value) (pins:List (Addr × Obj)) (s:Shared) (σ:St) (H:Hp) (Q:Bool->Hp->Prop),Inv X pins σ H s->t σ H Q->wpAny (model X.prog X.w) X.A (isTrue e X.env whole) (TP X pins σ Q) X.xe s
theorem PW.pt {X:Cx} {e:Expr} {t:TT} (h:PW X e t):PT X e t:=h _
noncomputable def PA (X:Cx) (es:List Expr) (t:TA):Prop :=
 ∀(pos:Pos) (pins:List (Addr × Obj)) (s:Shared) (σ:St) (H:Hp) (Q:List V->Hp->Prop),Inv X pins σ H s->t σ H Q->wpAny (model X.prog X.w) X.A (spliced (backTo pos (starEach es X.env))) (AP X pins σ Q) X.xe s
noncomputable def PS (X:Cx) (st:Stmt) (t:TS):Prop :=
 ∀(pins:List (Addr × Obj)) (s:Shared) (σ:St) (H:Hp) (D:Ends),Inv X pins σ H s->t D σ H->wpAny (model X.prog X.w) X.A (exec st X.env) (SP X pins D) X.xe s
noncomputable def PSs (X:Cx) (st:List Stmt) (t:TS):Prop :=
 ∀(pins:List (Addr × Obj)) (s:Shared) (σ:St) (H:Hp) (D:Ends),Inv X pins σ H s->t D σ H->wpAny (model X.prog X.w) X.A (execs st X.env) (SP X pins D) X.xe s
theorem thn {α:Type} {t:Sem α} {Q Q':α->Shared->Prop} {M:Model} {A:Around} {E:Value->Shared->Prop} {s:Shared} (h:wpAny M A t Q E s) (hQ:∀a s,Q a s->Q' a s):wpAny M A t Q' E s:=wpAny_mono h hQ λ_ _ x=>x
end L2
namespace L2
open PySem PySem.Spec PyProof.Rows
section
variable {X:Cx}
noncomputable def cz3 (i:Nat):TE:=λσ H Q=>∃v,σ[i]?=some (some v)/\Q v H
noncomputable def tC (v:V):TE:=λ_ H Q=>Q v H
theorem bd3 {i:Nat} {x:Str} {pos:Pos} (hN:X.N[i]?=some x) (hv:Vis X.env.scope x) (hd:(x == ("__debug__":Str))=false:=by decide) (hcd:(x == ("__classdict__":Str))=false:=by decide):PE X (.Name x pos) (cz3 i):=by
 intro pins s σ H Q I h
 obtain ⟨v,e,h⟩:=h
 obtain ⟨m,hn,hl⟩:=I.loc
 obtain ⟨u,r,l⟩:=hl i x v hN e hv
 have fin:EP X pins σ Q u s:=⟨v,H,I,r,h⟩
 rcases l with ⟨hk,hm⟩ | ⟨hk,c,hc,hcell⟩
 ·exact wpAny_Name (wpAny_loadName_local I.ok.kind hk hn hm fin) hd
 ·rcases hk with hk | hk
  ·exact wpAny_Name (wpAny_loadName_cell I.ok.kind hk hc hcell fin) hd
  ·exact wpAny_Name (wpAny_loadName_free I.ok.kind hk hc hcell fin hcd) hd
theorem bk1 {i j pos}:PE X (.Constant (.int i) j pos) (tC (.int i)):=λ_ _ _ H _ I h=>wpAny_Constant_int ⟨.int i,H,I.tok _,⟨_,rfl⟩,h⟩
theorem cw6 {b j pos}:PE X (.Constant (.bool b) j pos) (tC (.bl b)):=λ_ _ _ H _ I h=>Constant_bool ⟨.bl b,H,I,rfl,h⟩
theorem cq9 {j pos}:PE X (.Constant .none j pos) (tC .non):=λ_ _ _ H _ I h=>Constant_none ⟨.non,H,I,rfl,h⟩
theorem cl9 {x j pos}:PE X (.Constant (.str x) j pos) (tC (.str x)):=λ_ _ _ H _ I h=>Calls.Constant_str ⟨.str x,H,I.tok _,⟨_,rfl⟩,h⟩
noncomputable def Gl (X:Cx) (x:Str):Prop:=X.env.kindOf x=some .globalImplicit
theorem bm4 {E:Value->Shared->Prop} {pins:List (Addr × Obj)} {s:Shared} {σ:St} {H:Hp} {x:Str} {u:Value} {pos:Pos} {Q:Value->Shared->Prop} (I:Inv X pins σ H s) (hg:Gl X x) (hm:X.mg x=some u) (h:Q u s)
  (hd:(x == ("__debug__":Str))=false:=by decide):wpAny (model X.prog X.w) X.A (eval (.Name x pos) X.env) Q E s :=
 Calls.Name_function_global I.ok.kind hg (Calls.loadGlobal_global (by rw [I.ok.glob]; exact I.mod.glob.keeps I.bk) hm h) hd
theorem ba4 {E:Value->Shared->Prop} {pins:List (Addr × Obj)} {s:Shared} {σ:St} {H:Hp} {x:Str} {u:Value} {pos:Pos} {Q:Value->Shared->Prop} (I:Inv X pins σ H s) (hg:Gl X x) (hm:X.mg x=none) (hv:bootBuiltins x=some u) (h:Q u s)
  (hn:x≠"__name__":=by decide) (hd:(x == ("__debug__":Str))=false:=by decide):wpAny (model X.prog X.w) X.A (eval (.Name x pos) X.env) Q E s:=by
 obtain ⟨mb,h1,h2⟩:=I.mod.blt
 exact Calls.Name_function_global I.ok.kind hg (Calls.loadGlobal_builtin (by rw [I.ok.glob]; exact I.mod.glob.keeps I.bk) hm (by rw [I.ok.blt]; exact h1.keeps I.bk) ((h2 x hn).trans hv) h) hd
theorem b67 {x:Str} {v:V} {u:Value} {pos:Pos} (hg:Gl X x) (hm:X.mg x=none) (hv:bootBuiltins x=some u) (r:RelV v u) (hn:x≠"__name__":=by decide) (hd:(x == ("__debug__":Str))=false:=by decide):PE X (.Name x pos) (tC v) :=
 λ_ _ _ H _ I h=>ba4 I hg hm hv ⟨v,H,I,r,h⟩ hn hd
variable {a b:Expr} {ta tb:TE} {pos:Pos}
noncomputable def tB (t:TE):TT:=λσ H Q=>t σ H λx H1=>∃c,x=.bl c/\Q c H1
theorem bK3 {e:Expr} {t:TE} (h:PE X e t) (he:∀whole,isTrue e X.env whole=(do let v<-whole; standAt e.pos; holding [v] (truthy v)):=by intro _; rfl):PT X e (tB t):=by
 intro pins s σ H Q I hw
 refine isTrue_plain (thn (h pins s σ H _ I hw) λv s1 ⟨x,H1,I1,r1,q1⟩=>?_) (he _)
 obtain ⟨d,rfl,q⟩:=q1
 cases r1
 exact wpAny_truthy_bool ⟨H1,I1,q⟩
variable {tA tB':TT} {bk6:List Expr}
noncomputable def tOr (t u:TT):TT:=λσ H Q=>t σ H λc H1=>if c=true then Q true H1 else u σ H1 Q
noncomputable def cC9 (t:TT):TT:=λσ H Q=>t σ H λc H1=>Q (!c) H1
theorem bK9 (ha:PT X a tA):PW X (.BoolOp .Or [a] pos) tA:=by
 intro wh pins s σ H Q I h
 refine isTrue_or (thn (ha pins s σ H Q I h) λc s1 e=>?_)
 cases c with
 | false=>exact isTrue_or_nil e
 | true=>exact e
theorem cs3 (ha:PT X a tA) (hb:PW X (.BoolOp .Or (b :: bk6) pos) tB'):PW X (.BoolOp .Or (a :: b :: bk6) pos) (tOr tA tB'):=by
 intro wh pins s σ H Q I h
 refine isTrue_or (thn (ha pins s σ H _ I h) λc s1 ⟨H1,I1,q1⟩=>?_)
 cases c with
 | true=>exact ⟨H1,I1,q1⟩
 | false=>exact hb wh pins s1 σ H1 Q I1 q1
theorem bF7 (ha:PT X a tA):PT X (.UnaryOp .Not a pos) (cC9 tA):=by
 intro pins s σ H Q I h
 exact isTrue_not (ha pins s σ H (λc H1=>Q (!c) H1) I h)
noncomputable def cx3 (ta tb:TE):TE:=λσ H Q=>ta σ H λx H1=>∃c,x=.bl c/\if c=true then tb σ H1 Q else Q (.bl false) H1
noncomputable def cw2 (ta:TE):TE:=λσ H Q=>ta σ H λx H1=>∃c,x=.bl c/\Q (.bl (!c)) H1
theorem bi8 {op} {t:TE} (h:PE X a t):PE X (.BoolOp op [a] pos) t:=λpins s σ H Q I hw=>BoolOp_one (h pins s σ H Q I hw)
theorem cp4 (ha:PE X a ta) (hb:PE X (.BoolOp .And (b :: bk6) pos) tb):PE X (.BoolOp .And (a :: b :: bk6) pos) (cx3 ta tb):=by
 intro pins s σ H Q I h
 refine BoolOp_and (thn (ha pins s σ H _ I h) λv s1 ⟨x,H1,I1,r1,q1⟩=>?_)
 obtain ⟨c,rfl,q1⟩:=q1
 cases r1
 refine wpAny_truthy_bool ?_
 cases c with
 | true=>exact hb pins s1 σ H1 Q I1 q1
 | false=>exact ⟨.bl false,H1,I1,rfl,q1⟩
theorem ck1 (ha:PE X a ta):PE X (.UnaryOp .Not a pos) (cw2 ta):=by
 intro pins s σ H Q I h
 refine UnaryOp_ (thn (ha pins s σ H _ I h) λv s1 ⟨x,H1,I1,r1,q1⟩=>?_)
 obtain ⟨c,rfl,q1⟩:=q1
 cases r1
 exact not_of (wpAny_truthy_bool ⟨.bl (!c),H1,I1,rfl,q1⟩)
noncomputable def tIf (t:TT) (ta tb:TE):TE:=λσ H Q=>t σ H λc H1=>if c=true then ta σ H1 Q else tb σ H1 Q
theorem bT3 {c:Expr} (hc:PT X c tA) (ha:PE X a ta) (hb:PE X b tb):PE X (.IfExp c a b pos) (tIf tA ta tb):=by
 intro pins s σ H Q I h
 refine wpAny_IfExp (thn (hc pins s σ H _ I h) λd s1 ⟨H1,I1,q1⟩=>?_)
 cases d with
 | true=>exact ha pins s1 σ H1 Q I1 q1
 | false=>exact hb pins s1 σ H1 Q I1 q1
end
end L2
namespace L2
open PySem PySem.Spec PyProof.Rows
noncomputable def SqL (K:PySem.W.Frag) (H:Hp) (a:Addr) (xs:List V):Prop :=
 Rd H a (.lst xs) \/
  ∃(o:Obj) (its:Array Value) (n:Nat),K.lookup a=some o/\o.cls=.type "list"/\o.dict=none/\o.data=.seq its n/\its.size<=sizeLine/\Vals xs its.toList
noncomputable def SqT (K:PySem.W.Frag) (H:Hp) (a:Addr) (xs:List V):Prop :=
 Rd H a (.tup xs) \/
  ∃(o:Obj) (its:Array Value) (n:Nat),K.lookup a=some o/\o.cls=.type "tuple"/\o.data=.seq its n/\its.size<=sizeLine/\Vals xs its.toList
noncomputable def cB9:Value->Option V
 | .none=>some .non
 | .bool b=>some (.bl b)
 | .int i _=>some (.int i)
 | .str x _=>some (.str x)
 | .bytes b _=>some (.byt b)
 | .float b _=>some (.flt b)
 | .ref a=>some (.ref a)
 | .type n=>some (.ty n)
 | _=>none
theorem RelV.abs {x:V} {u:Value} (r:RelV x u):cB9 u=some x:=by
 cases x with
 | non=>cases r; rfl
 | bl _=>cases r; rfl
 | int _=>obtain ⟨t,rfl⟩:=r; rfl
 | str _=>obtain ⟨t,rfl⟩:=r; rfl
 | byt _=>obtain ⟨t,rfl⟩:=r; rfl
 | flt _=>obtain ⟨t,rfl⟩:=r; rfl
 | ref _=>cases r; rfl
 | ty _=>cases r; rfl
theorem RelV.inj {x y:V} {u:Value} (r:RelV x u) (q:RelV y u):x=y:=Option.some.inj (r.abs.symm.trans q.abs)
theorem Vals.inj:∀{xs ys:List V} {us:List Value},Vals xs us->Vals ys us->xs=ys
 | _,_,_,.nil,.nil=>rfl
 | _,_,_,.cons r t,.cons r' t'=>by rw [r.inj r',Vals.inj t t']
section
variable {X:Cx} {pins:List (Addr × Obj)} {σ:St} {H:Hp} {s:Shared} {a:Addr} {xs ys:List V}
theorem SqL.of {K:PySem.W.Frag} (h:H a=some (.lst xs)):SqL K H a xs:=.inl (.inl h)
theorem SqT.of {K:PySem.W.Frag} (h:H a=some (.tup xs)):SqT K H a xs:=.inl (.inl h)
theorem Inv.list (I:Inv X pins σ H s) (h:SqL X.K H a xs):∃its:List Value,Vals xs its/\PlainL s.heap a its.toArray/\xs.length<=sizeLine:=by
 rcases h with h | ⟨o,its,n,hk,hc,hd,hs,hz,r⟩
 ·obtain ⟨z,its,n,r,e⟩:=h.ok I.hok
  exact ⟨its,r,⟨_,n,e,rfl,rfl,rfl⟩,z⟩
 ·refine ⟨its.toList,r,⟨o,n,I.kIn a o hk,hc,hd,by simpa using hs⟩,?_⟩
  have e:=r.length
  simp only [Array.length_toList] at e
  omega
theorem Inv.tuple (I:Inv X pins σ H s) (h:SqT X.K H a xs):∃its:List Value,Vals xs its/\IsTup s.heap a its.toArray/\xs.length<=sizeLine:=by
 rcases h with h | ⟨o,its,n,hk,hc,hs,hz,r⟩
 ·obtain ⟨z,its,r,p⟩:=h.ok I.hok
  exact ⟨its,r,p,z⟩
 ·refine ⟨its.toList,r,⟨o,I.kIn a o hk,hc,n,by simpa using hs⟩,?_⟩
  have e:=r.length
  simp only [Array.length_toList] at e
  omega
theorem Inv.list_inj (I:Inv X pins σ H s) (h:SqL X.K H a xs) (h':SqL X.K H a ys):xs=ys:=by
 obtain ⟨its,r,⟨o,n,e,_,_,d⟩,_⟩:=I.list h
 obtain ⟨its',r',⟨o',n',e',_,_,d'⟩,_⟩:=I.list h'
 rw [e] at e'; cases e'
 rw [d] at d'
 injection d' with d1 _
 have:its=its':=by simpa using congrArg Array.toList d1
 subst this
 exact r.inj r'
end
noncomputable abbrev Cx.wish (X:Cx) (E:Value->Shared->Prop):Cx:={ X with xe:=E }
noncomputable abbrev Cx.nox (X:Cx):Cx:=X.wish λ_ _=>False
theorem Cx.Ok.wish {X:Cx} (ok:X.Ok) (E:Value->Shared->Prop):(X.wish E).Ok :=
 ⟨ok.mod,ok.kind,ok.glob,ok.blt,ok.above,ok.inj,ok.has,ok.cab,ok.hd,ok.frames,ok.stk,ok.exf,ok.bs,ok.bsz,ok.noex,ok.exfs,ok.funs,ok.frf⟩
theorem Cx.Ok.unwish {X:Cx} {E:Value->Shared->Prop} (ok:(X.wish E).Ok):X.Ok :=
 ⟨ok.mod,ok.kind,ok.glob,ok.blt,ok.above,ok.inj,ok.has,ok.cab,ok.hd,ok.frames,ok.stk,ok.exf,ok.bs,ok.bsz,ok.noex,ok.exfs,ok.funs,ok.frf⟩
section
variable {X:Cx} {pins:List (Addr × Obj)} {σ:St} {H:Hp} {s:Shared} {E:Value->Shared->Prop}
theorem Inv.wish (I:Inv X pins σ H s) (E:Value->Shared->Prop):Inv (X.wish E) pins σ H s:=⟨I.ok.wish E,I.os,I.bare,I.base,I.loc,I.cell,I.free,I.freeC,I.pin,I.hok,I.len⟩
theorem Inv.unwish (I:Inv (X.wish E) pins σ H s):Inv X pins σ H s:=⟨I.ok.unwish,I.os,I.bare,I.base,I.loc,I.cell,I.free,I.freeC,I.pin,I.hok,I.len⟩
theorem SP.unwish {D:Ends} {f:Flow} {s':Shared} (h:SP (X.wish E) pins D f s'):SP X pins D f s':=by
 cases f with
 | next=>obtain ⟨σ',H',I,q⟩:=h; exact ⟨σ',H',I.unwish,q⟩
 | brk=>obtain ⟨σ',H',I,q⟩:=h; exact ⟨σ',H',I.unwish,q⟩
 | cont=>obtain ⟨σ',H',I,q⟩:=h; exact ⟨σ',H',I.unwish,q⟩
 | ret u=>obtain ⟨v,σ',H',I,r,q⟩:=h; exact ⟨v,σ',H',I.unwish,r,q⟩
theorem PE.nox {e:Expr} {t:TE} (h:PE X.nox e t):PE X e t:=λpins s σ H Q I hw =>
 wpAny_mono (h pins s σ H Q (I.wish _) hw) (λ_ _ ⟨v,H',I',r,q⟩=>⟨v,H',I'.unwish,r,q⟩) λ_ _ z=>False.elim z
theorem PT.nox {e:Expr} {t:TT} (h:PT X.nox e t):PT X e t:=λpins s σ H Q I hw =>
 wpAny_mono (h pins s σ H Q (I.wish _) hw) (λ_ _ ⟨H',I',q⟩=>⟨H',I'.unwish,q⟩) λ_ _ z=>False.elim z
theorem PSs.nox {st:List Stmt} {t:TS} (h:PSs X.nox st t):PSs X st t:=λpins s σ H D I hw =>
 wpAny_mono (h pins s σ H D (I.wish _) hw) (λ_ _ q=>q.unwish) λ_ _ z=>False.elim z
end
section
variable {X:Cx} {st:Stmt} {bk6:List Stmt} {t u:TS} {e:Expr} {te:TE} {pos:Pos}
noncomputable def cv9:TS:=λD σ H=>D.nx σ H
noncomputable def cB2 (t u:TS):TS:=λD σ H=>t { D with nx:=u D } σ H
theorem bv3:PSs X [] cv9:=λ_ _ σ H _ I h=>wpAny_execs_nil ⟨σ,H,I,h⟩
theorem aV1 (h1:PS X st t) (h2:PSs X bk6 u):PSs X (st :: bk6) (cB2 t u):=by
 intro pins s σ H D I h
 refine wpAny_execs_cons (thn (h1 pins s σ H { D with nx:=u D } I h) λf s1 q=>?_)
 cases f with
 | next =>
  obtain ⟨σ',H',I',q⟩:=q
  exact h2 pins s1 σ' H' D I' q
 | ret v=>exact q
 | brk=>exact q
 | cont=>exact q
theorem bc5 (h1:PS X st t):PSs X [st] t:=by
 intro pins s σ H D I h
 refine wpAny_execs_cons (thn (h1 pins s σ H D I h) λf s1 q=>?_)
 cases f with
 | next=>exact wpAny_execs_nil q
 | ret v=>exact q
 | brk=>exact q
 | cont=>exact q
theorem Inv.quiet {pins:List (Addr × Obj)} {σ:St} {H:Hp} {s:Shared} (I:Inv X pins σ H s):interactive X.env=false:=by simp [interactive,I.ok.kind]
noncomputable def cu2 (te:TE):TS:=λD σ H=>te σ H λ_ H1=>D.nx σ H1
theorem bg6 (he:PE X e te) (hs:swapsWith e none pos.line X.env=pure false:=by rfl):PS X (.Expr e pos) (cu2 te):=by
 intro pins s σ H D I h
 exact wpAny_Expr_any (thn (he pins s σ H _ I h) λv s1 ⟨x,H1,I1,r1,q1⟩=>⟨σ,H1,I1,q1⟩) I.quiet hs
noncomputable def cB0 (te:TE):TS:=λD σ H=>te σ H D.rt
theorem cj0 (he:PE X e te):PS X (.Return (some e) pos) (cB0 te):=by
 intro pins s σ H D I h
 exact wpAny_Return_some (thn (he pins s σ H _ I h) λv s1 ⟨x,H1,I1,r1,q1⟩=>⟨x,σ,H1,I1,r1,q1⟩)
noncomputable def cA3 (c:TT) (t u:TS):TS:=λD σ H=>c σ H λb H1=>if b=true then t D σ H1 else u D σ H1
theorem cb9 {c:Expr} {a b:List Stmt} {tc:TT} (hc:PT X c tc) (ha:PSs X a t) (hb:PSs X b u):PS X (.If c a b pos) (cA3 tc t u):=by
 intro pins s σ H D I h
 refine wpAny_If (thn (hc pins s σ H _ I h) λd s1 ⟨H1,I1,q1⟩=>?_)
 cases d with
 | true=>exact ha pins s1 σ H1 D I1 q1
 | false=>exact hb pins s1 σ H1 D I1 q1
noncomputable def co0:TS:=λ_ _ _=>False
theorem bx5:PS X st co0:=λ_ _ _ _ _ _ h=>h.elim
end
noncomputable abbrev TG:=V->St->Hp->(St->Hp->Prop)->Prop
noncomputable abbrev TGs:=List V->St->Hp->(St->Hp->Prop)->Prop
noncomputable def PG (X:Cx) (target:Expr) (t:TG):Prop :=
 ∀(pins:List (Addr × Obj)) (s:Shared) (σ:St) (H:Hp) (v:V) (u:Value) (Q:St->Hp->Prop),Inv X pins σ H s->RelV v u->t v σ H Q ->
  wpAny (model X.prog X.w) X.A (assign target X.env u) (λ_ s'=>∃σ' H',Inv X pins σ' H' s'/\Q σ' H') X.xe s
noncomputable def PGs (X:Cx) (ts:List Expr) (t:TGs):Prop :=
 ∀(pins:List (Addr × Obj)) (s:Shared) (σ:St) (H:Hp) (vs:List V) (us:List Value) (Q:St->Hp->Prop),Inv X pins σ H s->Vals vs us->t vs σ H Q ->
  wpAny (model X.prog X.w) X.A (assignInOrder ((assignEach ts X.env).map (·.2)) us) (λ_ s'=>∃σ' H',Inv X pins σ' H' s'/\Q σ' H') X.xe s
noncomputable abbrev cx5:=V->V->V->Hp->(Hp->Prop)->Prop
noncomputable def cz4 (X:Cx) (t:cx5):Prop :=
 ∀(pins:List (Addr × Obj)) (s:Shared) (σ:St) (H:Hp) (o i v:V) (ov iv u:Value) (Q:Hp->Prop),Inv X pins σ H s->RelV o ov->RelV i iv->RelV v u->t o i v H Q ->
  wpAny (model X.prog X.w) X.A (setItem ov iv u) (λ_ s'=>∃H',Inv X pins σ H' s'/\Q H') X.xe s
noncomputable abbrev TIp:=V->V->Hp->VK->Prop
noncomputable def PIp (X:Cx) (op:Operator) (t:TIp):Prop :=
 ∀(pins:List (Addr × Obj)) (s:Shared) (σ:St) (H:Hp) (x y:V) (v u:Value) (Q:VK),Inv X pins σ H s->RelV x v->RelV y u->t x y H Q ->
  wpAny (model X.prog X.w) X.A (inplaceOp op v u) (EP X pins σ Q) X.xe s
section
variable {X:Cx} {pos:Pos}
noncomputable def bW2 (i:Nat):TG:=λv σ H Q=>Q (σ.set i (some v)) H
theorem bm8 {i:Nat} {x:Str} (hN:X.N.Nodup) (hi:X.N[i]?=some x) (hx:Loc X.env.scope x) (hf:X.fn x=true\/X.env.scope.names.lookup x=some .local:=by first | exact .inl rfl | exact .inr rfl | assumption):PG X (.Name x pos) (bW2 i):=by
 intro pins s σ H v u Q I r h
 exact wpAny_assign_Name (bn6 I hN hi hx r (λs' I'=>⟨_,H,I',h⟩) hf)
noncomputable def cA6:TGs:=λvs σ H Q=>vs=[]/\Q σ H
noncomputable def cw4 (t:TG) (u:TGs):TGs:=λvs σ H Q=>∃v r,vs=v :: r/\t v σ H λσ' H'=>u r σ' H' Q
theorem b80:PGs X [] cA6:=by
 intro pins s σ H vs us Q I r h
 obtain ⟨e,h⟩:=h
 subst e
 cases r
 exact assignInOrder_nil ⟨σ,H,I,h⟩
theorem bz5 {e:Expr} {es:List Expr} {t:TG} {u:TGs} (h1:PG X e t) (h2:PGs X es u)
  (hs:(assignEach (e :: es) X.env).map (·.2)=assign e X.env :: (assignEach es X.env).map (·.2):=by rfl):PGs X (e :: es) (cw4 t u):=by
 intro pins s σ H vs us Q I r h
 obtain ⟨v,vr,e1,h⟩:=h
 subst e1
 cases r with
 | cons r rr =>
  rw [hs]
  refine assignInOrder_cons (thn (h1 pins s σ H _ _ _ I r h) λ_ s1 ⟨σ1,H1,I1,q1⟩=>?_)
  exact h2 pins s1 σ1 H1 _ _ Q I1 rr q1
noncomputable def cC2 (K:PySem.W.Frag) (n:Nat) (t:TGs):TG:=λv σ H Q=>∃a xs,v=.ref a/\SqT K H a xs/\xs.length=n/\t xs σ H Q
theorem cm2 {es:List Expr} {k:Nat} {t:TGs} {n:Nat} (hc:X.calm=true) (h:PGs X es t)
  (hn:(assignEach es X.env).length=n:=by rfl) (hst:(assignEach es X.env).findIdx? (·.1)=none:=by rfl):PG X (.Tuple es k pos) (cC2 X.K n t):=by
 intro pins s σ H v u Q I r hw
 obtain ⟨a,xs,e1,hq,hl,hw⟩:=hw
 subst e1
 cases r
 obtain ⟨its,rv,ht,hz⟩:=I.tuple hq
 refine assign_Tuple_tuple (I.ok.hd hc) ht (by simp [hn,<- hl,rv.length]) hst λh' hx=>?_
 have I1:Inv X pins σ H { s with heap:=h' }:=I.kept (t':=s.toks) λb o e=>hx b o (Nat.ne_of_lt (Heap.lt_size e)) e
 exact h pins _ σ H xs _ Q I1 (by simpa using rv) hw
noncomputable def cA5 (to ti:TE) (t:cx5):TG:=λv σ H Q=>to σ H λo H1=>ti σ H1 λi H2=>t o i v H2 λH3=>Q σ H3
theorem cm3 {o i:Expr} {to ti:TE} {t:cx5} (ho:PE X o to) (hi:PE X i ti) (hs:cz4 X t)
  (ha:∀v,assign (.Subscript o i pos) X.env v=(do
   let ov<-holding [v] (eval o X.env)
   let iv<-holding [v,ov] (eval i X.env)
   standAt pos
   holding [v,ov,iv] (setItem ov iv v)
   release [v,ov,iv] []):=by intro _; rfl):PG X (.Subscript o i pos) (cA5 to ti t):=by
 intro pins s σ H v u Q I r h
 rw [ha]
 refine wpAny_bind (wpAny_holding (thn (ho pins s σ H _ I h) λov s1 ⟨x,H1,I1,r1,q1⟩=>?_))
 refine wpAny_bind (wpAny_holding (thn (hi pins s1 σ H1 _ I1 q1) λiv s2 ⟨y,H2,I2,r2,q2⟩=>?_))
 refine wpAny_bind (wpAny_standAt (wpAny_bind (wpAny_holding (thn (hs pins s2 σ H2 x y v ov iv u _ I2 r1 r2 r q2) λ_ s3 ⟨H3,I3,q3⟩=>?_))))
 exact wpAny_release ⟨σ,H3,I3,q3⟩
noncomputable def cv3 (te:TE) (g:TG):TS:=λD σ H=>te σ H λx H1=>g x σ H1 D.nx
theorem cn5 {tg e:Expr} {te:TE} {g:TG} (he:PE X e te) (hg:PG X tg g) (hs:swapsWithSole [tg] e pos.line X.env=pure false:=by rfl) (hw:swappedStores [tg] e X.env=pure none:=by rfl)
  (h1:(assignEach [tg] X.env).map (·.2)=[assign tg X.env]:=by rfl):PS X (.Assign [tg] e pos) (cv3 te g):=by
 intro pins s σ H D I h
 refine wpAny_Assign_stores (thn (he pins s σ H _ I h) λv s1 ⟨x,H1,I1,r1,q1⟩=>?_) hs hw
 rw [h1]
 exact thn (hg pins s1 σ H1 x v _ I1 r1 q1) λ_ s2 q=>q
theorem bZ7 {i:Nat} {x:Str} {e:Expr} {te:TE} {pos':Pos} (hN:X.N.Nodup) (hi:X.N[i]?=some x) (hx:Loc X.env.scope x) (he:PE X e te) (hs:swapsWith e (some (.Name x pos')) pos.line X.env=pure false:=by rfl) (hf:X.fn x=true\/X.env.scope.names.lookup x=some .local:=by first | exact .inl rfl | exact .inr rfl | assumption) :
  PS X (.Assign [.Name x pos'] e pos) (cv3 te (bW2 i)):=by
 intro pins s σ H D I h
 refine wpAny_Assign_Name (thn (he pins s σ H _ I h) λv s1 ⟨y,H1,I1,r1,q1⟩=>?_) hs
 exact bn6 I1 hN hi hx r1 (λs2 I2=>⟨_,H1,I2,q1⟩) hf
noncomputable def cC7 (i:Nat) (te:TE) (ti:TIp):TS:=λD σ H=>∃x,σ[i]?=some (some x)/\te σ H λy H1=>ti x y H1 λz H2=>D.nx (σ.set i (some z)) H2
theorem ck3 {i:Nat} {x:Str} {e:Expr} {te:TE} {op:Operator} {ti:TIp} {pos':Pos} (hN:X.N.Nodup) (hi:X.N[i]?=some x) (hx:Loc X.env.scope x) (he:PE X e te) (ho:PIp X op ti) (hf:X.fn x=true\/X.env.scope.names.lookup x=some .local:=by first | exact .inl rfl | exact .inr rfl | assumption) :
  PS X (.AugAssign (.Name x pos') op e pos) (cC7 i te ti):=by
 intro pins s σ H D I h
 obtain ⟨v,e1,h⟩:=h
 obtain ⟨m,hn,hl⟩:=I.loc
 have vis:Vis X.env.scope x:=by rcases hx with k | k; exact .inl k; exact .inr (.inl k)
 obtain ⟨u,r,l⟩:=hl i x v hi e1 vis
 refine wpAny_AugAssign_Name ?_
 have go:wpAny (model X.prog X.w) X.A (eval e X.env) (λw s₂=>wpAny (model X.prog X.w) X.A (inplaceOp op u w) (λr s₃=>wpAny (model X.prog X.w) X.A (storeName X.env x r) (λ_=>SP X pins D .next) X.xe s₃) X.xe s₂) X.xe s:=by
  refine thn (he pins s σ H _ I h) λw s1 ⟨y,H1,I1,r1,q1⟩=>?_
  refine thn (ho pins s1 σ H1 v y u w _ I1 r r1 q1) λz s2 ⟨zv,H2,I2,r2,q2⟩=>?_
  exact bn6 I2 hN hi hx r2 (λs3 I3=>⟨_,H2,I3,q2⟩) hf
 rcases l with ⟨hk,hm⟩ | ⟨hk,c,hc,hcell⟩
 ·exact wpAny_loadName_local I.ok.kind hk hn hm go
 ·rcases hk with hk | hk
  ·exact wpAny_loadName_cell I.ok.kind hk hc hcell go
  ·rcases hx with k | k
   ·have:X.env.scope.names.lookup x=some .free:=hk
    rw [k] at this; cases this
   ·have:X.env.scope.names.lookup x=some .free:=hk
    rw [k] at this; cases this
end
section
variable {X:Cx} {pos:Pos}
noncomputable def co4 (c:TT) (tb:TS):TS:=λD σ H=>∃W:Nat->St->Hp->Prop,(∃m,W m σ H)/\∀m σ H,W m σ H ->
 c σ H λb H1=>if b=true then ∃N:St->Hp->Prop,(∀σ' H',N σ' H'->∃m',m' < m/\W m' σ' H')/\tb { D with nx:=N,ct:=N,bk:=D.nx } σ H1 else D.nx σ H1
theorem bQ5 {c:Expr} {body:List Stmt} {tc:TT} {tb:TS} (hp:PassesOwn (model X.prog X.w) X.A X.env X.xe) (hc:PT X c tc) (hb:PSs X body tb):PS X (.While c body [] pos) (co4 tc tb):=by
 intro pins s σ H D I h
 obtain ⟨W,⟨m0,w0⟩,turn⟩:=h
 refine wpAny_While (codeAny_whileLoop (λn s'=>∃σ' H',Inv X pins σ' H' s'/\W n σ' H') ?_ m0 ⟨σ,H,I,w0⟩)
 rintro n s1 ⟨σ1,H1,I1,w1⟩
 refine wpAny_passesOwn hp (thn (hc pins s1 σ1 H1 _ I1 (turn n σ1 H1 w1)) λb s2 ⟨H2,I2,q2⟩=>?_)
 cases b with
 | true =>
  obtain ⟨N,hN,q2⟩:=q2
  rw [if_pos rfl]
  refine wpAny_passesOwn hp (thn (hb pins s2 σ1 H2 _ I2 q2) λf s3 q3=>?_)
  cases f with
  | next =>
   obtain ⟨σ3,H3,I3,n3⟩:=q3
   obtain ⟨m',hm,w3⟩:=hN σ3 H3 n3
   exact ⟨m',hm,σ3,H3,I3,w3⟩
  | cont =>
   obtain ⟨σ3,H3,I3,n3⟩:=q3
   obtain ⟨m',hm,w3⟩:=hN σ3 H3 n3
   exact ⟨m',hm,σ3,H3,I3,w3⟩
  | brk=>exact q3
  | ret v=>exact q3
 | false =>
  rw [if_neg Bool.false_ne_true]
  exact wpAny_execs_nil ⟨σ1,H2,I2,q2⟩
end
structure It where
 go:Nat->Hp->Prop
 yld:Nat->Hp->V->Hp->Prop
 stop:Nat->Hp->Prop
noncomputable def bA4 (X:Cx) (pins:List (Addr × Obj)) (H:Hp) (b:Addr):Prop :=
 H b=none/\b≠X.env.locals/\b ∉ X.fs/\(b∈X.ex\/X.s₀.heap.objs.size<=b)/\(∀x c,X.env.cells.lookup x=some c->c≠b)/\∀p∈X.pn++pins,p.1≠b
theorem Inv.fpOk {X:Cx} {pins:List (Addr × Obj)} {σ:St} {H H':Hp} {s:Shared} {b:Addr} (I:Inv X pins σ H s) (hb:s.heap.objs.size<=b) (hn:H' b=none):bA4 X pins H' b:=by
 refine ⟨hn,Nat.ne_of_gt (Nat.lt_of_lt_of_le I.lt hb),I.nofs hb,.inr (Nat.le_trans I.sz hb),λx c e z=>?_,λp hp z=>?_⟩
 ·obtain ⟨v,q⟩:=I.cell x c e
  exact absurd (Nat.lt_of_lt_of_le q.lt (by rw [z]; exact hb)) (Nat.lt_irrefl _)
 ·exact absurd (Nat.lt_of_lt_of_le (Heap.lt_size (I.pin p hp).1) (by rw [z]; exact hb)) (Nat.lt_irrefl _)
structure Turn (P:Program) (w:World) (K:PySem.W.Frag) (tg:Expr) (J:It) (fp:List Addr) (it:Addr) (tn:Nat->Heap->Prop):Prop where
 mem:it∈fp
 obj:∀i h,tn i h->∀b∈fp,∃o,h.get? b=some o/\∀v,o.data≠.cell v
 keep:∀i h h',tn i h->(∀b∈fp,∀o,h.get? b=some o->h'.get? b=some o)->tn i h'
 item:∀(X:Cx),X.prog=P->X.w=w->X.K=K->X.calm=true->∀(i:Nat) (pins:List (Addr × Obj)) (s:Shared) (σ:St) (H:Hp) (E:Value->Shared->Prop),Inv X pins σ H s->(∀b∈fp,bA4 X pins H b)->tn i s.heap->J.go i H ->
  wpAny (model P w) X.A (pyNext (.ref it)) (λr s1=>∃u,r=some u /\
   wpAny (model P w) X.A (letOwnedTupleGo tg (.ref it) u) (λ_ s2=>∃x H',Inv X pins σ H' s2/\RelV x u/\J.yld i H x H'/\tn (i + 1) s2.heap/\∀b∈fp,H' b=none) E s1) E s
 done:∀(X:Cx),X.prog=P->X.w=w->X.K=K->X.calm=true->∀(i:Nat) (pins:List (Addr × Obj)) (s:Shared) (σ:St) (H:Hp) (E:Value->Shared->Prop),Inv X pins σ H s->(∀b∈fp,bA4 X pins H b)->tn i s.heap->J.stop i H ->
  wpAny (model P w) X.A (pyNext (.ref it)) (λr s1=>r=none/\Inv X pins σ H s1) E s
 self:∀(A:Around) (i:Nat) (s:Shared) (Q:Value->Shared->Prop) (E:Value->Shared->Prop),tn i s.heap->Q (.ref it) s->wpAny (model P w) A (pyIter (.ref it)) Q E s
noncomputable abbrev TI:=St->Hp->(It->Hp->Prop)->Prop
noncomputable def PIE (X:Cx) (pins:List (Addr × Obj)) (σ:St) (tg:Expr) (R:It->Hp->Prop) (itv:Value) (s2:Shared):Prop :=
 ∃(it:Addr) (fp:List Addr) (tn:Nat->Heap->Prop) (J:It) (H':Hp),itv=.ref it/\Inv X pins σ H' s2/\Turn X.prog X.w X.K tg J fp it tn/\tn 0 s2.heap/\(∀b∈fp,bA4 X pins H' b)/\R J H'
noncomputable def PI (X:Cx) (tg iter:Expr) (wi:TI):Prop :=
 ∀(pins:List (Addr × Obj)) (s:Shared) (σ:St) (H:Hp) (R:It->Hp->Prop),Inv X pins σ H s->wi σ H R ->
  wpAny (model X.prog X.w) X.A (eval iter X.env) (λv s1=>wpAny (model X.prog X.w) X.A (pyIter v) (PIE X pins σ tg R) X.xe s1) X.xe s
theorem cn3 {M:Model} {A:Around} {E:Value->Shared->Prop} {s:Shared} {tg:Expr} {it:Addr} {u:Value} {o:Obj} {n:String} {vs:Array Value} {Q:Unit->Shared->Prop} (ho:s.heap.get? it=some o) (hc:o.cls=.type n) (hd:o.data=.fields vs)
  (hn:["enumerate","zip","dict_itemiterator","dict_reverseitemiterator","odict_iterator","itertools.zip_longest","itertools.pairwise"].contains n=false) (hQ:Q () s):wpAny M A (letOwnedTupleGo tg (.ref it) u) Q E s:=by
 unfold letOwnedTupleGo
 cases tg <;> first
  | exact wpAny_pure hQ
  | (cases u <;> first
    | exact wpAny_pure hQ
    | (refine wpAny_bind (wpAny_load ho ?_)
       rw [hc,hd]
       show wpAny M A (if (["enumerate","zip","dict_itemiterator","dict_reverseitemiterator","odict_iterator","itertools.zip_longest","itertools.pairwise"].contains n && vs[0]? == some (rawInt _))=true then _ else _) Q E s
       rw [if_neg (by intro h; rw [hn,Bool.false_and] at h; cases h)]
       exact wpAny_pure hQ))
noncomputable def Itl (K:PySem.W.Frag) (a:Addr):It :=
 ⟨λi H=>∃xs x,SqL K H a xs/\xs[i]?=some x,λi H x H'=>H'=H/\∀xs,SqL K H a xs->xs[i]?=some x,λi H=>∃xs,SqL K H a xs/\xs.length<=i⟩
noncomputable def Itr (lo:Int) (n:Nat):It:=⟨λi _=>i < n,λi H x H'=>H'=H/\x=.int (lo + i),λi _=>n<=i⟩
theorem bI7 {P:Program} {w:World} {K:PySem.W.Frag} {tg:Expr} (a it:Addr):Turn P w K tg (Itl K a) [it] it (λi h=>h.IsListIter it a i) where
 mem:=by simp
 obj:=λi h st b hb=>by
  have e:b=it:=by simpa using hb
  subst e
  obtain ⟨o,e,c,d⟩:=st
  exact ⟨o,e,λv z=>by rw [d] at z; cases z⟩
 keep:=λi h h' st k=>st.at λo e=>k it (by simp) o e
 item:=by
  intro X hP hw hK hc i pins s σ H E I hf st hg
  subst hP hw hK
  obtain ⟨xs,x,hq,hx⟩:=hg
  obtain ⟨its,rv,p,hz⟩:=I.list hq
  obtain ⟨u,hu,ru⟩:=rv.get hx
  obtain ⟨f0,f1,f2,f3,f4,f5⟩:=hf it (by simp)
  refine wpAny_pyNext_list_item st p.isList (x:=u) (by simpa using hu) λh' st' sb=>?_
  have I1:Inv X pins σ H { s with heap:=h' }:=I.turned (t':=s.toks) (λb o hb e=>(sb.2 b hb).trans e) f0 f1 f3 f4 f5
  obtain ⟨o,e,c,d⟩:=id st'
  exact ⟨u,rfl,cn3 (s:={ s with heap:=h' }) e c d (by decide) ⟨x,H,I1,ru,⟨rfl,λys hy=>by rw [I.list_inj hy hq]; exact hx⟩,st',λb hb=>(hf b hb).1⟩⟩
 done:=by
  intro X hP hw hK hc i pins s σ H E I hf st hg
  subst hP hw hK
  obtain ⟨xs,hq,hx⟩:=hg
  obtain ⟨its,rv,p,hz⟩:=I.list hq
  obtain ⟨f0,f1,f2,f3,f4,f5⟩:=hf it (by simp)
  have hl:=rv.length
  exact wpAny_pyNext_list_end (I.ok.hd hc) st p.isList (by simp; omega) λh' eb=>⟨rfl,I.turned (t':=s.toks) (λb o hb e=>eb b o hb e) f0 f1 f3 f4 f5⟩
 self:=λ_ _ _ _ _ st h=>wpAny_pyIter_listiter st h
theorem bB6 {P:Program} {w:World} {K:PySem.W.Frag} {tg:Expr} (it:Addr) (lo:Int) (n:Nat):Turn P w K tg (Itr lo n) [it] it (λi h=>IsRangeIter h it (lo + (i:Nat) * 1) ((n:Int) - (i:Nat)) 1) where
 mem:=by simp
 obj:=λi h st b hb=>by
  have e:b=it:=by simpa using hb
  subst e
  exact ⟨_,st,λv z=>by
   have z':Data.fields _=Data.cell v:=z
   cases z'⟩
 keep:=λi h h' st k=>k it (by simp) _ st
 item:=by
  intro X hP hw hK hc i pins s σ H E I hf st hg
  subst hP hw hK
  obtain ⟨f0,f1,f2,f3,f4,f5⟩:=hf it (by simp)
  have W:=Walks.range (prog:=X.prog) (w:=X.w) (I.ok.hd hc) it lo 1 n
  refine W.item i s _ _ hg st λv h' tk hv st' kk=>?_
  obtain ⟨t,rfl⟩:=hv
  have I1:Inv X pins σ H { s with heap:=h',toks:=tk }:=I.turned (λb o hb e=>kk b o (by simpa using hb) e) f0 f1 f3 f4 f5
  refine ⟨_,rfl,cn3 (s:={ s with heap:=h',toks:=tk }) (n:="range_iterator") st' rfl rfl (by decide) ⟨.int (lo + i),H,I1,⟨t,?_⟩,⟨rfl,rfl⟩,st',λb hb=>(hf b hb).1⟩⟩
  rw [Int.mul_one]
 done:=by
  intro X hP hw hK hc i pins s σ H E I hf st hg
  subst hP hw hK
  obtain ⟨f0,f1,f2,f3,f4,f5⟩:=hf it (by simp)
  exact wpAny_pyNext_range_end (I.ok.hd hc) st (by have:n<=i:=hg; omega) λh' eb=>⟨rfl,I.turned (t':=s.toks) (λb o hb e=>eb b o hb e) f0 f1 f3 f4 f5⟩
 self:=λ_ _ _ _ _ st h=>wpAny_pyIter_rangeiter st h
end L2
namespace L2
open PySem PySem.Spec PyProof.Rows
section
variable {X:Cx} {tg:Expr}
noncomputable def cu7 (K:PySem.W.Frag) (tl:TE):TI:=λσ H R=>tl σ H λx H1=>∃a,x=.ref a/\(∃xs,SqL K H1 a xs)/\R (Itl K a) H1
theorem bM6 {l:Expr} {tl:TE} (hl:PE X l tl):PI X tg l (cu7 X.K tl):=by
 intro pins s σ H R I h
 refine thn (hl pins s σ H _ I h) λv s1 ⟨x,H1,I1,r1,q1⟩=>?_
 obtain ⟨a,e,⟨xs,hq⟩,q⟩:=q1
 subst e
 cases r1
 obtain ⟨its,rv,p,hz⟩:=I1.list hq
 refine wpAny_pyIter_list p.isList ?_
 refine ⟨s1.heap.objs.size,[s1.heap.objs.size],_,_,H1,rfl,I1.kept (t':=s1.toks) λb o e=>Heap.get?_push_of_some _ e,bI7 a _,⟨_,Heap.get?_push_size _ rfl,rfl,rfl⟩,λb hb=>?_,q⟩
 have e:b=s1.heap.objs.size:=by simpa using hb
 subst e
 exact I1.fpOk (Nat.le_refl _) (I1.hok.fresh (Nat.le_refl _))
theorem bx2 {pins:List (Addr × Obj)} {σ:St} {H:Hp} {s:Shared} {R:It->Hp->Prop} {E:Value->Shared->Prop} {lo hi:Int} {t u v:Tok} {tk:Nat} (I:Inv X pins σ H s) (h1:-(2 ^ 62)<=lo) (h2:lo < 2 ^ 62) (h3:-(2 ^ 62)<=hi) (h4:hi < 2 ^ 62)
  (q:R (Itr lo (hi - lo).toNat) H):wpAny (model X.prog X.w) X.A (pyIter (.ref s.heap.objs.size)) (PIE X pins σ tg R) E { s with heap:=s.heap.push { cls:=.type "range",data:=.fields #[.int lo t,.int hi u,.int 1 v] },toks:=tk }:=by
 refine wpAny_pyIter_range (IsRange.new ..) (small_one h1 h2 h3 h4) ?_
 have I1:Inv X pins σ H { s with heap:=s.heap.push { cls:=.type "range",data:=.fields #[.int lo t,.int hi u,.int 1 v] },toks:=tk }:=I.kept λb o e=>Heap.get?_push_of_some _ e
 refine ⟨(s.heap.push { cls:=.type "range",data:=.fields #[.int lo t,.int hi u,.int 1 v] }).objs.size,[(s.heap.push { cls:=.type "range",data:=.fields #[.int lo t,.int hi u,.int 1 v] }).objs.size],_,_,H,rfl,
  I1.kept (t':=tk) λb o e=>Heap.get?_push_of_some _ e,bB6 _ lo (hi - lo).toNat,?_,λb hb=>?_,q⟩
 ·have e1:lo + ((0:Nat):Int) * 1=lo:=by simp
  have e2:(((hi - lo).toNat:Nat):Int) - ((0:Nat):Int)=Builtin.Range.rangeSize lo hi 1:=by rw [rangeSize_one]; split <;> omega
  show IsRangeIter _ _ (lo + ((0:Nat):Int) * 1) ((((hi - lo).toNat:Nat):Int) - ((0:Nat):Int)) 1
  rw [e1,e2]
  exact Heap.get?_push_size _ rfl
 ·have e:b=(s.heap.push { cls:=.type "range",data:=.fields #[.int lo t,.int hi u,.int 1 v] }).objs.size:=by simpa using hb
  subst e
  exact I1.fpOk (Nat.le_refl _) (I1.hok.fresh (Nat.le_refl _))
noncomputable def cu1 (ta:TA):TI:=λσ H R=>ta σ H λvs H1=>∃j:Int,vs=[.int j]/\-(2 ^ 62)<=j/\j < 2 ^ 62/\R (Itr 0 j.toNat) H1
noncomputable def cv6 (ta:TA):TI:=λσ H R=>ta σ H λvs H1=>∃i j:Int,vs=[.int i,.int j]/\(-(2 ^ 62)<=i/\i < 2 ^ 62/\-(2 ^ 62)<=j/\j < 2 ^ 62)/\R (Itr i (j - i).toNat) H1
theorem bL0 {a:Expr} {ta:TA} {p pos:Pos} (hg:Gl X "range") (hm:X.mg "range"=none) (ha:PA X [a] ta) (hs:starEach [a] X.env=[(false,eval a X.env)]:=by rfl):PI X tg (.Call (.Name "range" p) [a] [] pos) (cu1 ta):=by
 intro pins s σ H R I h
 refine Call_ (ba4 I hg hm boot_range (PyProof.Rows.callWith_type1 (thn (ha pos pins s σ H _ I h) λus s1 ⟨vs,H1,I1,r1,q1⟩=>?_) hs rfl))
 obtain ⟨j,e,q1,q2,q⟩:=q1
 subst e
 cases r1 with
 | cons r rr =>
  cases rr
  obtain ⟨t,rfl⟩:=r
  exact call_range_1 (bx2 I1 (by omega) (by omega) q1 q2 (by simpa using q))
theorem bK5 {a b:Expr} {ta:TA} {p pos:Pos} (hg:Gl X "range") (hm:X.mg "range"=none) (ha:PA X [a,b] ta) (hs:starEach [a,b] X.env=[(false,eval a X.env),(false,eval b X.env)]:=by rfl) (hs2:starEach [b] X.env=[(false,eval b X.env)]:=by rfl) :
  PI X tg (.Call (.Name "range" p) [a,b] [] pos) (cv6 ta):=by
 intro pins s σ H R I h
 refine Call_ (ba4 I hg hm boot_range (PyProof.Rows.callWith_type1 (thn (ha pos pins s σ H _ I h) λus s1 ⟨vs,H1,I1,r1,q1⟩=>?_) (by rw [hs,hs2]) (by rw [hs2]; rfl)))
 obtain ⟨i,j,e,⟨q1,q2,q3,q4⟩,q⟩:=q1
 subst e
 cases r1 with
 | cons r rr =>
  cases rr with
  | cons r' rr =>
   cases rr
   obtain ⟨t,rfl⟩:=r
   obtain ⟨t',rfl⟩:=r'
   exact call_range_2 (bx2 I1 q1 q2 q3 q4 q)
noncomputable def cA8 (wi:TI) (g:TG) (tb:TS):TS:=λD σ H=>wi σ H λJ H1=>∃W:Nat->Nat->St->Hp->Prop,(∃m,W 0 m σ H1)/\∀i m σ H,W i m σ H ->
 (J.stop i H/\D.nx σ H)\/(J.go i H/\∃N:St->Hp->Prop,(∀σ' H',N σ' H'->∃m',m' < m/\W (i + 1) m' σ' H')/\∀x H',J.yld i H x H'->g x σ H' λσ2 H2=>tb { D with nx:=N,ct:=N,bk:=D.nx } σ2 H2)
noncomputable def bp3 (fp:List Addr) (h:Heap):List (Addr × Obj):=fp.filterMap λb=>(h.get? b).map λo=>(b,o)
theorem a84 {fp:List Addr} {h:Heap} {b:Addr} {o:Obj} (hb:b∈fp) (e:h.get? b=some o):(b,o)∈bp3 fp h:=List.mem_filterMap.mpr ⟨b,hb,by rw [e]; rfl⟩
theorem bH8 {fp:List Addr} {h:Heap} {p:Addr × Obj} (hp:p∈bp3 fp h):p.1∈fp/\h.get? p.1=some p.2:=by
 obtain ⟨b,hb,e⟩:=List.mem_filterMap.mp hp
 cases q:h.get? b with
 | none=>rw [q] at e; cases e
 | some o =>
  rw [q] at e
  have e':(b,o)=p:=Option.some.inj e
  subst e'
  exact ⟨hb,q⟩
theorem Inv.pinned {pins:List (Addr × Obj)} {σ:St} {H:Hp} {s:Shared} {fp:List Addr} (I:Inv X pins σ H s) (hf:∀b∈fp,bA4 X pins H b) (ho:∀b∈fp,∃o,s.heap.get? b=some o/\∀v,o.data≠.cell v):Inv X (pins++bp3 fp s.heap) σ H s :=
 I.pins_of λp hp=>(List.mem_append.mp hp).elim (λz=>I.pin p (List.mem_append_right _ z)) λz=>by
  obtain ⟨hb,e⟩:=bH8 z
  obtain ⟨f0,f1,f2,_⟩:=hf p.1 hb
  obtain ⟨o,e',d⟩:=ho p.1 hb
  rw [e] at e'; cases e'
  exact ⟨e,f0,f1,f2,d⟩
theorem Inv.unpinned {pins pl:List (Addr × Obj)} {σ:St} {H:Hp} {s:Shared} (I:Inv X (pins++pl) σ H s):Inv X pins σ H s:=I.pins_of λp hp=>I.pin p (List.mem_append_right _ (List.mem_append_left _ hp))
theorem cj7 {iter:Expr} {body:List Stmt} {wi:TI} {g:TG} {tb:TS} {pos:Pos} (hp:PassesOwn (model X.prog X.w) X.A X.env X.xe) (hc:X.calm=true) (hi:PI X tg iter wi) (hg:PG X tg g) (hb:PSs X body tb)
  (hs:∀x,foldedSetIterable iter X.env x=pure x:=by intro _; rfl):PS X (.For tg iter body [] pos) (cA8 wi g tb):=by
 intro pins s σ H D I h
 refine wpAny_For (thn (hi pins s σ H _ I h) λv s1 h1=>thn h1 λitv s2 h2=>?_) hs
 obtain ⟨it,fp,tn,J,H2,e,I2,T,st2,f2,W,⟨m0,w0⟩,turn⟩:=h2
 subst e
 have stat:∀{H':Hp},(∀b∈fp,H' b=none)->∀b∈fp,bA4 X pins H' b:=λhn b hb=>⟨hn b hb,(f2 b hb).2⟩
 refine codeAny_forLoop_any (λn s'=>∃i σ' H',Inv X pins σ' H' s'/\tn i s'.heap/\(∀b∈fp,H' b=none)/\W i n σ' H') ?_ m0 ⟨0,σ,H2,I2,st2,λb hb=>(f2 b hb).1,w0⟩
 rintro n s3 ⟨i,σ3,H3,I3,st3,fr3,w3⟩
 rcases turn i n σ3 H3 w3 with ⟨stop,qn⟩ | ⟨go,N,hN,step⟩
 ·refine wpAny_passesOwn hp (thn (T.done X rfl rfl rfl hc i pins s3 σ3 H3 X.xe I3 (stat fr3) st3 stop) λr s4 ⟨hr,I4⟩=>?_)
  subst hr
  exact wpAny_execs_nil ⟨σ3,H3,I4,qn⟩
 ·refine wpAny_passesOwn hp (thn (T.item X rfl rfl rfl hc i pins s3 σ3 H3 X.xe I3 (stat fr3) st3 go) λr s4 ⟨u,hr,h4⟩=>?_)
  subst hr
  refine wpAny_passesOwn hp (thn h4 λ_ s5 ⟨x,H5,I5,r5,y5,st5,fr5⟩=>?_)
  have I5':=I5.pinned (stat fr5) (T.obj _ _ st5)
  refine wpAny_passesOwn hp (thn (hg _ s5 σ3 H5 x u _ I5' r5 (step x H5 y5)) λ_ s6 ⟨σ6,H6,I6,q6⟩=>?_)
  refine wpAny_passesOwn hp (thn (hb _ s6 σ6 H6 _ I6 q6) λf s7 q7=>?_)
  have again:∀{σ7:St} {H7:Hp},Inv X (pins++bp3 fp s5.heap) σ7 H7 s7->N σ7 H7->∃m,m < n/\∃i σ' H',Inv X pins σ' H' s7/\tn i s7.heap/\(∀b∈fp,H' b=none)/\W i m σ' H':=λ{σ7 H7} I7 n7=>by
   obtain ⟨m',hm,w7⟩:=hN σ7 H7 n7
   refine ⟨m',hm,i + 1,σ7,H7,I7.unpinned,T.keep _ _ _ st5 λb hb o e=>(I7.pin (b,o) (List.mem_append_right _ (List.mem_append_right _ (a84 hb e)))).1,λb hb=>?_,w7⟩
   obtain ⟨o,e,d⟩:=T.obj _ _ st5 b hb
   exact (I7.pin (b,o) (List.mem_append_right _ (List.mem_append_right _ (a84 hb e)))).2.1
  cases f with
  | next=>obtain ⟨σ7,H7,I7,n7⟩:=q7; exact again I7 n7
  | cont=>obtain ⟨σ7,H7,I7,n7⟩:=q7; exact again I7 n7
  | brk=>obtain ⟨σ7,H7,I7,q7⟩:=q7; exact ⟨σ7,H7,I7.unpinned,q7⟩
  | ret v=>obtain ⟨x7,σ7,H7,I7,r7,q7⟩:=q7; exact ⟨x7,σ7,H7,I7.unpinned,r7,q7⟩
end
end L2
namespace L2
open PySem PySem.Spec PyProof.Rows
noncomputable abbrev R2:=V->V->Hp->VK->Prop
noncomputable def OpR (X:Cx) (f:Value->Value->Sem Value) (r:R2):Prop :=
 ∀(pins:List (Addr × Obj)) (s:Shared) (σ:St) (H:Hp) (x y:V) (v u:Value) (Q:VK),Inv X pins σ H s->RelV x v->RelV y u->r x y H Q ->
  wpAny (model X.prog X.w) X.A (f v u) (EP X pins σ Q) X.xe s
noncomputable def CallR (X:Cx) (f:Value) (r:List V->Hp->VK->Prop):Prop :=
 ∀(pins:List (Addr × Obj)) (s:Shared) (σ:St) (H:Hp) (xs:List V) (us:List Value) (Q:VK),Inv X pins σ H s->Vals xs us->r xs H Q ->
  wpAny (model X.prog X.w) X.A (call f us) (EP X pins σ Q) X.xe s
noncomputable def tOp (r:R2) (ta tb:TE):TE:=λσ H Q=>ta σ H λx H1=>tb σ H1 λy H2=>r x y H2 Q
noncomputable def rI (C:Int->Int->Prop) (g:Int->Int->V):R2:=λx y H Q=>∃i j,x=.int i/\y=.int j/\C i j/\Q (g i j) H
noncomputable def rI0 (g:Int->Int->V):R2:=λx y H Q=>∃i j,x=.int i/\y=.int j/\Q (g i j) H
section
variable {X:Cx} {a b c:Expr} {ta tb tc:TE} {pos:Pos}
theorem cu3 (ha:PE X a ta) (hb:PE X b tb) {pins:List (Addr × Obj)} {s:Shared} {σ:St} {H:Hp} {R:V->V->Hp->Prop} (I:Inv X pins σ H s)
  (h:ta σ H λx H1=>tb σ H1 λy H2=>R x y H2) {Q:Value->Shared->Prop} {f:Value->Value->Sem Value}
  (hf:∀v u s2 x y H2,Inv X pins σ H2 s2->RelV x v->RelV y u->R x y H2->wpAny (model X.prog X.w) X.A (f v u) Q X.xe s2) :
  wpAny (model X.prog X.w) X.A (eval a X.env) (λv s₁=>wpAny (model X.prog X.w) X.A (eval b X.env) (λu s₂=>wpAny (model X.prog X.w) X.A (f v u) Q X.xe s₂) X.xe s₁) X.xe s:=by
 refine thn (ha pins s σ H _ I h) λv s1 ⟨x,H1,I1,r1,q1⟩=>?_
 refine thn (hb pins s1 σ H1 _ I1 q1) λu s2 ⟨y,H2,I2,r2,q2⟩=>?_
 exact hf v u s2 x y H2 I2 r1 r2 q2
theorem bL8 {op:Operator} {r:R2} (ho:OpR X (binaryOp op) r) (ha:PE X a ta) (hb:PE X b tb):PE X (.BinOp a op b pos) (tOp r ta tb):=by
 intro pins s σ H Q I h
 exact wpAny_BinOp (cu3 ha hb I h λv u s2 x y H2 I2 rx ry q=>ho pins s2 σ H2 x y v u Q I2 rx ry q)
theorem opI {f:Value->Value->Sem Value} {C:Int->Int->Prop} {g:Int->Int->Int}
  (rule:∀(i j:Int) (t u:Tok) (s:Shared) (Q:Value->Shared->Prop) (E:Value->Shared->Prop),C i j->Q (.int (g i j) s.toks) { s with toks:=s.toks + 1 }->wpAny (model X.prog X.w) X.A (f (.int i t) (.int j u)) Q E s) :
  OpR X f (rI C λi j=>.int (g i j)):=by
 intro pins s σ H x y v u Q I rx ry h
 obtain ⟨i,j,rfl,rfl,hc,q⟩:=h
 obtain ⟨t,rfl⟩:=rx
 obtain ⟨t',rfl⟩:=ry
 exact rule i j t t' s _ _ hc ⟨.int (g i j),H,I.tok _,⟨_,rfl⟩,q⟩
theorem ch8 {f:Value->Value->Sem Value} {g:Int->Int->Int}
  (rule:∀(i j:Int) (t u:Tok) (s:Shared) (Q:Value->Shared->Prop) (E:Value->Shared->Prop),Q (.int (g i j) s.toks) { s with toks:=s.toks + 1 }->wpAny (model X.prog X.w) X.A (f (.int i t) (.int j u)) Q E s) :
  OpR X f (rI0 λi j=>.int (g i j)):=by
 intro pins s σ H x y v u Q I rx ry h
 obtain ⟨i,j,rfl,rfl,q⟩:=h
 obtain ⟨t,rfl⟩:=rx
 obtain ⟨t',rfl⟩:=ry
 exact rule i j t t' s _ _ ⟨.int (g i j),H,I.tok _,⟨_,rfl⟩,q⟩
theorem cr6 {f:Value->Value->Sem Value} {g:Int->Int->Bool}
  (rule:∀(i j:Int) (t u:Tok) (s:Shared) (Q:Value->Shared->Prop) (E:Value->Shared->Prop),Q (.bool (g i j)) s->wpAny (model X.prog X.w) X.A (f (.int i t) (.int j u)) Q E s) :
  OpR X f (rI0 λi j=>.bl (g i j)):=by
 intro pins s σ H x y v u Q I rx ry h
 obtain ⟨i,j,rfl,rfl,q⟩:=h
 obtain ⟨t,rfl⟩:=rx
 obtain ⟨t',rfl⟩:=ry
 exact rule i j t t' s _ _ ⟨.bl (g i j),H,I,rfl,q⟩
noncomputable def CMul (i j:Int):Prop:=(-(2 ^ 64) < i/\i < 2 ^ 64)\/(-(2 ^ 64) < j/\j < 2 ^ 64)
theorem CMul.ok {i j:Int} (h:CMul i j):IntMulOk i j:=by
 rcases h with ⟨h1,h2⟩ | ⟨h1,h2⟩
 ·exact .of_left (intBits_le_64 h1 h2)
 ·exact .of_right (intBits_le_64 h1 h2)
theorem bC8 (k:Nat):(0:Int)<=2 ^ k:=by
 rw [two_pow_cast]
 exact Int.natCast_nonneg _
theorem cr2:OpR X (binaryOp .Add) (rI0 λi j=>.int (i + j)):=ch8 λ_ _ _ _ _ _ _ q=>add_int q
theorem bF5:OpR X (binaryOp .Sub) (rI0 λi j=>.int (i - j)):=ch8 λ_ _ _ _ _ _ _ q=>sub_int q
theorem cn1:OpR X (binaryOp .Mod) (rI (λ_ j=>0 < j) λi j=>.int (i % j)):=opI λi j _ _ _ _ _ hc q=>by
 have h1:(0:Int) < j:=hc
 exact mod_int' (by omega) (by rw [Int.fmod_eq_emod_of_nonneg i (by omega)]; exact q)
theorem cj5:OpR X (binaryOp .RShift) (rI (λ_ j=>0<=j) λi j=>.int (i / 2 ^ j.toNat)):=opI λi j _ _ _ _ _ hc q =>
 rshift_int hc (by rw [Int.fdiv_eq_ediv_of_nonneg i (bC8 _)]; exact q)
theorem cm9:OpR X (binaryOp .BitAnd) (rI0 λi j=>.int (Builtin.bitAnd i j)):=ch8 λ_ _ _ _ _ _ _ q=>and_int q
theorem cq2:OpR X (binaryOp .BitXor) (rI0 λi j=>.int (Builtin.bitXor i j)):=ch8 λ_ _ _ _ _ _ _ q=>xor_int q
theorem cf0:OpR X (inplaceOp .Add) (rI0 λi j=>.int (i + j)):=ch8 λ_ _ _ _ _ _ _ q=>iadd_int q
theorem cf3:OpR X (inplaceOp .BitXor) (rI0 λi j=>.int (Builtin.bitXor i j)):=ch8 λ_ _ _ _ _ _ _ q=>ixor_int q
end
section
variable {X:Cx} {a b c:Expr} {ta tb tc:TE} {pos:Pos}
theorem bY4 {pins:List (Addr × Obj)} {σ:St} {H:Hp} {s:Shared} {Q:VK} {k k':Bool} (I:Inv X pins σ H s) (q:Q (.bl k) H) (e:k=k'):EP X pins σ Q (.bool k') s:=by
 subst e
 exact ⟨.bl k,H,I,rfl,q⟩
theorem cx8:OpR X (compareOp .Lt) (rI0 λi j=>.bl (decide (i < j))):=cr6 λ_ _ _ _ _ _ _ q=>lt_int q
theorem cw1:OpR X (compareOp .LtE) (rI0 λi j=>.bl (decide (i<=j))):=cr6 λ_ _ _ _ _ _ _ q=>le_int q
theorem cs8:OpR X (compareOp .Gt) (rI0 λi j=>.bl (decide (j < i))):=cr6 λ_ _ _ _ _ _ _ q=>gt_int q
theorem cu0:OpR X (compareOp .GtE) (rI0 λi j=>.bl (decide (j<=i))):=cr6 λ_ _ _ _ _ _ _ q=>ge_int q
theorem cn4:OpR X (compareOp .Is) (λx y H Q=>y=.non/\Q (.bl (decide (x=.non))) H):=by
 intro pins s σ H x y v u Q I rx ry h
 obtain ⟨rfl,q⟩:=h
 cases ry
 refine is_none_gen (bY4 I q ?_)
 cases x <;> first
  | (cases rx; rfl)
  | (obtain ⟨t,rfl⟩:=rx; rfl)
theorem ca1:OpR X (compareOp .IsNot) (λx y H Q=>y=.non/\Q (.bl (!decide (x=.non))) H):=by
 intro pins s σ H x y v u Q I rx ry h
 obtain ⟨rfl,q⟩:=h
 cases ry
 refine isnot_none_gen (bY4 I q ?_)
 cases x <;> first
  | (cases rx; rfl)
  | (obtain ⟨t,rfl⟩:=rx; rfl)
theorem OpR.or {f:Value->Value->Sem Value} {r r':R2} (h:OpR X f r) (h':OpR X f r'):OpR X f (λx y H Q=>r x y H Q\/r' x y H Q):=by
 intro pins s σ H x y v u Q I rx ry q
 rcases q with q | q
 ·exact h pins s σ H x y v u Q I rx ry q
 ·exact h' pins s σ H x y v u Q I rx ry q
theorem aR2 (b:Expr) {op:CmpOp} (h:op≠.In:=by decide) (h2:op≠.NotIn:=by decide):behindInMarks op b=false:=by
 have e1:(op == CmpOp.In)=false:=by cases op <;> first | rfl | exact absurd rfl h
 have e2:(op == CmpOp.NotIn)=false:=by cases op <;> first | rfl | exact absurd rfl h2
 cases b <;> simp [behindInMarks,e1,e2]
theorem b84 {op:CmpOp} {r:R2} (ho:OpR X (compareOp op) r) (ha:PE X a ta) (hb:PE X b tb) (hm:behindInMarks op b=false):PE X (.Compare a [op] [b] pos) (tOp r ta tb):=by
 intro pins s σ H Q I h
 exact wpAny_Compare1 (cu3 ha hb I h λv u s2 x y H2 I2 rx ry q=>ho pins s2 σ H2 x y v u Q I2 rx ry q) hm
noncomputable def ck9 (t:TE):TT:=λσ H Q=>t σ H λx H'=>∃k,x=.bl k/\Q k H'
theorem cc0 {op:CmpOp} {r:R2} (ho:OpR X (compareOp op) r) (ha:PE X a ta) (hb:PE X b tb) (hm:behindInMarks op b=false):PT X (.Compare a [op] [b] pos) (ck9 (tOp r ta tb)):=by
 intro pins s σ H Q I h
 refine wpAny_isTrue_Compare1 (thn (ha pins s σ H _ I h) λv s1 ⟨x,H1,I1,r1,q1⟩=>thn (hb pins s1 σ H1 _ I1 q1) λu s2 ⟨y,H2,I2,r2,q2⟩ =>
  thn (ho pins s2 σ H2 x y v u _ I2 r1 r2 q2) λc s3 ⟨z,H3,I3,r3,k,e,q3⟩=>?_) hm
 subst e
 cases r3
 exact wpAny_truthy_bool ⟨H3,I3,q3⟩
noncomputable def bZ9 (r r':R2) (ta tb tc:TE):TE:=λσ H Q=>ta σ H λx H1=>tb σ H1 λy H2=>r x y H2 λz H3=>∃k,z=.bl k /\
 (if k=true then tc σ H3 λw' H4=>r' y w' H4 Q else Q (.bl false) H3)
theorem bW3 {op op':CmpOp} {r r':R2} (ho:OpR X (compareOp op) r) (ho':OpR X (compareOp op') r') (ha:PE X a ta) (hb:PE X b tb) (hc:PE X c tc)
  (hm:lastMarks [op,op'] [b,c]=false:=by with_unfolding_all rfl):PE X (.Compare a [op,op'] [b,c] pos) (bZ9 r r' ta tb tc):=by
 intro pins s σ H Q I h
 refine Compare_chain (thn (ha pins s σ H _ I h) λv s1 ⟨x,H1,I1,r1,q1⟩=>chain_link (thn (hb pins s1 σ H1 _ I1 q1) λu s2 ⟨y,H2,I2,r2,q2⟩ =>
  thn (ho pins s2 σ H2 x y v u _ I2 r1 r2 q2) λd s3 ⟨z,H3,I3,r3,k,e,q3⟩=>?_)) hm
 subst e
 cases r3
 refine wpAny_truthy_bool ?_
 cases k with
 | false=>exact ite_ff ⟨.bl false,H3,I3,rfl,q3⟩
 | true=>exact ite_tt (chain_last (thn (hc pins s3 σ H3 _ I3 q3) λw' s4 ⟨z',H4,I4,r4,q4⟩=>ho' pins s4 σ H4 y z' u w' Q I4 r2 r4 q4))
theorem bh3:(sizeLine:Nat) < 2 ^ 63:=by rw [sizeLine_eq]; decide
theorem bB4:OpR X (binaryOp .Add) (λx y H Q=>∃i j,x=.str i/\y=.str j/\i.length + j.length<=sizeLine/\Q (.str (i++j)) H):=by
 intro pins s σ H x y v u Q I rx ry h
 obtain ⟨i,j,rfl,rfl,hz,q⟩:=h
 obtain ⟨t,rfl⟩:=rx
 obtain ⟨t',rfl⟩:=ry
 exact add_str (λt' tk=>⟨.str (i++j),H,I.tok _,⟨_,rfl⟩,q⟩) hz
theorem ce1 {x:V} {us:List Value} (r:Vals [x] us):∃u,us=[u]/\RelV x u:=by
 cases r with
 | cons r1 r2=>cases r2; exact ⟨_,rfl,r1⟩
theorem cs7 {x y:V} {us:List Value} (r:Vals [x,y] us):∃u w',us=[u,w']/\RelV x u/\RelV y w':=by
 cases r with
 | cons r1 r2 =>
  cases r2 with
  | cons r3 r4=>cases r4; exact ⟨_,_,rfl,r1,r3⟩
theorem bF2 (hc:X.calm=true):CallR X (.builtin "min") (λxs H Q=>∃i j,xs=[.int i,.int j]/\Q (.int (if j < i then j else i)) H):=by
 intro pins s σ H xs us Q I r h
 obtain ⟨i,j,rfl,q⟩:=h
 obtain ⟨u,w',rfl,⟨t,rfl⟩,⟨t',rfl⟩⟩:=cs7 r
 refine min_two_ints (I.ok.hd hc) λh' tk k=>⟨_,H,I.kept k,?_,q⟩
 by_cases hj:j < i
 ·rw [if_pos hj,if_pos hj]; exact ⟨_,rfl⟩
 ·rw [if_neg hj,if_neg hj]; exact ⟨_,rfl⟩
end
end L2
namespace L2
open PySem PySem.Spec PyProof.Rows
structure ObjM (h:Heap) (x dx C:Addr) (mA:Str->Option Value):Prop where
 obj:h.get? x=some (PySem.W.instObj C dx)
 ns:h.Ns1 dx mA
 ne:dx≠x
theorem bH2 {h:Heap} {dx:Addr} {mA:Str->Option Value} (n:h.Ns1 dx mA):∃od,h.get? dx=some od/\∀name,PySem.W.lookIn name od=some (mA name):=by
 obtain ⟨o,es,ep,ho,hd,hk,_,hm⟩:=n
 refine ⟨o,ho,λname=>?_⟩
 have e:=hm name
 unfold nsFind findBy at e
 rw [<-Array.find?_toList] at e
 unfold PySem.W.lookIn
 rw [hd]
 dsimp only
 split
 ·rename_i y q
  rw [q] at e
  exact congrArg some e
 ·rename_i q
  rw [q] at e
  have a:es.toList.any (·.refKey)=false:=by
   rw [List.any_eq_false]
   intro y hy
   obtain ⟨z,t,hkey⟩:=hk y (Array.mem_toList_iff.mp hy)
   simp [DictEntry.refKey,hkey]
  have a':¬ es.toList.any (·.refKey)=true:=by rw [a]; exact Bool.false_ne_true
  rw [if_neg a']
  exact congrArg some e
theorem ObjM.look {h:Heap} {x dx C:Addr} {mA:Str->Option Value} (I:ObjM h x dx C mA):∃od,PySem.W.InstAt h x (PySem.W.instObj C dx) C (some od)/\∀name,PySem.W.lookIn name od=some (mA name) :=
 let ⟨od,ho,hl⟩:=bH2 I.ns
 ⟨od,⟨I.obj,rfl,rfl,ho⟩,hl⟩
section
variable {prog:Program} {w:World} {A:Around} {E:Value->Shared->Prop} {s:Shared} {K:PySem.W.Frag} {x dx C f:Addr} {mA:Str->Option Value} {name:Str} {v:Value}
theorem cc1 {expr:Bool} {Q:Value->Shared->Prop} (X:K.In s.heap) (I:ObjM s.heap x dx C mA) (hg:PySem.W.plainGet K C name=true) (hh:PySem.W.hasDictIn K C=true)
  (ha:PySem.W.findIn K (.ref C) name=some none) (hv:mA name=some v) (hv':PySem.W.handedIn v=true) (h:Q v { s with toks:=s.toks + 1 }) :
  wpAny (model prog w) A (getAttr (.ref x) name expr) Q E s:=by
 obtain ⟨od,J,hl⟩:=I.look
 exact PySem.W.get_value X J (PySem.W.plainGet_of hg).1 (PySem.W.findObj_own hh ha rfl (by rw [hl,hv])) hv' h
theorem bQ0 {pl:Sem Bool} {Q:Value × List Value->Shared->Prop} (X:K.In s.heap) (I:ObjM s.heap x dx C mA) (hg:PySem.W.plainGet K C name=true)
  (hf:PySem.W.findIn K (.ref C) name=some (some (.ref f))) (ht:PySem.W.isFn K (.ref f)=true) (hv:mA name=none) (h:Q (.ref f,[.ref x]) s) :
  wpAny (model prog w) A (getMethod (.ref x) name pl) Q E s:=by
 obtain ⟨od,J,hl⟩:=I.look
 exact PySem.W.method_fn X J (PySem.W.plainGet_of hg).1 (PySem.W.plainGet_of hg).2 hf (beq_iff_eq.mp ht) (by show (PySem.W.lookIn name od).map (·.isSome)=some false; rw [hl,hv]; rfl) h
theorem b66 {ns:List Str} {Q:Unit->Shared->Prop} (X:K.In s.heap) (I:ObjM s.heap x dx C mA)
  (hs:PySem.W.findIn K (.ref C) "__setattr__"=some (some (.builtin "object.__setattr__"))) (hp:PySem.W.plainOver K C=true) (ht:PySem.W.takerIn K C name=some none) (hh:PySem.W.hasDictIn K C=true)
  (hw:PySem.Within mA ns) (hsz:ns.length<=sizeLine)
  (h:∀h',ObjM h' x dx C (λy=>if y=name then some v else mA y)->Heap.SameBut dx s.heap h'->Q () { s with heap:=h',toks:=s.toks + 2 }) :
  wpAny (model prog w) A (setAttr (.ref x) name v) Q E s:=by
 obtain ⟨od,J,hl⟩:=I.look
 refine PySem.W.set_plain X J hs (PySem.W.osa_open (s:={ s with toks:=s.toks + 1 }) (r:=none) X J hp ht λb=>?_)
 obtain ⟨cd,hc,hd'⟩:=PySem.W.any_some hh
 have hx:s.heap.get? x=some ⟨.ref C,some dx,.plain,#[]⟩:=I.obj
 refine wpAny_bind (wpAny_pure (wpAny_bind (wpAny_bind (wpAny_loadPart hx (wpAny_bind (PySem.W.Looks.here (s:={ s with toks:=s.toks + 1 }) (PySem.W.looks_clsIn X hc) ?_))))))
 rw [hd']
 refine wpAny_pure (a:=some dx) (wpAny_bind (wpAny_pure (wpAny_bind ?_)))
 refine wpAny_nsSet1 (s:={ s with toks:=s.toks + 1 }) I.ns λh' hn2 hs2=>?_
 obtain ⟨oD,esD,epD,hoD,hdD,hcD⟩:=hn2.count (PySem.Within.cons name v hw)
 refine wpAny_bind (wpAny_lookBehind hoD (by rw [hdD]; exact pastItsLine_dict (Nat.le_trans hcD (by rw [List.length_cons]; omega))) ?_)
 exact wpAny_pure (h _ ⟨(hs2.2 _ (Ne.symm I.ne)).trans I.obj,hn2,I.ne⟩ hs2)
theorem bU0 {R:Result->Shared->Prop} {vs:List Value} {kw:List (Str × Value)} (X:K.In s.heap) (hm:PySem.W.makesIn K C=true)
  (hi:PySem.W.findIn K (.ref C) "__init__"=some (some (.ref f))) (hf:PySem.W.typeIn K (.ref f)=some (.type "function"))
  (h:codeAny (model prog w) (A.under (.builtin "type.__call__" ⟨.ref C :: vs,kw⟩)) (.call (.ref f) ⟨.ref (s.heap.objs.size + 1) :: vs,kw⟩) (PySem.W.InitBack (s.heap.objs.size + 1) R)
   { s with heap:=(s.heap.push PySem.W.emptyDict).push (PySem.W.instObj C s.heap.objs.size) }) :
  codeAny (model prog w) A (.call (.ref C) ⟨vs,kw⟩) R s:=by
 obtain ⟨hh,g,d,t,os⟩:=s
 exact PySem.W.make_core (PySem.W.makes_of X hm) (PySem.W.looks_findIn X hi) (λself=>PySem.W.bind_fn X self hf) (.inl rfl) h
end
noncomputable def bj5 (f:Str) (v:V):List (Str × V)->List (Str × V)
 | []=>[(f,v)]
 | (g,x) :: r=>if g=f then (g,v) :: r else (g,x) :: bj5 f v r
theorem bg9 (f g:Str) (v:V):∀fs:List (Str × V),(bj5 f v fs).lookup g=if g=f then some v else fs.lookup g
 | []=>by
  show List.lookup g [(f,v)]=_
  by_cases h:g=f
  ·have hb:(g == f)=true:=beq_iff_eq.mpr h
   simp only [List.lookup,hb,if_pos h]
  ·have hb:(g == f)=false:=beq_eq_false_iff_ne.mpr h
   simp only [List.lookup,hb,if_neg h]
 | (k,x) :: r=>by
  have ih:=bg9 f g v r
  rw [show bj5 f v ((k,x) :: r)=(if k=f then (k,v) :: r else (k,x) :: bj5 f v r) from rfl]
  by_cases hk:k=f
  ·rw [if_pos hk]
   by_cases h:g=k
   ·have hb:(g == k)=true:=beq_iff_eq.mpr h
    simp only [List.lookup,hb,if_pos (h.trans hk)]
   ·have hb:(g == k)=false:=beq_eq_false_iff_ne.mpr h
    simp only [List.lookup,hb,if_neg (λe:g=f=>h (e.trans hk.symm))]
  ·rw [if_neg hk]
   by_cases h:g=k
   ·have hb:(g == k)=true:=beq_iff_eq.mpr h
    simp only [List.lookup,hb,if_neg (λe:g=f=>hk (h.symm.trans e))]
   ·have hb:(g == k)=false:=beq_eq_false_iff_ne.mpr h
    simp only [List.lookup,hb]
    exact ih
theorem bg2 (f:Str) (v:V):∀fs:List (Str × V),f∈(bj5 f v fs).map (·.1)/\∀g,g∈fs.map (·.1)->g∈(bj5 f v fs).map (·.1)
 | []=>⟨by simp [bj5],λg h=>by simp at h⟩
 | (k,x) :: r=>by
  obtain ⟨i1,i2⟩:=bg2 f v r
  rw [show bj5 f v ((k,x) :: r)=(if k=f then (k,v) :: r else (k,x) :: bj5 f v r) from rfl]
  by_cases hk:k=f
  ·rw [if_pos hk]
   subst hk
   exact ⟨by simp,λg h=>by simpa using h⟩
  ·rw [if_neg hk]
   refine ⟨?_,λg h=>?_⟩
   ·rw [List.map_cons]
    exact List.mem_cons_of_mem _ i1
   ·rw [List.map_cons] at h ⊢
    rcases List.mem_cons.mp h with e | e
    ·exact List.mem_cons.mpr (.inl e)
    ·exact List.mem_cons_of_mem _ (i2 g e)
theorem bh2 (f:Str) (v:V):∀fs:List (Str × V),(bj5 f v fs).length<=fs.length + 1
 | []=>by simp [bj5]
 | (k,x) :: r=>by
  have ih:=bh2 f v r
  rw [show bj5 f v ((k,x) :: r)=(if k=f then (k,v) :: r else (k,x) :: bj5 f v r) from rfl]
  by_cases hk:k=f
  ·rw [if_pos hk,List.length_cons,List.length_cons]; omega
  ·rw [if_neg hk,List.length_cons,List.length_cons]; omega
theorem RelO.some_of {v:V} {o:Option Value} (r:RelO (some v) o):∃u,o=some u/\RelV v u:=by
 cases o with
 | none=>exact (show False from r).elim
 | some u=>exact ⟨u,rfl,r⟩
theorem RelO.none_of {o:Option Value} (r:RelO none o):o=none:=by
 cases o with
 | none=>rfl
 | some u=>exact (show False from r).elim
theorem bG3 {v:V} {u:Value} (r:RelV v u):PySem.W.handedIn u=true:=by
 cases v with
 | non=>cases (show u=Value.none from r); rfl
 | bl b=>cases (show u=Value.bool b from r); rfl
 | int i=>obtain ⟨t,e⟩:=(show ∃t,u=Value.int i t from r); cases e; rfl
 | str x=>obtain ⟨t,e⟩:=(show ∃t,u=Value.str x t from r); cases e; rfl
 | byt b=>obtain ⟨t,e⟩:=(show ∃t,u=Value.bytes b t from r); cases e; rfl
 | flt b=>obtain ⟨t,e⟩:=(show ∃t,u=Value.float b t from r); cases e; rfl
 | ref a=>cases (show u=Value.ref a from r); rfl
 | ty n=>cases (show u=Value.type n from r); rfl
section
variable {P:Program} {w:World} {H H':Hp} {h h':Heap} {a C dx:Addr} {fs fs':List (Str × V)}
theorem bn8 (hok:HOk P w H h) (e:H a=some (.ins C dx fs)):∃mA,ObjM h a dx C mA/\(∀f,RelO (fs.lookup f) (mA f))/\PySem.Within mA (fs.map (·.1))/\fs.length<=1000/\H dx=some (.own a):=by
 obtain ⟨d,z,ne,ob,mA,n,r,q⟩:=(show ObjOk P w H h a (.ins C dx fs) from hok a _ e)
 exact ⟨mA,⟨ob,n,ne⟩,r,q,z,d⟩
end
structure Cls (K:PySem.W.Frag) (C:Addr):Prop where
 pg:PySem.W.plainGet K C Str.empty=true
 hd:PySem.W.hasDictIn K C=true
 po:PySem.W.plainOver K C=true
 sa:PySem.W.findIn K (.ref C) "__setattr__"=some (some (.builtin "object.__setattr__"))
theorem Cls.get {K:PySem.W.Frag} {C:Addr} (c:Cls K C) (f:Str):PySem.W.plainGet K C f=true:=c.pg
noncomputable def NoAttr (K:PySem.W.Frag) (C:Addr) (f:Str):Prop:=PySem.W.findIn K (.ref C) f=some none
theorem NoAttr.taker {K:PySem.W.Frag} {C:Addr} {f:Str} (n:NoAttr K C f):PySem.W.takerIn K C f=some none:=by
 unfold PySem.W.takerIn
 rw [show PySem.W.findIn K (.ref C) f=some none from n]
 rfl
structure Meth (K:PySem.W.Frag) (C:Addr) (m:Str) (f:Addr):Prop where
 at_:PySem.W.findIn K (.ref C) m=some (some (.ref f))
 fn:PySem.W.isFn K (.ref f)=true
 kp:PySem.W.keepIn K (.ref f)=true
section
variable {X:Cx} {pins:List (Addr × Obj)} {σ:St} {H:Hp} {s:Shared} {a C dx:Addr} {fs:List (Str × V)} {f:Str} {v:V} {A:Around} {E:Value->Shared->Prop}
theorem bE4 {b:Bool} {Q:Value->Shared->Prop} (I:Inv X pins σ H s) (e:H a=some (.ins C dx fs)) (c:Cls X.K C) (n:NoAttr X.K C f) (l:fs.lookup f=some v)
  (h:∀u s',Inv X pins σ H s'->RelV v u->Q u s'):wpAny (model X.prog X.w) A (getAttr (.ref a) f b) Q E s:=by
 obtain ⟨mA,O,r,_,_,_⟩:=bn8 I.hok e
 obtain ⟨u,hu,ru⟩:=RelO.some_of (v:=v) (o:=mA f) (by rw [<-l]; exact r f)
 exact cc1 I.kIn O (c.get f) c.hd n hu (bG3 ru) (h u _ (I.tok _) ru)
theorem bc3 {m:Str} {g:Addr} {pl:Sem Bool} {Q:Value × List Value->Shared->Prop} (I:Inv X pins σ H s) (e:H a=some (.ins C dx fs)) (c:Cls X.K C) (k:Meth X.K C m g) (l:fs.lookup m=none)
  (h:Q (.ref g,[.ref a]) s):wpAny (model X.prog X.w) A (getMethod (.ref a) m pl) Q E s:=by
 obtain ⟨mA,O,r,_,_,_⟩:=bn8 I.hok e
 have hn:mA m=none:=RelO.none_of (by rw [<-l]; exact r m)
 exact bQ0 I.kIn O (c.get m) k.at_ k.fn hn h
theorem bB7 {y:V} {u:Value} {Q:Unit->Shared->Prop} (I:Inv X pins σ H s) (e:H a=some (.ins C dx fs)) (c:Cls X.K C) (n:NoAttr X.K C f) (hl:fs.length < 1000) (ry:RelV y u)
  (h:∀s',Inv X pins σ (upd H a (.ins C dx (bj5 f y fs))) s'->Q () s'):wpAny (model X.prog X.w) A (setAttr (.ref a) f u) Q E s:=by
 obtain ⟨mA,O,r,wi,_,ho⟩:=bn8 I.hok e
 have hz:(fs.map (·.1)).length<=sizeLine:=by rw [List.length_map,sizeLine_eq]; omega
 refine b66 I.kIn O c.sa c.po n.taker c.hd wi hz λh' O' sb=>h _ ?_
 have hd:∃o,h'.get? dx=some o:=let ⟨o,_,_,e',_⟩:=O'.ns; ⟨o,e'⟩
 refine I.write (x:=a) (e:=dx) (by rw [e]; exact True.intro) (.inr ho) (λb q hb z=>(sb.2 b hb).trans z) hd ?_
 refine ⟨by rw [aP5 O.ne]; exact ho,?_,O.ne,O'.obj,_,O'.ns,λg=>?_,λg hg=>?_⟩
 ·have:=bh2 f y fs; omega
 ·show RelO ((bj5 f y fs).lookup g) (if g=f then some u else mA g)
  rw [bg9]
  by_cases q:g=f
  ·rw [if_pos q,if_pos q]; exact ry
  ·rw [if_neg q,if_neg q]; exact r g
 ·by_cases q:g=f
  ·rw [q]; exact (bg2 f y fs).1
  ·refine (bg2 f y fs).2 g (wi g λz=>hg ?_)
   show (if g=f then some u else mA g)=none
   rw [if_neg q]; exact z
theorem Inv.made (I:Inv X pins σ H s):Inv X pins σ (upd (upd H s.heap.objs.size (.own (s.heap.objs.size + 1))) (s.heap.objs.size + 1) (.ins C s.heap.objs.size []))
  { s with heap:=(s.heap.push PySem.W.emptyDict).push (PySem.W.instObj C s.heap.objs.size) }:=by
 have e1:(s.heap.push PySem.W.emptyDict).get? s.heap.objs.size=some PySem.W.emptyDict:=Heap.get?_push_size s.heap rfl
 have e2:((s.heap.push PySem.W.emptyDict).push (PySem.W.instObj C s.heap.objs.size)).get? (s.heap.objs.size + 1)=some (PySem.W.instObj C s.heap.objs.size):=by
  have:=Heap.get?_push_size (s.heap.push PySem.W.emptyDict) (o:=PySem.W.instObj C s.heap.objs.size) rfl
  rwa [Heap.size_push] at this
 have e3:(s.heap.push PySem.W.emptyDict).Ns s.heap.objs.size (λ_=>none):=⟨PySem.W.emptyDict,#[],_,e1,rfl,(λe he=>absurd he (by simp)),λ_=>rfl⟩
 have I1:=I.laid (a:=s.heap.objs.size) (o:=.own (s.heap.objs.size + 1)) (h':=s.heap.push PySem.W.emptyDict) (t':=s.toks) (λb u q=>Heap.get?_push_of_some _ q) (Nat.le_refl _) ⟨_,e1⟩
 refine I1.laid (a:=s.heap.objs.size + 1) (o:=.ins C s.heap.objs.size []) (t':=s.toks) (λb u q=>Heap.get?_push_of_some _ q) (Nat.le_of_eq (Heap.size_push _ _)) ?_
 have ne:s.heap.objs.size≠s.heap.objs.size + 1:=Nat.ne_of_lt (Nat.lt_succ_self _)
 refine ⟨by rw [aP5 ne,aP7],Nat.zero_le _,ne,e2,λ_=>none,(Heap.Ns1.of_empty e3).at λo q=>Heap.get?_push_of_some _ q,λ_=>True.intro,λy hy=>absurd rfl hy⟩
theorem b64 {prog:Program} {w:World} {env:Env} {e:Expr} {f:Str} {pos:Pos} {s:Shared} {Q:Value->Shared->Prop} (hb:attributeBase e f env (eval e env)=eval e env)
  (h:wpAny (model prog w) A (eval e env) (λo s₁=>wpAny (model prog w) A (getAttr o f true) Q E s₁) E s):wpAny (model prog w) A (eval (.Attribute e f pos) env) Q E s :=
 Attribute_any_ h (by rw [arm_eval_Attribute,hb])
end
noncomputable def cC3 (K:PySem.W.Frag) (ta:TE) (f:Str):TE:=λσ H Q=>ta σ H λx H1=>∃a C dx fs v,x=.ref a/\H1 a=some (.ins C dx fs)/\Cls K C/\NoAttr K C f/\fs.lookup f=some v/\Q v H1
noncomputable def cC1 (K:PySem.W.Frag) (ta tv:TE) (f:Str):TS:=λD σ H=>tv σ H λy H1=>ta σ H1 λx H2=>∃a C dx fs,x=.ref a/\H2 a=some (.ins C dx fs)/\Cls K C/\NoAttr K C f/\fs.length < 1000 /\
 D.nx σ (upd H2 a (.ins C dx (bj5 f y fs)))
section
variable {X:Cx} {o e value:Expr} {f:Str} {pos pos' tpos:Pos} {ta tv:TE}
theorem by3 (he:PE X e ta) (hb:attributeBase e f X.env (eval e X.env)=eval e X.env):PE X (.Attribute e f pos) (cC3 X.K ta f):=by
 intro pins s σ H Q I h
 refine b64 hb (thn (he pins s σ H _ I h) λu s1 ⟨x,H1,I1,rx,a,C,dx,fs,v,ex,ea,c,n,l,q⟩=>?_)
 subst ex
 obtain rfl:u=Value.ref a:=rx
 exact bE4 I1 ea c n l λu' s2 I2 ru=>⟨v,H1,I2,ru,q⟩
theorem bd2 (ha:PE X o ta) (hv:PE X value tv) (hs:swapsWith value (some (.Attribute o f pos')) pos.line X.env=pure false):PS X (.Assign [.Attribute o f pos'] value pos) (cC1 X.K ta tv f):=by
 intro pins s σ H D I h
 refine plainObj_wpAny_Assign_Attribute (thn (hv pins s σ H _ I h) λu s1 ⟨y,H1,I1,ry,q⟩=>thn (ha pins s1 σ H1 _ I1 q) λov s2 ⟨x,H2,I2,rx,a,C,dx,fs,ex,ea,c,n,l,q2⟩=>?_) hs
 subst ex
 obtain rfl:ov=Value.ref a:=rx
 exact bB7 I2 ea c n l ry λs3 I3=>⟨σ,_,I3,q2⟩
end
section
variable {X:Cx} {pins:List (Addr × Obj)} {σ:St} {H:Hp} {s:Shared} {A:Around} {E:Value->Shared->Prop} {Q:Value->Shared->Prop} {c:Value} {b:Bool}
inductive TyOf (K:PySem.W.Frag) (H:Hp):V->Value->Prop where
 | non:TyOf K H .non (.type "NoneType")
 | bl (x:Bool):TyOf K H (.bl x) (.type "bool")
 | int (i:Int):TyOf K H (.int i) (.type "int")
 | str (x:Str):TyOf K H (.str x) (.type "str")
 | flt (x:UInt64):TyOf K H (.flt x) (.type "float")
 | lst {a:Addr} {xs:List V} (e:H a=some (.lst xs)):TyOf K H (.ref a) (.type "list")
 | frz {a:Addr} {o:Obj} {xs:List V} (e:H a=some (.frz o (.lst xs))):TyOf K H (.ref a) (.type "list")
 | tup {a:Addr} {xs:List V} (e:H a=some (.tup xs)):TyOf K H (.ref a) (.type "tuple")
 | dK {a:Addr} {kvs:List (Key × V)} (e:H a=some (.dK kvs)):TyOf K H (.ref a) (.type "dict")
 | dT {a:Addr} {kvs:List (List Key × V)} (e:H a=some (.dT kvs)):TyOf K H (.ref a) (.type "dict")
 | ins {a C dx:Addr} {fs:List (Str × V)} (e:H a=some (.ins C dx fs)) (cl:Cls K C) (ha:PySem.W.findIn K (.ref C) "__class__"=some (some (.builtin "object.__class__")))
   (hn:PySem.W.specialIn K (.builtin "object.__class__") "__get__"=some (some (.builtin "getset_descriptor.__get__"))) (htk:PySem.W.takesIn K (.builtin "object.__class__")=some true)
   (hm:PySem.W.mroIn K C (.type "object")=some true):TyOf K H (.ref a) (.ref C)
theorem bK0 {x:V} {u t:Value} (I:Inv X pins σ H s) (rx:RelV x u) (ty:TyOf X.K H x t) (e:PySem.W.kitOne X.K t c=some b) (h:∀tk,Q (.bool b) { s with toks:=tk }) :
  wpAny (model X.prog X.w) A (call (.builtin "isinstance") [u,c]) Q E s:=by
 cases ty with
 | non=>cases (show u=Value.none from rx); exact PySem.W.kia_one PySem.W.kitx_none I.kIn True.intro e (λz=>nomatch z) h
 | bl y=>cases (show u=Value.bool y from rx); exact PySem.W.kia_one PySem.W.kitx_bool I.kIn True.intro e (λz=>nomatch z) h
 | int i=>obtain ⟨t,q⟩:=(show ∃t,u=Value.int i t from rx); cases q; exact PySem.W.kia_one PySem.W.kitx_int I.kIn True.intro e (λz=>nomatch z) h
 | str y=>obtain ⟨t,q⟩:=(show ∃t,u=Value.str y t from rx); cases q; exact PySem.W.kia_one PySem.W.kitx_str I.kIn True.intro e (λz=>nomatch z) h
 | flt y=>obtain ⟨t,q⟩:=(show ∃t,u=Value.float y t from rx); cases q; exact PySem.W.kia_one PySem.W.kitx_float I.kIn True.intro e (λz=>nomatch z) h
 | @lst a xs ea =>
  cases (show u=Value.ref a from rx)
  obtain ⟨_,_,n,_,h1⟩:=(show ObjOk X.prog X.w H s.heap a (.lst xs) from I.hok a _ ea)
  exact PySem.W.kia_one PySem.W.kitx_list I.kIn ⟨_,h1,rfl⟩ e (λz=>nomatch z) h
 | @frz a ob xs ea =>
  cases (show u=Value.ref a from rx)
  obtain ⟨_,_,_,n,_,h1⟩:=(show ObjOk X.prog X.w H s.heap a (.frz ob (.lst xs)) from I.hok a _ ea)
  exact PySem.W.kia_one PySem.W.kitx_list I.kIn ⟨_,h1,rfl⟩ e (λz=>nomatch z) h
 | @tup a xs ea =>
  cases (show u=Value.ref a from rx)
  obtain ⟨_,_,_,p⟩:=(show ObjOk X.prog X.w H s.heap a (.tup xs) from I.hok a _ ea)
  obtain ⟨o,h1,h2,_⟩:=p
  exact PySem.W.kia_one PySem.W.kitx_tuple I.kIn ⟨o,h1,h2⟩ e (λz=>nomatch z) h
 | @dK a kvs ea =>
  cases (show u=Value.ref a from rx)
  obtain ⟨_,_,vs,_,p⟩:=(show ObjOk X.prog X.w H s.heap a (.dK kvs) from I.hok a _ ea)
  obtain ⟨o,es,ep,h1,h2,_⟩:=p
  exact PySem.W.kia_one PySem.W.kitx_dict I.kIn ⟨o,h1,h2.1⟩ e (λz=>nomatch z) h
 | @dT a kvs ea =>
  cases (show u=Value.ref a from rx)
  obtain ⟨_,_,xs,_,o,es,ep,h1,h2,_⟩:=(show ObjOk X.prog X.w H s.heap a (.dT kvs) from I.hok a _ ea)
  exact PySem.W.kia_one PySem.W.kitx_dict I.kIn ⟨o,h1,h2.1⟩ e (λz=>nomatch z) h
 | @ins a C dx fs ea cl ha hn htk hm =>
  cases (show u=Value.ref a from rx)
  obtain ⟨mA,O,_⟩:=bn8 I.hok ea
  obtain ⟨od,J,_⟩:=O.look
  exact PySem.W.kia_one (PySem.W.kitx_own (cl.get _) cl.hd ha hn htk hm) I.kIn J e (λz=>nomatch z) h
end
end L2
namespace L2
open PySem PySem.Spec PyProof.Rows
structure Room (k:Nat) (A:Around):Prop where
 hd:A.handled=none
 dp:A.depth + 3 * k + 5 < recursionLimit
 un:A.units + 16 * k + 200 < cLine
theorem Room.mono {j k:Nat} {A:Around} (r:Room k A) (h:j<=k):Room j A:=⟨r.hd,by have:=r.dp; omega,by have:=r.un; omega⟩
theorem Room.deeper {k:Nat} {A:Around} (r:Room (k + 1) A) (env:Env):Room k (A.deeper env) :=
 ⟨r.hd,by have:=r.dp; show A.depth + 1 + 3 * k + 5 < _; omega,by have:=r.un; show A.units + 3 + 16 * k + 200 < _; omega⟩
theorem Room.in1 {k:Nat} {A:Around} (r:Room (k + 1) A):Room k A.in1 :=
 ⟨r.hd,by have:=r.dp; show A.depth + 3 * k + 5 < _; omega,by have:=r.un; show A.units + 1 + 16 * k + 200 < _; omega⟩
theorem bE3 {A:Around} {C:Addr} {us:List Value} {kw:List (Str × Value)}:(A.under (.builtin "type.__call__" ⟨.ref C :: us,kw⟩)).depth=A.depth + 1:=by
 first | rfl | simp [Around.under,Code.weight,Code.isCreation,Code.isGuard,Code.isCaller,Code.frames,Code.isFrame,guardIds]
theorem bD3 {A:Around} {C:Addr} {us:List Value} {kw:List (Str × Value)}:(A.under (.builtin "type.__call__" ⟨.ref C :: us,kw⟩)).units=A.units + 1:=by
 first | rfl | simp [Around.under,Code.cUnits,Code.frames,Code.isFrame]
theorem Room.make {k:Nat} {A:Around} (r:Room (k + 1) A) (C:Addr) (us:List Value) (kw:List (Str × Value)):Room k (A.under (.builtin "type.__call__" ⟨.ref C :: us,kw⟩)) :=
 ⟨r.hd,by have:=r.dp; rw [bE3]; omega,by have:=r.un; rw [bD3]; omega⟩
theorem Room.depth {k:Nat} {A:Around} (r:Room k A):A.depth < recursionLimit:=by have:=r.dp; omega
theorem Room.units {k:Nat} {A:Around} (r:Room k A):A.units + 64 < cLine:=by have:=r.un; omega
noncomputable def cB8:TA:=λ_ H Q=>Q [] H
noncomputable def cu8 (ta:TE) (tr:TA):TA:=λσ H Q=>ta σ H λx H1=>tr σ H1 λxs H2=>Q (x :: xs) H2
section
variable {X:Cx} {e:Expr} {es:List Expr} {te:TE} {t:TA} {pos:Pos}
theorem a02:PA X [] cB8:=λ_ _ _ _ H Q I h=>Calls.spliced_nil ⟨[],H,I,.nil,h⟩
theorem aS1 (ha:PE X e te) (hr:PA X es t) (hs:starEach (e :: es) X.env=(false,eval e X.env) :: starEach es X.env:=by rfl):PA X (e :: es) (cu8 te t):=by
 intro pos pins s σ H Q I h
 rw [hs]
 show wpAny _ _ (spliced ((false,eval e X.env) :: backTo pos (starEach es X.env))) _ _ s
 refine Calls.spliced_cons (thn (ha pins s σ H _ I h) λu s1 ⟨x,H1,I1,r1,q1⟩=>?_)
 exact thn (hr pos pins s1 σ H1 _ I1 q1) λus s2 ⟨xs,H2,I2,r2,q2⟩=>⟨x :: xs,H2,I2,.cons r1 r2,q2⟩
noncomputable def cB6 (t:TA):TE:=λσ H Q=>t σ H λxs H1=>xs.length<=sizeLine/\∀p,H1 p=none->Q (.ref p) (upd H1 p (.tup xs))
noncomputable def cA4 (t:TA):TE:=λσ H Q=>t σ H λxs H1=>xs.length<=sizeLine/\∀p,H1 p=none->Q (.ref p) (upd H1 p (.lst xs))
theorem cm0 {x1} (h:PA X es t):PE X (.Tuple es x1 pos) (cB6 t):=by
 intro pins s σ H Q I hq
 refine wpAny_Tuple_spliced (thn (h pos pins s σ H _ I hq) λus s1 ⟨xs,H1,I1,r,z,q⟩=>⟨by rw [<-r.length]; exact z,?_⟩)
 have hf:H1 s1.heap.objs.size=none:=I1.hok.fresh (Nat.le_refl _)
 refine ⟨.ref s1.heap.objs.size,upd H1 s1.heap.objs.size (.tup xs),I1.laid (t':=s1.toks) (λb u e=>Heap.get?_push_of_some _ e) (Nat.le_refl _) ?_,rfl,q _ hf⟩
 exact ⟨z,us,r,⟨_,Heap.get?_push_size _ rfl,rfl,_,rfl⟩⟩
theorem cp9 (h:PA X es t):PE X (.List es pos) (cA4 t):=by
 intro pins s σ H Q I hq
 refine wpAny_List_spliced (thn (h pos pins s σ H _ I hq) λus s1 ⟨xs,H1,I1,r,z,q⟩=>⟨by rw [<-r.length]; exact z,?_⟩)
 have hf:H1 s1.heap.objs.size=none:=I1.hok.fresh (Nat.le_refl _)
 refine ⟨.ref s1.heap.objs.size,upd H1 s1.heap.objs.size (.lst xs),I1.laid (t':=s1.toks) (λb u e=>Heap.get?_push_of_some _ e) (Nat.le_refl _) ?_,rfl,q _ hf⟩
 exact ⟨z,us,0,r,Heap.get?_push_size _ rfl⟩
end
noncomputable abbrev Sp:=List V->Hp->VK->XK->Prop
noncomputable abbrev CXT:=List Env->Hp->Shared->XK->Value->Shared->Prop
structure Env0 (P:Program) (w:World) (K:PySem.W.Frag) (mg:Str->Option Value) (base:Heap) (A:Around) (outer:List Env) (s:Shared) (H:Hp):Prop where
 frames:A.frames=some outer
 mod:Mod K mg base
 bs:∀b o,base.get? b=some o->s.heap.get? b=some o/\H b=none
 bsz:base.objs.size<=s.heap.objs.size
 funs:s.heap.FunFrames base outer
 frf:∀b∈frs outer,H b=none
 hok:HOk P w H s.heap
 bare:AllBare s.gens
noncomputable def CE (outer:List Env) (P:Program) (w:World) (H:Hp) (s:Shared) (Q:VK) (u:Value) (s':Shared):Prop :=
 ∃v H',s'.os=s.os/\AllBare s'.gens/\Un (frs outer) [] H H' s.heap s'.heap/\HOk P w H' s'.heap/\RelV v u/\Q v H'
noncomputable def CR (CX:CXT) (outer:List Env) (P:Program) (w:World) (H:Hp) (s:Shared) (Q:VK) (E:XK) (r:Result) (s':Shared):Prop :=
 match r with
 | .ok (.ret u)=>CE outer P w H s Q u s'
 | .ok _=>False
 | .error e=>CX outer H s E e s'
structure FnOk (P:Program) (w:World) (K:PySem.W.Frag) (mg:Str->Option Value) (base:Heap) (CX:CXT) (k:Nat) (f:Addr) (fd:FuncData) (ps:List Str) (sp:Sp):Prop where
 len:∀vs H Q E,sp vs H Q E->vs.length=ps.length
 run:∀(A:Around) (outer:List Env) (s:Shared) (H:Hp) (args:Args) (us:List Value) (vs:List V) (Q:VK) (E:XK),Room k A->Env0 P w K mg base A outer s H->BindsTo s fd args (ps.zip us)->Vals vs us->sp vs H Q E ->
  codeAny (model P w) A (.call (.ref f) args) (CR CX outer P w H s Q E) s
theorem FnOk.mono {P:Program} {w:World} {K:PySem.W.Frag} {mg:Str->Option Value} {base:Heap} {CX:CXT} {j k:Nat} {f:Addr} {fd:FuncData} {ps:List Str} {sp:Sp} (F:FnOk P w K mg base CX j f fd ps sp) (h:j<=k) :
  FnOk P w K mg base CX k f fd ps sp:=⟨F.len,λA outer s H args us vs Q E hr=>F.run A outer s H args us vs Q E (hr.mono h)⟩
theorem FnOk.imp {P:Program} {w:World} {K:PySem.W.Frag} {mg:Str->Option Value} {base:Heap} {CX:CXT} {k:Nat} {f:Addr} {fd:FuncData} {ps:List Str} {sp sp':Sp} (F:FnOk P w K mg base CX k f fd ps sp)
  (h:∀vs H Q E,sp' vs H Q E->sp vs H Q E):FnOk P w K mg base CX k f fd ps sp' :=
 ⟨λvs H Q E q=>F.len vs H Q E (h _ _ _ _ q),λA outer s H args us vs Q E hr he hb hv hs=>F.run A outer s H args us vs Q E hr he hb hv (h _ _ _ _ hs)⟩
theorem Env0.make {P:Program} {w:World} {K:PySem.W.Frag} {mg:Str->Option Value} {base:Heap} {A:Around} {outer:List Env} {s:Shared} {H:Hp} (e:Env0 P w K mg base A outer s H) (C:Addr) (us:List Value) (kw:List (Str × Value)) :
  Env0 P w K mg base (A.under (.builtin "type.__call__" ⟨.ref C :: us,kw⟩)) outer s H:=⟨by first | exact e.frames | (simpa [Around.under,Code.envs,Code.isFrame,pushEnvs] using e.frames),e.mod,e.bs,e.bsz,e.funs,e.frf,e.hok,e.bare⟩
theorem Env0.in1 {P:Program} {w:World} {K:PySem.W.Frag} {mg:Str->Option Value} {base:Heap} {A:Around} {outer:List Env} {s:Shared} {H:Hp} (e:Env0 P w K mg base A outer s H) :
  Env0 P w K mg base A.in1 outer s H:=⟨e.frames,e.mod,e.bs,e.bsz,e.funs,e.frf,e.hok,e.bare⟩
section
variable {X:Cx} {pins:List (Addr × Obj)} {σ:St} {H:Hp} {s s':Shared}
theorem Inv.env0 (I:Inv X pins σ H s):Env0 X.prog X.w X.K X.mg X.base X.A X.stack s H :=
 ⟨I.ok.frames,I.ok.mod,I.bs,Nat.le_trans I.ok.bsz I.sz,I.stack,I.stkFree,I.hok,I.bare⟩
theorem Inv.after {Q:VK} {u:Value} (I:Inv X pins σ H s) (h:CE X.stack X.prog X.w H s Q u s'):EP X pins σ Q u s':=by
 obtain ⟨v,H',os,bare,un,hok,r,q⟩:=h
 obtain ⟨hh,g,d,t,os'⟩:=s'
 obtain rfl:os'=s.os:=os
 exact ⟨v,H',I.call (h':=hh) (g':=g) (d':=d) (t':=t) (ch:=[]) un hok bare (λb z=>absurd z (by simp)),r,q⟩
end
noncomputable def cy6 (sp:Sp) (dvs:List V) (E:XK) (t:TA):TE:=λσ H Q=>t σ H λvs H1=>sp (vs++dvs) H1 Q E
noncomputable def cx0 (C:Addr) (m:Str) (sp:Sp) (dvs:List V) (E:XK) (ta:TE) (t:TA):TE:=λσ H Q=>ta σ H λx H1=>∃a dx fs,x=.ref a/\H1 a=some (.ins C dx fs)/\fs.lookup m=none /\
 t σ H1 λvs H2=>sp (x :: (vs++dvs)) H2 Q E
noncomputable def cu9 (C:Addr) (sp:Sp) (dvs:List V) (E:XK) (t:TA):TE:=λσ H Q=>t σ H λvs H1=>∀x dx,H1 x=none->H1 dx=none->dx≠x ->
 sp (.ref x :: (vs++dvs)) (upd (upd H1 dx (.own x)) x (.ins C dx [])) (λv H2=>v=.non/\Q (.ref x) H2) E
noncomputable def Binds (K:PySem.W.Frag) (fd:FuncData) (ps:List Str) (ds:List Value):Prop :=
 ∀(s:Shared) (us:List Value),K.In s.heap->(us++ds).length=ps.length->BindsTo s fd ⟨us,[]⟩ (ps.zip (us++ds))
theorem Binds.all {K:PySem.W.Frag} {fd:FuncData} {ps:List Str} (h:∀us:List Value,us.length=ps.length->bindArgs fd ⟨us,[]⟩=pure (ps.zip us)):Binds K fd ps []:=λs us _ hl=>by
 rw [List.append_nil] at hl ⊢
 exact .of_eq (h us hl)
noncomputable def a93 (CX:CXT) (X:Cx) (E:XK):Prop:=∀(pins:List (Addr × Obj)) (σ:St) (H:Hp) (s:Shared) (e:Value) (s':Shared),Inv X pins σ H s->CX X.stack H s E e s'->X.xe e s'
section
variable {X:Cx} {CX:CXT} {k:Nat} {f C:Addr} {fd:FuncData} {ps:List Str} {sp:Sp} {dvs:List V} {ds:List Value} {E:XK} {x m:Str} {p pos apos:Pos} {e o:Expr} {es:List Expr} {ta:TE} {t:TA}
theorem bB1 {pins:List (Addr × Obj)} {σ:St} {H:Hp} {s:Shared} {Q:VK} {us:List Value} {vs:List V} (F:FnOk X.prog X.w X.K X.mg X.base CX k f fd ps sp) (hr:Room k X.A) (hb:Binds X.K fd ps ds) (hd:Vals dvs ds) (hx:a93 CX X E)
  (I:Inv X pins σ H s) (r:Vals vs us) (h:sp (vs++dvs) H Q E):wpAny (model X.prog X.w) X.A (call (.ref f) us) (EP X pins σ Q) X.xe s:=by
 have r2:Vals (vs++dvs) (us++ds):=r.append hd
 have hl:(us++ds).length=ps.length:=by rw [<-r2.length]; exact F.len _ _ _ _ h
 refine wpAny_call (codeAny_mono (F.run X.A X.stack s H ⟨us,[]⟩ (us++ds) (vs++dvs) Q E hr I.env0 (hb s us I.kIn hl) r2 h) λr s' hq=>?_)
 cases r with
 | error e=>exact hx pins σ H s e s' I hq
 | ok fl =>
  cases fl with
  | ret u=>exact I.after hq
  | next=>exact False.elim hq
  | brk=>exact False.elim hq
  | cont=>exact False.elim hq
theorem ba1 (F:FnOk X.prog X.w X.K X.mg X.base CX k f fd ps sp) (hr:Room k X.A) (hg:Gl X x) (hm:X.mg x=some (.ref f)) (hk:PySem.W.keepIn X.K (.ref f)=true) (hb:Binds X.K fd ps ds) (hd:Vals dvs ds) (hx:a93 CX X E)
  (ha:PA X (e :: es) t) (hdb:(x == ("__debug__":Str))=false:=by decide) (he:starEach (e :: es) X.env=(false,eval e X.env) :: starEach es X.env:=by rfl) (hpl:(backTo pos (starEach es X.env)).any (·.1)=false:=by rfl) :
  PE X (.Call (.Name x p) (e :: es) [] pos) (cy6 sp dvs E t):=by
 intro pins s σ H Q I h
 refine wpAny_Call_Name_kw (bm4 I hg hm ?_ hdb)
 refine PySem.W.callWith_K (h₀:=X.base) I.ok.mod.kin hk (thn (ha pos pins s σ H _ I h) λus s1 ⟨vs,H1,I1,r,q⟩=>⟨I1.kIn,?_⟩) he hpl
 exact bB1 F hr hb hd hx I1 r q
theorem b98 {pl:Sem Bool} (he:PE X o ta) (c:Cls X.K C) (hm:Meth X.K C m f) (F:FnOk X.prog X.w X.K X.mg X.base CX k f fd ps sp) (hr:Room k X.A) (hb:Binds X.K fd ps ds) (hd:Vals dvs ds) (hx:a93 CX X E) (ha:PA X (e :: es) t)
  (hst:starEach (e :: es) X.env=(false,eval e X.env) :: starEach es X.env:=by rfl) (hpl:(backTo pos (starEach es X.env)).any (·.1)=false:=by rfl)
  (ht:eval (.Call (.Attribute o m apos) (e :: es) [] pos) X.env=(do
   let ov<-eval o X.env
   standAt apos.atName
   let (f,first)<-holding [ov] (getMethod ov m pl)
   callWith pos f first (backTo pos (starEach (e :: es) X.env)) (backToKw pos (keywordEach [] X.env))):=by rfl) :
  PE X (.Call (.Attribute o m apos) (e :: es) [] pos) (cx0 C m sp dvs E ta t):=by
 intro pins s σ H Q I h
 refine PySem.W.methodCall_KW (pl:=pl) (thn (he pins s σ H _ I h) λu s1 ⟨x,H1,I1,rx,a,dx,fs,ex,ea,l,q⟩=>?_) ht
 subst ex
 obtain rfl:u=Value.ref a:=rx
 refine bc3 I1 ea c hm l ?_
 refine PySem.W.callWith_K (first:=[.ref a]) (h₀:=X.base) I.ok.mod.kin hm.kp (thn (ha pos pins s1 σ H1 _ I1 q) λus s2 ⟨vs,H2,I2,r,q2⟩=>⟨I2.kIn,?_⟩) hst hpl
 exact bB1 (us:=.ref a :: us) (vs:=.ref a :: vs) F hr hb hd hx I2 (.cons rfl r) q2
structure Mk (K:PySem.W.Frag) (C f:Addr):Prop where
 makes:PySem.W.makesIn K C=true
 init:PySem.W.findIn K (.ref C) "__init__"=some (some (.ref f))
 fn:PySem.W.isFn K (.ref f)=true
 kp:PySem.W.keepIn K (.ref C)=true
theorem bV4 {pins:List (Addr × Obj)} {σ:St} {H:Hp} {s:Shared} {Q:VK} {us:List Value} {vs:List V} (M:Mk X.K C f) (F:FnOk X.prog X.w X.K X.mg X.base CX k f fd ps sp) (hr:Room (k + 1) X.A) (hb:Binds X.K fd ps ds) (hd:Vals dvs ds)
  (hx:a93 CX X E) (I:Inv X pins σ H s) (r:Vals vs us)
  (h:∀x dx,H x=none->H dx=none->dx≠x->sp (.ref x :: (vs++dvs)) (upd (upd H dx (.own x)) x (.ins C dx [])) (λv H2=>v=.non/\Q (.ref x) H2) E) :
  wpAny (model X.prog X.w) X.A (call (.ref C) us) (EP X pins σ Q) X.xe s:=by
 have hq:=h (s.heap.objs.size + 1) s.heap.objs.size (I.hok.fresh (Nat.le_succ _)) (I.hok.fresh (Nat.le_refl _)) (Nat.ne_of_lt (Nat.lt_succ_self _))
 have I2:=Inv.made (C:=C) I
 have r2:Vals (V.ref (s.heap.objs.size + 1) :: (vs++dvs)) (Value.ref (s.heap.objs.size + 1) :: (us++ds)):=.cons rfl (r.append hd)
 have hl:(Value.ref (s.heap.objs.size + 1) :: us++ds).length=ps.length:=by
  have e:=r2.length
  rw [F.len _ _ _ _ hq] at e
  exact e.symm
 refine wpAny_call (bU0 (f:=f) I.kIn M.makes M.init (beq_iff_eq.mp M.fn) (codeAny_mono (F.run _ X.stack _ _ ⟨Value.ref (s.heap.objs.size + 1) :: us,[]⟩ (Value.ref (s.heap.objs.size + 1) :: (us++ds)) _ _ E (hr.make C us [])
  (I2.env0.make C us []) (hb _ (Value.ref (s.heap.objs.size + 1) :: us) I2.kIn hl) r2 hq) λr s' hq'=>?_))
 cases r with
 | error e=>exact hx pins σ _ _ e s' I2 hq'
 | ok fl =>
  cases fl with
  | ret u =>
   obtain ⟨v,H',I3,rv,ev,q3⟩:=I2.after hq'
   subst ev
   exact ⟨rv,⟨V.ref (s.heap.objs.size + 1),H',I3,rfl,q3⟩⟩
  | next=>exact False.elim hq'
  | brk=>exact False.elim hq'
  | cont=>exact False.elim hq'
theorem ca9 (M:Mk X.K C f) (F:FnOk X.prog X.w X.K X.mg X.base CX k f fd ps sp) (hr:Room (k + 1) X.A) (hg:Gl X x) (hm:X.mg x=some (.ref C)) (hb:Binds X.K fd ps ds) (hd:Vals dvs ds) (hx:a93 CX X E)
  (ha:PA X (e :: es) t) (hdb:(x == ("__debug__":Str))=false:=by decide) (he:starEach (e :: es) X.env=(false,eval e X.env) :: starEach es X.env:=by rfl) (hpl:(backTo pos (starEach es X.env)).any (·.1)=false:=by rfl) :
  PE X (.Call (.Name x p) (e :: es) [] pos) (cu9 C sp dvs E t):=by
 intro pins s σ H Q I h
 refine wpAny_Call_Name_kw (bm4 I hg hm ?_ hdb)
 refine PySem.W.callWith_K (h₀:=X.base) I.ok.mod.kin M.kp (thn (ha pos pins s σ H _ I h) λus s1 ⟨vs,H1,I1,r,q⟩=>⟨I1.kIn,?_⟩) he hpl
 exact bV4 M F hr hb hd hx I1 r q
end
section
variable {X:Cx} {CX:CXT} {k:Nat} {f C:Addr} {fd:FuncData} {ps ks:List Str} {sp:Sp} {E:XK} {x m:Str} {p pos apos kpos:Pos} {e o:Expr} {es:List Expr} {kws:List Keyword} {te ta:TE} {t tk:TA} {nm:Option Str}
variable {g:List Value->List Value->List Value} {gV:List V->List V->List V}
end
structure FnScope (N P:List Str) (sc:Scope):Prop where
 kind:sc.kind=.function
 co:sc.isCoroutine=false
 gen:sc.isGenerator=false
 nd:N.Nodup
 pre:N.take P.length=P
 par:∀x∈P,sc.names.lookup x=some .local\/sc.names.lookup x=some .cell
 nofree:∀y∈sc.names,y.2≠.free
theorem bs0 {kindOf:Str->Option NameKind} {x:Str}:∀{binds:List (Str × Value)} {m:Str->Option Value},(∀v,(x,v) ∉ binds)->bindL kindOf binds m x=m x
 | [],_,_=>rfl
 | (n,v) :: r,m,h=>by
  unfold bindL
  rw [bs0 λw hw=>h w (List.mem_cons_of_mem _ hw)]
  split
  ·have:x≠n:=by rintro rfl; exact h v List.mem_cons_self
   simp [this]
  ·rfl
theorem bt4 {kindOf:Str->Option NameKind} {x:Str}:∀{binds:List (Str × Value)} {m:Str->Option Value},(∀v,(x,v) ∉ binds)->bindC kindOf binds m x=m x
 | [],_,_=>rfl
 | (n,v) :: r,m,h=>by
  unfold bindC
  rw [bt4 λw hw=>h w (List.mem_cons_of_mem _ hw)]
  split
  ·rfl
  ·have:x≠n:=by rintro rfl; exact h v List.mem_cons_self
   simp [this]
theorem bs6 {kindOf:Str->Option NameKind} {x:Str} {v:Value}:∀{P:List Str} {vs:List Value} {i:Nat} {m:Str->Option Value},P.Nodup->P[i]?=some x->vs[i]?=some v->kindOf x=some .local ->
  bindL kindOf (P.zip vs) m x=some v
 | [],_,_,_,_,h,_,_=>by simp at h
 | _ :: _,[],_,_,_,_,h,_=>by simp at h
 | p :: P,w :: vs,0,m,nd,h1,h2,hk=>by
  simp at h1 h2; subst h1; subst h2
  show bindL kindOf ((p,w) :: P.zip vs) m p=_
  unfold bindL
  rw [bs0 λv hv=>(List.nodup_cons.mp nd).1 (List.of_mem_zip hv).1,if_pos hk]
  simp
 | p :: P,w :: vs,i + 1,m,nd,h1,h2,hk=>by
  show bindL kindOf ((p,w) :: P.zip vs) m x=_
  unfold bindL
  exact bs6 (i:=i) (List.nodup_cons.mp nd).2 (by simpa using h1) (by simpa using h2) hk
theorem bp0 {kindOf:Str->Option NameKind} {x:Str} {v:Value}:∀{P:List Str} {vs:List Value} {i:Nat} {m:Str->Option Value},P.Nodup->P[i]?=some x->vs[i]?=some v->kindOf x≠some .local ->
  bindC kindOf (P.zip vs) m x=some v
 | [],_,_,_,_,h,_,_=>by simp at h
 | _ :: _,[],_,_,_,_,h,_=>by simp at h
 | p :: P,w :: vs,0,m,nd,h1,h2,hk=>by
  simp at h1 h2; subst h1; subst h2
  show bindC kindOf ((p,w) :: P.zip vs) m p=_
  unfold bindC
  rw [bt4 λv hv=>(List.nodup_cons.mp nd).1 (List.of_mem_zip hv).1,if_neg hk]
  simp
 | p :: P,w :: vs,i + 1,m,nd,h1,h2,hk=>by
  show bindC kindOf ((p,w) :: P.zip vs) m x=_
  unfold bindC
  exact bp0 (i:=i) (List.nodup_cons.mp nd).2 (by simpa using h1) (by simpa using h2) hk
noncomputable def start (N:List Str) (vs:List V):St:=vs.map some++List.replicate (N.length - vs.length) none
noncomputable def bB2 (CX:CXT) (P:Program) (w:World) (K:PySem.W.Frag) (mg:Str->Option Value) (base:Heap) (N:List Str) (qual:Str) (scope:Scope) (f:Addr) (cd:Value) (A:Around) (outer:List Env) (s:Shared) (H:Hp) (E:XK):Cx where
 prog:=P
 w:=w
 K:=K
 mg:=mg
 base:=base
 A:=A.deeper (envOfC qual scope s.heap.objs.size f cd)
 N:=N
 s₀:=s
 H₀:=H
 env:=envOfC qual scope s.heap.objs.size f cd
 outer:=outer
 stack:=envOfC qual scope s.heap.objs.size f cd :: outer
 ex:=[]
 calm:=true
 fn:=λ_=>true
 pn:=[]
 xe:=λe s'=>wpAny (model P w) (A.deeper (envOfC qual scope s.heap.objs.size f cd)) (leaving (envOfC qual scope s.heap.objs.size f cd) e) (λ_ s''=>CX outer H s E e s'') (λe' s''=>CX outer H s E e' s'') s'
theorem by4 {sc:Scope} {n:Nat} {x:Str} (h:sc.names.lookup x=some .cell):∃c,(cellsFrom n sc.names []).lookup x=some c:=by
 have q:=PySem.W.cellsFrom_some sc.names n [] (.inl h)
 exact Option.isSome_iff_exists.mp q
theorem bM3 {CX:CXT} {P:Program} {w:World} {K:PySem.W.Frag} {mg:Str->Option Value} {base:Heap} {N ps:List Str} {qual:Str} {scope:Scope} {f:Addr} {cd:Value} {A:Around} {outer:List Env} {s s1:Shared} {H:Hp} {E:XK} {us:List Value} {vs:List V}
  (S:FnScope N ps scope) (hd:A.handled=none) (e0:Env0 P w K mg base A outer s H) (hl:vs.length=ps.length) (r:Vals vs us)
  (x:InCallC s s.heap.objs.size (bindL (envOfC qual scope s.heap.objs.size f cd).kindOf (ps.zip us) λ_=>none) (cellsFrom (s.heap.objs.size + 1) scope.names []) (bindC (envOfC qual scope s.heap.objs.size f cd).kindOf (ps.zip us) λ_=>none) s1) :
  Inv (bB2 CX P w K mg base N qual scope f cd A outer s H E) [] (start N vs) H s1:=by
 have hpl:ps.length<=N.length:=by have:=congrArg List.length S.pre; rw [List.length_take] at this; omega
 obtain ⟨h1,tk,rfl,hk⟩:=x.done
 have noA:∀b:Addr,b ∉ (bB2 CX P w K mg base N qual scope f cd A outer s H E).ex:=λb z=>absurd (show b∈([]:List Addr) from z) (by simp)
 refine ⟨⟨e0.mod,S.kind,rfl,rfl,Nat.le_refl _,λy z c h1 h2=>?_,λy hy=>?_,λy c _ h=>?_,λ_=>hd,Around.frames_deeper e0.frames,.inr ⟨rfl,rfl⟩,λb z=>absurd z (noA b),e0.bs,e0.bsz,λb _ _=>noA b,λb z=>absurd z (noA b),e0.funs,e0.frf⟩,
  rfl,e0.bare,Un.kept hk,⟨_,x.toInCall.ns,λi y v h1 h2 h3=>?_⟩,λy c h=>⟨_,x.cell y c h⟩,e0.hok.fresh (Nat.le_refl _),λy c h=>?_,λp hp=>absurd (show p∈([]:List (Addr × Obj)) from hp) (by simp),e0.hok.kept hk,?_⟩
 ·exact name_of_addr x.apart (PySem.mem_of_lookup h1) (PySem.mem_of_lookup h2)
 ·have hy:scope.names.lookup y=some .cell\/scope.names.lookup y=some .free:=hy
  rcases hy with hy | hy
  ·exact by4 hy
  ·exact absurd rfl (S.nofree _ (PySem.mem_of_lookup hy))
 ·exact Nat.le_of_lt (x.above y c (PySem.mem_of_lookup h))
 ·have hi:i < vs.length:=by
   unfold start at h2
   by_cases hi:i < vs.length
   ·exact hi
   ·rw [List.getElem?_append_right (by simpa using hi)] at h2
    rw [List.getElem?_replicate] at h2
    split at h2 <;> cases h2
  have ha:vs[i]?=some v:=by
   unfold start at h2
   rw [List.getElem?_append_left (by simpa using hi),List.getElem?_map] at h2
   cases e:vs[i]? with
   | none=>rw [e] at h2; cases h2
   | some a=>rw [e] at h2; cases h2; rfl
  obtain ⟨u,hu,rv⟩:=r.get ha
  have hp:ps[i]?=some y:=by
   rw [<-S.pre,List.getElem?_take_of_lt (by omega)]; exact h1
  have ndP:ps.Nodup:=by rw [<-S.pre]; exact S.nd.sublist (List.take_sublist _ _)
  refine ⟨u,rv,?_⟩
  rcases S.par y (List.mem_of_getElem? hp) with k | k
  ·exact .inl ⟨k,bs6 ndP hp hu k⟩
  ·obtain ⟨c,e⟩:=by4 (n:=s.heap.objs.size + 1) k
   refine .inr ⟨.inl k,c,e,?_⟩
   have q:=x.cell y c e
   rw [bp0 ndP hp hu (by show scope.names.lookup y≠_; rw [k]; decide)] at q
   exact q
 ·exact e0.hok.fresh (Nat.le_of_lt (x.above y c (PySem.mem_of_lookup h)))
 ·unfold start
  show _=N.length
  rw [List.length_append,List.length_map,List.length_replicate]
  omega
theorem cc2 {CX:CXT} {P:Program} {w:World} {K:PySem.W.Frag} {mg:Str->Option Value} {base:Heap} {k:Nat} {f:Addr} {name qual:Str} {params:Arguments} {body:List Stmt} {scope:Scope} {dV kV doc pm cdv ct oc:Value} {an od:Option Addr}
  {osl:Array (Option Value)} {N ps:List Str} {sp:Sp} (lk:K.lookup f=some ⟨oc,od,.func (PySem.W.fnOf name qual params body scope dV kV doc pm an cdv ct),osl⟩) (hcd:PySem.W.codeIn K cdv qual=true) (S:FnScope N ps scope)
  (len:∀vs H Q E,sp vs H Q E->vs.length=ps.length)
  (hbody:∀(A:Around) (outer:List Env) (s:Shared) (H:Hp) (vs:List V) (Q:VK) (E:XK),Room k (A.deeper (envOfC qual scope s.heap.objs.size f cdv))->sp vs H Q E ->
   ∃t,PSs (bB2 CX P w K mg base N qual scope f cdv A outer s H E) body t/\t { nx:=λ_ H'=>Q .non H',rt:=Q } (start N vs) H) :
  FnOk P w K mg base CX (k + 1) f (PySem.W.fnOf name qual params body scope dV kV doc pm an cdv ct) ps sp:=by
 refine ⟨len,λA outer s H args us vs Q E hr e0 hb r hsp=>?_⟩
 have hl:=len _ _ _ _ hsp
 have KX:K.In s.heap:=e0.mod.kin.keeps λb o e=>(e0.bs b o e).1
 have lim:s.heap.NoLimit:=e0.mod.nolimit.keeps λb o e=>(e0.bs b o e).1
 have hkind:∀y∈ps.zip us,scope.names.lookup y.1=some .local\/(scope.names.lookup y.1=some .cell/\((cellsFrom (s.heap.objs.size + 1) scope.names []).lookup y.1).isSome=true):=λ⟨n,v⟩ hy=>by
  rcases S.par n (List.of_mem_zip hy).1 with q | q
  ·exact .inl q
  ·exact .inr ⟨q,PySem.W.cellsFrom_some _ _ _ (.inl q)⟩
 refine codeAny_call_function hr.depth (KX _ _ lk) rfl S.co S.gen rfl (PySem.W.codeRec_of KX hcd) (hb _ _ _ _ ?_)
 refine wpAny_newFunctionEnv_cells S.kind hkind λenv he s1 x=>?_
 subst he
 refine ⟨lim.keeps x.toInCall.keep,codeAny_func ?_⟩
 obtain ⟨t,ht,hq⟩:=hbody A outer s H vs Q E (hr.deeper _) hsp
 have I:Inv (bB2 CX P w K mg base N qual scope f cdv A outer s H E) [] (start N vs) H s1:=bM3 S hr.hd e0 hl r x
 refine wpAny_mono (ht [] s1 (start N vs) H _ I hq) (λfl s' hs=>?_) λe s' hs=>hs
 have fin:∀{σ':St} {H':Hp} {v:V} {u:Value},Inv (bB2 CX P w K mg base N qual scope f cdv A outer s H E) [] σ' H' s'->RelV v u->Q v H'->CE outer P w H s Q u s' :=
  λ{σ' H' v u} J rv q=>⟨v,H',J.os,J.bare,J.base,J.hok,rv,q⟩
 cases fl with
 | ret u =>
  obtain ⟨v,σ',H',J,rv,q⟩:=hs
  exact fin J rv q
 | next =>
  obtain ⟨σ',H',J,q⟩:=hs
  exact fin (v:=V.non) (u:=Value.none) J rfl q
 | brk =>
  obtain ⟨_,_,_,q⟩:=hs
  exact False.elim q
 | cont =>
  obtain ⟨_,_,_,q⟩:=hs
  exact False.elim q
end L2
namespace L2
open PySem PySem.Spec PyProof.Rows
section
variable {X:Cx} {x:Str} {p pos:Pos} {e:Expr} {es:List Expr} {t:TA} {id T:String} {r:List V->Hp->VK->Prop}
noncomputable def tCB (r:List V->Hp->VK->Prop) (t:TA):TE:=λσ H Q=>t σ H λvs H1=>r vs H1 Q
theorem by7 (hc:CallR X (.builtin id) r) (hg:Gl X x) (hm:X.mg x=none) (hv:bootBuiltins x=some (.builtin id)) (ha:PA X (e :: es) t) (hn:x≠"__name__":=by decide) (hdb:(x == ("__debug__":Str))=false:=by decide)
  (he:starEach (e :: es) X.env=(false,eval e X.env) :: starEach es X.env:=by rfl) (hpl:(backTo pos (starEach es X.env)).any (·.1)=false:=by rfl):PE X (.Call (.Name x p) (e :: es) [] pos) (tCB r t):=by
 intro pins s σ H Q I h
 refine wpAny_Call_Name_kw (ba4 I hg hm hv ?_ hn hdb)
 exact PyProof.Rows.callWith_builtin1 (thn (ha pos pins s σ H _ I h) λus s1 ⟨vs,H1,I1,r1,q1⟩=>hc pins s1 σ H1 vs us Q I1 r1 q1) he hpl
theorem bK7 (hc:CallR X (.type T) r) (hg:Gl X x) (hm:X.mg x=none) (hv:bootBuiltins x=some (.type T)) (ha:PA X (e :: es) t) (hn:x≠"__name__":=by decide) (hdb:(x == ("__debug__":Str))=false:=by decide)
  (he:starEach (e :: es) X.env=(false,eval e X.env) :: starEach es X.env:=by rfl) (hpl:(backTo pos (starEach es X.env)).any (·.1)=false:=by rfl):PE X (.Call (.Name x p) (e :: es) [] pos) (tCB r t):=by
 intro pins s σ H Q I h
 refine wpAny_Call_Name_kw (ba4 I hg hm hv ?_ hn hdb)
 exact PyProof.Rows.callWith_type1 (thn (ha pos pins s σ H _ I h) λus s1 ⟨vs,H1,I1,r1,q1⟩=>hc pins s1 σ H1 vs us Q I1 r1 q1) he hpl
end
end L2
namespace HT
open PySem PyProof.Rows
section
open PySem.SeqAt
open PySem.AutoSeq1 (wpAny_loadPart')
open PySem.MeetsSeq PySem.MeetsSeq2 PySem.MeetsSeq3
end
section
variable {prog:Program} {w:World} {A:Around} {E:Value->Shared->Prop} {s:Shared}
noncomputable def sIx (n d:Nat):Option Int->Nat
 | none=>d
 | some v=>if v < 0 then (v + (n:Int)).toNat else min v.toNat n
theorem sIx_nat (n d k:Nat):sIx n d (some (k:Int))=min k n:=by
 show (if (k:Int) < 0 then ((k:Int) + (n:Int)).toNat else min (k:Int).toNat n)=min k n
 rw [if_neg (by omega),Int.toNat_natCast]
end
end HT
namespace L2
open PySem PySem.Spec PyProof.Rows
noncomputable abbrev TO:=St->Hp->(Option Int->Hp->Prop)->Prop
noncomputable def PO (X:Cx) (e:Option Expr) (t:TO):Prop :=
 ∀(pins:List (Addr × Obj)) (s:Shared) (σ:St) (H:Hp) (Q:Option Int->Hp->Prop),Inv X pins σ H s->t σ H Q ->
  wpAny (model X.prog X.w) X.A (evalPart e X.env) (λu s'=>∃o H',Inv X pins σ H' s'/\IsPart u o/\Q o H') X.xe s
noncomputable def b88:TO:=λ_ H Q=>Q none H
noncomputable def cw0 (t:TE):TO:=λσ H Q=>t σ H λx H1=>∃i,x=.int i/\Q (some i) H1
section
variable {X:Cx} {e:Expr} {te:TE} {lo hi:Option Expr} {tl th:TO} {pos p2:Pos}
theorem ce6:PO X none b88:=by
 intro pins s σ H Q I h
 rw [evalPart_none]
 exact wpAny_pure ⟨none,H,I,.none,h⟩
theorem ce8 (h:PE X e te):PO X (some e) (cw0 te):=by
 intro pins s σ H Q I hw
 rw [evalPart_some]
 refine thn (h pins s σ H _ I hw) λu s1 ⟨x,H1,I1,r1,q1⟩=>?_
 obtain ⟨i,rfl,q⟩:=q1
 obtain ⟨t,rfl⟩:=r1
 exact ⟨some i,H1,I1,.int i t,q⟩
noncomputable def SlR (X:Cx) (r:V->Option Int->Option Int->Hp->VK->Prop):Prop :=
 ∀(pins:List (Addr × Obj)) (s:Shared) (σ:St) (H:Hp) (x:V) (v vl vu:Value) (lo hi:Option Int) (sl:Addr) (Q:VK),Inv X pins σ H s->RelV x v->s.heap.IsSliceOf sl vl vu .none->IsPart vl lo->IsPart vu hi->r x lo hi H Q ->
  ∃T id,typeLookup (.type T) "__getitem__"=pure (some (.builtin id))/\s.TypeIs v T/\wpAny (model X.prog X.w) X.A (getItem v (.ref sl)) (EP X pins σ Q) X.xe s
theorem SlR.or {r r':V->Option Int->Option Int->Hp->VK->Prop} (h:SlR X r) (h':SlR X r'):SlR X (λx lo hi H Q=>r x lo hi H Q\/r' x lo hi H Q):=by
 intro pins s σ H x v vl vu lo hi sl Q I rx hs pl pu q
 rcases q with q | q
 ·exact h pins s σ H x v vl vu lo hi sl Q I rx hs pl pu q
 ·exact h' pins s σ H x v vl vu lo hi sl Q I rx hs pl pu q
noncomputable def tSl (r:V->Option Int->Option Int->Hp->VK->Prop) (te:TE) (tl th:TO):TE:=λσ H Q=>te σ H λx H1=>tl σ H1 λl H2=>th σ H2 λu H3=>r x l u H3 Q
theorem bW0 {r:V->Option Int->Option Int->Hp->VK->Prop} (hr:SlR X r) (he:PE X e te) (hl:PO X lo tl) (hu:PO X hi th):PE X (.Subscript e (.Slice lo hi none p2) pos) (tSl r te tl th):=by
 intro pins s σ H Q I h
 refine Subscript_ (thn (he pins s σ H _ I h) λv s1 ⟨x,H1,I1,r1,q1⟩=>?_)
 refine wpAny_Slice (thn (hl pins s1 σ H1 _ I1 q1) λvl s2 ⟨l,H2,I2,pl,q2⟩=>thn (hu pins s2 σ H2 _ I2 q2) λvu s3 ⟨u,H3,I3,pu,q3⟩=>?_)
 rw [evalPart_none]
 refine wpAny_pure ?_
 have I4:Inv X pins σ H3 { s3 with heap:=s3.heap.push { cls:=.type "slice",data:=.fields #[vl,vu,.none] } }:=I3.kept (t':=s3.toks) λb ob q=>Heap.get?_push_of_some _ q
 obtain ⟨T,id,hT,ht,hg⟩:=hr pins { s3 with heap:=s3.heap.push { cls:=.type "slice",data:=.fields #[vl,vu,.none] } } σ H3 x v vl vu l u s3.heap.objs.size Q I4 r1 (Heap.IsSliceOf.new ..) pl pu q3
 show wpAny (model X.prog X.w) X.A (subscriptTail e (.Slice lo hi none p2) v (.ref s3.heap.objs.size)) (EP X pins σ Q) X.xe { s3 with heap:=s3.heap.push { cls:=.type "slice",data:=.fields #[vl,vu,.none] } }
 exact tail_any (ops:=[.ref s3.heap.objs.size,v]) ht hT hg (by with_unfolding_all rfl)
noncomputable def ch1 (xs:List V) (lo hi:Option Int):List V:=(xs.drop (HT.sIx xs.length 0 lo)).take (HT.sIx xs.length xs.length hi - HT.sIx xs.length 0 lo)
theorem bx0 (xs:List V) (lo hi:Option Int):(ch1 xs lo hi).length<=xs.length:=by
 unfold ch1
 rw [List.length_take,List.length_drop]
 omega
end
end L2
namespace L2
open PySem PySem.Spec PyProof.Rows
noncomputable def ixN (n:Nat) (i:Int):Option Nat:=if 0<=i then (if i < n then some i.toNat else none) else if -(n:Int)<=i then some (i + n).toNat else none
noncomputable def atI {α:Type} (xs:List α) (i:Int):Option α:=(ixN xs.length i).bind λj=>xs[j]?
theorem bL3 {n:Nat} {i:Int} {j:Nat} (h:ixN n i=some j):seqIndex? i n=some j/\j < n/\-(n:Int)<=i/\i < n:=by
 unfold ixN at h
 by_cases h0:0<=i
 ·rw [if_pos h0] at h
  by_cases h1:i < n
  ·rw [if_pos h1] at h
   have e:i.toNat=j:=Option.some.inj h
   exact ⟨by rw [seqIndex_of h0 h1,e],by omega,by omega,h1⟩
  ·rw [if_neg h1] at h; cases h
 ·rw [if_neg h0] at h
  by_cases h1:-(n:Int)<=i
  ·rw [if_pos h1] at h
   have e:(i + n).toNat=j:=Option.some.inj h
   exact ⟨by rw [seqIndex_neg (by omega) h1,e],by omega,h1,by omega⟩
  ·rw [if_neg h1] at h; cases h
theorem a76 {α:Type} {xs:List α} {i:Int} {v:α} (h:atI xs i=some v):∃j,seqIndex? i xs.length=some j/\xs[j]?=some v/\j < xs.length/\-(xs.length:Int)<=i/\i < xs.length:=by
 unfold atI at h
 cases e:ixN xs.length i with
 | none=>rw [e] at h; cases h
 | some j =>
  rw [e] at h
  obtain ⟨h1,h2,h3,h4⟩:=bL3 e
  exact ⟨j,h1,h,h2,h3,h4⟩
theorem atI_nat {α:Type} {xs:List α} {j:Nat} {v:α} (h:xs[j]?=some v):atI xs (j:Int)=some v:=by
 have hj:j < xs.length:=(List.getElem?_eq_some_iff.mp h).1
 have e:ixN xs.length (j:Int)=some j:=by
  unfold ixN
  rw [if_pos (by omega),if_pos (by omega)]; simp
 unfold atI; rw [e]; exact h
noncomputable def bt7 (b:Expr):Prop:=∀o i,subscripted b false o i=operate [o,i] (getItem o i)
noncomputable def IxR (X:Cx) (r:R2):Prop :=
 ∀(value slice:Expr) (pins:List (Addr × Obj)) (s:Shared) (σ:St) (H:Hp) (x y:V) (v u:Value) (Q:VK),Inv X pins σ H s->RelV x v->RelV y u->r x y H Q ->
  subscripted slice false v u=operate [v,u] (getItem v u)->wpAny (model X.prog X.w) X.A (subscriptTail value slice v u) (EP X pins σ Q) X.xe s
noncomputable def MtR (X:Cx) (id:String) (r:V->List V->Hp->VK->Prop):Prop :=
 ∀(pins:List (Addr × Obj)) (s:Shared) (σ:St) (H:Hp) (x:V) (xs:List V) (v:Value) (us:List Value) (Q:VK),Inv X pins σ H s->RelV x v->Vals xs us->r x xs H Q ->
  wpAny (model X.prog X.w) X.A (call (.builtin id) (v :: us)) (EP X pins σ Q) X.xe s
section
variable {X:Cx} {a b:Expr} {ta tb:TE} {pos:Pos}
theorem IxR.or {r r':R2} (h:IxR X r) (h':IxR X r'):IxR X (λx y H Q=>r x y H Q\/r' x y H Q):=by
 intro value slice pins s σ H x y v u Q I rx ry q hs
 rcases q with q | q
 ·exact h value slice pins s σ H x y v u Q I rx ry q hs
 ·exact h' value slice pins s σ H x y v u Q I rx ry q hs
theorem MtR.or {id:String} {r r':V->List V->Hp->VK->Prop} (h:MtR X id r) (h':MtR X id r'):MtR X id (λx xs H Q=>r x xs H Q\/r' x xs H Q):=by
 intro pins s σ H x xs v us Q I rx rs q
 rcases q with q | q
 ·exact h pins s σ H x xs v us Q I rx rs q
 ·exact h' pins s σ H x xs v us Q I rx rs q
theorem ck4 {r:R2} (hr:IxR X r) (ha:PE X a ta) (hb:PE X b tb) (hs:bt7 b):PE X (.Subscript a b pos) (tOp r ta tb):=by
 intro pins s σ H Q I h
 exact Subscript_ (cu3 ha hb I h λv u s2 x y H2 I2 rx ry q=>hr a b pins s2 σ H2 x y v u Q I2 rx ry q (hs _ _))
noncomputable def cz8 (K:PySem.W.Frag):R2:=λx y H Q=>∃p xs i v,x=.ref p/\y=.int i/\SqL K H p xs/\atI xs i=some v/\Q v H
noncomputable def cA0 (K:PySem.W.Frag):R2:=λx y H Q=>∃p xs i v,x=.ref p/\y=.int i/\SqT K H p xs/\atI xs i=some v/\Q v H
noncomputable def cz7:R2:=λx y H Q=>∃z i c,x=.str z/\y=.int i/\z.length<=sizeLine/\atI z.cps.toList i=some c/\Q (.str ⟨#[c]⟩) H
theorem ix_list:IxR X (cz8 X.K):=by
 intro value slice pins s σ H x y v u Q I rx ry h hs
 obtain ⟨p,xs,i,z,rfl,rfl,hq,he,q⟩:=h
 cases rx
 obtain ⟨t,rfl⟩:=ry
 obtain ⟨its,r,pl,hz⟩:=I.list hq
 obtain ⟨j,h1,h2,h3,h4,h5⟩:=a76 he
 obtain ⟨w,ew,rw'⟩:=r.get h2
 have hl:=r.length
 have hn:=bh3
 have fin:EP X pins σ Q w s:=⟨z,H,I,rw',q⟩
 by_cases h0:0<=i
 ·have hj:i.toNat=j:=by
   rw [seqIndex_of h0 h5] at h1
   exact Option.some.inj h1
  exact item_listR pl.isList h0 (by omega) (by rw [hj]; simpa using ew) fin hs
 ·have hj:(i + (its.toArray.size:Int)).toNat=j:=by
   rw [seqIndex_neg (by omega) h4] at h1
   rw [List.size_toArray,<- hl]
   exact Option.some.inj h1
  exact subscriptTail_builtinR (x:=w) pl.isList.typeIs slot_list_getitem.lookup
   (wpAny_getItem_list_neg (Q:=λr s'=>r=w/\EP X pins σ Q r s') pl.isList (by omega) (by rw [List.size_toArray] <;> omega) (by omega) (by rw [hj]; simpa using ew) ⟨rfl,fin⟩) hs
theorem ix_tup:IxR X (cA0 X.K):=by
 intro value slice pins s σ H x y v u Q I rx ry h hs
 obtain ⟨p,xs,i,z,rfl,rfl,hq,he,q⟩:=h
 cases rx
 obtain ⟨t,rfl⟩:=ry
 obtain ⟨its,r,pl,hz⟩:=I.tuple hq
 obtain ⟨j,h1,h2,h3,h4,h5⟩:=a76 he
 obtain ⟨w,ew,rw'⟩:=r.get h2
 have hl:=r.length
 have hn:=bh3
 have fin:EP X pins σ Q w s:=⟨z,H,I,rw',q⟩
 exact subscriptTail_builtinR (x:=w) pl.typeIs slot_tuple_getitem.lookup
  (getItem_tuple (j:=j) (Q:=λr s'=>r=w/\EP X pins σ Q r s') pl (by omega) (by omega) (by rw [List.size_toArray,<- hl]; exact h1) (by simpa using ew) ⟨rfl,fin⟩) hs
theorem cp8:IxR X cz7:=by
 intro value slice pins s σ H x y v u Q I rx ry h hs
 obtain ⟨z,i,c,rfl,rfl,hz,he,q⟩:=h
 obtain ⟨t,rfl⟩:=rx
 obtain ⟨t',rfl⟩:=ry
 obtain ⟨j,h1,h2,h3,h4,h5⟩:=a76 he
 have hl:z.cps.toList.length=z.length:=by simp [Str.length]
 rw [hl] at h1 h4 h5
 have hn:=bh3
 exact tail_any (typeIs_str s z t) slot_str_getitem.lookup (getItem_str (c:=c) (by
  have e1:decide (i < -(2 ^ 63:Int))=false:=decide_eq_false (by omega)
  have e2:decide (i ≥ 2 ^ 63)=false:=decide_eq_false (by omega)
  rw [e1,e2,Bool.or_false]) (by rw [h1]; simpa using h2) ⟨.str ⟨#[c]⟩,H,I.tok _,⟨_,rfl⟩,q⟩) hs
noncomputable def rIx (K:PySem.W.Frag):R2:=λx y H Q=>cz8 K x y H Q\/cA0 K x y H Q\/cz7 x y H Q
theorem co6:IxR X (rIx X.K):=ix_list.or (ix_tup.or cp8)
theorem bE6 (its:List Value) (n j:Nat) (u:Value):Obj.mapSeq (·.setIfInBounds j u) { cls:=.type "list",data:=.seq its.toArray n }={ cls:=.type "list",data:=.seq (its.set j u).toArray n }:=by
 simp [Obj.mapSeq]
theorem Inv.lst {pins:List (Addr × Obj)} {σ:St} {H:Hp} {s:Shared} {p:Addr} {xs:List V} (I:Inv X pins σ H s) (h:H p=some (.lst xs)) :
  ∃(its:List Value) (n:Nat),Vals xs its/\s.heap.get? p=some { cls:=.type "list",data:=.seq its.toArray n }/\xs.length<=sizeLine:=by
 obtain ⟨z,its,n,r,e⟩:=I.hok p _ h
 exact ⟨its,n,r,e,z⟩
theorem Inv.lstUpd {pins:List (Addr × Obj)} {σ:St} {H:Hp} {s:Shared} {p:Addr} {xs ys:List V} {its its':List Value} {n n':Nat} {f:Obj->Obj} (I:Inv X pins σ H s) (h:H p=some (.lst xs))
  (ho:s.heap.get? p=some { cls:=.type "list",data:=.seq its.toArray n }) (hf:f { cls:=.type "list",data:=.seq its.toArray n }={ cls:=.type "list",data:=.seq its'.toArray n' }) (r:Vals ys its') (hz:ys.length<=sizeLine) (t:Nat) :
  Inv X pins σ (upd H p (.lst ys)) { s with heap:=s.heap.update p f,toks:=t }:=by
 have e:(s.heap.update p f).get? p=some { cls:=.type "list",data:=.seq its'.toArray n' }:=by
  rw [Heap.get?_update_self f ho (by rw [hf] <;> rfl),hf]
 refine I.write (x:=p) (e:=p) (by rw [h]; trivial) (.inl rfl) (λb u hb q=>(Heap.get?_update_other _ _ (Ne.symm hb)).trans q) ⟨_,e⟩ ?_
 exact ⟨hz,its',n',r,e⟩
noncomputable def cs6:V->V->V->Hp->(Hp->Prop)->Prop:=λo i v H Q=>∃p xs k j,o=.ref p/\i=.int k/\H p=some (.lst xs)/\ixN xs.length k=some j/\Q (upd H p (.lst (xs.set j v)))
theorem bQ7:cz4 X cs6:=by
 intro pins s σ H o i v ov iv u Q I ro ri rv h
 obtain ⟨p,xs,k,j,rfl,rfl,hp,hj,q⟩:=h
 cases ro
 obtain ⟨t,rfl⟩:=ri
 obtain ⟨its,n,r,ho,hz⟩:=I.lst hp
 obtain ⟨h1,h2,h3,h4⟩:=bL3 hj
 have hl:=r.length
 have hn:=bh3
 have I':Inv X pins σ (upd H p (.lst (xs.set j v))) { s with heap:=s.heap.update p (Obj.mapSeq (·.setIfInBounds j u)) } :=
  I.lstUpd hp ho (bE6 its n j u) (r.set rv j) (by rw [List.length_set]; exact hz) s.toks
 by_cases h0:0<=k
 ·have hk:k.toNat=j:=by
   rw [seqIndex_of h0 h4] at h1
   exact Option.some.inj h1
  exact PySem.W.ki_setAt ho h0 (by omega) (by rw [List.size_toArray,<- hl]; exact h4) (by rw [hk]; exact ⟨_,I',q⟩)
 ·have hk:(k + (its.toArray.size:Int)).toNat=j:=by
   rw [seqIndex_neg (by omega) h3] at h1
   rw [List.size_toArray,<- hl]
   exact Option.some.inj h1
  exact PySem.W.ki_setBack ho (by omega) (by rw [List.size_toArray,<- hl]; exact h3) (by omega) (by rw [hk]; exact ⟨_,I',q⟩)
theorem a59 (lo hi:Option Int) (n:Nat):(sliceBounds lo hi none n).1=((HT.sIx n 0 lo:Nat):Int)/\(sliceBounds lo hi none n).2.1=((HT.sIx n n hi:Nat):Int)/\(sliceBounds lo hi none n).2.2=1:=by
 refine ⟨?_,?_,rfl⟩
 ·cases lo with
  | none=>simp [sliceBounds,HT.sIx]
  | some i =>
   simp only [sliceBounds,HT.sIx,Option.getD_none,show (1:Int) > 0 by decide,if_true]
   by_cases h:i < 0
   ·simp only [h,if_true] <;> omega
   ·simp only [h,if_false] <;> omega
 ·cases hi with
  | none=>simp [sliceBounds,HT.sIx]
  | some i =>
   simp only [sliceBounds,HT.sIx,Option.getD_none,show (1:Int) > 0 by decide,if_true]
   by_cases h:i < 0
   ·simp only [h,if_true] <;> omega
   ·simp only [h,if_false] <;> omega
theorem bm2 (its:List Value) (lo hi:Option Int):slicePick its.toArray lo hi none=((its.drop (HT.sIx its.length 0 lo)).take (HT.sIx its.length its.length hi - HT.sIx its.length 0 lo)).toArray:=by
 obtain ⟨h1,h2,h3⟩:=a59 lo hi its.toArray.size
 unfold slicePick
 rw [h1,h2,h3]
 simp only [sliceRange_one,pick_run,List.size_toArray] <;> rfl
noncomputable def cB1 (K:PySem.W.Frag):V->Option Int->Option Int->Hp->VK->Prop:=λx lo hi H Q=>∃a xs,x=.ref a/\SqL K H a xs/\∀p,H p=none->Q (.ref p) (upd H p (.lst (ch1 xs lo hi)))
theorem sl_list:SlR X (cB1 X.K):=by
 intro pins s σ H x v vl vu lo hi sl Q I rx hs pl pu h
 obtain ⟨a,xs,rfl,hx,q⟩:=h
 cases rx
 obtain ⟨its,r,ht,hz⟩:=I.list hx
 have hlen:=r.length
 refine ⟨"list",_,slot_list_getitem.lookup,ht.isList.typeIs,?_⟩
 refine wpAny_getItem_list_slice ht.isList hs pl pu .none (by simp) ?_ (by rw [List.size_toArray] <;> omega)
 rw [bm2,<- hlen]
 refine ⟨.ref s.heap.objs.size,_,I.laid (t':=s.toks) (o:=.lst (ch1 xs lo hi)) (λb ob q=>Heap.get?_push_of_some _ q) (Nat.le_refl _) ?_,rfl,q _ (I.hok.fresh (Nat.le_refl _))⟩
 exact ⟨Nat.le_trans (bx0 xs lo hi) hz,_,0,(r.drop (HT.sIx xs.length 0 lo)).take (HT.sIx xs.length xs.length hi - HT.sIx xs.length 0 lo),Heap.get?_push_size _ rfl⟩
noncomputable def bm7:V->Bool
 | .non=>true
 | .bl _=>true
 | .int _=>true
 | .str _=>true
 | _=>false
noncomputable def eqV:V->V->Bool
 | .non,.non=>true
 | .bl a,.bl b=>a == b
 | .bl a,.int b=>(if a then 1 else 0) == b
 | .int a,.bl b=>a == (if b then 1 else 0)
 | .int a,.int b=>a == b
 | .str a,.str b=>a == b
 | _,_=>false
theorem cj1 {A:Around} {s:Shared} {y x:V} {u v:Value} (ry:RelV y u) (rx:RelV x v) (fy:bm7 y=true) (fx:bm7 x=true):SeqAt.EqAt A s u v (eqV y x):=by
 cases y with
 | non =>
  cases ry
  cases x with
  | non=>cases rx; exact SeqAt.EqAt.same _
  | bl b=>cases rx; exact SeqAt.EqAt.none_bool b
  | int b=>obtain ⟨t,rfl⟩:=rx; exact SeqAt.EqAt.none_int b t
  | str b=>obtain ⟨t,rfl⟩:=rx; exact SeqAt.EqAt.none_str b t
  | _=>exact absurd (show false=true from fx) Bool.false_ne_true
 | bl a =>
  cases ry
  cases x with
  | non=>cases rx; exact SeqAt.EqAt.bool_none a
  | bl b=>cases rx; exact SeqAt.EqAt.bool_bool a b
  | int b=>obtain ⟨t,rfl⟩:=rx; exact SeqAt.EqAt.bool_int a b t
  | str b=>obtain ⟨t,rfl⟩:=rx; exact SeqAt.EqAt.bool_str a b t
  | _=>exact absurd (show false=true from fx) Bool.false_ne_true
 | int a =>
  obtain ⟨t',rfl⟩:=ry
  cases x with
  | non=>cases rx; exact SeqAt.EqAt.int_none a t'
  | bl b=>cases rx; exact SeqAt.EqAt.int_bool a t' b
  | int b=>obtain ⟨t,rfl⟩:=rx; exact SeqAt.EqAt.int_int a t' b t
  | str b=>obtain ⟨t,rfl⟩:=rx; exact SeqAt.EqAt.int_str a t' b t
  | _=>exact absurd (show false=true from fx) Bool.false_ne_true
 | str a =>
  obtain ⟨t',rfl⟩:=ry
  cases x with
  | non=>cases rx; exact SeqAt.EqAt.str_none a t'
  | bl b=>cases rx; exact SeqAt.EqAt.str_bool a t' b
  | int b=>obtain ⟨t,rfl⟩:=rx; exact SeqAt.EqAt.str_int a t' b t
  | str b=>obtain ⟨t,rfl⟩:=rx; exact SeqAt.EqAt.str_str a t' b t
  | _=>exact absurd (show false=true from fx) Bool.false_ne_true
 | _=>exact absurd (show false=true from fy) Bool.false_ne_true
noncomputable def eqU (x:V) (u:Value):Bool:=match u with
 | .none=>eqV .non x
 | .bool b=>eqV (.bl b) x
 | .int i _=>eqV (.int i) x
 | .str z _=>eqV (.str z) x
 | _=>false
theorem bY7 {x y:V} {u:Value} (r:RelV y u) (f:bm7 y=true):eqU x u=eqV y x:=by
 cases y with
 | non=>cases r; rfl
 | bl b=>cases r; rfl
 | int i=>obtain ⟨t,rfl⟩:=r; rfl
 | str z=>obtain ⟨t,rfl⟩:=r; rfl
 | _=>exact absurd (show false=true from f) Bool.false_ne_true
theorem bu1 {x:V}:∀{xs:List V} {us:List Value},Vals xs us->xs.all bm7=true->us.any (eqU x)=xs.any λy=>eqV y x
 | _,_,.nil,_=>rfl
 | y :: xs,u :: us,.cons r t,f=>by
  rw [List.all_cons,Bool.and_eq_true] at f
  rw [List.any_cons,List.any_cons,bY7 r f.1,bu1 t f.2]
theorem bm6 {A:Around} {s:Shared} {x:V} {v:Value} (rx:RelV x v) (fx:bm7 x=true):∀{xs:List V} {us:List Value},Vals xs us->xs.all bm7=true->∀u∈us,SeqAt.EqAt A s u v (eqU x u)
 | _,_,.nil,_=>λu hu=>by cases hu
 | y :: xs,u :: us,.cons r t,f=>λu' hu=>by
  rw [List.all_cons,Bool.and_eq_true] at f
  rcases List.mem_cons.mp hu with rfl | hu
  ·rw [bY7 r f.1]; exact cj1 r rx f.1 fx
  ·exact bm6 rx fx t f.2 u' hu
noncomputable def inV (x:V) (xs:List V):Bool:=xs.any λy=>eqV y x
noncomputable def rIn (K:PySem.W.Frag) (neg:Bool):R2:=λx y H Q=>∃p xs,y=.ref p/\(SqL K H p xs\/SqT K H p xs)/\bm7 x=true/\xs.all bm7=true/\Q (.bl (if neg then !inV x xs else inV x xs)) H
theorem br0:OpR X (compareOp .NotIn) (rIn X.K true):=by
 intro pins s σ H x y v u Q I rx ry h
 obtain ⟨p,xs,rfl,hq,fx,fs,q⟩:=h
 cases ry
 rcases hq with hq | hq
 ·obtain ⟨its,r,pl,hz⟩:=I.list hq
  refine SeqAt.notIn_listAt (eqU x) pl.isList (λw hw=>bm6 rx fx r fs w (by simpa using hw)) ⟨.bl _,H,I,rfl,?_⟩
  rw [show its.toArray.any (eqU x)=its.any (eqU x) by simp,bu1 r fs]
  exact q
 ·obtain ⟨its,r,pl,hz⟩:=I.tuple hq
  refine SeqAt.notIn_tupleAt (eqU x) pl (λw hw=>bm6 rx fx r fs w (by simpa using hw)) ⟨.bl _,H,I,rfl,?_⟩
  rw [show its.toArray.any (eqU x)=its.any (eqU x) by simp,bu1 r fs]
  exact q
theorem call_len_seq:CallR X (.builtin "len") (λxs H Q=>∃p ys,xs=[.ref p]/\(SqL X.K H p ys\/SqT X.K H p ys)/\Q (.int ys.length) H):=by
 intro pins s σ H xs us Q I r h
 obtain ⟨p,ys,rfl,hq,q⟩:=h
 obtain ⟨u,rfl,rx⟩:=ce1 r
 cases rx
 have hn:=bh3
 rcases hq with hq | hq
 ·obtain ⟨its,r',pl,hz⟩:=I.list hq
  have hlen:=r'.length
  exact Calls.call_len_list pl.isList (by simp only [List.size_toArray] <;> omega) ⟨.int ys.length,H,I.tok _,⟨s.toks + 1,by rw [List.size_toArray,hlen]⟩,q⟩
 ·obtain ⟨its,r',pl,hz⟩:=I.tuple hq
  have hlen:=r'.length
  exact len_tuple pl (by simp only [List.size_toArray] <;> omega) ⟨.int ys.length,H,I.tok _,⟨s.toks + 1,by rw [List.size_toArray,hlen]⟩,q⟩
theorem bo7:CallR X (.builtin "len") (λxs H Q=>∃z,xs=[.str z]/\z.length<=sizeLine/\Q (.int z.length) H):=by
 intro pins s σ H xs us Q I r h
 obtain ⟨z,rfl,hz,q⟩:=h
 obtain ⟨u,rfl,t,rfl⟩:=ce1 r
 have hn:=bh3
 exact len_str (by omega) ⟨.int z.length,H,I.tok _,⟨_,rfl⟩,q⟩
theorem CallR.or {f:Value} {r r':List V->Hp->VK->Prop} (h:CallR X f r) (h':CallR X f r'):CallR X f (λxs H Q=>r xs H Q\/r' xs H Q):=by
 intro pins s σ H xs us Q I rs q
 rcases q with q | q
 ·exact h pins s σ H xs us Q I rs q
 ·exact h' pins s σ H xs us Q I rs q
theorem bt0:CallR X (.type "list") (λxs H Q=>∃p ys,xs=[.ref p]/\(SqL X.K H p ys\/SqT X.K H p ys)/\∀l,H l=none->Q (.ref l) (upd H l (.lst ys))):=by
 intro pins s σ H xs us Q I r h
 obtain ⟨p,ys,rfl,hq,q⟩:=h
 obtain ⟨u,rfl,rx⟩:=ce1 r
 cases rx
 have fin:∀(its:List Value),Vals ys its->ys.length<=sizeLine->∀(h':Heap) (c':Nat),(∀b o',s.heap.get? b=some o'->h'.get? b=some o') ->
   h'.get? s.heap.objs.size=some { cls:=.type "list",dict:=none,data:=.seq its.toArray c',slots:=#[] }->EP X pins σ Q (.ref s.heap.objs.size) { s with heap:=h' }:=λits r' hz h' c' kp e =>
  ⟨.ref s.heap.objs.size,_,I.laid (t':=s.toks) kp (Nat.le_refl _) (show ObjOk X.prog X.w _ h' _ (.lst ys) from ⟨hz,its,c',r',e⟩),rfl,q _ (I.hok.fresh (Nat.le_refl _))⟩
 rcases hq with hq | hq
 ·obtain ⟨its,r',pl,hz⟩:=I.list hq
  have hlen:=r'.length
  obtain ⟨o,ho,hc,n,hd⟩:=pl.isList
  exact call_list_seq p (.inl rfl) ho hc hd (λh' c' kp e=>fin its r' hz h' c' kp e) (by simp only [List.size_toArray] <;> omega)
 ·obtain ⟨its,r',pl,hz⟩:=I.tuple hq
  have hlen:=r'.length
  obtain ⟨o,ho,hc,n,hd⟩:=pl
  exact call_list_seq p (.inr rfl) ho hc hd (λh' c' kp e=>fin its r' hz h' c' kp e) (by simp only [List.size_toArray] <;> omega)
noncomputable def tyV (K:PySem.W.Frag) (T:String) (x:V) (H:Hp):Prop:=match x with
 | .str _=>T="str"
 | .int _=>T="int"
 | .ref p=>(T="list"/\∃xs,SqL K H p xs)\/(T="tuple"/\∃o,K.lookup p=some o/\o.cls=.type "tuple"/\o.dict=none) \/
   (T="dict"/\((∃kvs,H p=some (.dK kvs))\/∃kvs,H p=some (.dT kvs)))\/(T="set"/\∃S n,H p=some (.set S n))
 | _=>False
theorem bY6 {pins:List (Addr × Obj)} {σ:St} {H:Hp} {s:Shared} {T:String} {x:V} {v:Value} (I:Inv X pins σ H s) (r:RelV x v) (ty:tyV X.K T x H) :
  s.TypeIs v T/\∀a,v=.ref a->∃ob,s.heap.get? a=some ob/\ob.dict=none:=by
 cases x with
 | str z =>
  obtain ⟨t,rfl⟩:=r
  cases (show T="str" from ty)
  exact ⟨typeIs_str s z t,λ_ e=>nomatch e⟩
 | int i =>
  obtain ⟨t,rfl⟩:=r
  cases (show T="int" from ty)
  exact ⟨typeIs_int s i t,λ_ e=>nomatch e⟩
 | ref p =>
  cases r
  rcases ty with ⟨rfl,xs,hq⟩ | ⟨rfl,o,hk,hc,hd⟩ | ⟨rfl,hk⟩ | ⟨rfl,S,n,hk⟩
  ·obtain ⟨its,_,pl,_⟩:=I.list hq
   refine ⟨pl.isList.typeIs,λa e=>?_⟩
   cases e
   obtain ⟨o,n,e,c,hd,_⟩:=pl
   exact ⟨o,e,hd⟩
  ·refine ⟨⟨o,I.kIn p o hk,hc⟩,λa e=>?_⟩
   cases e
   exact ⟨o,I.kIn _ o hk,hd⟩
  ·have z:∃o,s.heap.get? p=some o/\o.ExactDict:=by
    rcases hk with ⟨kvs,hk⟩ | ⟨kvs,hk⟩
    ·obtain ⟨_,_,_,_,o,_,_,e,ex,_⟩:=I.hok p _ hk
     exact ⟨o,e,ex⟩
    ·obtain ⟨_,_,_,_,o,_,_,e,ex,_⟩:=I.hok p _ hk
     exact ⟨o,e,ex⟩
   obtain ⟨o,e,ex⟩:=z
   refine ⟨⟨o,e,ex.1⟩,λa e2=>?_⟩
   cases e2
   exact ⟨o,e,ex.2.1⟩
  ·obtain ⟨o,_,_,_,e,ex,_⟩:=I.hok p _ hk
   refine ⟨⟨o,e,ex.1⟩,λa e2=>?_⟩
   cases e2
   exact ⟨o,e,ex.2.1⟩
 | _=>exact False.elim ty
noncomputable def cy7 (K:PySem.W.Frag) (T:String) (r:V->List V->Hp->VK->Prop) (to:TE):TE:=λσ H Q=>to σ H λx H1=>tyV K T x H1/\r x [] H1 Q
noncomputable def tBM (K:PySem.W.Frag) (T:String) (r:V->List V->Hp->VK->Prop) (to:TE) (t:TA):TE:=λσ H Q=>to σ H λx H1=>tyV K T x H1/\t σ H1 λxs H2=>r x xs H2 Q
variable {o e:Expr} {es:List Expr} {to:TE} {t:TA} {name:Str} {apos cpos:Pos} {T id:String} {r:V->List V->Hp->VK->Prop}
theorem bL2 (pa:PlainAttrs T) (slot:Slot T name id) (hty:typeOf (.builtin id)=pure (.type "method_descriptor")) (hm:MtR X id r) (ho:PE X o to)
  (hbase:attributeBase o name X.env (eval o X.env)=eval o X.env:=by rfl) (hline:(apos.endLine == cpos.line)=true:=by rfl):PE X (.Call (.Attribute o name apos) [] [] cpos) (cy7 X.K T r to):=by
 intro pins s σ H Q I h
 refine wpAny_Call_method0_late hbase hline (thn (ho pins s σ H _ I h) λv s1 ⟨x,H1,I1,r1,ty,q1⟩=>?_)
 obtain ⟨h1,h2⟩:=bY6 I1 r1 ty
 exact ⟨T,id,pa,slot,hty,h1,h2,Calls.callWith_builtin rfl (PySem.evalArgs_none (hm pins s1 σ H1 x [] v [] Q I1 r1 .nil q1))⟩
theorem cx7 (pa:PlainAttrs T) (slot:Slot T name id) (hty:typeOf (.builtin id)=pure (.type "method_descriptor")) (hm:MtR X id r) (ho:PE X o to) (ha:PA X (e :: es) t)
  (hbase:attributeBase o name X.env (eval o X.env)=eval o X.env:=by rfl)
  (hfew:((backTo cpos (starEach (e :: es) X.env)).all (λx=>!x.1) && (backToKw cpos (keywordEach [] X.env)).all (λx=>x.1.isSome)
   && decide ((e :: es).length + ([]:List Keyword).length + (if ([]:List Keyword).isEmpty then 0 else 1) < 30))=true:=by rfl)
  (hline:(apos.endLine == cpos.line)=true:=by rfl) (hs:starEach (e :: es) X.env=(false,eval e X.env) :: starEach es X.env:=by rfl) (hplain:(backTo cpos (starEach es X.env)).any (·.1)=false:=by rfl) :
  PE X (.Call (.Attribute o name apos) (e :: es) [] cpos) (tBM X.K T r to t):=by
 intro pins s σ H Q I h
 refine wpAny_Call_method_late hbase hfew hline rfl (thn (ho pins s σ H _ I h) λv s1 ⟨x,H1,I1,r1,ty,q1⟩=>?_)
 obtain ⟨h1,h2⟩:=bY6 I1 r1 ty
 refine ⟨T,id,pa,slot,hty,h1,h2,?_⟩
 have hA:=ha cpos pins s1 σ H1 _ I1 q1
 rw [hs] at hA ⊢
 refine Calls.callWith_builtin (by show (false || (backTo cpos (starEach es X.env)).any (·.1))=false; rw [hplain] <;> rfl) (Calls.evalArgs_plain ?_)
 exact thn hA λus s2 ⟨vs,H2,I2,r2,q2⟩=>hm pins s2 σ H2 x vs v us Q I2 r1 r2 q2
/- xs.append(e),list.index on a module's tuple .. are MtR facts of 06m -/
end
end L2
namespace L2
open PySem PySem.Spec PyProof.Rows
noncomputable def MtM (X:Cx) (id:String) (r:V->List V->Hp->VK->Prop):Prop :=
 ∀(pins:List (Addr × Obj)) (s:Shared) (σ:St) (H:Hp) (x:V) (xs:List V) (v:Value) (us:List Value) (Q:VK),Inv X pins σ H s->RelV x v->Vals xs us->r x xs H Q ->
  wpAny (model X.prog X.w) X.A (call (.builtin id) (v :: us)) (EP X pins σ Q) X.xe s
theorem Vals.one:∀{x:V} {us:List Value},Vals [x] us->∃u,us=[u]/\RelV x u
 | _,_,.cons r .nil=>⟨_,rfl,r⟩
theorem Vals.two:∀{x y:V} {us:List Value},Vals [x,y] us->∃u v,us=[u,v]/\RelV x u/\RelV y v
 | _,_,_,.cons r (.cons q .nil)=>⟨_,_,rfl,r,q⟩
theorem Vals.zero:∀{us:List Value},Vals [] us->us=[]
 | _,.nil=>rfl
theorem Vals.dropLast {xs:List V} {us:List Value} (h:Vals xs us):Vals xs.dropLast us.dropLast:=by
 induction h with
 | nil=>exact .nil
 | cons r t ih =>
  cases t with
  | nil=>exact .nil
  | cons q t'=>exact .cons r ih
theorem Vals.eraseIdx:∀{xs:List V} {us:List Value} (i:Nat),Vals xs us->Vals (xs.eraseIdx i) (us.eraseIdx i)
 | _,_,_,.nil=>.nil
 | _,_,0,.cons _ t=>t
 | _,_,i + 1,.cons r t=>.cons r (Vals.eraseIdx i t)
theorem Vals.reverse {xs:List V} {us:List Value} (h:Vals xs us):Vals xs.reverse us.reverse:=by
 induction h with
 | nil=>exact .nil
 | cons r t ih=>rw [List.reverse_cons,List.reverse_cons]; exact Vals.append ih (.cons r .nil)
theorem Vals.rep {xs:List V} {us:List Value} (h:Vals xs us):∀k:Nat,Vals (List.replicate k xs).flatten (List.replicate k us).flatten
 | 0=>.nil
 | k + 1=>by
  rw [List.replicate_succ,List.replicate_succ,List.flatten_cons,List.flatten_cons]
  exact Vals.append h (Vals.rep h k)
theorem bC6 {α:Type} (l:List α):l.eraseIdx (l.length - 1)=l.dropLast:=by
 induction l with
 | nil=>rfl
 | cons a r ih =>
  cases r with
  | nil=>rfl
  | cons b r =>
   have e:(a :: b :: r).length - 1=((b :: r).length - 1) + 1:=by
    have h1:(a :: b :: r).length=r.length + 2:=rfl
    have h2:(b :: r).length=r.length + 1:=rfl
    omega
   rw [e,List.eraseIdx_cons_succ,ih]
   all_goals rfl
theorem bq9 (its:List Value):∀(k:Nat) (acc:List Value),
  List.foldl (λx1 x2=>x1++x2) acc.toArray (List.replicate k its.toArray)=(acc++(List.replicate k its).flatten).toArray
 | 0,acc=>by simp
 | k + 1,acc=>by
  have e:acc.toArray++its.toArray=(acc++its).toArray:=by simp
  have e2:(acc++its)++(List.replicate k its).flatten=acc++(List.replicate (k + 1) its).flatten:=by
   rw [List.replicate_succ,List.flatten_cons,List.append_assoc]
  rw [<-e2,<- bq9 its k (acc++its),<- e,List.replicate_succ,List.foldl_cons]
section
variable {X:Cx} {pins:List (Addr × Obj)} {σ:St} {H:Hp} {s:Shared} {l b:Addr} {xs ys zs:List V}
theorem Inv.lset {its its':List Value} {n:Nat} {f:Array Value->Array Value} {t':Nat} (I:Inv X pins σ H s) (hH:H l=some (.lst xs))
  (e:s.heap.get? l=some { cls:=.type "list",data:=.seq its.toArray n }) (hf:f its.toArray=its'.toArray) (hv:Vals ys its') (hz:ys.length<=sizeLine) :
  Inv X pins σ (upd H l (.lst ys)) { s with heap:=s.heap.update l (Obj.mapSeq f),toks:=t' }:=by
 have q:=PySem.IsL.update e f
 rw [hf] at q
 refine I.write (x:=l) (e:=l) (by rw [hH]; exact trivial) (.inl rfl) (λb' u hb hu=>(Heap.get?_update_other s.heap (Obj.mapSeq f) (Ne.symm hb)).trans hu) ⟨_,q⟩ ?_
 exact ⟨hz,its',_,hv,q⟩
theorem Inv.lnew {its:List Value} {t':Nat} (I:Inv X pins σ H s) (hv:Vals ys its) (hz:ys.length<=sizeLine) :
  Inv X pins σ (upd H s.heap.objs.size (.lst ys)) { s with heap:=s.heap.push { cls:=.type "list",data:=.seq its.toArray },toks:=t' } :=
 I.laid (λ_ _ q=>Heap.get?_push_of_some _ q) (Nat.le_refl _) ⟨hz,its,0,hv,Heap.get?_push_size _ rfl⟩
theorem Inv.fresh (I:Inv X pins σ H s):H s.heap.objs.size=none:=I.hok.fresh (Nat.le_refl _)
theorem Inv.lstM (I:Inv X pins σ H s) (hH:H l=some (.lst xs)):xs.length<=sizeLine/\∃(its:List Value) (n:Nat),Vals xs its/\xs.length=its.length/\s.heap.get? l=some { cls:=.type "list",data:=.seq its.toArray n }:=by
 obtain ⟨z,its,n,r,e⟩:=I.hok l _ hH
 exact ⟨z,its,n,r,r.length,e⟩
theorem bR1 {n:Nat} (h:n<=sizeLine):Builtin.List.listTooLong n=false:=by
 unfold Builtin.List.listTooLong
 exact decide_eq_false (by omega)
end
section
variable {X:Cx}
noncomputable def cc9:V->List V->Hp->VK->Prop:=λx vs H Q=>∃l xs y,x=.ref l/\vs=[y]/\H l=some (.lst xs)/\xs.length < sizeLine/\Q .non (upd H l (.lst (xs++[y])))
theorem bs7:MtM X "list.append" cc9:=by
 intro pins s σ H x vs v us Q I rx rv h
 obtain ⟨l,xs,y,rfl,rfl,hH,hz,q⟩:=h
 cases rx
 obtain ⟨u,rfl,ru⟩:=rv.one
 obtain ⟨z,its,n,r,hl,e⟩:=I.lstM hH
 refine call_meets F.slot_list_append ⟨_,e,rfl⟩ F.entry_list_append (F.args_list_append_2 _ _) (PySem.list_append l its.toArray n u (by rw [List.size_toArray]; omega)) ⟨e,?_⟩
 refine ⟨.non,_,I.lset (its':=its++[u]) hH e (by simp) (r.append (.cons ru .nil)) ?_,rfl,q⟩
 rw [List.length_append,List.length_singleton]
 omega
noncomputable def cC4:V->List V->Hp->VK->Prop:=λx vs H Q=>∃l xs y,x=.ref l/\vs=[]/\H l=some (.lst xs)/\xs[xs.length - 1]?=some y/\Q y (upd H l (.lst xs.dropLast))
theorem cn7:MtM X "list.pop" cC4:=by
 intro pins s σ H x vs v us Q I rx rv h
 obtain ⟨l,xs,y,rfl,rfl,hH,hy,q⟩:=h
 cases rx
 have hus:=rv.zero
 subst hus
 obtain ⟨z,its,n,r,hl,e⟩:=I.lstM hH
 obtain ⟨u,hu,ru⟩:=r.get hy
 have hy':its.toArray[its.toArray.size - 1]?=some u:=by
  show its.toArray[its.length - 1]?=some u
  rw [<-Array.getElem?_toList,<- hl]
  exact hu
 refine call_meets F.slot_list_pop ⟨_,e,rfl⟩ F.entry_list_pop (F.args_list_pop_1 _) (MeetsSeq.list_pop_last l its.toArray n u hy' (by rw [List.size_toArray]; omega)) ⟨e,?_⟩
 refine ⟨y,_,I.lset (its':=its.dropLast) hH e ?_ r.dropLast ?_,ru,q⟩
 ·show its.toArray.eraseIdxIfInBounds (its.toArray.size - 1)=its.dropLast.toArray
  rw [List.size_toArray,List.eraseIdxIfInBounds_toArray,bC6]
 ·rw [List.length_dropLast]
  omega
noncomputable def bW4:V->List V->Hp->VK->Prop:=λx vs H Q=>∃l xs,x=.ref l/\vs=[]/\H l=some (.lst xs)/\Q .non (upd H l (.lst xs.reverse))
theorem bD4:MtM X "list.reverse" bW4:=by
 intro pins s σ H x vs v us Q I rx rv h
 obtain ⟨l,xs,rfl,rfl,hH,q⟩:=h
 cases rx
 have hus:=rv.zero
 subst hus
 obtain ⟨z,its,n,r,hl,e⟩:=I.lstM hH
 refine call_meets F.slot_list_reverse ⟨_,e,rfl⟩ F.entry_list_reverse (F.args_list_reverse_1 _) (AutoSeq1.list_reverse_list_0 l its.toArray n (by rw [List.size_toArray]; omega)) ⟨e,?_⟩
 refine ⟨.non,_,I.lset (its':=its.reverse) hH e (by simp) r.reverse ?_,rfl,q⟩
 rw [List.length_reverse]
 omega
noncomputable def cB4:R2:=λx y H Q=>∃l b xs zs,x=.ref l/\y=.ref b/\H l=some (.lst xs)/\H b=some (.lst zs)/\xs.length + zs.length<=sizeLine/\∀p,H p=none->Q (.ref p) (upd H p (.lst (xs++zs)))
theorem b53:OpR X (binaryOp .Add) cB4:=by
 intro pins s σ H x y v u Q I rx ry h
 obtain ⟨l,b,xs,zs,rfl,rfl,hH,hB,hz,q⟩:=h
 cases rx
 cases ry
 obtain ⟨z,its,n,r,hl,e⟩:=I.lstM hH
 obtain ⟨z2,its2,n2,r2,hl2,e2⟩:=I.lstM hB
 refine PySem.P.add_list e e2 ?_ (by rw [List.size_toArray,List.size_toArray]; omega)
 have ea:its.toArray++its2.toArray=(its++its2).toArray:=by simp
 rw [ea]
 exact ⟨.ref _,_,I.lnew (t':=s.toks) (r.append r2) (by rw [List.length_append]; omega),rfl,q _ I.fresh⟩
noncomputable def cB5:R2:=λx y H Q=>∃l k xs,x=.ref l/\y=.int k/\H l=some (.lst xs)/\-(2 ^ 63)<=k/\k < 2 ^ 63/\xs.length * k.toNat<=sizeLine /\
 ∀p,H p=none->Q (.ref p) (upd H p (.lst (List.replicate k.toNat xs).flatten))
theorem cf8 {α:Type} (xs:List α) (k:Nat):(List.replicate k xs).flatten.length=k * xs.length:=by
 induction k with
 | zero=>simp
 | succ k ih=>rw [List.replicate_succ,List.flatten_cons,List.length_append,ih,Nat.succ_mul,Nat.add_comm]
theorem co7:OpR X (binaryOp .Mult) cB5:=by
 intro pins s σ H x y v u Q I rx ry h
 obtain ⟨l,k,xs,rfl,rfl,hH,h1,h2,hz,q⟩:=h
 cases rx
 obtain ⟨t,rfl⟩:=ry
 obtain ⟨z,its,n,r,hl,e⟩:=I.lstM hH
 have hlen:its.toArray.size * k.toNat<=sizeLine:=by rw [List.size_toArray,<- hl]; exact hz
 have hcap:¬ its.toArray.size * k.toNat > (2 ^ 63 - 1) / 8:=by
  have:(sizeLine:Nat)<=(2 ^ 63 - 1) / 8:=by decide
  omega
 have hfit:¬ (!Builtin.List.listFitsIndex k)=true:=by
  rw [fitsIndex_both h1 h2]
  exact Bool.false_ne_true
 have hlong:¬ Builtin.List.listTooLong (its.toArray.size * k.toNat)=true:=by
  rw [bR1 hlen]
  exact Bool.false_ne_true
 have hnew:List.foldl (λx1 x2=>x1++x2) #[] (List.replicate (if its.toArray.isEmpty=true then 0 else k.toNat) its.toArray)=(List.replicate k.toNat its).flatten.toArray:=by
  have f0:∀m:Nat,List.foldl (λx1 x2=>x1++x2) #[] (List.replicate m its.toArray)=(List.replicate m its).flatten.toArray:=λm=>by
   have:=bq9 its m []
   rw [List.nil_append] at this
   exact this
  rw [f0]
  cases its with
  | nil=>simp
  | cons a r'=>rw [if_neg (by simp)]
 refine wpAny_binaryOp_repeat_ref (T:="list") (U:="int") (by decide) ⟨_,e,rfl⟩ (λs'=>typeIs_int s' k t) noFill_list_mul F.fills_int_mul F.slot_int_rmul repeat_list F.slot_int_index.lookup
  (call_meets F.slot_int_rmul (typeIs_int s k t) F.entry_int_rmul (F.args_int_rmul_2 _ _) (int___rmul___int_list k t l its.toArray n)
   ⟨e,rfl,⟨_,e,rfl⟩,call_meets F.slot_list_mul ⟨_,e,rfl⟩ F.entry_list_mul (F.args_list_mul_2 _ _) (AutoListH.list___mul___list_int_3 l its.toArray n k t hfit hcap hlong) ⟨e,?_⟩⟩)
 rw [hnew]
 exact ⟨.ref _,_,I.lnew (t':=s.toks) (r.rep k.toNat) (by rw [cf8,Nat.mul_comm]; exact hz),rfl,q _ I.fresh⟩
end
section
variable {prog:Program} {w:World} {A:Around} {E:Value->Shared->Prop} {s:Shared}
end
section
variable {X:Cx}
end
end L2
namespace Att
open PySem PySem.W PySem.Calls PyProof.Rows
theorem bh4 {P:Params} {h:Heap}:∀(ns:List Int) (vs:List Value),WellAll P h vs (ns.map WData.int)->IntsAre vs ns:=by
 intro ns
 induction ns with
 | nil =>
  intro vs w
  rw [List.map_nil] at w
  cases w
  exact .nil
 | cons n ns ih =>
  intro vs w
  rw [List.map_cons] at w
  cases w with
  | cons a b =>
   cases a
   exact .cons _ _ (ih _ b)
theorem bL4 {l:OpenLaw} {n:Nat} (hn:l.most=some n) {P:Params} {h:Heap} {args:List WData} {vals:List Value}
  (hpre:l.row.toRowW.claim.pre args=true) (hwl:WellAll P h vals args) :
  ∃a vs ns,vals=[Value.ref a]/\args=[WData.list (ns.map WData.int)]/\h.get? a=some { cls:=.type "list",data:=.seq vs.toArray }/\IntsAre vs ns/\ns.length<=n:=by
 have hsh:WShape.hasAll [] args [.list .int]=true:=(pre_splitW hpre).1
 have hc:l.pre.holds [] { args:=args }=true:=(pre_splitW hpre).2
 obtain ⟨d,r,rfl,h1,h2⟩:=hasAllW_cons hsh
 obtain rfl:=hasAllW_nil h2
 obtain ⟨xs,rfl,h3⟩:=hasW_list h1
 obtain ⟨ns,rfl⟩:=items_int h3
 have hlen:ns.length<=n:=by
  unfold OpenLaw.pre at hc
  have h4:(WTm.not (.lt (.lit (.int (n:Int))) (.len (.arg 0)))).holds [] { args:=[.list (ns.map .int)] }=true:=by
   have h4:=(holds_andW hc).1
   rw [hn] at h4
   exact h4
  have h5:=condW_of h4 (w_not (w_lt w_lit (w_len_list (w_arg rfl))))
  rw [List.length_map] at h5
  refine Nat.le_of_not_lt λq=>?_
  have q':(n:Int) < ((ns.length:Nat):Int):=by omega
  first
   | (rw [decide_eq_true q'] at h5; exact absurd h5 (by decide))
   | (simp at h5; omega)
 cases hwl with
 | cons w1 w2 =>
  cases w2
  cases w1 with
  | list ho hall=>exact ⟨_,_,ns,rfl,rfl,ho,bh4 ns _ hall,hlen⟩
theorem bG6 (l:OpenLaw) (args:List WData):l.row.toRowW.claim.post args (.bool true) args=true :=
 postW_of (r:=l.row.toRowW) (X:=(true == true))
  (show WShape.has [] (.bool true) .bool=true by first | rfl | decide | simp [WShape.has,WShape.arms,WShape.armsAll])
  (show (WTm.eq .res (.lit (.bool true))).value [] { args:=args,res:=some (.bool true),after:=args }=some (.bool (true == true)) from w_eq_bool (w_res rfl) w_lit) rfl
theorem attach_call {l:OpenLaw} {n:Nat} {q:Program} {loose:List Str} {XP:(Str->Option Value)->Heap->Prop} {YP:World->Heap->Prop} {d:DefRec}
  (hn:l.most=some n) (hdf:d.params.defaults=[])
  (call:∀(w:World) (s₀ s₁:Shared) (mg mb:Str->Option Value) (fa:Addr) (o:Obj) (pm cd doc:Value) (a:Addr) (vs:List Value) (ns:List Int),
   Ground q loose [] XP w s₀ mg mb s₁.heap->YP w s₁.heap ->
   s₁.heap.get? fa=some o->o.data=.func (docDef d.name d.params d.body d.scope pm cd doc)->s₁.heap.CodeRec cd d.name->mg d.name=some (.ref fa) ->
   s₁.heap.get? a=some { cls:=.type "list",data:=.seq vs.toArray }->IntsAre vs ns->ns.length<=n->s₁.gens=#[] ->
   codeAny (model l.prog w) callerA (.call (.ref fa) ⟨[.ref a],[]⟩) (λr s'=>r=.ok (.ret (.bool true))/\OldK s₁.heap s'.heap/\s'.os=s₁.os/\AllBare s'.gens) s₁) :
  WalkO q loose XP YP l.row.toRowW d [] (λf vs=>PySem.call f vs):=by
 intro w s₀ s₁ mg mb G Y fa o pm cd doc dV kV ho hd hcd hD hmg hg args vals as hpre hlay hrd hwl hlo
 obtain rfl:dV=.none:=Dflts.none hD hdf
 obtain rfl:kV=.none:=Dflts.noKw hD
 obtain ⟨a,vs,ns,rfl,rfl,hobj,hints,hlen⟩:=bL4 hn hpre hwl
 refine enter_call (codeAny_mono (call w s₀ s₁ mg mb fa o pm cd doc a vs ns G Y ho (fd_plain hd) hcd hmg hobj hints hlen hg) λr s' hq=>?_)
 obtain ⟨rfl,h2,h3,h4⟩:=hq
 exact ⟨.inl ⟨.bool true,.bool true,[],rfl,λ_=>rfl,.bool true,bG6 l _,λ_=>⟨List.Pairwise.nil,λ_ hm=>(nomatch hm)⟩⟩,h2,h3,h4⟩
section
variable {prog:Program} {w:World} {A:Around} {E:Value->Shared->Prop} {s:Shared} {K:Frag}
noncomputable def cz1 (h:Heap) (L d:Addr):List (Addr × Obj):=(List.range h.objs.size).filterMap λa=>if a=L\/a=d then none else (h.get? a).map λo=>(a,o)
end
end Att
namespace L2
open PySem PySem.Spec PyProof.Rows
theorem bs5:∀{vs:List Value} {ns:List Int},IntsAre vs ns->Vals (ns.map V.int) vs
 | _,_,.nil=>.nil
 | _,_,.cons n t h=>.cons ⟨t,rfl⟩ (bs5 h)
end L2
namespace L2
open PySem PySem.Spec PyProof.Rows
end L2
/- THE LAST THEOREM (shape; LID,My.* are yours):
   My.Adr: a structure of the addresses that your layer names (classes,functions); My.Txt K t: a structure (Prop) of the equations over K;
   My.txt_mk:{K} {implicit addresses ..} (e1:nsIn K mainGlobals "law"=some (some (.ref f))) (e2:K.lookup f=some ⟨oc,od,.func (fnOf "law" "law" params body scope dV kV doc pm an cdv ct),sl⟩) (e3:codeIn K cdv "law"=true) ..:∃t,My.Txt K t
(the tactic k_is has no namespace: write k_is) -/
namespace L2
open PySem PySem.Spec PyProof.Rows
noncomputable def aV9 (s:Stmt) (j:Nat):Stmt:=match s with
 | .ClassDef _ _ _ body _ _ _ _ _ _ _=>body.getD j (.Pass ⟨0,0,0,0⟩)
 | _=>.Pass ⟨0,0,0,0⟩
noncomputable def aP3 (s:Stmt):Arguments:=match s with
 | .FunctionDef _ a _ _ _ _ _ _ _ _=>a
 | _=>{ posonlyargs:=[],args:=[],vararg:=none,kwonlyargs:=[],kw_defaults:=[],kwarg:=none,defaults:=[] }
noncomputable def aO9 (s:Stmt):List Stmt:=match s with
 | .FunctionDef _ _ b _ _ _ _ _ _ _=>b
 | _=>[]
noncomputable def aO3 (s:Stmt):Scope:=match s with
 | .FunctionDef _ _ _ _ _ _ sc _ _ _=>sc
 | _=>{ kind:=.function,names:=[],isGenerator:=false,isCoroutine:=false }
noncomputable abbrev CX0:CXT:=λ_ _ _ _ _ _=>False
noncomputable abbrev E0:XK:=λ_ _ _=>False
theorem aQ7 {X:Cx}:a93 CX0 X E0:=λ_ _ _ _ _ _ _ h=>h.elim
structure Fun (K:PySem.W.Frag) (x qual:Str) (st:Stmt) (f:Addr) (fd:FuncData):Prop where
 ex:∃(oc:Value) (od:Option Addr) (kV doc pm:Value) (an:Option Addr) (cdv ct:Value) (osl:Array (Option Value)),
  fd=PySem.W.fnOf x qual (aP3 st) (aO9 st) (aO3 st) .none kV doc pm an cdv ct/\K.lookup f=some ⟨oc,od,.func fd,osl⟩/\PySem.W.codeIn K cdv qual=true
 kp:PySem.W.keepIn K (.ref f)=true
section
variable {P:Program} {w:World} {K:PySem.W.Frag} {mg:Str->Option Value} {base:Heap}
theorem Fun.ok {x qual:Str} {st:Stmt} {f:Addr} {fd:FuncData} {N ps:List Str} {k:Nat} {sp:Sp} (F:Fun K x qual st f fd) (S:FnScope N ps (aO3 st)) (len:∀vs H Q E,sp vs H Q E->vs.length=ps.length)
  (hbody:∀(cdv:Value) (A:Around) (outer:List Env) (s:Shared) (H:Hp) (vs:List V) (Q:VK) (E:XK),Room k (A.deeper (envOfC qual (aO3 st) s.heap.objs.size f cdv))->sp vs H Q E ->
   ∃t,PSs (bB2 CX0 P w K mg base N qual (aO3 st) f cdv A outer s H E).nox (aO9 st) t/\t { nx:=λ_ H'=>Q .non H',rt:=Q } (start N vs) H):FnOk P w K mg base CX0 (k + 1) f fd ps sp:=by
 obtain ⟨oc,od,kV,doc,pm,an,cdv,ct,osl,rfl,lk,hcd⟩:=F.ex
 refine cc2 lk hcd S len λA outer s H vs Q E hr hsp=>?_
 obtain ⟨t,h,q⟩:=hbody cdv A outer s H vs Q E hr hsp
 exact ⟨t,h.nox,q⟩
theorem Fun.binds {x qual:Str} {st:Stmt} {f:Addr} {fd:FuncData} {ps:List Str} (F:Fun K x qual st f fd)
  (h:∀(kV doc pm:Value) (an:Option Addr) (cdv ct:Value) (us:List Value),us.length=ps.length->bindArgs (PySem.W.fnOf x qual (aP3 st) (aO9 st) (aO3 st) .none kV doc pm an cdv ct) ⟨us,[]⟩=pure (ps.zip us)):Binds K fd ps []:=by
 obtain ⟨oc,od,kV,doc,pm,an,cdv,ct,osl,rfl,lk,hcd⟩:=F.ex
 exact .all (h kV doc pm an cdv ct)
theorem aQ2 {x qual:Str} {st:Stmt} {f:Addr} {oc:Value} {od an:Option Addr} {osl:Array (Option Value)} {kV doc pm cdv ct:Value} (l:K.lookup f=some ⟨oc,od,.func (PySem.W.fnOf x qual (aP3 st) (aO9 st) (aO3 st) .none kV doc pm an cdv ct),osl⟩)
  (c:PySem.W.codeIn K cdv qual=true) (k:PySem.W.keepIn K (.ref f)=true):Fun K x qual st f (PySem.W.fnOf x qual (aP3 st) (aO9 st) (aO3 st) .none kV doc pm an cdv ct):=⟨⟨oc,od,kV,doc,pm,an,cdv,ct,osl,rfl,l,c⟩,k⟩
end
section
variable {X:Cx}
theorem pv (i:Nat) {x:Str} {pos:Pos} (hN:X.N[i]?=some x:=by rfl) (hv:Vis X.env.scope x:=by first | exact Or.inl rfl | exact Or.inr (Or.inl rfl) | exact Or.inr (Or.inr rfl)) (hd:(x == ("__debug__":Str))=false:=by decide)
  (hcd:(x == ("__classdict__":Str))=false:=by decide):PE X (.Name x pos) (cz3 i):=bd3 hN hv hd hcd
end
theorem bT5 {A B:Prop} (h:B):if false=true then A else B:=by
 rw [if_neg Bool.false_ne_true]
 exact h
theorem b93 {A B:Prop} (h:A):if true=true then A else B:=by
 rw [if_pos rfl]
 exact h
noncomputable def Same (H H':Hp):Prop:=∀b o,H b=some o->H' b=some o
theorem Same.refl (H:Hp):Same H H:=λ_ _ h=>h
theorem Same.trans {H H1 H2:Hp} (a:Same H H1) (b:Same H1 H2):Same H H2:=λc o h=>b c o (a c o h)
theorem Same.free {H H':Hp} (e:Same H H') {l:Addr} (h:H' l=Option.none):H l=Option.none:=by
 cases q:H l with
 | none=>rfl
 | some o =>
  rw [e l o q] at h
  cases h
theorem Same.seq {K:PySem.W.Frag} {H H':Hp} {a:Addr} {xs:List V} (e:Same H H') (h:SqL K H a xs):SqL K H' a xs:=by
 rcases h with (h | ⟨o,h⟩) | h
 ·exact .inl (.inl (e _ _ h))
 ·exact .inl (.inr ⟨o,e _ _ h⟩)
 ·exact .inr h
end L2
namespace Mf
noncomputable def bl (n:Nat):Nat:=if n=0 then 0 else n.log2 + 1
theorem bl_le_iff {n m:Nat}:bl n<=m ↔ n < 2 ^ m:=by
 unfold bl
 by_cases h:n=0
 ·simp [h,Nat.two_pow_pos]
 ·rw [if_neg h]
  rw [<-Nat.log2_lt h]
  omega
theorem lt_bl_iff {n m:Nat}:m < bl n ↔ 2 ^ m<=n:=by
 have:=@bl_le_iff n m
 omega
theorem aS0 (n:Nat):n < 2 ^ bl n:=bl_le_iff.mp (Nat.le_refl _)
theorem bt2 {n:Nat} (h:n≠0):2 ^ (bl n - 1)<=n:=by
 have:0 < bl n:=by unfold bl; rw [if_neg h]; omega
 exact lt_bl_iff.mp (by omega)
theorem aX4 {n:Nat} (h:n≠0):0 < bl n:=by
 unfold bl; rw [if_neg h]; omega
theorem a08:bl 0=0:=rfl
theorem aV7 {n:Nat} (h:n≠0):n.testBit (bl n - 1)=true:=by
 have h1:=bt2 h
 have h2:=aS0 n
 have hp:=aX4 h
 have e:bl n=(bl n - 1) + 1:=by omega
 rw [e,Nat.pow_succ] at h2
 rw [Nat.testBit_eq_decide_div_mod_eq]
 have:n / 2 ^ (bl n - 1)=1:=by
  apply Nat.div_eq_of_lt_le
  ·omega
  ·omega
 rw [this]; rfl
theorem bE0 {x n:Nat} (h:∀i,n<=i->x.testBit i=false):x < 2 ^ n:=by
 apply Nat.lt_pow_two_of_testBit
 intro i hi
 exact h i hi
theorem bM0 {x y n:Nat} (hx:x < 2 ^ (n + 1)) (hy:y < 2 ^ (n + 1)) (tx:x.testBit n=true) (ty:y.testBit n=true):x ^^^ y < 2 ^ n:=by
 apply bE0
 intro i hi
 rw [Nat.testBit_xor]
 by_cases e:i=n
 ·rw [e,tx,ty]; rfl
 ·have hi':n + 1<=i:=by omega
  have p:2 ^ (n + 1)<=2 ^ i:=Nat.pow_le_pow_right (by decide) hi'
  rw [Nat.testBit_lt_two_pow (Nat.lt_of_lt_of_le hx p),Nat.testBit_lt_two_pow (Nat.lt_of_lt_of_le hy p)]
  rfl
theorem co3 (x y z:Nat):(x ^^^ y) ^^^ (z ^^^ y)=x ^^^ z:=by
 apply Nat.eq_of_testBit_eq; intro i; simp only [Nat.testBit_xor]
 cases x.testBit i <;> cases y.testBit i <;> cases z.testBit i <;> rfl
theorem bY8 (x y z t:Nat):(x ^^^ y) ^^^ (z ^^^ t)=(x ^^^ z) ^^^ (y ^^^ t):=by
 apply Nat.eq_of_testBit_eq; intro i; simp only [Nat.testBit_xor]
 cases x.testBit i <;> cases y.testBit i <;> cases z.testBit i <;> cases t.testBit i <;> rfl
noncomputable def P (a b:Nat):Nat->Nat
 | 0=>0
 | k + 1=>P a b k ^^^ (if b.testBit k then a <<< k else 0)
noncomputable def cl (a b:Nat):Nat:=P a b (bl b)
theorem cp3 {a b k:Nat} (h:b < 2 ^ k):∀j,P a b (k + j)=P a b k
 | 0=>rfl
 | j + 1=>by
  show P a b (k + j) ^^^ (if b.testBit (k + j) then a <<< (k + j) else 0)=_
  rw [cp3 h j]
  have p:2 ^ k<=2 ^ (k + j):=Nat.pow_le_pow_right (by decide) (by omega)
  rw [Nat.testBit_lt_two_pow (Nat.lt_of_lt_of_le h p)]
  simp
theorem cg7 {a b k:Nat} (h:b < 2 ^ k):P a b k=cl a b:=by
 have h1:=bl_le_iff.mpr h
 have e:k=bl b + (k - bl b):=by omega
 rw [e,cp3 (aS0 b)]
 rfl
theorem bk4 (a a' b:Nat):∀k,P (a ^^^ a') b k=P a b k ^^^ P a' b k
 | 0=>(Nat.xor_zero 0).symm
 | k + 1=>by
  show P (a ^^^ a') b k ^^^ _=(P a b k ^^^ _) ^^^ (P a' b k ^^^ _)
  rw [bk4 a a' b k]
  by_cases t:b.testBit k=true
  ·rw [if_pos t,if_pos t,if_pos t,Nat.shiftLeft_xor_distrib]
   ac_rfl
  ·rw [if_neg t,if_neg t,if_neg t]
   simp
theorem bf6 (a b b':Nat):∀k,P a (b ^^^ b') k=P a b k ^^^ P a b' k
 | 0=>(Nat.xor_zero 0).symm
 | k + 1=>by
  show P a (b ^^^ b') k ^^^ _=(P a b k ^^^ _) ^^^ (P a b' k ^^^ _)
  rw [bf6 a b b' k,Nat.testBit_xor]
  cases b.testBit k <;> cases b'.testBit k <;> simp
  ·ac_rfl
  ·ac_rfl
  ·exact (co3 _ _ _).symm
theorem aT8 (a a' b:Nat):cl (a ^^^ a') b=cl a b ^^^ cl a' b:=bk4 a a' b _
theorem bj3 {x y n:Nat} (hx:x < 2 ^ n) (hy:y < 2 ^ n):x ^^^ y < 2 ^ n:=Nat.xor_lt_two_pow hx hy
theorem bo4 (a b b':Nat):cl a (b ^^^ b')=cl a b ^^^ cl a b':=by
 let k:=bl b + bl b'
 have h1:b < 2 ^ k:=bl_le_iff.mp (by omega)
 have h2:b' < 2 ^ k:=bl_le_iff.mp (by omega)
 rw [<-cg7 (bj3 h1 h2),<- cg7 h1,<- cg7 h2,bf6]
theorem ca2 (a:Nat):cl a 0=0:=rfl
theorem bZ1 (b:Nat):∀k,P 0 b k=0
 | 0=>rfl
 | k + 1=>by
  show P 0 b k ^^^ _=0
  rw [bZ1 b k]; simp
theorem a72 (b:Nat):cl 0 b=0:=bZ1 b _
theorem bo9 (b k:Nat):(b / 2).testBit k=b.testBit (k + 1):=by
 rw [Nat.testBit_succ]
theorem cp1 (a b:Nat):∀k,P a b (k + 1)=(if b % 2=1 then a else 0) ^^^ P (2 * a) (b / 2) k
 | 0=>by
  show 0 ^^^ _=_ ^^^ 0
  rw [Nat.zero_xor,Nat.xor_zero,Nat.testBit_zero]
  simp
 | k + 1=>by
  show P a b (k + 1) ^^^ _=_ ^^^ (P (2 * a) (b / 2) k ^^^ _)
  rw [cp1 a b k,bo9,Nat.xor_assoc]
  have e:a <<< (k + 1)=(2 * a) <<< k:=by
   rw [Nat.shiftLeft_eq,Nat.shiftLeft_eq,Nat.pow_succ]
   rw [Nat.mul_comm 2 a,Nat.mul_assoc,Nat.mul_comm 2]
  rw [e]
theorem bL9 {b k:Nat} (h:b < 2 ^ (k + 1)):b / 2 < 2 ^ k:=by
 rw [Nat.pow_succ] at h; omega
theorem b58 (a b:Nat):cl a b=(if b % 2=1 then a else 0) ^^^ cl (2 * a) (b / 2):=by
 have h:b < 2 ^ (bl b + 1):=Nat.lt_trans (aS0 b) (by rw [Nat.pow_succ]; have:=Nat.two_pow_pos (bl b); omega)
 rw [<-cg7 h,cp1,cg7 (bL9 h)]
theorem cn0 (a b:Nat):∀k,P (2 * a) b k=2 * P a b k
 | 0=>rfl
 | k + 1=>by
  show P (2 * a) b k ^^^ _=2 * (P a b k ^^^ _)
  rw [cn0 a b k]
  have d:∀x y:Nat,2 * (x ^^^ y)=2 * x ^^^ 2 * y:=by
   intro x y
   have h:=@Nat.shiftLeft_xor_distrib 1 x y
   rw [Nat.shiftLeft_eq,Nat.shiftLeft_eq,Nat.shiftLeft_eq,Nat.pow_one] at h
   rw [Nat.mul_comm 2 (x ^^^ y),Nat.mul_comm 2 x,Nat.mul_comm 2 y]
   exact h
  rw [d]
  by_cases t:b.testBit k=true
  ·rw [if_pos t,if_pos t,Nat.shiftLeft_eq,Nat.shiftLeft_eq,Nat.mul_assoc]
  ·rw [if_neg t,if_neg t]
theorem bJ4 (a b:Nat):cl (2 * a) b=2 * cl a b:=cn0 a b _
theorem bs2 (a c t:Nat) (ht:t < 2):cl a (2 * c + t)=2 * cl a c ^^^ (if t=1 then a else 0):=by
 rw [b58,bJ4,Nat.xor_comm]
 have e1:(2 * c + t) / 2=c:=by omega
 have e2:(2 * c + t) % 2=t:=by omega
 rw [e1,e2]
theorem cq8 (a c:Nat):cl a (2 * c)=2 * cl a c:=by
 have h:=bs2 a c 0 (by decide)
 simpa using h
theorem bN7 (c t:Nat) (ht:t < 2):2 * c ^^^ t=2 * c + t:=by
 apply Nat.eq_of_testBit_eq
 intro i
 cases i with
 | zero =>
  rw [Nat.testBit_xor,Nat.testBit_zero,Nat.testBit_zero,Nat.testBit_zero]
  have:t=0\/t=1:=by omega
  rcases this with h | h <;> subst h <;> simp <;> omega
 | succ i =>
  rw [Nat.testBit_xor,Nat.testBit_succ,Nat.testBit_succ,Nat.testBit_succ]
  have e1:2 * c / 2=c:=by omega
  have e2:t / 2=0:=by omega
  have e3:(2 * c + t) / 2=c:=by omega
  rw [e1,e2,e3]; simp
theorem bF3:∀b:Nat,cl 1 b=b:=by
 intro b
 induction b using Nat.strongRecOn with
 | ind b ih =>
  by_cases h:b=0
  ·subst h; rfl
  ·have e:b=2 * (b / 2) + b % 2:=by omega
   rw [e,bs2 1 (b / 2) (b % 2) (by omega),ih (b / 2) (by omega)]
   have:b % 2=0\/b % 2=1:=by omega
   rcases this with h | h
   ·rw [h]; simp
   ·rw [h]; rw [if_pos rfl]; exact bN7 _ _ (by decide)
theorem bg8:∀b a:Nat,cl a b=cl b a:=by
 intro b
 induction b using Nat.strongRecOn with
 | ind b ih =>
  intro a
  by_cases h:b=0
  ·subst h; rw [a72]; rfl
  ·have e:b=2 * (b / 2) + b % 2:=by omega
   have lt:b % 2 < 2:=by omega
   have e':cl b a=cl (2 * (b / 2) ^^^ b % 2) a:=by rw [bN7 _ _ lt,<- e]
   rw [e',aT8,bJ4,<- ih (b / 2) (by omega) a]
   have e'':cl a b=cl a (2 * (b / 2) + b % 2):=by rw [<-e]
   rw [e'',bs2 _ _ _ lt]
   have:b % 2=0\/b % 2=1:=by omega
   rcases this with h | h
   ·rw [h,a72]; rfl
   ·rw [h,bF3]; rfl
theorem cu6 {a m:Nat} (h:a < 2 ^ m) (b:Nat):∀k,P a b (k + 1) < 2 ^ (m + k)
 | 0=>by
  show 0 ^^^ _ < _
  rw [Nat.zero_xor,Nat.add_zero]
  by_cases t:b.testBit 0=true
  ·rw [if_pos t]; simpa using h
  ·rw [if_neg t]; exact Nat.two_pow_pos m
 | k + 1=>by
  show P a b (k + 1) ^^^ _ < _
  have i:=cu6 h b k
  have p:2 ^ (m + k)<=2 ^ (m + (k + 1)):=Nat.pow_le_pow_right (by decide) (by omega)
  apply bj3 (Nat.lt_of_lt_of_le i p)
  by_cases t:b.testBit (k + 1)=true
  ·rw [if_pos t,Nat.shiftLeft_eq,Nat.pow_add 2 m]
   exact (Nat.mul_lt_mul_right (Nat.two_pow_pos _)).mpr h
  ·rw [if_neg t]; exact Nat.two_pow_pos _
theorem cs0 {a b m n:Nat} (h:a < 2 ^ m) (h':b < 2 ^ (n + 1)):cl a b < 2 ^ (m + n):=by
 rw [<-cg7 h']; exact cu6 h b n
theorem cw5 {a b:Nat} (ha:a≠0) (hb:b≠0):2 ^ (bl a - 1 + (bl b - 1))<=cl a b:=by
 have e:bl b=(bl b - 1) + 1:=by have:=aX4 hb; omega
 have ta:=aV7 ha
 have tb:=aV7 hb
 apply Nat.ge_two_pow_of_testBit
 unfold cl
 rw [e]
 show (P a b (bl b - 1) ^^^ _).testBit _=true
 have e2:bl b - 1 + 1 - 1=bl b - 1:=by omega
 rw [e2,Nat.testBit_xor,if_pos tb]
 have f:(P a b (bl b - 1)).testBit (bl a - 1 + (bl b - 1))=false:=by
  cases q:bl b - 1 with
  | zero=>show Nat.testBit 0 _=false; exact Nat.zero_testBit _
  | succ k =>
   apply Nat.testBit_lt_two_pow
   have l:=cu6 (aS0 a) b k
   have p:=aX4 ha
   have e3:bl a - 1 + (k + 1)=bl a + k:=by omega
   rw [e3]; exact l
 rw [f,Nat.testBit_shiftLeft]
 have e4:bl a - 1 + (bl b - 1) - (bl b - 1)=bl a - 1:=by omega
 rw [e4,ta]
 simp
theorem cl1 {a b:Nat} (ha:a≠0) (hb:b≠0):bl (cl a b)=bl a + bl b - 1:=by
 have p1:=aX4 ha
 have p2:=aX4 hb
 have h1:bl (cl a b)<=bl a + (bl b - 1):=bl_le_iff.mpr (cs0 (aS0 a) (by
  have e:bl b - 1 + 1=bl b:=by omega
  rw [e]; exact aS0 b))
 have h2:=lt_bl_iff.mpr (cw5 ha hb)
 omega
theorem bY2 (s b:Nat):cl (2 ^ s) b=b <<< s:=by
 induction s with
 | zero=>rw [Nat.pow_zero,bF3]; rfl
 | succ s ih =>
  rw [Nat.pow_succ,Nat.mul_comm,bJ4,ih,Nat.shiftLeft_eq,Nat.shiftLeft_eq,Nat.pow_succ]
  rw [<-Nat.mul_assoc,Nat.mul_comm 2,Nat.mul_assoc,Nat.mul_comm 2,<- Nat.mul_assoc,Nat.mul_assoc]
theorem bX4 {a q b r s:Nat} (h:a=cl q b ^^^ r):a=cl (q ^^^ 2 ^ s) b ^^^ (r ^^^ b <<< s):=by
 rw [aT8,bY2,h,co3]
theorem by5 {b r:Nat} (hb:b≠0) (h:bl b<=bl r):bl (r ^^^ b <<< (bl r - bl b)) < bl r:=by
 have p:=aX4 hb
 have hr:r≠0:=by
  intro z; rw [z,a08] at h; omega
 have:r ^^^ b <<< (bl r - bl b) < 2 ^ (bl r - 1):=by
  apply bM0
  ·have e:bl r - 1 + 1=bl r:=by omega
   rw [e]; exact aS0 r
  ·have e:bl r - 1 + 1=bl b + (bl r - bl b):=by omega
   rw [e,Nat.shiftLeft_eq,Nat.pow_add]
   exact (Nat.mul_lt_mul_right (Nat.two_pow_pos _)).mpr (aS0 b)
  ·exact aV7 hr
  ·rw [Nat.testBit_shiftLeft]
   have e:bl r - 1 - (bl r - bl b)=bl b - 1:=by omega
   rw [e,aV7 hb]
   simp; omega
 have:=bl_le_iff.mpr this
 omega
theorem bC1 {x y z:Nat} (h:x ^^^ y=z):x=z ^^^ y:=by
 rw [<-h,Nat.xor_assoc,Nat.xor_self,Nat.xor_zero]
theorem a99 {x y:Nat} (h:x ^^^ y=0):x=y:=by
 have:=bC1 h
 rwa [Nat.zero_xor] at this
theorem bB9 {b q r q' r':Nat} (h:cl q b ^^^ r=cl q' b ^^^ r') (hr:bl r < bl b) (hr':bl r' < bl b):q=q'/\r=r':=by
 have hb:b≠0:=by intro z; rw [z,a08] at hr; omega
 have e:cl (q ^^^ q') b=r ^^^ r':=by
  rw [aT8]
  have z:(cl q b ^^^ r) ^^^ (cl q' b ^^^ r')=0:=by rw [h,Nat.xor_self]
  rw [bY8] at z
  exact a99 z
 have lt:bl (r ^^^ r') < bl b:=by
  have h1:r < 2 ^ (bl b - 1):=bl_le_iff.mp (by omega)
  have h2:r' < 2 ^ (bl b - 1):=bl_le_iff.mp (by omega)
  have:=bl_le_iff.mpr (bj3 h1 h2)
  have:=aX4 hb
  omega
 have z:q ^^^ q'=0:=by
  apply Classical.byContradiction
  intro hq
  have h1:=cl1 hq hb
  have h2:=aX4 hq
  rw [e] at h1
  omega
 have zq:=a99 z
 subst zq
 rw [z,a72] at e
 exact ⟨rfl,a99 e.symm⟩
end Mf
namespace Mf
open PySem PySem.Builtin.Int
theorem b76 (x y:Nat):(x ^^^ y) + 2 * (x &&& y)=x + y:=by
 induction x using Nat.strongRecOn generalizing y with
 | ind x ih =>
  by_cases h:x=0
  ·subst h; simp
  ·have h1:=ih (x / 2) (by omega) (y / 2)
   have e1:(x ^^^ y) / 2=x / 2 ^^^ y / 2:=Nat.xor_div_two
   have e2:(x &&& y) / 2=x / 2 &&& y / 2:=Nat.and_div_two
   have t:∀n:Nat,n % 2=if n.testBit 0=true then 1 else 0:=by
    intro n
    rw [Nat.testBit_zero]
    by_cases h:n % 2=1
    ·simp [h]
    ·simp [h]; omega
   have m1:(x ^^^ y) % 2=(x % 2 + y % 2) % 2:=by
    rw [t (x ^^^ y),t x,t y,Nat.testBit_xor]
    cases x.testBit 0 <;> cases y.testBit 0 <;> rfl
   have m2:(x &&& y) % 2=x % 2 * (y % 2):=by
    rw [t (x &&& y),t x,t y,Nat.testBit_and]
    cases x.testBit 0 <;> cases y.testBit 0 <;> rfl
   have d1:=Nat.div_add_mod (x ^^^ y) 2
   have d2:=Nat.div_add_mod (x &&& y) 2
   rw [e1] at d1
   rw [e2] at d2
   have hx:x % 2=0\/x % 2=1:=by omega
   have hy:y % 2=0\/y % 2=1:=by omega
   rcases hx with hx | hx <;> rcases hy with hy | hy <;> rw [hx,hy] at m1 m2 <;> omega
theorem br9 {x y:Int} (hx:0<=x) (hy:0<=y):Builtin.bitAnd x y=((x.toNat &&& y.toNat:Nat):Int):=by
 unfold Builtin.bitAnd
 rw [decide_eq_true hx,decide_eq_true hy]
theorem bX1 {x y:Int} (hx:0<=x) (hy:0<=y):Builtin.bitOr x y=((x.toNat ||| y.toNat:Nat):Int):=by
 unfold Builtin.bitOr Builtin.bitAnd Builtin.bitNot
 rw [decide_eq_false (by omega),decide_eq_false (by omega)]
 show - (-((((- (-x - 1) - 1).toNat ||| (-(-y - 1) - 1).toNat:Nat):Int)) - 1) - 1=_
 have e1:(- (-x - 1) - 1).toNat=x.toNat:=by omega
 have e2:(- (-y - 1) - 1).toNat=y.toNat:=by omega
 rw [e1,e2]
 omega
theorem cn8 (x y:Nat):(x ||| y)=(x ^^^ y) + (x &&& y):=by
 have d:(x ^^^ y) &&& (x &&& y)=0:=by
  apply Nat.eq_of_testBit_eq; intro i
  simp only [Nat.testBit_xor,Nat.testBit_and,Nat.zero_testBit]
  cases x.testBit i <;> cases y.testBit i <;> rfl
 have e:(x ||| y)=(x ^^^ y) ^^^ (x &&& y):=by
  apply Nat.eq_of_testBit_eq; intro i
  simp only [Nat.testBit_xor,Nat.testBit_and,Nat.testBit_or]
  cases x.testBit i <;> cases y.testBit i <;> rfl
 have h:=b76 (x ^^^ y) (x &&& y)
 rw [d] at h
 rw [e]; omega
theorem bN9 {x y:Int} (hx:0<=x) (hy:0<=y):Builtin.bitXor x y=((x.toNat ^^^ y.toNat:Nat):Int):=by
 unfold Builtin.bitXor
 rw [bX1 hx hy,br9 hx hy,cn8]
 omega
theorem aU6 (x y:Nat):Builtin.bitXor (x:Int) (y:Int)=((x ^^^ y:Nat):Int):=by
 rw [bN9 (by omega) (by omega)]; rfl
theorem bi9 (x y:Nat):Builtin.bitAnd (x:Int) (y:Int)=((x &&& y:Nat):Int):=by
 rw [br9 (by omega) (by omega)]; rfl
theorem bc7 (x k:Nat):(x:Int) * 2 ^ ((k:Int)).toNat=((x <<< k:Nat):Int):=by
 rw [Nat.shiftLeft_eq]
 simp
theorem ca3 (x k:Nat):(x:Int) / 2 ^ ((k:Int)).toNat=((x >>> k:Nat):Int):=by
 rw [Nat.shiftRight_eq_div_pow]
 simp
theorem b69 (x k:Nat):((x >>> k) &&& 1=1) ↔ x.testBit k=true:=by
 rw [Nat.testBit_eq_decide_div_mod_eq,Nat.shiftRight_eq_div_pow]
 have:(x / 2 ^ k) &&& 1=(x / 2 ^ k) % 2:=Nat.and_two_pow_sub_one_eq_mod _ 1
 rw [this]
 simp
end Mf
namespace Mf
end Mf
namespace Mf
theorem bx3 (a b:Nat):∀c,cl (cl a b) c=cl a (cl b c):=by
 intro c
 induction c using Nat.strongRecOn with
 | ind c ih =>
  by_cases h:c=0
  ·subst h; rfl
  ·have e:c=2 * (c / 2) + c % 2:=by omega
   have lt:c % 2 < 2:=by omega
   have i:=ih (c / 2) (by omega)
   rw [e,bs2 _ _ _ lt,bs2 _ _ _ lt,i,bo4,cq8]
   have:c % 2=0\/c % 2=1:=by omega
   rcases this with h | h
   ·rw [h]; rfl
   ·rw [h]; rfl
noncomputable def mdF:Nat->Nat->Nat->Nat
 | 0,a,_=>a
 | n + 1,a,b=>if bl a < bl b then a else mdF n (a ^^^ b <<< (bl a - bl b)) b
noncomputable def md (a b:Nat):Nat:=mdF (bl a + 1) a b
theorem bY5 {b:Nat} (hb:b≠0):∀n a,bl a < n->(∃q,a=cl q b ^^^ mdF n a b)/\bl (mdF n a b) < bl b
 | 0,_,h=>absurd h (by omega)
 | n + 1,a,h=>by
  unfold mdF
  by_cases l:bl a < bl b
  ·rw [if_pos l]
   exact ⟨⟨0,by rw [a72,Nat.zero_xor]⟩,l⟩
  ·rw [if_neg l]
   have cx9:=by5 hb (show bl b<=bl a by omega)
   obtain ⟨⟨q,e⟩,l2⟩:=bY5 hb n (a ^^^ b <<< (bl a - bl b)) (by omega)
   refine ⟨⟨q ^^^ 2 ^ (bl a - bl b),?_⟩,l2⟩
   rw [aT8,bY2]
   have e2:a=(a ^^^ b <<< (bl a - bl b)) ^^^ b <<< (bl a - bl b):=by rw [Nat.xor_assoc,Nat.xor_self,Nat.xor_zero]
   rw [e] at e2
   refine e2.trans ?_
   generalize mdF n _ b=r
   rw [Nat.xor_assoc,Nat.xor_comm r,<- Nat.xor_assoc]
theorem bF0 {b:Nat} (hb:b≠0) (a:Nat):(∃q,a=cl q b ^^^ md a b)/\bl (md a b) < bl b:=bY5 hb _ a (by omega)
theorem bK2 {a b q r:Nat} (h:a=cl q b ^^^ r) (hr:bl r < bl b):md a b=r:=by
 have hb:b≠0:=by intro z; rw [z,a08] at hr; omega
 obtain ⟨⟨q',e⟩,l⟩:=bF0 hb a
 exact (bB9 (e.symm.trans h) l hr).2
theorem cv8 (q:Nat) {b:Nat} (hb:b≠0):md (cl q b) b=0 :=
 bK2 (q:=q) (by rw [Nat.xor_zero]) (by rw [a08]; exact aX4 hb)
noncomputable def gcF:Nat->Nat->Nat->Nat
 | 0,a,_=>a
 | n + 1,a,b=>if b=0 then a else gcF n b (md a b)
noncomputable def gc (a b:Nat):Nat:=gcF (bl b + 1) a b
end Mf
namespace Mf
theorem cc4 (y:Nat):bl (y / 2)=bl y - 1:=by
 by_cases h:y=0
 ·subst h; rfl
 ·have p:=aX4 h
  have h1:bl (y / 2)<=bl y - 1:=bl_le_iff.mpr (bL9 (by
   have e:bl y - 1 + 1=bl y:=by omega
   rw [e]; exact aS0 y))
  have h2:bl y<=bl (y / 2) + 1:=bl_le_iff.mpr (by
   have:=aS0 (y / 2)
   rw [Nat.pow_succ]; omega)
  omega
theorem cr1 (x:Nat):bl (2 * x)<=bl x + 1:=bl_le_iff.mpr (by
 have:=aS0 x
 rw [Nat.pow_succ]; omega)
theorem bv6 {x y:Nat} (h:x<=y):bl x<=bl y:=bl_le_iff.mpr (Nat.lt_of_le_of_lt h (aS0 y))
end Mf
namespace Mf
noncomputable def al (a:Nat):Bool:=decide (2<=a) && (List.range (2 ^ ((bl a - 1) / 2 + 1) - 2)).all λi=>md a (2 + i) != 0
theorem bU8 {a:Nat} (h:a < 2):al a=false:=by
 unfold al; rw [decide_eq_false (by omega)]; rfl
theorem cf7 {a:Nat} (h:2<=a) (k:∀i,i < 2 ^ ((bl a - 1) / 2 + 1) - 2->md a (2 + i)≠0):al a=true:=by
 unfold al
 rw [decide_eq_true h,Bool.true_and,List.all_eq_true]
 intro i hi
 have:=k i (List.mem_range.mp hi)
 simpa using this
theorem bR5 {a i:Nat} (k:i < 2 ^ ((bl a - 1) / 2 + 1) - 2) (z:md a (2 + i)=0):al a=false:=by
 unfold al
 rw [Bool.and_eq_false_iff]
 right
 rw [List.all_eq_false]
 exact ⟨i,List.mem_range.mpr k,by simp [z]⟩
theorem bR0 {a:Nat} (h:2<=a) {b:Nat} (hb:b < 2 ^ ((bl a - 1) / 2 + 1)):b < a/\2 * bl b<=bl a + 1:=by
 have h2:2<=bl a:=by
  have:=lt_bl_iff.mpr (show 2 ^ 1<=a by omega)
  omega
 have l:=bl_le_iff.mpr hb
 refine ⟨Nat.lt_of_lt_of_le hb (Nat.le_trans (Nat.pow_le_pow_right (by decide) ?_) (bt2 (by omega))),by omega⟩
 omega
end Mf
namespace L2
open PySem PySem.Spec PyProof.Rows Mf
theorem ba5:bootBuiltins "len"=some (.builtin "len"):=by decide +kernel
theorem bo1:bootBuiltins "isinstance"=some (.builtin "isinstance"):=by decide +kernel
theorem cq4:bootBuiltins "min"=some (.builtin "min"):=by decide +kernel
theorem bz6:bootBuiltins "all"=some (.builtin "all"):=by decide +kernel
theorem cn9:bootBuiltins "any"=some (.builtin "any"):=by decide +kernel
theorem cj3:bootBuiltins "int"=some (.type "int"):=by decide +kernel
theorem b96:bootBuiltins "bool"=some (.type "bool"):=by decide +kernel
theorem bl3:bootBuiltins "list"=some (.type "list"):=by decide +kernel
theorem bV0:bootBuiltins "range"=some (.type "range"):=by decide +kernel
section
variable {X:Cx} {a b o:Expr} {ta tb to:TE} {pos apos cpos:Pos}
theorem bk9 (i:Int):Builtin.Int.intBits i=bl i.natAbs:=by
 unfold Builtin.Int.intBits bl
 by_cases h:i=0
 ·subst h; rfl
 ·have h':¬ i.natAbs=0:=by omega
  rw [if_neg h',if_neg (by simpa using h)]
noncomputable def rBl:V->List V->Hp->VK->Prop:=λx vs H Q=>∃i,x=.int i/\vs=[]/\Q (.int (bl i.natAbs:Nat)) H
theorem bN4:MtR X "int.bit_length" rBl:=by
 intro pins s σ H x xs v us Q I rx rs h
 obtain ⟨i,rfl,rfl,q⟩:=h
 obtain ⟨t,rfl⟩:=rx
 cases rs
 refine call_int_bit_length ?_
 rw [bk9]
 exact ⟨.int _,H,I.tok _,⟨_,rfl⟩,q⟩
theorem bh8 (ho:PE X o to) (hbase:attributeBase o "bit_length" X.env (eval o X.env)=eval o X.env:=by rfl) (hline:(apos.endLine == cpos.line)=true:=by rfl) :
  PE X (.Call (.Attribute o "bit_length" apos) [] [] cpos) (cy7 X.K "int" rBl to) :=
 bL2 PySem.F.plainAttrs_int PySem.F.slot_int_bit_length PySem.F.type_int_bit_length bN4 ho hbase hline
noncomputable def cz6 (i j:Int):Prop:=0<=j/\((bl i.natAbs:Nat):Int) + j<=134217728
theorem bN0:OpR X (binaryOp .LShift) (rI cz6 λi j=>.int (i * 2 ^ j.toNat)):=opI λi j _ _ _ _ _ hc q =>
 lshift_int hc.1 (by rw [bk9]; exact Int.le_trans hc.2 (by decide)) q
theorem cu5 {x:Str} {n:String} (hg:Gl X x) (hm:X.mg x=none) (hv:bootBuiltins x=some (.type n)) (hn:x≠"__name__":=by decide) (hd:(x == ("__debug__":Str))=false:=by decide):PE X (.Name x pos) (tC (.ty n)) :=
 b67 hg hm hv rfl hn hd
noncomputable def cB3 (K:PySem.W.Frag):List V->Hp->VK->Prop:=λxs H Q=>∃x n t b,xs=[x,.ty n]/\TyOf K H x t/\PySem.W.kitOne K t (.type n)=some b/\Q (.bl b) H
theorem be8:CallR X (.builtin "isinstance") (cB3 X.K):=by
 intro pins s σ H xs us Q I r h
 obtain ⟨x,n,t,b,rfl,ty,e,q⟩:=h
 obtain ⟨u,v,rfl,ru,rv⟩:=r.two
 cases (show v=Value.type n from rv)
 exact bK0 I ru ty e λtk=>⟨.bl b,H,I.tok _,rfl,q⟩
end
theorem cb7 (b i:Nat):decide (V.int (Builtin.bitAnd ((b:Int) / 2 ^ ((0:Int) + (i:Int)).toNat) 1)=V.int 1)=b.testBit i:=by
 have e:((0:Int) + (i:Int)).toNat=((i:Int)).toNat:=by omega
 rw [e,ca3,show (1:Int)=((1:Nat):Int) from rfl,bi9,Bool.eq_iff_iff,decide_eq_true_iff,<- b69]
 constructor
 ·intro h; injection h with h; omega
 ·intro h; rw [h]
theorem bS8 {a b i:Nat} (h:b.testBit i=true):Builtin.bitXor ((P a b i:Nat):Int) ((a:Int) * 2 ^ ((0:Int) + (i:Int)).toNat)=((P a b (i + 1):Nat):Int):=by
 have e:((0:Int) + (i:Int)).toNat=((i:Int)).toNat:=by omega
 rw [e,bc7,aU6]
 show _=((P a b i ^^^ (if b.testBit i then a <<< i else 0):Nat):Int)
 rw [if_pos h]
theorem bE5 {a b i:Nat} (h:¬ b.testBit i=true):P a b (i + 1)=P a b i:=by
 show P a b i ^^^ (if b.testBit i then a <<< i else 0)=_
 rw [if_neg h,Nat.xor_zero]
theorem dI {i j:Int}:decide (V.int i=V.int j)=true ↔ i=j:=by
 rw [decide_eq_true_iff]
 exact ⟨λh=>by injection h,λh=>by rw [h]⟩
end L2
namespace L2
open PySem PySem.Spec PyProof.Rows
section
variable {X:Cx}
end
end L2
namespace L2
open PySem PySem.Spec PyProof.Rows
noncomputable def bz3 (X:Cx) (scope:Scope) (N:List Str) (cl:List (Str × Addr)) (C:Addr) (s:Shared) (H:Hp) (fp:List Addr):Cx where
 prog:=X.prog
 w:=X.w
 K:=X.K
 mg:=X.mg
 base:=X.base
 A:=X.A
 N:=N
 s₀:=s
 H₀:=H
 env:=compEnvC scope cl C X.env
 outer:=X.stack
 stack:=X.stack
 ex:=fp
 fn:=λ_=>false
 calm:=X.calm
 pn:=[]
 xe:=λ_ _=>False
noncomputable def CapsOk (X:Cx) (scope:Scope) (cl:List (Str × Addr)):List (Str × Nat)->Prop
 | []=>True
 | (y,i) :: r=>(X.N[i]?=some y/\(X.env.scope.names.lookup y=some .cell\/X.env.scope.names.lookup y=some .free)/\((relabel scope X.env).names.lookup y=some .cell\/(relabel scope X.env).names.lookup y=some .free)/\∃c,cl.lookup y=some c/\X.env.cells.lookup y=some c)/\CapsOk X scope cl r
theorem CapsOk.at {X:Cx} {scope:Scope} {cl:List (Str × Addr)}:∀{caps:List (Str × Nat)},CapsOk X scope cl caps->∀p∈caps,X.N[p.2]?=some p.1/\(X.env.scope.names.lookup p.1=some .cell\/X.env.scope.names.lookup p.1=some .free)/\((relabel scope X.env).names.lookup p.1=some .cell\/(relabel scope X.env).names.lookup p.1=some .free)/\∃c,cl.lookup p.1=some c/\X.env.cells.lookup p.1=some c
 | [],_,p,hp=>absurd hp (by simp)
 | (y,i) :: r,h,p,hp=>by
  rcases List.mem_cons.mp hp with e | e
  ·subst e; exact h.1
  ·exact CapsOk.at h.2 p e
noncomputable def PTs (Y:Cx) (ifs:List Expr) (t:TT):Prop :=
 ∀(pins:List (Addr × Obj)) (s:Shared) (σ:St) (H:Hp) (Q:Bool->Hp->Prop),Inv Y pins σ H s->t σ H Q ->
  wpAny (model Y.prog Y.w) Y.A (forIn ifs true λc r=>if r=true then do let ok<-isTrue c Y.env (eval c Y.env); pure (ForInStep.yield ok) else pure (ForInStep.yield r)) (TP Y pins σ Q) Y.xe s
noncomputable def cD1:TT:=λ_ H Q=>Q true H
theorem b82 {Y:Cx}:PTs Y [] cD1:=λ_ _ _ H _ I h=>wpAny_tests_nil ⟨H,I,h⟩
theorem b77 {Y:Cx} {c:Expr} {t:TT} (h:PT Y c t):PTs Y [c] t:=λpins s σ H Q I q=>wpAny_tests_one (h pins s σ H Q I q)
section
variable {X:Cx} {elt iter:Expr} {x:Str} {px pos:Pos} {ifs:List Expr} {scope:Scope} {cl:List (Str × Addr)} {caps:List (Str × Nat)} {wi:TI} {tt:TT} {te:TE}
end
section
variable {prog:Program} {w:World} {A:Around} {R:Result->Shared->Prop} {s:Shared}
theorem bp9 {elt target iter:Expr} {ifs:List Expr} {scope:Scope} {pos:Pos} {it acc:Value} {env:Env} (Iv:Nat->Shared->Prop)
  (turn:∀n s,Iv n s->wpAny (model prog w) A (pyNext it) (λr s1=>match r with
   | none=>R (.ok .next) s1
   | some v=>wpAny (model prog w) A (letOwnedTupleGo target it v) (λ_ t1=>wpAny (model prog w) A (assign target env v) (λ_ s2 =>
     wpAny (model prog w) A (forIn ifs true λc r=>if r=true then do let ok<-isTrue c env (eval c env); pure (ForInStep.yield ok) else pure (ForInStep.yield r)) (λok s3 =>
      if ok=true then wpAny (model prog w) A (eval elt env) (λy s4=>wpAny (model prog w) A (call (.builtin "list.append") [acc,y]) (λ_ s5=>∃m,m < n/\Iv m s5) (λ_ _=>False) s4) (λ_ _=>False) s3
      else ∃m,m < n/\Iv m s3) (λ_ _=>False) s2) (λ_ _=>False) t1) (λ_ _=>False) s1) (λ_ _=>False) s)
  (n:Nat) (h:Iv n s):codeAny (model prog w) A (.compLoop (.ListComp elt [⟨target,iter,ifs,0⟩] scope pos) 0 it acc env) R s:=by
 refine codeAny_loop rfl Iv (λn s hI=>?_) n h
 change wpAny _ A (Sem.onRaise (compTurn (.ListComp elt [⟨target,iter,ifs,0⟩] scope pos) 0 it acc env) λx=>do noteFrame x env; theTreesLotGoes x) _ _ s
 refine wpAny_noted (wpAny_mono (E:=λ_ _=>False) ?_ (λ_ _ q=>q) λ_ _ z=>z.elim)
 rw [compTurn_list]
 refine wpAny_bind (wpAny_standAt (wpAny_bind (thn (turn n s hI) λr s1 h1=>?_)))
 cases r with
 | none=>exact wpAny_pure h1
 | some v =>
  refine wpAny_bind (thn h1 λ_ t1 k1=>wpAny_bind (thn k1 λ_ s2 h2=>wpAny_bind (thn h2 λok s3 h3=>?_)))
  cases ok with
  | false=>exact wpAny_pure ⟨rfl,h3⟩
  | true=>exact wpAny_bind (wpAny_bind (thn h3 λy s4 h4=>wpAny_bind (thn h4 λ_ s5 h5=>wpAny_pure (wpAny_pure ⟨rfl,h5⟩))))
end
section
variable {X:Cx} {elt iter:Expr} {x:Str} {px pos:Pos} {ifs:List Expr} {scope:Scope} {cl:List (Str × Addr)} {caps:List (Str × Nat)} {wi:TI} {tt:TT} {te:TE}
end
end L2
namespace L2
open PySem PySem.Spec PyProof.Rows
section
variable {X:Cx}
theorem bT9 {bs:List Bool} {us:List Value} (r:Vals (bs.map V.bl) us):bs.length=us.length/\∀(i:Nat) (v:Value),us[i]?=some v->∃b,bs[i]?=some b/\v=.bool b:=by
 have l:=r.length
 rw [List.length_map] at l
 refine ⟨l,λi v e=>?_⟩
 have hi:i < us.length:=(List.getElem?_eq_some_iff.mp e).1
 have hb:i < bs.length:=by omega
 obtain ⟨u,e2,q⟩:=r.get (i:=i) (x:=V.bl bs[i]) (by rw [List.getElem?_map,List.getElem?_eq_getElem hb]; rfl)
 rw [e] at e2
 cases e2
 exact ⟨bs[i],List.getElem?_eq_getElem hb,q⟩
theorem bZ6 {s:Shared} {h':Heap} {o:Obj} (hk:∀b x,b ∉ [s.heap.objs.size]->(s.heap.push o).get? b=some x->h'.get? b=some x) (b:Addr) (x:Obj) (e:s.heap.get? b=some x):h'.get? b=some x :=
 hk b x (λhm=>Nat.lt_irrefl _ (by have:=Heap.lt_size e; rw [List.mem_singleton.mp hm] at this; exact this)) (Heap.get?_push_of_some _ e)
theorem bT0 (bs:List Bool):((List.range bs.length).all λi=>(bs[i]?).getD true)=bs.all id:=by
 rw [Bool.eq_iff_iff,List.all_eq_true,List.all_eq_true]
 constructor
 ·intro h b hb
  obtain ⟨i,hi,rfl⟩:=List.getElem_of_mem hb
  have:=h i (List.mem_range.mpr hi)
  rwa [List.getElem?_eq_getElem hi] at this
 ·intro h i hi
  have hi':=List.mem_range.mp hi
  rw [List.getElem?_eq_getElem hi']
  exact h _ (List.getElem_mem hi')
theorem bT4 (bs:List Bool):((List.range bs.length).any λi=>(bs[i]?).getD false)=bs.any id:=by
 rw [Bool.eq_iff_iff,List.any_eq_true,List.any_eq_true]
 constructor
 ·rintro ⟨i,hi,h⟩
  have hi':=List.mem_range.mp hi
  rw [List.getElem?_eq_getElem hi'] at h
  exact ⟨_,List.getElem_mem hi',h⟩
 ·rintro ⟨b,hb,h⟩
  obtain ⟨i,hi,rfl⟩:=List.getElem_of_mem hb
  exact ⟨i,List.mem_range.mpr hi,by rw [List.getElem?_eq_getElem hi]; exact h⟩
theorem bR2 (hc:X.calm=true):CallR X (.builtin "all") (λxs H Q=>∃(p:Addr) (bs:List Bool),xs=[.ref p]/\SqL X.K H p (bs.map V.bl)/\Q (.bl (bs.all id)) H):=by
 intro pins s σ H xs us Q I r h
 obtain ⟨p,bs,rfl,hS,q⟩:=h
 obtain ⟨u,rfl,ru⟩:=r.one
 cases ru
 obtain ⟨its,rv,pl,hz⟩:=I.list hS
 obtain ⟨hlen,hget⟩:=bT9 rv
 have hl:=pl.isList
 have hlt:p < s.heap.objs.size:=by obtain ⟨_,e,_⟩:=hl; exact Heap.lt_size e
 refine call_all_walk (wpAny_pyIter_list hl ?_)
 refine ⟨s.heap.objs.size,[s.heap.objs.size,p],[s.heap.objs.size],its.toArray.size,_,_,λi=>(bs[i]?).getD true,rfl,Walks.list (A:=X.A.in1) (I.ok.hd hc) _ p (Nat.ne_of_lt hlt) its.toArray,
  ⟨⟨_,Heap.get?_push_size _ rfl,rfl,rfl⟩,hl.push _⟩,λi v s' Q' E' hP hQ=>?_,λh' tk hk=>?_⟩
 ·obtain ⟨b,e,rfl⟩:=hget i v (by simpa using hP)
  simp only [e,Option.getD_some] at hQ
  exact wpAny_truthy_bool hQ
 ·have e:((List.range its.toArray.size).all λi=>(bs[i]?).getD true)=bs.all id:=by
   rw [List.size_toArray,<- hlen]; exact bT0 bs
  rw [e]
  exact ⟨.bl _,H,I.kept (h':=h') (t':=tk) (bZ6 hk),rfl,q⟩
end
noncomputable def ClOk (X:Cx):List (Str × Addr)->Prop
 | []=>True
 | (y,c) :: r=>X.env.cells.lookup y=some c/\ClOk X r
theorem ClOk.all {X:Cx}:∀{cl:List (Str × Addr)},ClOk X cl->∀y c,cl.lookup y=some c->X.env.cells.lookup y=some c
 | [],_,y,c,h=>by simp at h
 | (z,d) :: r,h,y,c,e=>by
  rw [List.lookup_cons] at e
  cases q:y == z with
  | true =>
   rw [q] at e
   cases e
   rw [eq_of_beq q]
   exact h.1
  | false =>
   rw [q] at e
   exact ClOk.all h.2 y c e
noncomputable def HasOk (cl:List (Str × Addr)):List (Str × NameKind)->Prop
 | []=>True
 | (y,k) :: r=>(k=.local\/k=.globalImplicit\/∃c,cl.lookup y=some c)/\HasOk cl r
theorem HasOk.all {cl:List (Str × Addr)}:∀{ns:List (Str × NameKind)},HasOk cl ns->∀y,(ns.lookup y=some .cell\/ns.lookup y=some .free)->∃c,cl.lookup y=some c
 | [],_,y,h=>by simp at h
 | (z,k) :: r,h,y,e=>by
  rw [List.lookup_cons] at e
  cases q:y == z with
  | true =>
   rw [q] at e
   rw [eq_of_beq q]
   rcases h.1 with g | g | g
   ·rw [g] at e; rcases e with e | e <;> cases e
   ·rw [g] at e; rcases e with e | e <;> cases e
   ·exact g
  | false =>
   rw [q] at e
   exact HasOk.all h.2 y e
section
variable {X:Cx} {elt iter:Expr} {x:Str} {px pos:Pos} {ifs:List Expr} {scope:Scope} {cl:List (Str × Addr)} {wi:TI} {tt:TT} {te:TE}
end
end L2
namespace L2
open PySem PySem.Spec PyProof.Rows Mf
end L2
namespace L2
end L2
namespace L2
open PySem PySem.Spec PyProof.Rows
noncomputable def slG (caps:List (Str × Nat)) (n:Nat) (σ:L2.St):St:=(caps.map λp=>(σ[p.2]?).getD none)++List.replicate n none
noncomputable def b50 (J:It) (caps:List (Str × Nat)) (n:Nat) (g:TG) (tt:TT) (te:TE) (σ:L2.St) (H1:Hp) (Q:VK):Prop:=∀D,H1 D=none->∃W:Nat->Nat->List V->Hp->Prop,(∃m,W 0 m [] (upd H1 D (.lst []))) /\
 ∀i m acc H2,W i m acc H2->H2 D=some (.lst acc)/\((J.stop i H2/\Q (.ref D) H2)\/(J.go i H2/\∀x H3,J.yld i H2 x H3->H3 D=some (.lst acc)/\g x (slG caps n σ) H3 λσ1 H4 =>
  (σ1.length=(slG caps n σ).length/\∀j,j < caps.length->σ1[j]?=(slG caps n σ)[j]?)/\tt σ1 H4 λb H5=>H5 D=some (.lst acc) /\
  if b=true then te σ1 H5 λy H6=>H6 D=some (.lst acc)/\acc.length < sizeLine/\∃m',m' < m/\W (i + 1) m' (acc++[y]) (upd H6 D (.lst (acc++[y]))) else ∃m',m' < m/\W (i + 1) m' acc H5))
noncomputable def bz9 (wi:TI) (caps:List (Str × Nat)) (n:Nat) (g:TG) (tt:TT) (te:TE):TE:=λσ H Q=>wi σ H λJ H1=>b50 J caps n g tt te σ H1 Q
section
variable {X:Cx} {elt iter tg:Expr} {pos:Pos} {ifs:List Expr} {scope:Scope} {cl:List (Str × Addr)} {wi:TI} {tt:TT} {te:TE} {g:TG}
end
end L2
namespace L2
open PySem PySem.Spec PyProof.Rows
section
variable {X:Cx} {tg:Expr}
end
end L2
namespace L2
open PySem PySem.Spec PyProof.Rows
noncomputable def Trf (h:Heap) (a T:Addr) (cls fl:Value):Prop :=
 ∃oe vs oT ts,h.get? a=some oe/\oe.cls=cls/\oe.dict=none/\oe.data=.fields vs/\vs[1]?=some (.ref T)/\T≠a/\h.get? T=some oT/\oT.data=.fields ts/\ts[3]?=some fl
noncomputable abbrev Trc (h:Heap) (a T:Addr) (cls:Value):Prop:=Trf h a T cls .none
theorem bi4 (o:Obj) (f:Array Value->Array Value):(o.mapFields f).dict=o.dict:=by
 obtain ⟨c,d,dt,sl⟩:=o
 cases dt <;> rfl
section
variable {M:Model} {A:Around} {E:Value->Shared->Prop} {s:Shared} {base:Heap} {env:Env} {outer:List Env} {L a T:Addr} {cls:Value} {oe:Obj} {vs:Array Value} {Q:Unit->Shared->Prop}
structure Ent (fs:List Addr) (h h':Heap) (a T:Addr) (oe:Obj) (L:Addr):Prop where
 new:h.get? T=none
 ne:T≠a
 keep:∀b o,b≠a->b ∉ fs->h.get? b=some o->h'.get? b=some o
 slot:∀b o,b≠a->h.get? b=some o->∃sl,h'.get? b=some { o with slots:=sl }
 exc:h'.get? a=some (oe.mapFields λz=>z.setIfInBounds 1 (.ref T))
 ent:∃oT ts,h'.get? T=some oT/\oT.data=.fields ts/\ts[3]?=some (rawInt L)
theorem by0 {head:Value} {hadNext:Bool} (hfr:A.frames=some (env :: outer)) (hl:s.heap.FunFrames base (env :: outer)) (hf:env.frame=some L) (he:s.heap.get? a=some oe) (hd:oe.data=.fields vs) (hsz:1 < vs.size)
  (na:a ∉ (env :: outer).filterMap (·.frame)) (k:∀h' T',Ent ((env :: outer).filterMap (·.frame)) s.heap h' a T' oe L->Q () { s with heap:=h' }) :
  wpAny M A (do let x<-frameOf env; let pl<-entryPlaceOf L hadNext; let b<-EntryCells.newEntry head x .none (rawInt L) .none pl; setField (.ref a) 1 b) Q E s:=by
 refine wpAny_bind (wpAny_frameOf_fun hfr hl hf λg1 so=>wpAny_bind (wpAny_entryPlaceOf λpl ip=>?_))
 unfold EntryCells.newEntry newFields
 have e1:g1.get? a=some oe:=(so.2.1 a na).trans he
 refine wpAny_bind (wpAny_newObj_type ?_ (ip.sizeOk5 _ _ _ _ _))
 generalize hte:({ cls:=.type "traceback",dict:=none,data:=.fields ([head,Value.ref L,.none,rawInt L,.none]++(if pl.isEmpty then List.replicate 6 Value.none else pl)).toArray }:Obj)=te
 have e2:(g1.push te).get? a=some oe:=Heap.get?_push_of_some te e1
 have hda:te.data=.fields ([head,Value.ref L,.none,rawInt L,.none]++(if pl.isEmpty then List.replicate 6 Value.none else pl)).toArray:=by rw [<-hte]
 have nf:te.isFreed=false:=by rw [<-hte]; rfl
 refine wpAny_setField e2 hd hsz ?_
 have d3:=Obj.data_mapFields hd λz=>z.setIfInBounds 1 (Value.ref g1.objs.size)
 have nT:g1.objs.size≠a:=Nat.ne_of_gt (Heap.lt_size e1)
 refine k _ g1.objs.size ⟨?_,nT,λb o hb hz q=>?_,λb o hb q=>?_,Heap.get?_update_self _ e2 (Obj.isFreed_of_fields d3),⟨te,_,?_,hda,?_⟩⟩
 ·cases q:s.heap.get? g1.objs.size with
  | none=>rfl
  | some o=>obtain ⟨sl,z⟩:=so.2.2 _ _ q; exact absurd (Heap.lt_size z) (Nat.lt_irrefl _)
 ·rw [Heap.get?_update_other _ _ (Ne.symm hb)]
  exact Heap.get?_push_of_some te ((so.2.1 b hz).trans q)
 ·obtain ⟨sl,z⟩:=so.2.2 b o q
  refine ⟨sl,?_⟩
  rw [Heap.get?_update_other _ _ (Ne.symm hb)]
  exact Heap.get?_push_of_some te z
 ·rw [Heap.get?_update_other _ _ (Ne.symm nT)]
  exact Heap.get?_push_size g1 nf
 ·first | (simp; done) | (rcases ip with rfl | ⟨_,_,_,_,_,_,_,rfl⟩ <;> simp)
structure Stn (fs Z:List Addr) (h h':Heap) (a T:Addr) (cls:Value):Prop where
 new:h.get? T=none
 keep:∀b o,b ∉ Z->b ∉ fs->h.get? b=some o->h'.get? b=some o
 slot:∀b o,b ∉ Z->h.get? b=some o->∃sl,h'.get? b=some { o with slots:=sl }
 trc:Trc h' a T cls
theorem bi5 {fl:Value} (tr:Trf s.heap a T cls fl) (k:∀h',(∀b o,b≠T->s.heap.get? b=some o->h'.get? b=some o)->Trc h' a T cls->Q () { s with heap:=h' }):wpAny M A (setFlight (.ref a) none) Q E s:=by
 obtain ⟨oe,vs,oT,ts,h1,h2,h3,h4,h5,h6,h7,h8,h9⟩:=tr
 have sz:3 < ts.size:=(Array.getElem?_eq_some_iff.mp h9).1
 unfold setFlight
 refine wpAny_bind (wpAny_field h1 h4 h5 ?_)
 rw [if_pos (by simp)]
 refine wpAny_setField h7 h8 sz (k _ (λb o hb q=>(Heap.get?_update_other _ _ (Ne.symm hb)).trans q) ?_)
 have d:=Obj.data_mapFields h8 λz=>z.setIfInBounds 3 ((none:Option Addr).elim Value.none λf=>rawInt f)
 exact ⟨oe,vs,_,_,(Heap.get?_update_other _ _ h6).trans h1,h2,h3,h4,h5,h6,Heap.get?_update_self _ h7 (Obj.isFreed_of_fields d),d,by simp [sz]⟩
theorem Ent.fin {fs:List Addr} {h h':Heap} {a T L:Addr} {oe:Obj} {vs:Array Value} (e:Ent fs h h' a T oe L) (hd:oe.data=.fields vs) (hsz:1 < vs.size) (hdi:oe.dict=none):Trf h' a T oe.cls (rawInt L):=by
 obtain ⟨oT,ts,e1,e2,e3⟩:=e.ent
 exact ⟨_,_,oT,ts,e.exc,Obj.cls_mapFields _ _,by rw [bi4]; exact hdi,Obj.data_mapFields hd _,by simp [hsz],e.ne,e1,e2,e3⟩
theorem bw1 (hfr:A.frames=some (env :: outer)) (hl:s.heap.FunFrames base (env :: outer)) (hf:env.frame=some L) (na:a ∉ (env :: outer).filterMap (·.frame)) (tr:Trc s.heap a T cls)
  (k:∀h' T',Stn ((env :: outer).filterMap (·.frame)) [a,T] s.heap h' a T' cls->Q () { s with heap:=h' }):wpAny M A (noteFrame (.ref a) env) (λ_ s₂=>wpAny M A (setFlight (.ref a) none) Q E s₂) E s:=by
 obtain ⟨oe,vs,oT,ts,h1,h2,h3,h4,h5,h6,h7,h8,h9⟩:=tr
 have s1:1 < vs.size:=(Array.getElem?_eq_some_iff.mp h5).1
 have s3:3 < ts.size:=(Array.getElem?_eq_some_iff.mp h9).1
 unfold noteFrame
 simp only [hf]
 refine wpAny_bind (wpAny_field h1 h4 h5 ?_)
 rw [if_pos (by simp)]
 refine wpAny_bind (wpAny_field h7 h8 h9 ?_)
 rw [if_neg (by simp [rawInt])]
 refine wpAny_bind (wpAny_setField h7 h8 s3 ?_)
 generalize hg:s.heap.update T (Obj.mapFields λz=>z.setIfInBounds 3 Value.none)=g
 have oth:∀b,b≠T->g.get? b=s.heap.get? b:=λb hb=>by rw [<-hg]; exact Heap.get?_update_other _ _ (Ne.symm hb)
 have bT:∀b o,s.heap.get? b=some o->(∀ws,o.data≠.fields ws)->b≠T:=λb o q hn z=>by subst z; rw [h7] at q; cases q; exact hn ts h8
 have gT:∃oT',g.get? T=some oT':=⟨_,by rw [<-hg]; exact Heap.get?_update_self _ h7 (Obj.isFreed_of_fields (Obj.data_mapFields h8 _))⟩
 refine by0 (s:={ s with heap:=g }) hfr (hl.of_keeps λb o q hn=>⟨o,(oth b (bT b o q hn)).trans q,rfl⟩) hf ((oth a (Ne.symm h6)).trans h1) h4 s1 na λh' T' en=>?_
 have nT':T'≠T:=λz=>by subst z; obtain ⟨o,q⟩:=gT; rw [en.new] at q; cases q
 refine bi5 (s:={ s with heap:=h' }) (h2 ▸ en.fin h4 s1 h3) λh'' kp tr''=>?_
 refine k h'' T' ⟨(oth T' nT').symm.trans en.new,λb o hz hb q=>?_,λb o hz q=>?_,tr''⟩
 ·have z1:b≠a:=λz=>hz (by simp [z])
  have z2:b≠T:=λz=>hz (by simp [z])
  have z3:b≠T':=λz=>by have:=en.new; rw [<-z,oth b z2,q] at this; cases this
  exact kp b o z3 (en.keep b o z1 hb ((oth b z2).trans q))
 ·have z1:b≠a:=λz=>hz (by simp [z])
  have z2:b≠T:=λz=>hz (by simp [z])
  have z3:b≠T':=λz=>by have:=en.new; rw [<-z,oth b z2,q] at this; cases this
  obtain ⟨sl,r⟩:=en.slot b o z1 ((oth b z2).trans q)
  exact ⟨sl,kp b _ z3 r⟩
theorem bv0 {h1:Heap} {args:List Value} (hfr:A.frames=some (env :: outer)) (hl:s.heap.FunFrames base (env :: outer)) (hf:env.frame=some L) (hx:Heap.MadeExcOf s.heap h1 a cls args)
  (k:∀h' T',Stn ((env :: outer).filterMap (·.frame)) [] s.heap h' a T' cls->Q () { s with heap:=h' }):wpAny M A (noteFrame (.ref a) env) (λ_ s₂=>wpAny M A (setFlight (.ref a) none) Q E s₂) E { s with heap:=h1 }:=by
 obtain ⟨t,e1,_,_⟩:=hx.there
 have na:a ∉ (env :: outer).filterMap (·.frame):=λhb=>by obtain ⟨_,o,ho,_⟩:=hl.mem hb; rw [hx.new] at ho; cases ho
 unfold noteFrame
 simp only [hf]
 refine wpAny_bind (wpAny_field (s:={ s with heap:=h1 }) e1 rfl (x:=.none) (by rfl) ?_)
 rw [if_neg (by decide)]
 refine by0 (s:={ s with heap:=h1 }) hfr (hl.of_keeps λb o q _=>⟨o,hx.keeps b o q,rfl⟩) hf e1 rfl (by simp) na λh' T' en=>?_
 refine bi5 (s:={ s with heap:=h' }) (en.fin rfl (by simp) rfl) λh'' kp tr''=>?_
 have ba:∀b o,s.heap.get? b=some o->b≠a:=λb o q z=>by rw [z,hx.new] at q; cases q
 have bT:∀b o,s.heap.get? b=some o->b≠T':=λb o q z=>by have:=hx.keeps b o q; rw [z,en.new] at this; cases this
 refine k h'' T' ⟨?_,λb o _ hb q=>kp b o (bT b o q) (en.keep b o (ba b o q) hb (hx.keeps b o q)),λb o _ q=>?_,tr''⟩
 ·cases q:s.heap.get? T' with
  | none=>rfl
  | some o=>exact absurd rfl (bT T' o q)
 ·obtain ⟨sl,r⟩:=en.slot b o (ba b o q) (hx.keeps b o q)
  exact ⟨sl,kp b _ (bT b o q) r⟩
end
end L2
namespace L2
open PySem PySem.Spec PyProof.Rows
theorem ObjOk.there {P:Program} {w:World} {H:Hp} {h:Heap} {a:Addr} {o:HO} (x:ObjOk P w H h a o):∃u,h.get? a=some u:=by
 cases o with
 | lst xs=>obtain ⟨_,_,_,_,e⟩:=x; exact ⟨_,e⟩
 | tup xs=>obtain ⟨_,_,_,o,e,_⟩:=x; exact ⟨o,e⟩
 | dK kvs=>obtain ⟨_,_,_,_,o,_,_,e,_⟩:=x; exact ⟨_,e⟩
 | dT kvs=>obtain ⟨_,_,_,_,o,_,_,e,_⟩:=x; exact ⟨_,e⟩
 | set S n=>obtain ⟨o,_,_,_,e,_⟩:=x; exact ⟨_,e⟩
 | ins C dx fs=>obtain ⟨_,_,_,e,_⟩:=x; exact ⟨_,e⟩
 | own y=>exact x
 | xd fs=>obtain ⟨_,⟨_,_,_,e,_⟩,_⟩:=x; exact ⟨_,e⟩
 | rng lo hi=>obtain ⟨_,_,_,e⟩:=x; exact ⟨_,e⟩
 | frz ob u=>obtain ⟨e,_⟩:=x; exact ⟨_,e⟩
 | tbl ps=>exact ⟨_,show h.get? a=some _ from x.1⟩
 | met f y=>exact ⟨_,show h.get? a=some _ from x⟩
 | ext φ=>obtain ⟨_,e,_⟩:=x; exact e
theorem HOk.none {P:Program} {w:World} {H:Hp} {h:Heap} {a:Addr} (x:HOk P w H h) (e:h.get? a=.none):H a=.none:=by
 cases q:H a with
 | none=>rfl
 | some u=>obtain ⟨o,z⟩:=(x a u q).there; rw [e] at z; cases z
structure Apart (X:Cx) (pins:List (Addr × Obj)) (H:Hp) (b:Addr):Prop where
 old:X.s₀.heap.get? b=none
 free:H b=none
 loc:b≠X.env.locals
 cell:∀x c,X.env.cells.lookup x=some c->c≠b
 pin:∀p∈X.pn++pins,p.1≠b
 fr:b ∉ frs X.stack
section
variable {X:Cx} {pins:List (Addr × Obj)} {σ:St} {H H':Hp} {s:Shared} {a T b:Addr} {cls:Value} {M:Model} {Q:Unit->Shared->Prop} {E:Value->Shared->Prop} {h':Heap}
theorem bw0 (I:Inv X pins σ H s) (hb:b∈frs X.stack):∃o,s.heap.get? b=some o/\∀vs,o.data≠.fields vs:=(I.stack.mem hb).2
theorem Inv.old (I:Inv X pins σ H s) (hex:X.ex=[]) (e:s.heap.get? b=none):X.s₀.heap.get? b=none:=by
 cases q:X.s₀.heap.get? b with
 | none=>rfl
 | some o=>obtain ⟨o',z⟩:=I.base.there b o q (by rw [hex]; simp); rw [e] at z; cases z
theorem Inv.apart (I:Inv X pins σ H s) (hex:X.ex=[]) (e:s.heap.get? b=none) (n:H' b=none):Apart X pins H' b where
 old:=I.old hex e
 free:=n
 loc:=λz=>by obtain ⟨m,⟨o,_,_,ho,_⟩,_⟩:=I.loc; rw [z,ho] at e; cases e
 cell:=λx c hc z=>by obtain ⟨v,o,ho,_⟩:=I.cell x c hc; rw [z,e] at ho; cases ho
 pin:=λp hp z=>by have:=(I.pin p hp).1; rw [z,e] at this; cases this
 fr:=λhb=>by obtain ⟨o,ho,_⟩:=bw0 I hb; rw [e] at ho; cases ho
theorem bH5 (I:Inv X pins σ H s) (hst:X.stack=X.env :: X.outer) (hex:X.ex=[]) (hf:X.env.frame=some X.env.locals) (Z:List Addr) (hZ:∀b∈Z,X.s₀.heap.get? b=none/\H b=none)
  (keep:∀b o,b ∉ Z->b ∉ frs X.stack->s.heap.get? b=some o->h'.get? b=some o) (slots:∀b o,b ∉ Z->s.heap.get? b=some o->∃sl,h'.get? b=some { o with slots:=sl }) :
  Un (frs X.outer) [] X.H₀ H X.s₀.heap h'/\HOk X.prog X.w H h':=by
 have inZ:∀b o,X.s₀.heap.get? b=some o->b ∉ Z:=λb o e z=>by rw [(hZ b z).1] at e; cases e
 have sub:∀b,b∈frs X.stack->b=X.env.locals\/b∈frs X.outer:=λb hb=>by
  rw [hst] at hb
  unfold frs at hb
  rw [List.filterMap_cons,hf] at hb
  exact List.mem_cons.mp hb
 have sup:∀b,b∈frs X.outer->b∈frs X.stack:=λb hb=>by
  rw [hst]
  unfold frs
  rw [List.filterMap_cons,hf]
  exact List.mem_cons_of_mem _ hb
 have neL:∀b o,X.s₀.heap.get? b=some o->b≠X.env.locals:=λb o e=>Nat.ne_of_lt (Nat.lt_of_lt_of_le (Heap.lt_size e) I.ok.above)
 have nx:∀b:Addr,b ∉ X.ex:=λb=>by rw [hex]; simp
 refine ⟨⟨λb o e n hb _=>?_,λb o e n hb _=>?_,λb o e n _=>I.base.free b o e n (nx b),λb o e _=>?_,I.base.tups,I.base.frzs,I.base.tbls⟩,λb ob e=>?_⟩
 ·exact keep b o (inZ b o e) (λz=>(sub b z).elim (neL b o e) hb) (I.base.keep b o e n hb (nx b))
 ·obtain ⟨sl,e1⟩:=I.base.slot b o e n hb (nx b)
  exact (slots b _ (inZ b o e) e1).imp λsl h=>h
 ·obtain ⟨o',e1⟩:=I.base.there b o e (nx b)
  exact (slots b o' (inZ b o e) e1).elim λsl q=>⟨_,q⟩
 ·refine (I.hok b ob e).stay (λc u hc q=>keep c u (λz=>?_) (λz=>?_) q) (λ_ q=>q) (λ_ _ q=>q) λ_ _ q=>q
  ·have n:=(hZ c z).2
   rcases hc with rfl | hc
   ·rw [n] at e; cases e
   ·rw [n] at hc; cases hc
  ·have n:=I.stkFree c z
   rcases hc with rfl | hc
   ·rw [n] at e; cases e
   ·rw [n] at hc; cases hc
structure Gone (X:Cx) (H:Hp) (h':Heap) (a T:Addr) (cls:Value):Prop where
 un:Un (frs X.outer) [] X.H₀ H X.s₀.heap h'
 hok:HOk X.prog X.w H h'
 trc:Trc h' a T cls
 a0:X.s₀.heap.get? a=none
 a1:H a=none
 t0:X.s₀.heap.get? T=none
 t1:H T=none
theorem bH3 (I:Inv X pins σ H s) (hst:X.stack=X.env :: X.outer) (hex:X.ex=[]) (hf:X.env.frame=some X.env.locals) (tr:Trc s.heap a T cls) (pa:Apart X pins H a) (pT:Apart X pins H T)
  (hQ:∀h' T',Gone X H h' a T' cls->Q () { s with heap:=h' }):wpAny M X.A (leaving X.env (.ref a)) Q E s:=by
 have hZ:∀b∈[a,T],X.s₀.heap.get? b=none/\H b=none:=λb hb=>by
  rcases List.mem_cons.mp hb with rfl | hb
  ·exact ⟨pa.old,pa.free⟩
  ·rw [List.mem_singleton.mp hb]; exact ⟨pT.old,pT.free⟩
 have na:a ∉ (X.env :: X.outer).filterMap (·.frame):=by have:=pa.fr; rw [hst] at this; exact this
 refine wpAny_bind (bw1 (base:=X.base) (by rw [I.ok.frames,hst]) (hst ▸ I.stack) hf na tr λh' T' st=>?_)
 have kp:∀b o,b ∉ [a,T]->b ∉ frs X.stack->s.heap.get? b=some o->h'.get? b=some o:=λb o hz hb q=>st.keep b o hz (by rw [hst] at hb; exact hb) q
 obtain ⟨un,hok⟩:=bH5 (h':=h') I hst hex hf [a,T] hZ kp st.slot
 exact hQ h' T' ⟨un,hok,st.trc,pa.old,pa.free,I.old hex st.new,I.hok.none st.new⟩
theorem bI0 {h1:Heap} {args:List Value} (I:Inv X pins σ H s) (hst:X.stack=X.env :: X.outer) (hex:X.ex=[]) (hf:X.env.frame=some X.env.locals) (hx:Heap.MadeExcOf s.heap h1 a cls args)
  (hQ:∀h' T',Gone X H h' a T' cls->Q () { s with heap:=h' }):wpAny M X.A (leaving X.env (.ref a)) Q E { s with heap:=h1 }:=by
 refine wpAny_bind (bv0 (base:=X.base) (by rw [I.ok.frames,hst]) (hst ▸ I.stack) hf hx λh' T' st=>?_)
 have kp:∀b o,b ∉ ([]:List Addr)->b ∉ frs X.stack->s.heap.get? b=some o->h'.get? b=some o:=λb o hz hb q=>st.keep b o hz (by rw [hst] at hb; exact hb) q
 obtain ⟨un,hok⟩:=bH5 (h':=h') I hst hex hf [] (λb hb=>absurd hb (by simp)) kp st.slot
 exact hQ h' T' ⟨un,hok,st.trc,I.old hex hx.new,I.hok.none hx.new,I.old hex st.new,I.hok.none st.new⟩
end
noncomputable def CX1 (P:Program) (w:World):CXT:=λouter H s E e s'=>∃a T cls H',e=.ref a/\s'.os=s.os/\AllBare s'.gens/\Un (frs outer) [] H H' s.heap s'.heap/\HOk P w H' s'.heap/\Trc s'.heap a T cls /\
 s.heap.get? a=none/\H' a=none/\s.heap.get? T=none/\H' T=none/\E cls none H'
section
variable {X:Cx} {pins:List (Addr × Obj)} {σ:St} {H H':Hp} {s:Shared} {a T b:Addr} {cls:Value} {M:Model} {Q:Unit->Shared->Prop} {E:Value->Shared->Prop} {h':Heap}
theorem Inv.stand (I:Inv X pins σ H s) (hex:X.ex=[]) (Z:List Addr) (hZ:∀b∈Z,Apart X pins H b)
  (keep:∀b o,b ∉ Z->b ∉ frs X.stack->s.heap.get? b=some o->h'.get? b=some o) (slots:∀b o,b ∉ Z->s.heap.get? b=some o->∃sl,h'.get? b=some { o with slots:=sl }) (g':Array GenState) (t':Nat) (d':Drawn) (hg:AllBare g') :
  Inv X pins σ H { s with heap:=h',gens:=g',toks:=t',drawn:=d' }:=by
 have nx:∀b:Addr,b ∉ X.ex:=λb=>by rw [hex]; simp
 have any:=slots
 have inZ:∀b o,X.s₀.heap.get? b=some o->b ∉ Z:=λb o e z=>by rw [(hZ b z).old] at e; cases e
 have neL:∀b o,X.s₀.heap.get? b=some o->b≠X.env.locals:=λb o e=>Nat.ne_of_lt (Nat.lt_of_lt_of_le (Heap.lt_size e) I.ok.above)
 have cz:∀x c,X.env.cells.lookup x=some c->c ∉ Z:=λx c e z=>(hZ c z).cell x c e rfl
 have cellK:∀x c,X.env.cells.lookup x=some c->∀v,s.heap.IsCell c v->h'.IsCell c v:=λx c e v zz=>by
  obtain ⟨o,ho,hd⟩:=zz
  obtain ⟨sl,q⟩:=any c o (cz x c e) ho
  exact ⟨_,q,hd⟩
 have nsL:∀b,b ∉ X.fs->b≠X.env.locals->b ∉ frs X.stack:=λb h1 h2 h3=>(List.mem_cons.mp (I.stkSub b h3)).elim h2 h1
 refine ⟨I.ok,I.os,hg,⟨λb o e n hb hx=>?_,λb o e n hb hx=>?_,I.base.free,λb o e hx=>?_,I.base.tups,I.base.frzs,I.base.tbls⟩,?_,λx c e=>?_,I.free,I.freeC,λp hp=>?_,λb ob e=>?_,I.len⟩
 ·exact keep b o (inZ b o e) (nsL b hb (neL b o e)) (I.base.keep b o e n hb hx)
 ·obtain ⟨sl,e1⟩:=I.base.slot b o e n hb hx
  obtain ⟨sl',e2⟩:=any b _ (inZ b o e) e1
  exact ⟨sl',e2⟩
 ·obtain ⟨o',e1⟩:=I.base.there b o e hx
  obtain ⟨sl,e2⟩:=any b o' (inZ b o e) e1
  exact ⟨_,e2⟩
 ·obtain ⟨m,hn,hl⟩:=I.loc
  obtain ⟨o,es,ep,ho,hd,r⟩:=id hn
  obtain ⟨sl,q⟩:=slots _ o (λz=>(hZ _ z).loc rfl) ho
  refine ⟨m,⟨_,es,ep,q,hd,r⟩,λi x v e1 e2 e3=>?_⟩
  obtain ⟨u,r,l⟩:=hl i x v e1 e2 e3
  refine ⟨u,r,?_⟩
  rcases l with l | ⟨k,c,e,z⟩
  ·exact .inl l
  ·exact .inr ⟨k,c,e,cellK x c e _ z⟩
 ·obtain ⟨v,z⟩:=I.cell x c e
  exact ⟨v,cellK x c e v z⟩
 ·obtain ⟨e,n,ne,nf,d⟩:=I.pin p hp
  exact ⟨keep p.1 p.2 (λz=>(hZ _ z).pin p hp rfl) (nsL _ nf ne) e,n,ne,nf,d⟩
 ·refine (I.hok b ob e).stay (λc u hc q=>keep c u (λz=>?_) (λz=>?_) q) (λ_ q=>q) (λ_ _ q=>q) λ_ _ q=>q
  ·have n:=(hZ c z).free
   rcases hc with rfl | hc
   ·rw [n] at e; cases e
   ·rw [n] at hc; cases hc
  ·have n:=I.stkFree c z
   rcases hc with rfl | hc
   ·rw [n] at e; cases e
   ·rw [n] at hc; cases hc
end
end L2
namespace L2
open PySem PySem.W PySem.Spec PySem.Calls PyProof.Rows
section
variable {prog:Program} {w:World} {A:Around} {E:Value->Shared->Prop} {s:Shared} {K:Frag} {x D:Addr} {ox:Obj} {odo:Option Obj}
end
end L2
namespace L2
open PySem PySem.W PySem.Spec PySem.Calls PyProof.Rows
section
variable {prog:Program} {w:World} {A:Around} {E:Value->Shared->Prop} {s:Shared} {K:Frag} {x D:Addr} {ox:Obj} {odo:Option Obj}
structure XCls (K:Frag) (C:Addr):Prop where
 cls:(clsIn K C).isSome=true
 ga:findIn K (.ref C) "__getattribute__"=some (some (.builtin "BaseException.__getattribute__"))
 gt:findIn K (.ref C) "__getattr__"=some none
 ca:findIn K (.ref C) "__class__"=some (some (.builtin "object.__class__"))
 hn:specialIn K (.builtin "object.__class__") "__get__"=some (some (.builtin "getset_descriptor.__get__"))
 tk:takesIn K (.builtin "object.__class__")=some true
 mo:mroIn K C (.type "object")=some true
 mb:mroIn K C (.type "BaseException")=some true
noncomputable def XAt (a C:Addr) (h:Heap):Prop:=∃o,h.get? a=some o/\o.cls=.ref C/\notCls o=true/\o.dict=none
end
end L2
namespace L2
open PySem PySem.Spec PyProof.Rows
section
variable {X:Cx} {pins:List (Addr × Obj)} {σ:St} {H:Hp} {s:Shared} {h':Heap} {its:List Addr} {T:Addr} {o:HO} {t':Nat}
theorem Inv.turnedL (I:Inv X pins σ H s) (k:∀b o,b ∉ its->s.heap.get? b=some o->h'.get? b=some o) (hf:∀b∈its,bA4 X pins H b):Inv X pins σ H { s with heap:=h',toks:=t' }:=by
 have nit:∀b u,H b=some u->b ∉ its:=λb u e z=>by have:=(hf b z).1; rw [this] at e; cases e
 refine I.step (g':=s.gens) (d':=s.drawn) (ch:=its) (λb hb=>?_) (λb o _ _ hc e _=>k b o hc e) (λb o _ _ hc e _=>⟨o.slots,k b o hc e⟩) (λ_ _ _ _ n=>n)
  (λb o hc e=>⟨o,k b o hc e⟩) (λ_ _ e=>e) (λ_ _ _ e=>e) (λb ps e=>⟨#[],by rw [e]; simp⟩) (λm hm=>?_) (λb u e=>?_) I.bare
 ·obtain ⟨_,h1,_,h2,h3,h4⟩:=hf b hb
  exact ⟨h2,h1,h3,h4⟩
 ·obtain ⟨o,es,ep,ho,r⟩:=hm
  exact ⟨o,es,ep,k _ o (λz=>(hf _ z).2.1 rfl) ho,r⟩
 ·refine (I.hok b u e).stay (λc v hc q=>k c v ?_ q) (λ_ q=>q) (λ_ _ q=>q) λ_ _ q=>q
  rcases hc with z | z
  ·rw [z]; exact nit b u e
  ·exact nit c _ z
theorem Inv.turnedT (I:Inv X pins σ H s) (k:∀b o,b ∉ its->s.heap.get? b=some o->h'.get? b=some o) (hf:∀b∈its,bA4 X pins H b) (hT:s.heap.objs.size<=T) (new:ObjOk X.prog X.w (upd H T o) h' T o) :
  Inv X pins σ (upd H T o) { s with heap:=h',toks:=t' }:=by
 have nit:∀b u,H b=some u->b ∉ its:=λb u e z=>by have:=(hf b z).1; rw [this] at e; cases e
 have fT:H T=none:=I.hok.fresh hT
 have neT:∀b u,H b=some u->b≠T:=λb u e z=>by rw [z,fT] at e; cases e
 have neS:∀b u,s.heap.get? b=some u->b≠T:=λb u e z=>absurd (Nat.lt_of_lt_of_le (Heap.lt_size e) hT) (by rw [z]; exact Nat.lt_irrefl _)
 refine I.step (g':=s.gens) (d':=s.drawn) (ch:=its) (λb hb=>?_) (λb o _ _ hc e _=>k b o hc e) (λb o _ _ hc e _=>⟨o.slots,k b o hc e⟩) (λb u _ e n=>by rw [aP5 (neS b u e)]; exact n)
  (λb o hc e=>⟨o,k b o hc e⟩) (λb _ e=>by rw [aP5 (neT b _ e)]; exact e) (λb _ _ e=>by rw [aP5 (neT b _ e)]; exact e) (λb ps e=>⟨#[],by rw [aP5 (neT b _ e),e]; simp⟩) (λm hm=>?_) (λb u e=>?_) I.bare
 ·obtain ⟨_,h1,_,h2,h3,h4⟩:=hf b hb
  exact ⟨h2,h1,h3,h4⟩
 ·obtain ⟨o,es,ep,ho,r⟩:=hm
  exact ⟨o,es,ep,k _ o (λz=>(hf _ z).2.1 rfl) ho,r⟩
 ·by_cases hb:b=T
  ·subst hb; rw [aP7] at e; cases e; exact new
  ·rw [aP5 hb] at e
   refine (I.hok b u e).stay (λc v hc q=>k c v ?_ q) (λc q=>by rw [aP5 (neT c _ q)]; exact q) (λc _ q=>by rw [aP5 (neT c _ q)]; exact q) λc _ q=>by rw [aP5 (neT c _ q)]; exact q
   rcases hc with z | z
   ·rw [z]; exact nit b u e
   ·exact nit c _ z
noncomputable def Itz (K:PySem.W.Frag) (a b:Addr):It :=
 ⟨λi H=>∃xs ys x y,SqL K H a xs/\SqL K H b ys/\xs[i]?=some x/\ys[i]?=some y,
  λi H v H'=>∃T x y,v=.ref T/\H T=none/\H'=upd H T (.tup [x,y])/\(∀xs,SqL K H a xs->xs[i]?=some x)/\∀ys,SqL K H b ys->ys[i]?=some y,
  λi H=>∃xs ys,SqL K H a xs/\SqL K H b ys/\(xs.length<=i\/ys.length<=i)⟩
theorem aZ4 {K:PySem.W.Frag} {a c:Addr} {xs:List V} (hk:X.K=K) (I:Inv X pins σ H s) (h:SqL K H a xs) (hf:bA4 X pins H c) (ho:∃o,s.heap.get? c=some o/\o.cls≠.type "list"):a≠c:=by
 subst hk
 obtain ⟨its,rv,p,hz⟩:=I.list h
 obtain ⟨o,e,d⟩:=ho
 obtain ⟨o',e',c',_⟩:=p.isList
 intro z
 subst z
 rw [e] at e'; cases e'
 exact d c'
theorem bU5 {P:Program} {w:World} {K:PySem.W.Frag} {elts:List Expr} {k:Nat} {pos:Pos} (a b z TI TO i1 i2:Addr) (D5:[z,TI,TO,i1,i2].Nodup) :
  Turn P w K (.Tuple elts k pos) (Itz K a b) [z,TI,TO,i1,i2] z (λi h=>IsZip h z TI TO .none/\IsPair h TI (.ref i1) (.ref i2)/\(∃u v,IsPair h TO u v)/\h.IsListIter i1 a i/\h.IsListIter i2 b i):=by
 have ap:∀(X:Cx) (pins:List (Addr × Obj)) (s:Shared) (σ:St) (H:Hp) (i:Nat) (xs ys:List V),X.K=K->Inv X pins σ H s->(∀b∈[z,TI,TO,i1,i2],bA4 X pins H b)->IsZip s.heap z TI TO .none->(∃u v,IsPair s.heap TO u v)->s.heap.IsListIter i1 a i->s.heap.IsListIter i2 b i ->
   SqL K H a xs->SqL K H b ys->ZipApart z TI TO i1 i2 a b:=by
  intro X pins s σ H i xs ys hK I hf hz hTO h1 h2 hx hy
  simp only [List.nodup_cons,List.mem_cons,not_or,List.not_mem_nil,not_false_eq_true,and_true] at D5
  obtain ⟨⟨d1,d2,d3,d4⟩,⟨d5,d6,d7⟩,⟨d8,d9⟩,d10,_⟩:=D5
  have oz:∃o,s.heap.get? z=some o/\o.cls≠.type "list":=⟨_,hz,by intro q; exact absurd (Value.type.inj q) (by decide)⟩
  have oTO:∃o,s.heap.get? TO=some o/\o.cls≠.type "list":=by obtain ⟨u,v,e⟩:=hTO; exact ⟨_,e,by intro q; exact absurd (Value.type.inj q) (by decide)⟩
  have o1:∃o,s.heap.get? i1=some o/\o.cls≠.type "list":=by obtain ⟨o,e,c,d⟩:=h1; exact ⟨_,e,by rw [c]; intro q; exact absurd (Value.type.inj q) (by decide)⟩
  have o2:∃o,s.heap.get? i2=some o/\o.cls≠.type "list":=by obtain ⟨o,e,c,d⟩:=h2; exact ⟨_,e,by rw [c]; intro q; exact absurd (Value.type.inj q) (by decide)⟩
  exact ⟨Ne.symm d1,Ne.symm d2,Ne.symm d3,Ne.symm d4,d5,d6,d7,d8,d9,d10,
   aZ4 hK I hx (hf z (by simp)) oz,aZ4 hK I hx (hf TO (by simp)) oTO,aZ4 hK I hx (hf i1 (by simp)) o1,aZ4 hK I hx (hf i2 (by simp)) o2,
   aZ4 hK I hy (hf z (by simp)) oz,aZ4 hK I hy (hf TO (by simp)) oTO,aZ4 hK I hy (hf i1 (by simp)) o1,aZ4 hK I hy (hf i2 (by simp)) o2⟩
 refine ⟨by simp,λi h st c hc=>?_,λi h h' st kk=>?_,?_,?_,λ_ _ _ _ _ st h=>wpAny_pyIter_zip st.1 h⟩
 ·obtain ⟨hz,hTI,⟨u,v,hTO⟩,⟨o1,e1,c1,d1⟩,⟨o2,e2,c2,d2⟩⟩:=st
  simp only [List.mem_cons,List.not_mem_nil,or_false] at hc
  rcases hc with rfl | rfl | rfl | rfl | rfl
  ·exact ⟨_,hz,λv q=>by cases q⟩
  ·exact ⟨_,hTI,λv q=>by cases q⟩
  ·exact ⟨_,hTO,λv q=>by cases q⟩
  ·exact ⟨_,e1,λv q=>by rw [d1] at q; cases q⟩
  ·exact ⟨_,e2,λv q=>by rw [d2] at q; cases q⟩
 ·obtain ⟨hz,hTI,⟨u,v,hTO⟩,h1,h2⟩:=st
  exact ⟨kk _ (by simp) _ hz,kk _ (by simp) _ hTI,⟨u,v,kk _ (by simp) _ hTO⟩,h1.at λo e=>kk _ (by simp) o e,h2.at λo e=>kk _ (by simp) o e⟩
 ·intro X hP hw hK hc i pins s σ H E I hf st hg
  obtain ⟨xs,ys,x,y,hx,hy,ex,ey⟩:=hg
  obtain ⟨hz,hTI,⟨u,v,hTO⟩,h1,h2⟩:=st
  have D:=ap X pins s σ H i xs ys hK I hf hz ⟨u,v,hTO⟩ h1 h2 hx hy
  subst hP hw hK
  obtain ⟨as,ra,pa,_⟩:=I.list hx
  obtain ⟨bs,rb,pb,_⟩:=I.list hy
  obtain ⟨ux,eux,rx⟩:=ra.get ex
  obtain ⟨uy,euy,ry⟩:=rb.get ey
  refine wpAny_pyNext_zip_item D hz hTI hTO h1 h2 pa.isList pb.isList (x:=ux) (y:=uy) (by simpa using eux) (by simpa using euy) λh' z' TO' h1' h2' T' sz kk=>?_
  have fT:H s.heap.objs.size=none:=I.hok.fresh (Nat.le_refl _)
  have I1:Inv X pins σ (upd H s.heap.objs.size (.tup [x,y])) { s with heap:=h',toks:=s.toks }:=I.turnedT (its:=[z,TO,i1,i2]) (λc o hc e=>kk c o (λq=>hc (by simp [q])) (λq=>hc (by simp [q])) (λq=>hc (by simp [q])) (λq=>hc (by simp [q])) e)
   (λc hc=>hf c (by simp only [List.mem_cons,List.not_mem_nil,or_false] at hc ⊢; rcases hc with rfl | rfl | rfl | rfl <;> simp)) (Nat.le_refl _) ⟨by show 2<=sizeLine; decide,[ux,uy],.cons rx (.cons ry .nil),⟨_,T',rfl,_,rfl⟩⟩
  have nT:∀c∈[z,TI,TO,i1,i2],c≠s.heap.objs.size:=λc hc q=>by
   have:∃o,s.heap.get? c=some o:=by
    simp only [List.mem_cons,List.not_mem_nil,or_false] at hc
    rcases hc with rfl | rfl | rfl | rfl | rfl
    ·exact ⟨_,hz⟩
    ·exact ⟨_,hTI⟩
    ·exact ⟨_,hTO⟩
    ·obtain ⟨o,e,_⟩:=h1; exact ⟨o,e⟩
    ·obtain ⟨o,e,_⟩:=h2; exact ⟨o,e⟩
   obtain ⟨o,e⟩:=this
   exact absurd (Heap.lt_size e) (by rw [q]; exact Nat.lt_irrefl _)
  refine ⟨_,rfl,wpAny_letOwnedTupleGo_zip z' λh2'' z'' sb=>?_⟩
  have hfz:∀c∈[z],bA4 X pins (upd H s.heap.objs.size (.tup [x,y])) c:=λc hc=>by
   have e:c=z:=by simpa using hc
   subst e
   obtain ⟨f0,fr⟩:=hf c (by simp)
   exact ⟨by rw [aP5 (nT c (by simp))]; exact f0,fr⟩
  have I2:=Inv.turnedL (h':=h2'') (its:=[z]) (t':=s.toks) I1 (λc o hc e=>sb.extBut _ _ (λq=>hc (by simp [q])) e) hfz
  refine ⟨.ref s.heap.objs.size,_,I2,rfl,⟨_,x,y,rfl,fT,rfl,λxs' hx'=>by rw [I.list_inj hx' hx]; exact ex,λys' hy'=>by rw [I.list_inj hy' hy]; exact ey⟩,⟨z'',sb.extBut _ _ D.TIz (kk _ _ D.TIz D.TITO D.TIi1 D.TIi2 hTI),⟨ux,uy,sb.extBut _ _ D.TOz TO'⟩,h1'.extBut sb.extBut D.i1z,h2'.extBut sb.extBut D.i2z⟩,λc hc=>?_⟩
  rw [aP5 (nT c hc)]
  exact (hf c hc).1
 ·intro X hP hw hK hc i pins s σ H E I hf st hg
  obtain ⟨xs,ys,hx,hy,hl⟩:=hg
  obtain ⟨hz,hTI,⟨u,v,hTO⟩,h1,h2⟩:=st
  have D:=ap X pins s σ H i xs ys hK I hf hz ⟨u,v,hTO⟩ h1 h2 hx hy
  subst hP hw hK
  obtain ⟨as,ra,pa,_⟩:=I.list hx
  obtain ⟨bs,rb,pb,_⟩:=I.list hy
  have la:=ra.length
  have lb:=rb.length
  refine wpAny_pyNext_zip_end (I.ok.hd hc) D hz hTI hTO h1 h2 pa.isList pb.isList (hl.imp (λq=>by simp; omega) λq=>by simp; omega) λh' kk=>⟨rfl,?_⟩
  exact I.turnedL (its:=[z,TO,i1,i2]) (t':=s.toks) (λc o hc e=>kk c o (λq=>hc (by simp [q])) (λq=>hc (by simp [q])) (λq=>hc (by simp [q])) (λq=>hc (by simp [q])) e)
   (λc hc=>hf c (by simp only [List.mem_cons,List.not_mem_nil,or_false] at hc ⊢; rcases hc with rfl | rfl | rfl | rfl <;> simp))
noncomputable def Ite (K:PySem.W.Frag) (a:Addr):It :=
 ⟨λi H=>∃xs x,SqL K H a xs/\xs[i]?=some x,
  λi H v H'=>∃T x,v=.ref T/\H T=none/\H'=upd H T (.tup [.int i,x])/\∀xs,SqL K H a xs->xs[i]?=some x,
  λi H=>∃xs,SqL K H a xs/\xs.length<=i⟩
theorem bI2 {P:Program} {w:World} {K:PySem.W.Frag} {elts:List Expr} {k:Nat} {pos:Pos} (a z it:Addr) (hne:z≠it) :
  Turn P w K (.Tuple elts k pos) (Ite K a) [z,it] z (λi h=>(∃old,IsEnum h z it i old)/\h.IsListIter it a i):=by
 refine ⟨by simp,λi h st c hc=>?_,λi h h' st kk=>?_,?_,?_,λ_ _ _ _ _ st h=>by obtain ⟨⟨old,e⟩,_⟩:=st; exact wpAny_pyIter_enum e h⟩
 ·obtain ⟨⟨old,hz⟩,⟨o1,e1,c1,d1⟩⟩:=st
  simp only [List.mem_cons,List.not_mem_nil,or_false] at hc
  rcases hc with rfl | rfl
  ·exact ⟨_,hz,λv q=>by cases q⟩
  ·exact ⟨_,e1,λv q=>by rw [d1] at q; cases q⟩
 ·obtain ⟨⟨old,hz⟩,h1⟩:=st
  exact ⟨⟨old,kk _ (by simp) _ hz⟩,h1.at λo e=>kk _ (by simp) o e⟩
 ·intro X hP hw hK hc i pins s σ H E I hf st hg
  subst hP hw hK
  obtain ⟨xs,x,hx,ex⟩:=hg
  obtain ⟨⟨old,hz⟩,h1⟩:=st
  obtain ⟨as,ra,pa,_⟩:=I.list hx
  obtain ⟨ux,eux,rx⟩:=ra.get ex
  refine wpAny_pyNext_enum_item hz h1 pa.isList (x:=ux) (by simpa using eux) hne λh' z' h1' T' sz kk=>?_
  have fT:H s.heap.objs.size=none:=I.hok.fresh (Nat.le_refl _)
  have I1:Inv X pins σ (upd H s.heap.objs.size (.tup [.int i,x])) { s with heap:=h',toks:=s.toks + 1 }:=I.turnedT (its:=[z,it]) (λc o hc e=>kk c o (λq=>hc (by simp [q])) (λq=>hc (by simp [q])) e)
   (λc hc=>hf c hc) (Nat.le_refl _) ⟨by show 2<=sizeLine; decide,[.int i s.toks,ux],.cons ⟨_,rfl⟩ (.cons rx .nil),⟨_,T',rfl,_,rfl⟩⟩
  have nT:∀c∈[z,it],c≠s.heap.objs.size:=λc hc q=>by
   have:∃o,s.heap.get? c=some o:=by
    simp only [List.mem_cons,List.not_mem_nil,or_false] at hc
    rcases hc with rfl | rfl
    ·exact ⟨_,hz⟩
    ·obtain ⟨o,e,_⟩:=h1; exact ⟨o,e⟩
   obtain ⟨o,e⟩:=this
   exact absurd (Heap.lt_size e) (by rw [q]; exact Nat.lt_irrefl _)
  refine ⟨_,rfl,wpAny_letOwnedTupleGo_enum z' λh2'' z'' sb=>?_⟩
  have hfz:∀c∈[z],bA4 X pins (upd H s.heap.objs.size (.tup [.int i,x])) c:=λc hc=>by
   have e:c=z:=by simpa using hc
   subst e
   obtain ⟨f0,fr⟩:=hf c (by simp)
   exact ⟨by rw [aP5 (nT c (by simp))]; exact f0,fr⟩
  have I2:=Inv.turnedL (h':=h2'') (its:=[z]) (t':=s.toks + 1) I1 (λc o hc e=>sb.extBut _ _ (λq=>hc (by simp [q])) e) hfz
  refine ⟨.ref s.heap.objs.size,_,I2,rfl,⟨_,x,rfl,fT,rfl,λxs' hx'=>by rw [I.list_inj hx' hx]; exact ex⟩,⟨⟨ux,by simpa using z''⟩,h1'.extBut sb.extBut (Ne.symm hne)⟩,λc hc=>?_⟩
  rw [aP5 (nT c hc)]
  exact (hf c hc).1
 ·intro X hP hw hK hc i pins s σ H E I hf st hg
  subst hP hw hK
  obtain ⟨xs,hx,hl⟩:=hg
  obtain ⟨⟨old,hz⟩,h1⟩:=st
  obtain ⟨as,ra,pa,_⟩:=I.list hx
  have la:=ra.length
  refine wpAny_pyNext_enum_end (I.ok.hd hc) hz h1 pa.isList (by simp; omega) λh' kk=>⟨rfl,?_⟩
  exact I.turnedL (its:=[it]) (t':=s.toks) (λc o hc e=>kk c o (λq=>hc (by simp [q])) e) (λc hc=>hf c (by simp at hc ⊢; simp [hc]))
end
section
variable {X:Cx} {a b:Expr} {ta:TA} {p pos tpos:Pos} {elts:List Expr} {x1:Nat}
noncomputable def cB7 (K:PySem.W.Frag) (ta:TA):TI:=λσ H R=>ta σ H λvs H1=>∃a b,vs=[.ref a,.ref b]/\(∃xs,SqL K H1 a xs)/\(∃ys,SqL K H1 b ys)/\R (Itz K a b) H1
theorem bQ3:bootBuiltins "zip"=some (.type "zip"):=by decide +kernel
theorem b52 (hg:Gl X "zip") (hm:X.mg "zip"=none) (ha:PA X [a,b] ta) (hs:starEach [a,b] X.env=[(false,eval a X.env),(false,eval b X.env)]:=by rfl) (hs2:starEach [b] X.env=[(false,eval b X.env)]:=by rfl) :
  PI X (.Tuple elts x1 tpos) (.Call (.Name "zip" p) [a,b] [] pos) (cB7 X.K ta):=by
 intro pins s σ H R I h
 refine Call_ (ba4 I hg hm bQ3 (PyProof.Rows.callWith_type1 (thn (ha pos pins s σ H _ I h) λus s1 ⟨vs,H1,I1,r1,q1⟩=>?_) (by rw [hs,hs2]) (by rw [hs2]; rfl)))
 obtain ⟨a,b,e,⟨xs,hx⟩,⟨ys,hy⟩,q⟩:=q1
 subst e
 cases r1 with
 | cons r rr =>
  cases rr with
  | cons r2 rr =>
   cases rr
   cases r
   cases r2
   obtain ⟨as,ra,pa,_⟩:=I1.list hx
   obtain ⟨bs,rb,pb,_⟩:=I1.list hy
   refine call_zip_2 pa.isList pb.isList λh' hz hTI hTO h1 h2 sz kk=>wpAny_pyIter_zip hz ?_
   refine ⟨_,[s1.heap.objs.size + 4,s1.heap.objs.size + 2,s1.heap.objs.size + 3,s1.heap.objs.size,s1.heap.objs.size + 1],_,_,H1,rfl,I1.kept (t':=s1.toks) kk,bU5 a b _ _ _ _ _ (by simp),⟨hz,hTI,⟨_,_,hTO⟩,h1,h2⟩,λc hc=>?_,q⟩
   have hle:s1.heap.objs.size<=c:=by
    simp only [List.mem_cons,List.not_mem_nil,or_false] at hc
    rcases hc with rfl | rfl | rfl | rfl | rfl <;> omega
   exact I1.fpOk hle (I1.hok.fresh hle)
noncomputable def cv4 (K:PySem.W.Frag) (ta:TA):TI:=λσ H R=>ta σ H λvs H1=>∃a,vs=[.ref a]/\(∃xs,SqL K H1 a xs)/\R (Ite K a) H1
theorem bi2:bootBuiltins "enumerate"=some (.type "enumerate"):=by decide +kernel
theorem cf4 (hg:Gl X "enumerate") (hm:X.mg "enumerate"=none) (ha:PA X [a] ta) (hs:starEach [a] X.env=[(false,eval a X.env)]:=by rfl) :
  PI X (.Tuple elts x1 tpos) (.Call (.Name "enumerate" p) [a] [] pos) (cv4 X.K ta):=by
 intro pins s σ H R I h
 refine Call_ (ba4 I hg hm bi2 (PyProof.Rows.callWith_type1 (thn (ha pos pins s σ H _ I h) λus s1 ⟨vs,H1,I1,r1,q1⟩=>?_) hs rfl))
 obtain ⟨a,e,⟨xs,hx⟩,q⟩:=q1
 subst e
 cases r1 with
 | cons r rr =>
  cases rr
  cases r
  obtain ⟨as,ra,pa,_⟩:=I1.list hx
  refine call_enumerate_list pa.isList λh' hz h1 sz kk=>wpAny_pyIter_enum hz ?_
  refine ⟨_,[s1.heap.objs.size + 1,s1.heap.objs.size],_,_,H1,rfl,I1.kept (t':=s1.toks) kk,bI2 a (s1.heap.objs.size + 1) s1.heap.objs.size (Nat.succ_ne_self _),⟨⟨_,hz⟩,h1⟩,λc hc=>?_,q⟩
  have hle:s1.heap.objs.size<=c:=by
   simp only [List.mem_cons,List.not_mem_nil,or_false] at hc
   rcases hc with rfl | rfl <;> omega
  exact I1.fpOk hle (I1.hok.fresh hle)
end
end L2
namespace L2
open PySem PySem.Spec PyProof.Rows PySem.W PySem.Calls
section
variable {X:Cx}
noncomputable def ch9 {α:Type} (xs:List α) (lo hi:Option Int):List α:=(xs.drop (HT.sIx xs.length 0 lo)).take (HT.sIx xs.length xs.length hi - HT.sIx xs.length 0 lo)
theorem bF4 (x:Str) (lo hi:Option Int):Txt.slice x lo hi=⟨(ch9 x.cps.toList lo hi).toArray⟩:=by
 have hx:x.length=x.cps.size:=rfl
 have e:(Builtin.Str.strSliceIndices lo hi 1 x.length).filterMap (x.cps[·]?)=ch9 x.cps.toList lo hi:=by
  obtain ⟨h1,h2,h3⟩:=a59 lo hi x.length
  have e0:Builtin.Str.strSliceIndices lo hi 1 x.length=sliceRange (sliceBounds lo hi none x.length).1 (sliceBounds lo hi none x.length).2.1 1:=by
   cases lo <;> cases hi <;> rfl
  rw [e0,h1,h2]
  simp only [sliceRange_one,pick_run]
  unfold ch9
  rw [hx,Array.length_toList]
 unfold Txt.slice
 split
 ·rename_i h
  have hl:(Builtin.Str.strSliceIndices lo hi 1 x.length).length=x.length:=by
   rw [Bool.and_eq_true] at h; exact eq_of_beq h.2
  have hs:(ch9 x.cps.toList lo hi)=x.cps.toList:=by
   have e2:HT.sIx x.cps.toList.length x.cps.toList.length hi - HT.sIx x.cps.toList.length 0 lo=x.length:=by
    obtain ⟨h1,h2,h3⟩:=a59 lo hi x.length
    have e0:Builtin.Str.strSliceIndices lo hi 1 x.length=sliceRange (sliceBounds lo hi none x.length).1 (sliceBounds lo hi none x.length).2.1 1:=by
     cases lo <;> cases hi <;> rfl
    rw [e0,h1,h2] at hl
    simp only [sliceRange_one,List.length_map,List.length_range] at hl
    rw [Array.length_toList,<- hx]
    omega
   unfold ch9
   have le:HT.sIx x.cps.toList.length x.cps.toList.length hi<=x.cps.toList.length:=by
    cases hi with
    | none=>simp [HT.sIx]
    | some i=>simp only [HT.sIx]; split <;> omega
   have le2:HT.sIx x.cps.toList.length 0 lo<=x.cps.toList.length:=by
    cases lo with
    | none=>simp [HT.sIx]
    | some i=>simp only [HT.sIx]; split <;> omega
   rw [Array.length_toList,<- hx] at e2 le le2 ⊢
   have z:HT.sIx x.length 0 lo=0:=by omega
   have z2:HT.sIx x.length x.length hi=x.length:=by omega
   rw [z,z2,List.drop_zero,Nat.sub_zero,hx,<- Array.length_toList,List.take_length]
  rw [hs]
 ·rw [e]
theorem cl3:SlR X (λx lo hi H Q=>∃z,x=.str z/\z.length<=sizeLine/\Q (.str ⟨(ch9 z.cps.toList lo hi).toArray⟩) H):=by
 intro pins s σ H x v vl vu lo hi sl Q I rx hs pl pu h
 obtain ⟨z,rfl,hz,q⟩:=h
 obtain ⟨t,rfl⟩:=rx
 refine ⟨"str",_,F.slot_str_getitem.lookup,typeIs_str _ _ _,?_⟩
 have fin:∀(l u:Option (Int × Tok)),l.map (·.1)=lo->u.map (·.1)=hi->partValue l=vl->partValue u=vu->wpAny (model X.prog X.w) X.A (getItem (.str z t) (.ref sl)) (EP X pins σ Q) X.xe s:=by
  intro l u h1 h2 h3 h4
  obtain ⟨o,e1,e2,e3⟩:=hs
  refine wpAny_getItem_str_slice (l:=l) (u:=u) (st:=none) ⟨o,e1,e2,by rw [e3,h3,h4]; rfl⟩ rfl ?_
  have e:Txt.slice z lo hi=(if (((none:Option (Int × Tok)).map (·.1)).getD 1 == 1 && (slicePicked z l u none).length == z.length)=true then z else ⟨((slicePicked z l u none).filterMap (z.cps[·]?)).toArray⟩):=by
   unfold Txt.slice slicePicked; rw [h1,h2]; rfl
  refine post_val_or_str ⟨?_,λt' k=>?_⟩
  ·rw [<-e]; exact Nat.le_trans (Txt.slice_le z _ _) hz
  ·rw [<-e,bF4]; exact ⟨.str _,H,I.tok _,⟨_,rfl⟩,q⟩
 cases pl with
 | none =>
  cases pu with
  | none=>exact fin none none rfl rfl rfl rfl
  | int j tj=>exact fin none (some (j,tj)) rfl rfl rfl rfl
 | int i ti =>
  cases pu with
  | none=>exact fin (some (i,ti)) none rfl rfl rfl rfl
  | int j tj=>exact fin (some (i,ti)) (some (j,tj)) rfl rfl rfl rfl
end
end L2
namespace L3
open PySem L2
noncomputable def by8:HO->Bool
 | .tbl _=>false
 | _=>true
structure Same (H H':Hp):Prop where
 get:∀b o,H b=some o->(h:by8 o=true:=by rfl)->H' b=some o
 tb:∀b ps,H b=some (.tbl ps)->∃more,H' b=some (.tbl (ps++more))
noncomputable instance {H H':Hp}:CoeFun (Same H H') λ_=>∀b o,H b=some o->(h:by8 o=true:=by rfl)->H' b=some o:=⟨λs=>@Same.get _ _ s⟩
theorem cb6 {o:HO} (h:by8 o=false):∃ps,o=.tbl ps:=by
 cases o with
 | tbl ps=>exact ⟨ps,rfl⟩
 | _=>cases h
theorem Same.of {H H':Hp} (h:∀b o,H b=some o->H' b=some o):Same H H':=⟨λb o e _=>h b o e,λb ps e=>⟨#[],by rw [h b _ e]; simp⟩⟩
theorem Same.refl (H:Hp):Same H H:=.of λ_ _ h=>h
theorem Same.trans {H H1 H2:Hp} (a:Same H H1) (b:Same H1 H2):Same H H2 :=
 ⟨λc o h n=>b.get c o (a.get c o h n) n,λc ps h=>by
  obtain ⟨m1,e1⟩:=a.tb c ps h
  obtain ⟨m2,e2⟩:=b.tb c _ e1
  exact ⟨m1++m2,by rw [e2,Array.append_assoc]⟩⟩
theorem Same.any {H H':Hp} (e:Same H H') {l:Addr} {o:HO} (h:H l=some o):∃o',H' l=some o':=by
 cases n:by8 o with
 | true=>exact ⟨o,e.get l o h n⟩
 | false =>
  obtain ⟨ps,rfl⟩:=cb6 n
  obtain ⟨m,q⟩:=e.tb l ps h
  exact ⟨_,q⟩
theorem Same.free {H H':Hp} (e:Same H H') {l:Addr} (h:H' l=Option.none):H l=Option.none:=by
 cases q:H l with
 | none=>rfl
 | some o =>
  obtain ⟨o',z⟩:=e.any q
  rw [z] at h
  cases h
theorem Same.seq {K:PySem.W.Frag} {H H':Hp} {a:Addr} {xs:List V} (e:Same H H') (h:SqL K H a xs):SqL K H' a xs:=by
 rcases h with (h | ⟨o,h⟩) | h
 ·exact .inl (.inl (e _ _ h))
 ·exact .inl (.inr ⟨o,e _ _ h⟩)
 ·exact .inr h
inductive CloD where
 | ext (φ:Addr->Heap->Prop)
 | lam (of oc:Obj) (c k:Addr)
noncomputable instance:Coe (Addr->Heap->Prop) CloD:=⟨.ext⟩
noncomputable def Kod (H:Hp) (k:Addr):Prop:=∃ψ,H k=some (.ext ψ)/\∀h,ψ h->∃q,h.CodeRec (.ref k) q
noncomputable def cloφ (of oc:Obj) (c p:Addr):Heap->Prop:=λh=>h.get? p=some of/\h.get? c=some oc
structure LamAt (H:Hp) (p:Addr) (of oc:Obj) (c k:Addr):Prop where
 fn:H p=some (.ext (cloφ of oc c p))
 cell:H c=some (.own p)
 kod:Kod H k
noncomputable def CloAt (H:Hp) (p:Addr):CloD->Prop
 | .ext φ=>H p=some (.ext (φ p))
 | .lam of oc c k=>LamAt H p of oc c k
theorem CloAt.mono {H H':Hp} {p:Addr}:∀{z:CloD},CloAt H p z->(∀a o,H a=some o->(∀ws,o≠.lst ws)->by8 o=true->H' a=some o)->CloAt H' p z
 | .ext φ,x,k=>k _ _ x (λws q=>by cases q) rfl
 | .lam of oc c k',x,k=>⟨k _ _ x.fn (λws q=>by cases q) rfl,k _ _ x.cell (λws q=>by cases q) rfl,let ⟨ψ,e,h⟩:=x.kod; ⟨ψ,k _ _ e (λws q=>by cases q) rfl,h⟩⟩
inductive D where
 | non | bl (b:Bool) | int (i:Int) | str (x:Str)
 | lst (o:Bool) (xs:List D)
 | tup (xs:List D)
 | obj (C:Addr) (ns:List Str) (xs:List D)
 | fz (xs:List D)
 | clo (z:CloD)
 deriving Inhabited
noncomputable def D.pl:D->Bool
 | .lst o xs=>!o && plL xs
 | .tup xs=>plL xs
 | _=>true
where plL:List D->Bool
 | []=>true
 | d :: ds=>d.pl && plL ds
noncomputable def D.fr:D->Bool
 | .lst o xs=>o && frL xs
 | .tup xs=>frL xs
 | .obj _ _ _=>false
 | .fz _=>false
 | _=>true
where frL:List D->Bool
 | []=>true
 | d :: ds=>d.fr && frL ds
noncomputable def D.sh:D->D
 | .lst _ xs=>.lst false (shL xs)
 | .tup xs=>.tup (shL xs)
 | d=>d
where shL:List D->List D
 | []=>[]
 | d :: ds=>d.sh :: shL ds
theorem b09 (ds:List D):D.pl.plL ds=ds.all D.pl:=by induction ds with | nil=>rfl | cons d ds ih=>simp [D.pl.plL,ih]
theorem bX6 (ds:List D):D.fr.frL ds=ds.all D.fr:=by induction ds with | nil=>rfl | cons d ds ih=>simp [D.fr.frL,ih]
theorem bI4 (ds:List D):D.sh.shL ds=ds.map D.sh:=by induction ds with | nil=>rfl | cons d ds ih=>simp [D.sh.shL,ih]
theorem aW6 (o:Bool) (xs:List D):(D.lst o xs).pl=(!o && xs.all D.pl):=by simp [D.pl,b09]
theorem a75 (xs:List D):(D.tup xs).pl=xs.all D.pl:=by simp [D.pl,b09]
theorem aV3 (o:Bool) (xs:List D):(D.lst o xs).fr=(o && xs.all D.fr):=by simp [D.fr,bX6]
theorem bg0 (xs:List D):(D.tup xs).fr=xs.all D.fr:=by simp [D.fr,bX6]
theorem aT6 (o:Bool) (xs:List D):(D.lst o xs).sh=.lst false (xs.map D.sh):=by simp [D.sh,bI4]
theorem a94 (xs:List D):(D.tup xs).sh=.tup (xs.map D.sh):=by simp [D.sh,bI4]
inductive R (F H:Hp):List D->List V->List Addr->Prop
 | nil:R F H [] [] []
 | non {ds vs B}:R F H ds vs B->R F H (.non :: ds) (.non :: vs) B
 | bl {b ds vs B}:R F H ds vs B->R F H (.bl b :: ds) (.bl b :: vs) B
 | int {i ds vs B}:R F H ds vs B->R F H (.int i :: ds) (.int i :: vs) B
 | str {x ds vs B}:R F H ds vs B->R F H (.str x :: ds) (.str x :: vs) B
 | shr {p ws xs ds vs B}:F p=some (.lst ws)->R F H xs ws []->R F H ds vs B->R F H (.lst false xs :: ds) (.ref p :: vs) B
 | own {p ws xs A ds vs B}:H p=some (.lst ws)->F p=none->R F H xs ws A->R F H ds vs B->R F H (.lst true xs :: ds) (.ref p :: vs) (p :: (A++B))
 | tup {p ws xs A ds vs B}:H p=some (.tup ws)->R F H xs ws A->R F H ds vs B->R F H (.tup xs :: ds) (.ref p :: vs) (A++B)
 | obj {p C dx ns ws xs ds vs B}:H p=some (.ins C dx (ns.zip ws))->ns.length=ws.length->R F H xs ws []->R F H ds vs B->R F H (.obj C ns xs :: ds) (.ref p :: vs) B
 | fz {p o ws xs ds vs B}:F p=some (.frz o (.lst ws))->R F H xs ws []->R F H ds vs B->R F H (.fz xs :: ds) (.ref p :: vs) B
 | clo {p z ds vs B}:CloAt H p z->R F H ds vs B->R F H (.clo z :: ds) (.ref p :: vs) B
inductive S (F H:Hp):List D->List V->Prop
 | nil:S F H [] []
 | non {ds vs}:S F H ds vs->S F H (.non :: ds) (.non :: vs)
 | bl {b ds vs}:S F H ds vs->S F H (.bl b :: ds) (.bl b :: vs)
 | int {i ds vs}:S F H ds vs->S F H (.int i :: ds) (.int i :: vs)
 | str {x ds vs}:S F H ds vs->S F H (.str x :: ds) (.str x :: vs)
 | shr {p ws xs ds vs}:F p=some (.lst ws)->R F H xs ws []->S F H ds vs->S F H (.lst false xs :: ds) (.ref p :: vs)
 | own {p ws xs ds vs}:H p=some (.lst ws)->S F H xs ws->S F H ds vs->S F H (.lst true xs :: ds) (.ref p :: vs)
 | tup {p ws xs ds vs}:H p=some (.tup ws)->S F H xs ws->S F H ds vs->S F H (.tup xs :: ds) (.ref p :: vs)
 | obj {p C dx ns ws xs ds vs}:H p=some (.ins C dx (ns.zip ws))->ns.length=ws.length->R F H xs ws []->S F H ds vs->S F H (.obj C ns xs :: ds) (.ref p :: vs)
 | fz {p o ws xs ds vs}:F p=some (.frz o (.lst ws))->R F H xs ws []->S F H ds vs->S F H (.fz xs :: ds) (.ref p :: vs)
 | clo {p z ds vs}:CloAt H p z->S F H ds vs->S F H (.clo z :: ds) (.ref p :: vs)
section
variable {F F' H H':Hp} {d:D} {ds es:List D} {v:V} {vs ws:List V} {A B:List Addr}
theorem R.length (r:R F H ds vs A):ds.length=vs.length:=by
 induction r <;> simp_all
theorem S.length (r:S F H ds vs):ds.length=vs.length:=by
 induction r <;> simp_all
theorem R.cons (r:R F H [d] [v] A) (q:R F H ds vs B):R F H (d :: ds) (v :: vs) (A++B):=by
 cases r with
 | non r=>cases r; exact .non q
 | bl r=>cases r; exact .bl q
 | int r=>cases r; exact .int q
 | str r=>cases r; exact .str q
 | shr h x r=>cases r; exact .shr h x q
 | own h f x r=>cases r; simpa using R.own h f x q
 | tup h x r=>cases r; simpa using R.tup h x q
 | obj h l x r=>cases r; exact .obj h l x q
 | fz h x r=>cases r; exact .fz h x q
 | clo h r=>cases r; exact .clo h q
theorem R.uncons (r:R F H (d :: ds) vs A):∃v vs' A1 A2,vs=v :: vs'/\A=A1++A2/\R F H [d] [v] A1/\R F H ds vs' A2:=by
 cases r with
 | non r=>exact ⟨_,_,[],_,rfl,rfl,.non .nil,r⟩
 | bl r=>exact ⟨_,_,[],_,rfl,rfl,.bl .nil,r⟩
 | int r=>exact ⟨_,_,[],_,rfl,rfl,.int .nil,r⟩
 | str r=>exact ⟨_,_,[],_,rfl,rfl,.str .nil,r⟩
 | shr h x r=>exact ⟨_,_,[],_,rfl,rfl,.shr h x .nil,r⟩
 | @own p _ _ A1 _ _ B1 h f x r=>exact ⟨_,_,p :: A1,B1,rfl,rfl,by simpa using R.own h f x .nil,r⟩
 | @tup p _ _ A1 _ _ B1 h x r=>exact ⟨_,_,A1,B1,rfl,rfl,by simpa using R.tup h x .nil,r⟩
 | obj h l x r=>exact ⟨_,_,[],_,rfl,rfl,.obj h l x .nil,r⟩
 | fz h x r=>exact ⟨_,_,[],_,rfl,rfl,.fz h x .nil,r⟩
 | clo h r=>exact ⟨_,_,[],_,rfl,rfl,.clo h .nil,r⟩
theorem S.cons (r:S F H [d] [v]) (q:S F H ds vs):S F H (d :: ds) (v :: vs):=by
 cases r with
 | non r=>exact .non q
 | bl r=>exact .bl q
 | int r=>exact .int q
 | str r=>exact .str q
 | shr h x r=>exact .shr h x q
 | own h x r=>exact .own h x q
 | tup h x r=>exact .tup h x q
 | obj h l x r=>exact .obj h l x q
 | fz h x r=>exact .fz h x q
 | clo h r=>exact .clo h q
theorem S.uncons (r:S F H (d :: ds) vs):∃v vs',vs=v :: vs'/\S F H [d] [v]/\S F H ds vs':=by
 cases r with
 | non r=>exact ⟨_,_,rfl,.non .nil,r⟩
 | bl r=>exact ⟨_,_,rfl,.bl .nil,r⟩
 | int r=>exact ⟨_,_,rfl,.int .nil,r⟩
 | str r=>exact ⟨_,_,rfl,.str .nil,r⟩
 | shr h x r=>exact ⟨_,_,rfl,.shr h x .nil,r⟩
 | own h x r=>exact ⟨_,_,rfl,.own h x .nil,r⟩
 | tup h x r=>exact ⟨_,_,rfl,.tup h x .nil,r⟩
 | obj h l x r=>exact ⟨_,_,rfl,.obj h l x .nil,r⟩
 | fz h x r=>exact ⟨_,_,rfl,.fz h x .nil,r⟩
 | clo h r=>exact ⟨_,_,rfl,.clo h .nil,r⟩
theorem R.append:∀{ds:List D} {vs:List V} {A:List Addr},R F H ds vs A->R F H es ws B->R F H (ds++es) (vs++ws) (A++B)
 | [],_,_,r,q=>by cases r; exact q
 | d :: ds,_,_,r,q=>by
  obtain ⟨v,vs',A1,A2,rfl,rfl,h1,h2⟩:=r.uncons
  simpa using h1.cons (R.append h2 q)
theorem S.append:∀{ds:List D} {vs:List V},S F H ds vs->S F H es ws->S F H (ds++es) (vs++ws)
 | [],_,r,q=>by cases r; exact q
 | d :: ds,_,r,q=>by
  obtain ⟨v,vs',rfl,h1,h2⟩:=r.uncons
  exact h1.cons (S.append h2 q)
theorem R.split:∀{ds:List D} {vs:List V} {A:List Addr},R F H (ds++es) vs A->∃v1 v2 A1 A2,vs=v1++v2/\A=A1++A2/\R F H ds v1 A1/\R F H es v2 A2
 | [],vs,A,r=>⟨[],vs,[],A,rfl,rfl,.nil,r⟩
 | d :: ds,_,_,r=>by
  obtain ⟨v,vs',A1,A2,rfl,rfl,h1,h2⟩:=R.uncons (ds:=ds++es) r
  obtain ⟨v1,v2,B1,B2,rfl,rfl,h3,h4⟩:=R.split (ds:=ds) h2
  exact ⟨v :: v1,v2,A1++B1,B2,rfl,by simp,h1.cons h3,h4⟩
theorem R.get:∀{ds:List D} {vs:List V} {A:List Addr} {i:Nat},R F H ds vs A->ds[i]?=some d->∃v A1,vs[i]?=some v/\R F H [d] [v] A1/\A1 ⊆ A
 | [],_,_,_,_,e=>by simp at e
 | d' :: ds,_,_,i,r,e=>by
  obtain ⟨v,vs',A1,A2,rfl,rfl,h1,h2⟩:=r.uncons
  cases i with
  | zero=>simp at e; subst e; exact ⟨v,A1,rfl,h1,by simp⟩
  | succ i =>
   obtain ⟨w,B1,e2,q,sb⟩:=R.get (ds:=ds) (i:=i) h2 (by simpa using e)
   exact ⟨w,B1,by simpa using e2,q,λx hx=>List.mem_append_right _ (sb hx)⟩
theorem S.get:∀{ds:List D} {vs:List V} {i:Nat},S F H ds vs->ds[i]?=some d->∃v,vs[i]?=some v/\S F H [d] [v]
 | [],_,_,_,e=>by simp at e
 | d' :: ds,_,i,r,e=>by
  obtain ⟨v,vs',rfl,h1,h2⟩:=r.uncons
  cases i with
  | zero=>simp at e; subst e; exact ⟨v,rfl,h1⟩
  | succ i =>
   obtain ⟨w,e2,q⟩:=S.get (ds:=ds) (i:=i) h2 (by simpa using e)
   exact ⟨w,by simpa using e2,q⟩
theorem S.get':∀{ds:List D} {vs:List V} {i:Nat},S F H ds vs->vs[i]?=some v->∃d,ds[i]?=some d/\S F H [d] [v]
 | [],_,_,r,e=>by cases r; simp at e
 | d' :: ds,_,i,r,e=>by
  obtain ⟨v,vs',rfl,h1,h2⟩:=r.uncons
  cases i with
  | zero=>simp at e; subst e; exact ⟨d',rfl,h1⟩
  | succ i =>
   obtain ⟨w,e2,q⟩:=S.get' (ds:=ds) (i:=i) h2 (by simpa using e)
   exact ⟨w,by simpa using e2,q⟩
theorem S.take:∀{ds:List D} {vs:List V} (n:Nat),S F H ds vs->S F H (ds.take n) (vs.take n)
 | _,_,0,r=>by simpa using S.nil
 | [],_,n + 1,r=>by cases r; exact .nil
 | d :: ds,_,n + 1,r=>by
  obtain ⟨v,vs',rfl,h1,h2⟩:=r.uncons
  exact h1.cons (S.take n h2)
theorem S.drop:∀{ds:List D} {vs:List V} (n:Nat),S F H ds vs->S F H (ds.drop n) (vs.drop n)
 | _,_,0,r=>by simpa using r
 | [],_,n + 1,r=>by cases r; exact .nil
 | d :: ds,_,n + 1,r=>by
  obtain ⟨v,vs',rfl,h1,h2⟩:=r.uncons
  exact S.drop n h2
theorem aT7 {p:Addr} {o:HO} (h:Rd F p o) (s:Same F F') (n:by8 o=true:=by rfl):Rd F' p o:=by
 rcases h with h | ⟨u,h⟩
 ·exact .inl (s.get _ _ h n)
 ·exact .inr ⟨u,s _ _ h⟩
theorem R.s (r:R F H ds vs A):S F H ds vs:=by
 induction r with
 | nil=>exact .nil
 | non _ ih=>exact .non ih
 | bl _ ih=>exact .bl ih
 | int _ ih=>exact .int ih
 | str _ ih=>exact .str ih
 | shr h x _ _ ih=>exact .shr h x ih
 | own h f _ _ i1 i2=>exact .own h i1 i2
 | tup h _ _ i1 i2=>exact .tup h i1 i2
 | obj h l x _ _ ih=>exact .obj h l x ih
 | fz h x _ _ ih=>exact .fz h x ih
 | clo h _ ih=>exact .clo h ih
structure But (W:List Addr) (H H':Hp):Prop where
 get:∀a o,H a=some o->a ∉ W->(h:by8 o=true:=by rfl)->H' a=some o
noncomputable instance {W:List Addr} {H H':Hp}:CoeFun (But W H H') λ_=>∀a o,H a=some o->a ∉ W->(h:by8 o=true:=by rfl)->H' a=some o:=⟨λs=>@But.get _ _ _ s⟩
noncomputable def Lists (W:List Addr) (H:Hp):Prop:=∀a∈W,∃ws,H a=some (.lst ws)
theorem R.keep {W:List Addr} (hf:Same F F') (hb:But W H H') (hl:Lists W H) (r:R F H ds vs A) (hn:∀a∈A,F' a=none) (hd:∀a∈A,a ∉ W):R F' H' ds vs A:=by
 induction r with
 | nil=>exact .nil
 | non _ ih=>exact .non (ih hn hd)
 | bl _ ih=>exact .bl (ih hn hd)
 | int _ ih=>exact .int (ih hn hd)
 | str _ ih=>exact .str (ih hn hd)
 | shr h x _ i1 ih=>exact .shr (hf _ _ h) (i1 (by simp) (by simp)) (ih hn hd)
 | own h f _ _ i1 i2 =>
  refine .own (hb _ _ h (hd _ (by simp))) (hn _ (by simp)) (i1 (λa ha=>hn a ?_) λa ha=>hd a ?_) (i2 (λa ha=>hn a ?_) λa ha=>hd a ?_) <;> simp [ha]
 | @tup p ws _ _ _ _ _ h _ _ i1 i2 =>
  refine .tup (hb _ _ h λz=>?_) (i1 (λa ha=>hn a ?_) λa ha=>hd a ?_) (i2 (λa ha=>hn a ?_) λa ha=>hd a ?_) <;> try simp [ha]
  obtain ⟨q,e⟩:=hl _ z
  rw [h] at e; cases e
 | obj h l x _ i1 ih =>
  refine .obj (hb _ _ h λz=>?_) l (i1 (by simp) (by simp)) (ih hn hd)
  obtain ⟨q,e⟩:=hl _ z
  rw [h] at e; cases e
 | fz h x _ i1 ih=>exact .fz (hf _ _ h) (i1 (by simp) (by simp)) (ih hn hd)
 | clo h _ ih =>
  exact .clo (h.mono λa o e n t=>hb.get a o e (λz=>by
   obtain ⟨q,e'⟩:=hl _ z
   rw [e] at e'; cases e'; exact n _ rfl) t) (ih hn hd)
theorem But.same (h:Same H H'):But [] H H':=⟨λa o e _ n=>h.get a o e n⟩
theorem Lists.nil:Lists [] H:=λa h=>absurd h (by simp)
theorem R.grow (hf:Same F F') (hb:Same H H') (r:R F H ds vs A) (hn:∀a∈A,F' a=none):R F' H' ds vs A :=
 r.keep hf (But.same hb) Lists.nil hn (by simp)
theorem R.shared (hf:Same F F') (hb:Same H H') (r:R F H ds vs []):R F' H' ds vs []:=r.grow hf hb (by simp)
theorem S.mono (hf:Same F F') (hb:Same H H') (r:S F H ds vs):S F' H' ds vs:=by
 induction r with
 | nil=>exact .nil
 | non _ ih=>exact .non ih
 | bl _ ih=>exact .bl ih
 | int _ ih=>exact .int ih
 | str _ ih=>exact .str ih
 | shr h x _ ih=>exact .shr (hf _ _ h) (x.shared hf hb) ih
 | own h _ _ i1 i2=>exact .own (hb _ _ h) i1 i2
 | tup h _ _ i1 i2=>exact .tup (hb _ _ h) i1 i2
 | obj h l x _ ih=>exact .obj (hb _ _ h) l (x.shared hf hb) ih
 | fz h x _ ih=>exact .fz (hf _ _ h) (x.shared hf hb) ih
 | clo h _ ih=>exact .clo (h.mono λa o e _ t=>hb.get a o e t) ih
theorem S.r (s:S F H ds vs) (p:ds.all D.pl=true):R F H ds vs []:=by
 induction s with
 | nil=>exact .nil
 | non _ ih=>exact .non (ih (by simpa [D.pl] using p))
 | bl _ ih=>exact .bl (ih (by simpa [D.pl] using p))
 | int _ ih=>exact .int (ih (by simpa [D.pl] using p))
 | str _ ih=>exact .str (ih (by simpa [D.pl] using p))
 | shr h x _ ih=>exact .shr h x (ih (by simp [aW6] at p; simpa using p.2))
 | own h _ _ i1 i2=>simp [aW6] at p
 | tup h _ _ i1 i2 =>
  rw [List.all_cons,a75,Bool.and_eq_true] at p
  simpa using R.tup h (i1 p.1) (i2 p.2)
 | obj h l x _ ih=>exact .obj h l x (ih (by simpa [D.pl] using p))
 | fz h x _ ih=>exact .fz h x (ih (by simpa [D.pl] using p))
 | clo h _ ih=>exact .clo h (ih (by simpa [D.pl] using p))
theorem R.pl (r:R F H ds vs []):ds.all D.pl=true:=by
 generalize e:([]:List Addr)=A at r
 induction r with
 | nil=>rfl
 | non _ ih=>simp [D.pl]; simpa using ih e
 | bl _ ih=>simp [D.pl]; simpa using ih e
 | int _ ih=>simp [D.pl]; simpa using ih e
 | str _ ih=>simp [D.pl]; simpa using ih e
 | shr h x _ i1 ih=>simp only [List.all_cons,aW6,i1 rfl,ih e]; rfl
 | own h f _ _ i1 i2=>cases e
 | tup h _ _ i1 i2 =>
  obtain ⟨e1,e2⟩:=List.append_eq_nil_iff.mp e.symm
  simp only [List.all_cons,a75,i1 e1.symm,i2 e2.symm]; rfl
 | obj h l x _ i1 ih=>simp [D.pl]; simpa using ih e
 | fz h x _ i1 ih=>simp [D.pl]; simpa using ih e
 | clo h _ ih=>simp [D.pl]; simpa using ih e
theorem D.sh_of_pl:∀{d:D},d.pl=true->d.sh=d
 | .non,_=>rfl
 | .bl _,_=>rfl
 | .int _,_=>rfl
 | .str _,_=>rfl
 | .obj _ _ _,_=>rfl
 | .fz _,_=>rfl
 | .clo _,_=>rfl
 | .lst o xs,h=>by
  rw [aW6,Bool.and_eq_true] at h
  have:∀(l:List D),(∀x∈l,x∈xs)->l.all D.pl=true->l.map D.sh=l:=by
   intro l hl hp
   induction l with
   | nil=>rfl
   | cons x l ih =>
    simp only [List.all_cons,Bool.and_eq_true] at hp
    have hx:x∈xs:=hl x (by simp)
    rw [List.map_cons,D.sh_of_pl hp.1,ih (λy hy=>hl y (by simp [hy])) hp.2]
  rw [aT6,this xs (λ_ h=>h) h.2]
  cases o <;> simp_all
 | .tup xs,h=>by
  rw [a75] at h
  have:∀(l:List D),(∀x∈l,x∈xs)->l.all D.pl=true->l.map D.sh=l:=by
   intro l hl hp
   induction l with
   | nil=>rfl
   | cons x l ih =>
    simp only [List.all_cons,Bool.and_eq_true] at hp
    have hx:x∈xs:=hl x (by simp)
    rw [List.map_cons,D.sh_of_pl hp.1,ih (λy hy=>hl y (by simp [hy])) hp.2]
  rw [a94,this xs (λ_ h=>h) h]
termination_by d=>sizeOf d
theorem aU2 {l:List D} (h:l.all D.pl=true):l.map D.sh=l:=by
 induction l with
 | nil=>rfl
 | cons x l ih =>
  simp only [List.all_cons,Bool.and_eq_true] at h
  rw [List.map_cons,D.sh_of_pl h.1,ih h.2]
theorem S.frozen (e:Same F H) (s:S F H ds vs):R H H (ds.map D.sh) vs []:=by
 induction s with
 | nil=>exact .nil
 | non _ ih=>exact .non ih
 | bl _ ih=>exact .bl ih
 | int _ ih=>exact .int ih
 | str _ ih=>exact .str ih
 | shr h x _ ih =>
  rw [List.map_cons,aT6,aU2 x.pl]
  exact .shr (e _ _ h) (x.shared e (Same.refl _)) ih
 | own h _ _ i1 i2=>rw [List.map_cons,aT6]; exact .shr h i1 i2
 | tup h _ _ i1 i2=>rw [List.map_cons,a94]; simpa using R.tup h i1 i2
 | obj h l x _ ih=>exact .obj h l (x.shared e (Same.refl _)) ih
 | fz h x _ ih=>exact .fz (e _ _ h) (x.shared e (Same.refl _)) ih
 | clo h _ ih=>exact .clo h ih
noncomputable def frz (F H:Hp) (A:List Addr):Hp:=λa=>if a∈A then H a else F a
theorem aW0 (e:Same F H):Same F (frz F H A):=⟨λa o h n=>by unfold frz; split; exact e.get _ _ h n; exact h,λa ps h=>by unfold frz; split; exact e.tb _ _ h; exact ⟨#[],by rw [h]; simp⟩⟩
theorem bJ3 (e:Same F H):Same (frz F H A) H:=⟨λa o h n=>by unfold frz at h; split at h; exact h; exact e.get _ _ h n,λa ps h=>by unfold frz at h; split at h; exact ⟨#[],by rw [h]; simp⟩; exact e.tb _ _ h⟩
theorem bm5 {a:Addr} (h:a ∉ A):frz F H A a=F a:=by unfold frz; rw [if_neg h]
theorem cm7 {a:Addr} (h:a∈A):frz F H A a=H a:=by unfold frz; rw [if_pos h]
theorem R.frz (e:Same F H) (r:R F H ds vs A):∀A',A ⊆ A'->R (L3.frz F H A') H (ds.map D.sh) vs []:=by
 induction r with
 | nil=>exact λ_ _=>.nil
 | non _ ih=>exact λA' h=>.non (ih A' h)
 | bl _ ih=>exact λA' h=>.bl (ih A' h)
 | int _ ih=>exact λA' h=>.int (ih A' h)
 | str _ ih=>exact λA' h=>.str (ih A' h)
 | shr h x _ i1 ih =>
  intro A' hA
  rw [List.map_cons,aT6,aU2 x.pl]
  exact .shr (aW0 e _ _ h) (x.shared (aW0 e) (Same.refl _)) (ih A' hA)
 | own h f _ _ i1 i2 =>
  intro A' hA
  rw [List.map_cons,aT6]
  exact .shr ((cm7 (hA (by simp))).trans h) (i1 A' λa ha=>hA (by simp [ha])) (i2 A' λa ha=>hA (by simp [ha]))
 | tup h _ _ i1 i2 =>
  intro A' hA
  rw [List.map_cons,a94]
  simpa using R.tup h (i1 A' λa ha=>hA (by simp [ha])) (i2 A' λa ha=>hA (by simp [ha]))
 | obj h l x _ i1 ih=>exact λA' hA=>.obj h l (x.shared (aW0 e) (Same.refl _)) (ih A' hA)
 | fz h x _ i1 ih=>exact λA' hA=>.fz (aW0 e _ _ h) (x.shared (aW0 e) (Same.refl _)) (ih A' hA)
 | clo h _ ih=>exact λA' hA=>.clo h (ih A' hA)
theorem R.lists (r:R F H ds vs A):∀a∈A,(∃ws,H a=some (.lst ws))/\F a=none:=by
 induction r with
 | nil=>simp
 | non _ ih=>exact ih
 | bl _ ih=>exact ih
 | int _ ih=>exact ih
 | str _ ih=>exact ih
 | shr h x _ i1 ih=>exact ih
 | own h f _ _ i1 i2 =>
  intro a ha
  rcases List.mem_cons.mp ha with rfl | ha
  ·exact ⟨⟨_,h⟩,f⟩
  ·exact (List.mem_append.mp ha).elim (i1 a) (i2 a)
 | tup h _ _ i1 i2=>exact λa ha=>(List.mem_append.mp ha).elim (i1 a) (i2 a)
 | obj h l x _ i1 ih=>exact ih
 | fz h x _ i1 ih=>exact ih
 | clo h _ ih=>exact ih
theorem R.thaw (r:R F H ds vs A) (hd:ds.all D.fr=true) (e:Same F' F):R F' H ds vs A:=by
 induction r with
 | nil=>exact .nil
 | non _ ih=>exact .non (ih (by simpa [D.fr] using hd))
 | bl _ ih=>exact .bl (ih (by simpa [D.fr] using hd))
 | int _ ih=>exact .int (ih (by simpa [D.fr] using hd))
 | str _ ih=>exact .str (ih (by simpa [D.fr] using hd))
 | shr h x _ i1 ih=>simp [aV3] at hd
 | own h f _ _ i1 i2 =>
  rw [List.all_cons,aV3,Bool.and_eq_true,Bool.true_and] at hd
  exact .own h (e.free f) (i1 hd.1) (i2 hd.2)
 | tup h _ _ i1 i2 =>
  rw [List.all_cons,bg0,Bool.and_eq_true] at hd
  exact .tup h (i1 hd.1) (i2 hd.2)
 | obj h l x _ i1 ih=>simp [D.fr] at hd
 | fz h x _ i1 ih=>simp [D.fr] at hd
 | clo h _ ih=>exact .clo h (ih (by simpa [D.fr] using hd))
theorem R.inj (r:R F H ds vs A):∀{B:List Addr},R F H ds vs B->A=B:=by
 induction r with
 | nil=>intro B q; cases q; rfl
 | non _ ih=>intro B q; cases q with | non q=>exact ih q
 | bl _ ih=>intro B q; cases q with | bl q=>exact ih q
 | int _ ih=>intro B q; cases q with | int q=>exact ih q
 | str _ ih=>intro B q; cases q with | str q=>exact ih q
 | shr h x _ i1 ih=>intro B q; cases q with | shr _ _ q=>exact ih q
 | own h f _ _ i1 i2 =>
  intro B q
  cases q with
  | own h' f' x' q =>
   rw [h] at h'; cases h'
   rw [i1 x',i2 q]
 | tup h _ _ i1 i2 =>
  intro B q
  cases q with
  | tup h' x' q =>
   rw [h] at h'; cases h'
   rw [i1 x',i2 q]
 | obj h l x _ i1 ih=>intro B q; cases q with | obj _ _ _ q=>exact ih q
 | fz h x _ i1 ih=>intro B q; cases q with | fz _ _ q=>exact ih q
 | clo h _ ih=>intro B q; cases q with | clo _ q=>exact ih q
theorem R.perm {ps qs:List (D × V)} (hp:ps.Perm qs):∀{A:List Addr},R F H (ps.map (·.1)) (ps.map (·.2)) A->∃A',R F H (qs.map (·.1)) (qs.map (·.2)) A'/\A.Perm A':=by
 induction hp with
 | nil=>exact λr=>⟨_,r,.refl _⟩
 | cons x _ ih =>
  intro A r
  obtain ⟨v,vs',A1,A2,e,rfl,h1,h2⟩:=R.uncons r
  obtain ⟨rfl,rfl⟩:=List.cons.inj e
  obtain ⟨A',r',p⟩:=ih h2
  exact ⟨A1++A',h1.cons r',p.append_left _⟩
 | swap x y l =>
  intro A r
  obtain ⟨v,vs',A1,A2,e,rfl,h1,h2⟩:=R.uncons r
  obtain ⟨rfl,rfl⟩:=List.cons.inj e
  obtain ⟨v2,vs2,B1,B2,e,rfl,h3,h4⟩:=R.uncons h2
  obtain ⟨rfl,rfl⟩:=List.cons.inj e
  exact ⟨B1++(A1++B2),h3.cons (h1.cons h4),by rw [<-List.append_assoc,<- List.append_assoc]; exact List.perm_append_comm.append_right _⟩
 | trans _ _ i1 i2 =>
  intro A r
  obtain ⟨A',r',p⟩:=i1 r
  obtain ⟨A2,r2,p2⟩:=i2 r'
  exact ⟨A2,r2,p.trans p2⟩
noncomputable def Full (F H:Hp):Prop:=∀a o,H a=some o->(∀ws,o≠.lst ws)->F a=some o
theorem Full.refl (H:Hp):Full H H:=λ_ _ h _=>h
theorem R.full (hF:Full F H) (hs:Same F H') (r:R F H ds vs A) (e:A=[]):R F H' ds vs []:=by
 induction r with
 | nil=>exact .nil
 | non _ ih=>exact .non (ih e)
 | bl _ ih=>exact .bl (ih e)
 | int _ ih=>exact .int (ih e)
 | str _ ih=>exact .str (ih e)
 | shr h x _ i1 ih=>exact .shr h (i1 rfl) (ih e)
 | own h f _ _ i1 i2=>cases e
 | tup h _ _ i1 i2 =>
  obtain ⟨e1,e2⟩:=List.append_eq_nil_iff.mp e
  exact R.tup (A:=[]) (B:=[]) (hs _ _ (hF _ _ h (by intro ws z; cases z))) (i1 e1) (i2 e2)
 | obj h l x _ i1 ih=>exact .obj (hs _ _ (hF _ _ h (by intro ws z; cases z))) l (i1 rfl) (ih e)
 | fz h x _ i1 ih=>exact .fz h (i1 rfl) (ih e)
 | clo h _ ih=>exact .clo (h.mono λa o e n t=>hs.get a o (hF a o e n) t) (ih e)
open Classical in
noncomputable def snap (F H:Hp):Hp:=λa=>if (∃o,H a=some o/\∀ws,o≠.lst ws) then H a else F a
theorem aZ1:Full (snap F H) H:=λa o h n=>by unfold snap; rw [if_pos ⟨o,h,n⟩]; exact h
theorem aW4 (e:Same F H):Same F (snap F H):=⟨λa o h n=>by
 unfold snap; split
 ·exact e.get a o h n
 ·exact h,λa ps h=>by
 unfold snap; split
 ·exact e.tb a ps h
 ·exact ⟨#[],by rw [h]; simp⟩⟩
theorem bQ8 (e:Same F H):Same (snap F H) H:=⟨λa o h n=>by
 unfold snap at h; split at h
 ·exact h
 ·exact e.get a o h n,λa ps h=>by
 unfold snap at h; split at h
 ·exact ⟨#[],by rw [h]; simp⟩
 ·exact e.tb a ps h⟩
theorem bN8 (e:Same F H) {a:Addr} {ws:List V} (h:snap F H a=some (.lst ws)):F a=some (.lst ws):=by
 unfold snap at h; split at h
 ·rename_i z
  obtain ⟨o,h1,h2⟩:=z
  rw [h] at h1; exact absurd (Option.some.inj h1).symm (h2 ws)
 ·exact h
theorem bG1 {a:Addr} {ws:List V} (h:H a=some (.lst ws)) (n:F a=none):snap F H a=none:=by
 unfold snap; split
 ·rename_i z
  obtain ⟨o,h1,h2⟩:=z
  rw [h] at h1; exact absurd (Option.some.inj h1).symm (h2 ws)
 ·exact n
end
end L3
namespace L3
open PySem L2
noncomputable abbrev Dl:=List (Option D)
inductive RS (F H:Hp):Dl->St->List Addr->Prop
 | nil:RS F H [] [] []
 | non {δ σ o C}:RS F H δ σ C->RS F H (none :: δ) (o :: σ) C
 | som {d v A δ σ C}:R F H [d] [v] A->RS F H δ σ C->RS F H (some d :: δ) (some v :: σ) (A++C)
theorem nd_app {A B:List Addr}:(A++B).Nodup ↔ A.Nodup/\B.Nodup/\∀a∈A,a ∉ B:=by
 rw [List.nodup_append]
 constructor
 ·rintro ⟨h1,h2,h3⟩; exact ⟨h1,h2,λa ha hb=>h3 a ha a hb rfl⟩
 ·rintro ⟨h1,h2,h3⟩; exact ⟨h1,h2,λa ha b hb e=>h3 a ha (e ▸ hb)⟩
section
variable {F F' H H':Hp} {d:D} {v:V} {δ:Dl} {σ:St} {A C:List Addr} {i:Nat}
theorem RS.length (r:RS F H δ σ C):δ.length=σ.length:=by induction r <;> simp_all
theorem RS.pick:∀{δ:Dl} {σ:St} {C:List Addr} {i:Nat},RS F H δ σ C->δ[i]?=some (some d)->∃v A C',σ[i]?=some (some v)/\R F H [d] [v] A/\RS F H (δ.set i none) σ C'/\C.Perm (A++C')
 | _,_,_,_,.nil,e=>by simp at e
 | _,_,_,i,.non r,e=>by
  cases i with
  | zero=>simp at e
  | succ i =>
   obtain ⟨v,A,C',e1,h1,h2,p⟩:=RS.pick r (by simpa using e)
   exact ⟨v,A,C',by simpa using e1,h1,.non h2,p⟩
 | _,_,_,i,.som (A:=A0) (C:=C0) h r,e=>by
  cases i with
  | zero =>
   simp at e; subst e
   exact ⟨_,A0,C0,rfl,h,.non r,.refl _⟩
  | succ i =>
   obtain ⟨v,A,C',e1,h1,h2,p⟩:=RS.pick r (by simpa using e)
   refine ⟨v,A,A0++C',by simpa using e1,h1,.som h h2,(p.append_left A0).trans ?_⟩
   rw [<-List.append_assoc,<- List.append_assoc]
   exact List.perm_append_comm.append_right _
theorem RS.fill:∀{δ:Dl} {σ:St} {C:List Addr} {i:Nat},RS F H δ σ C->δ[i]?=some none->σ[i]?=some (some v)->R F H [d] [v] A->∃C',RS F H (δ.set i (some d)) σ C'/\C'.Perm (A++C)
 | _,_,_,_,.nil,e,_,_=>by simp at e
 | _,_,_,i,.non r,e,e2,h=>by
  cases i with
  | zero=>simp at e2; subst e2; exact ⟨_,.som h r,.refl _⟩
  | succ i =>
   obtain ⟨C',h1,p⟩:=RS.fill r (by simpa using e) (by simpa using e2) h
   exact ⟨C',.non h1,p⟩
 | _,_,_,i,.som (A:=A0) (C:=C0) h0 r,e,e2,h=>by
  cases i with
  | zero=>simp at e
  | succ i =>
   obtain ⟨C',h1,p⟩:=RS.fill r (by simpa using e) (by simpa using e2) h
   refine ⟨A0++C',.som h0 h1,(p.append_left A0).trans ?_⟩
   rw [<-List.append_assoc,<- List.append_assoc]
   exact List.perm_append_comm.append_right _
theorem RS.drop:∀{δ:Dl} {σ:St} {C:List Addr} (i:Nat),RS F H δ σ C->∃C',RS F H (δ.set i none) σ C'/\C'.Sublist C
 | _,_,_,_,.nil=>⟨_,.nil,.refl _⟩
 | _,_,_,i,.non r=>by
  cases i with
  | zero=>exact ⟨_,.non r,.refl _⟩
  | succ i=>obtain ⟨C',h,s⟩:=RS.drop i r; exact ⟨C',.non h,s⟩
 | _,_,_,i,.som (A:=A0) h0 r=>by
  cases i with
  | zero=>exact ⟨_,.non r,List.sublist_append_right _ _⟩
  | succ i=>obtain ⟨C',h,s⟩:=RS.drop i r; exact ⟨_,.som h0 h,(List.Sublist.refl A0).append s⟩
theorem RS.setσ:∀{δ:Dl} {σ:St} {C:List Addr} {i:Nat} (o:Option V),RS F H δ σ C->(δ[i]?=some none\/δ[i]?=none)->RS F H δ (σ.set i o) C
 | _,_,_,_,_,.nil,_=>.nil
 | _,_,_,i,_,.non r,e=>by
  cases i with
  | zero=>exact .non r
  | succ i=>exact .non (RS.setσ _ r (by simpa using e))
 | _,_,_,i,_,.som h0 r,e=>by
  cases i with
  | zero=>simp at e
  | succ i=>exact .som h0 (RS.setσ _ r (by simpa using e))
theorem RS.keep {W:List Addr} (hf:Same F F') (hb:But W H H') (hl:Lists W H) (r:RS F H δ σ C) (hn:∀a∈C,F' a=none) (hd:∀a∈C,a ∉ W):RS F' H' δ σ C:=by
 induction r with
 | nil=>exact .nil
 | non _ ih=>exact .non (ih hn hd)
 | som h _ ih=>exact .som (h.keep hf hb hl (λa ha=>hn a (by simp [ha])) λa ha=>hd a (by simp [ha])) (ih (λa ha=>hn a (by simp [ha])) λa ha=>hd a (by simp [ha]))
theorem RS.lists (r:RS F H δ σ C):∀a∈C,(∃ws,H a=some (.lst ws))/\F a=none:=by
 induction r with
 | nil=>simp
 | non _ ih=>exact ih
 | som h _ ih=>exact λa ha=>(List.mem_append.mp ha).elim (h.lists a) (ih a)
theorem RS.none_of:∀{δ:Dl} {σ:St} {C:List Addr} {σ':St},RS F H δ σ C->σ'.length=σ.length->RS F H (σ'.map λ_=>none) σ' []
 | _,_,_,[],_,_=>.nil
 | _,_,_,o :: σ',.nil,e=>by simp at e
 | _,_,_,o :: σ',.non r,e=>.non (RS.none_of r (by simpa using e))
 | _,_,_,o :: σ',.som _ r,e=>.non (RS.none_of r (by simpa using e))
end
structure Bs where
 H0:Hp
 F0:Hp
structure Cur (B:Bs) (F H:Hp) (σ:St) (δ:Dl) (ts:List (D × V)):Prop where
 ext:Same F H
 b1:Same B.H0 H
 b2:Same B.F0 F
 b3:∀a ws,F a=some (.lst ws)->B.F0 a=some (.lst ws)\/B.H0 a=none
 own:∃A C,R F H (ts.map (·.1)) (ts.map (·.2)) A/\RS F H δ σ C/\(A++C).Nodup/\∀a∈A++C,B.H0 a=none
section
variable {B:Bs} {F F' H H':Hp} {d:D} {v:V} {δ:Dl} {σ:St} {ts ps:List (D × V)} {A C W:List Addr} {i:Nat} {p:Addr} {xs ys:List D} {vs ws:List V}
theorem Cur.look (c:Cur B F H σ δ ts) (e:δ[i]?=some (some d)):∃v,σ[i]?=some (some v)/\S F H [d] [v]:=by
 obtain ⟨A,C,r,s,nd,fr⟩:=c.own
 obtain ⟨v,A',C',e1,h1,h2,p⟩:=s.pick e
 exact ⟨v,e1,h1.s⟩
theorem Cur.len (c:Cur B F H σ δ ts):δ.length=σ.length:=let ⟨_,_,_,s,_⟩:=c.own; s.length
theorem Cur.grow (c:Cur B F H σ δ ts) (h:Same H H'):Cur B F H' σ δ ts:=by
 obtain ⟨A,C,r,s,nd,fr⟩:=c.own
 exact ⟨c.ext.trans h,c.b1.trans h,c.b2,c.b3,A,C,r.grow (Same.refl _) h λa ha=>(r.lists a ha).2,s.keep (Same.refl _) (But.same h) Lists.nil (λa ha=>(s.lists a ha).2) (by simp),nd,fr⟩
theorem Cur.pop (c:Cur B F H σ δ ((d,v) :: ts)):Cur B F H σ δ ts:=by
 obtain ⟨A,C,r,s,nd,fr⟩:=c.own
 obtain ⟨w,vs',A1,A2,e,rfl,h1,h2⟩:=R.uncons r
 obtain ⟨rfl,rfl⟩:=List.cons.inj e
 refine ⟨c.ext,c.b1,c.b2,c.b3,A2,C,h2,s,?_,λa ha=>fr a (by simp at ha ⊢; exact .inr ha)⟩
 rw [List.append_assoc] at nd
 exact (nd_app.mp nd).2.1
theorem Cur.top (c:Cur B F H σ δ ((d,v) :: ts)):S F H [d] [v]:=by
 obtain ⟨A,C,r,s,nd,fr⟩:=c.own
 obtain ⟨w,vs',A1,A2,e,rfl,h1,h2⟩:=R.uncons r
 obtain ⟨rfl,rfl⟩:=List.cons.inj e
 exact h1.s
theorem Cur.pushS (c:Cur B F H σ δ ts) (s:S F H [d] [v]) (pl:d.pl=true):Cur B F H σ δ ((d,v) :: ts):=by
 obtain ⟨A,C,r,q,nd,fr⟩:=c.own
 exact ⟨c.ext,c.b1,c.b2,c.b3,A,C,(s.r (by simp [pl])).cons r,q,nd,fr⟩
theorem Same.upd {o:HO} (h:H p=none):Same H (upd H p o):=.of λb u e=>by rw [aP5 (aQ1 e h)]; exact e
theorem Cur.pack (c:Cur B F H σ δ (ps++ts)) (hs:Same H H') (k:∀A1,R F H' (ps.map (·.1)) (ps.map (·.2)) A1->A1.Nodup->∃A',R F H' [d] [v] A'/\A'.Nodup/\∀a∈A',a∈A1\/H a=none):Cur B F H' σ δ ((d,v) :: ts):=by
 obtain ⟨A,C,r,s,nd,fr⟩:=c.own
 rw [List.map_append,List.map_append] at r
 obtain ⟨v1,v2,A1,A2,e,rfl,h1,h2⟩:=R.split r
 have l1:(ps.map (·.2)).length=v1.length:=by rw [<-h1.length]; simp
 obtain ⟨rfl,rfl⟩:=List.append_inj e l1
 rw [List.append_assoc] at nd fr
 obtain ⟨n1,n2,n3⟩:=nd_app.mp nd
 have g1:=h1.grow (Same.refl F) hs λa ha=>(h1.lists a ha).2
 have g2:=h2.grow (Same.refl F) hs λa ha=>(h2.lists a ha).2
 have gs:=s.keep (Same.refl F) (But.same hs) Lists.nil (λa ha=>(s.lists a ha).2) (by simp)
 obtain ⟨A',r',nd',sub⟩:=k A1 g1 n1
 refine ⟨c.ext.trans hs,c.b1.trans hs,c.b2,c.b3,A'++A2,C,r'.cons g2,gs,?_,?_⟩
 ·rw [List.append_assoc]
  refine nd_app.mpr ⟨nd',n2,λa ha hb=>?_⟩
  rcases sub a ha with z | z
  ·exact n3 a z hb
  ·rcases List.mem_append.mp hb with y | y
   ·obtain ⟨⟨_,q⟩,_⟩:=h2.lists a y; rw [z] at q; cases q
   ·obtain ⟨⟨_,q⟩,_⟩:=s.lists a y; rw [z] at q; cases q
 ·intro a ha
  rw [List.append_assoc] at ha
  rcases List.mem_append.mp ha with y | y
  ·rcases sub a y with z | z
   ·exact fr a (by simp [z])
   ·exact c.b1.free z
  ·exact fr a (List.mem_append_right _ y)
theorem Cur.pushNew (c:Cur B F H σ δ ts) (hs:Same H H') (r:R F H' [d] [v] A) (nd:A.Nodup) (fr:∀a∈A,H a=none):Cur B F H' σ δ ((d,v) :: ts) :=
 Cur.pack (ps:=[]) c hs λ_ _ _=>⟨A,r,nd,λa ha=>.inr (fr a ha)⟩
theorem Cur.newL (c:Cur B F H σ δ ts) (hp:H p=none) (s:S F H xs vs) (pl:xs.all D.pl=true):Cur B F (upd H p (.lst vs)) σ δ ((.lst true xs,.ref p) :: ts) :=
 c.pushNew (Same.upd hp) (A:=[p]) (by simpa using R.own aP7 (c.ext.free hp) ((s.r pl).shared (Same.refl _) (Same.upd hp)) .nil) (by simp) (by simp [hp])
theorem Cur.packL (c:Cur B F H σ δ (ps++ts)) (hp:H p=none):Cur B F (upd H p (.lst (ps.map (·.2)))) σ δ ((.lst true (ps.map (·.1)),.ref p) :: ts):=by
 refine c.pack (Same.upd hp) λA1 r nd=>⟨p :: A1,by simpa using R.own aP7 (c.ext.free hp) r .nil,List.nodup_cons.mpr ⟨λh=>?_,nd⟩,λa ha=>?_⟩
 ·obtain ⟨A,C,r0,_,_,_⟩:=c.own
  rw [List.map_append,List.map_append] at r0
  obtain ⟨v1,v2,B1,B2,e,rfl,h1,h2⟩:=R.split r0
  have l1:(ps.map (·.2)).length=v1.length:=by rw [<-h1.length]; simp
  obtain ⟨rfl,rfl⟩:=List.append_inj e l1
  have g1:=h1.grow (Same.refl F) (Same.upd (o:=.lst (ps.map (·.2))) hp) λa ha=>(h1.lists a ha).2
  have:A1=B1:=R.inj r g1
  subst this
  obtain ⟨⟨_,q⟩,_⟩:=h1.lists p h
  rw [hp] at q; cases q
 ·rcases List.mem_cons.mp ha with rfl | h
  ·exact .inr hp
  ·exact .inl h
theorem Cur.packT (c:Cur B F H σ δ (ps++ts)) (hp:H p=none):Cur B F (upd H p (.tup (ps.map (·.2)))) σ δ ((.tup (ps.map (·.1)),.ref p) :: ts) :=
 c.pack (Same.upd hp) λA1 r nd=>⟨A1,by simpa using R.tup (F:=F) aP7 r .nil,nd,λa ha=>.inl ha⟩
theorem Cur.perm (c:Cur B F H σ δ ps) (h:ps.Perm ts):Cur B F H σ δ ts:=by
 obtain ⟨A,C,r,s,nd,fr⟩:=c.own
 obtain ⟨A',r',p⟩:=r.perm h
 have pp:=p.append_right C
 exact ⟨c.ext,c.b1,c.b2,c.b3,A',C,r',s,pp.nodup_iff.mp nd,λa ha=>fr a (pp.mem_iff.mpr ha)⟩
theorem Cur.move (c:Cur B F H σ δ ts) (e:δ[i]?=some (some d)):∃v,σ[i]?=some (some v)/\Cur B F H σ (δ.set i none) ((d,v) :: ts):=by
 obtain ⟨A,C,r,s,nd,fr⟩:=c.own
 obtain ⟨v,A',C',e1,h1,h2,p⟩:=s.pick e
 have pp:(A++C).Perm ((A'++A)++C'):=by
  refine (p.append_left A).trans ?_
  rw [<-List.append_assoc]
  exact List.perm_append_comm.append_right _
 exact ⟨v,e1,c.ext,c.b1,c.b2,c.b3,A'++A,C',h1.cons r,h2,pp.nodup_iff.mp nd,λa ha=>fr a (pp.mem_iff.mpr ha)⟩
theorem Cur.forget (c:Cur B F H σ δ ts) (i:Nat):Cur B F H σ (δ.set i none) ts:=by
 obtain ⟨A,C,r,s,nd,fr⟩:=c.own
 obtain ⟨C',h,sb⟩:=s.drop i
 exact ⟨c.ext,c.b1,c.b2,c.b3,A,C',r,h,nd.sublist ((List.Sublist.refl A).append sb),λa ha=>fr a (((List.Sublist.refl A).append sb).subset ha)⟩
theorem Cur.fill (c:Cur B F H σ δ ((d,v) :: ts)) (e:δ[i]?=some none) (e2:σ[i]?=some (some v)):Cur B F H σ (δ.set i (some d)) ts:=by
 obtain ⟨A,C,r,s,nd,fr⟩:=c.own
 obtain ⟨w,vs',A1,A2,e',rfl,h1,h2⟩:=R.uncons r
 obtain ⟨rfl,rfl⟩:=List.cons.inj e'
 obtain ⟨C',s',p⟩:=s.fill e e2 h1
 have pp:((A1++A2)++C).Perm (A2++C'):=by
  refine ((List.perm_append_comm (l₁:=A1) (l₂:=A2)).append_right C).trans ?_
  rw [List.append_assoc]
  exact (p.symm).append_left A2
 exact ⟨c.ext,c.b1,c.b2,c.b3,A2,C',h2,s',pp.nodup_iff.mp nd,λa ha=>fr a (pp.mem_iff.mpr ha)⟩
theorem Cur.setσ (c:Cur B F H σ δ ts) (o:Option V) (e:δ[i]?=some none\/δ[i]?=none):Cur B F H (σ.set i o) δ ts:=by
 obtain ⟨A,C,r,s,nd,fr⟩:=c.own
 exact ⟨c.ext,c.b1,c.b2,c.b3,A,C,r,s.setσ o e,nd,fr⟩
theorem Cur.store (c:Cur B F H σ δ ((d,v) :: ts)) (i:Nat):Cur B F H (σ.set i (some v)) (δ.set i (some d)) ts:=by
 by_cases hi:i < δ.length
 ·have c1:=c.forget i
  have hs:i < σ.length:=by rw [<-c.len]; exact hi
  have e:(δ.set i none)[i]?=some none:=by simp [hi]
  have c2:=(c1.setσ (some v) (.inl e)).fill (i:=i) e (by simp [hs])
  rwa [List.set_set] at c2
 ·have hs:¬ i < σ.length:=by rw [<-c.len]; exact hi
  rw [List.set_eq_of_length_le (by omega),List.set_eq_of_length_le (by omega)]
  exact c.pop
theorem Cur.mut (c:Cur B F H σ δ (ps++ts)) (e:δ[i]?=some (some (.lst true xs))) (e2:σ[i]?=some (some (.ref p)))
  (k:∀ws A1 A2,H p=some (.lst ws)->R F H xs ws A1->R F H (ps.map (·.1)) (ps.map (·.2)) A2->(A1++A2).Nodup->∃A',R F H ys vs A'/\A'.Nodup/\∀a∈A',a∈A1++A2) :
  Cur B F (upd H p (.lst vs)) σ (δ.set i (some (.lst true ys))) ts:=by
 have hi:i < δ.length:=(List.getElem?_eq_some_iff.mp e).1
 obtain ⟨v,e3,c1⟩:=c.move e
 rw [e2] at e3; cases e3
 obtain ⟨A,C,r,s,nd,fr⟩:=c1.own
 have r':R F H (([.lst true xs]++ps.map (·.1))++ts.map (·.1)) ((.ref p :: ps.map (·.2))++ts.map (·.2)) A:=by simpa using r
 obtain ⟨v1,v2,A1,A2,e4,rfl,h1,h2⟩:=R.split r'
 have l1:(V.ref p :: ps.map (·.2)).length=v1.length:=by rw [<-h1.length]; simp
 obtain ⟨rfl,rfl⟩:=List.append_inj e4 l1
 cases h1 with
 | @own _ ws0 _ B1 _ _ B2 hH hF hx hr =>
  rw [List.append_assoc] at nd fr
  obtain ⟨n1,n2,n3⟩:=nd_app.mp nd
  obtain ⟨m1,m2⟩:=List.nodup_cons.mp n1
  obtain ⟨A',ra,nda,sub⟩:=k ws0 B1 B2 hH hx hr m2
  have pA:p ∉ A':=λz=>m1 (sub _ z)
  have pR:p ∉ A2++C:=λz=>n3 p (by simp) z
  have but:But [p] H (upd H p (.lst vs)):=⟨λa o q z _=>by rw [aP5 (by simpa using z)]; exact q⟩
  have hl:Lists [p] H:=λa ha=>by rw [List.mem_singleton.mp ha]; exact ⟨_,hH⟩
  have g1:=ra.keep (Same.refl F) but hl (λa ha=>(ra.lists a ha).2) λa ha z=>pA (by rw [<-List.mem_singleton.mp z]; exact ha)
  have g2:=h2.keep (Same.refl F) but hl (λa ha=>(h2.lists a ha).2) λa ha z=>pR (by rw [<-List.mem_singleton.mp z]; exact List.mem_append_left _ ha)
  have gs:=s.keep (Same.refl F) but hl (λa ha=>(s.lists a ha).2) λa ha z=>pR (by rw [<-List.mem_singleton.mp z]; exact List.mem_append_right _ ha)
  have fp:B.H0 p=none:=fr p (by simp)
  have b1:Same B.H0 (upd H p (.lst vs)):=⟨λa o q n=>by
   rw [aP5 (λz=>by rw [z,fp] at q; cases q)]
   exact c1.b1.get a o q n,λa ps q=>by
   rw [aP5 (λz=>by rw [z,fp] at q; cases q)]
   exact c1.b1.tb a ps q⟩
  have ext:Same F (upd H p (.lst vs)):=⟨λa o q n=>by
   rw [aP5 (λz=>by rw [z,hF] at q; cases q)]
   exact c1.ext.get a o q n,λa ps q=>by
   rw [aP5 (λz=>by rw [z,hF] at q; cases q)]
   exact c1.ext.tb a ps q⟩
  have c2:Cur B F (upd H p (.lst vs)) σ (δ.set i none) ((.lst true ys,.ref p) :: ts):=by
   refine ⟨ext,b1,c1.b2,c1.b3,(p :: A')++A2,C,R.cons (by simpa using R.own aP7 hF g1 .nil) g2,gs,?_,?_⟩
   ·rw [List.append_assoc]
    refine nd_app.mpr ⟨List.nodup_cons.mpr ⟨pA,nda⟩,n2,λa ha hb=>?_⟩
    rcases List.mem_cons.mp ha with rfl | ha
    ·exact pR hb
    ·exact n3 a (List.mem_cons_of_mem _ (sub a ha)) hb
   ·intro a ha
    rw [List.append_assoc] at ha
    rcases List.mem_append.mp ha with z | z
    ·rcases List.mem_cons.mp z with rfl | z
     ·exact fp
     ·exact fr a (List.mem_append_left _ (List.mem_cons_of_mem _ (sub a z)))
    ·exact fr a (List.mem_append_right _ z)
  have c3:=c2.fill (i:=i) (by simp [hi]) e2
  rwa [List.set_set] at c3
theorem Cur.frzWith (c:Cur B F H σ δ ((d,v) :: ts)):∃F',Same F F'/\Cur B F' H σ δ ((d.sh,v) :: ts):=by
 obtain ⟨A,C,r,s,nd,fr⟩:=c.own
 obtain ⟨w,vs',A1,A2,e',rfl,h1,h2⟩:=R.uncons r
 obtain ⟨rfl,rfl⟩:=List.cons.inj e'
 rw [List.append_assoc] at nd fr
 obtain ⟨n1,n2,n3⟩:=nd_app.mp nd
 have out:∀a∈A2++C,frz F H A1 a=F a:=λa ha=>bm5 λz=>n3 a z ha
 have b3:∀a o,frz F H A1 a=some (.lst o)->B.F0 a=some (.lst o)\/B.H0 a=none:=λa o q=>by
  by_cases z:a∈A1
  ·exact .inr (fr a (List.mem_append_left _ z))
  ·rw [bm5 z] at q; exact c.b3 a o q
 refine ⟨frz F H A1,aW0 c.ext,bJ3 c.ext,c.b1,c.b2.trans (aW0 c.ext),b3,A2,C,?_,?_,n2,λa ha=>fr a (List.mem_append_right _ ha)⟩
 ·have g1:=h1.frz c.ext A1 (λ_ h=>h)
  exact R.cons (A:=[]) g1 (h2.keep (aW0 c.ext) (But.same (Same.refl H)) Lists.nil (λa ha=>by rw [out a (List.mem_append_left _ ha)]; exact (h2.lists a ha).2) (by simp))
 ·exact s.keep (aW0 c.ext) (But.same (Same.refl H)) Lists.nil (λa ha=>by rw [out a (List.mem_append_right _ ha)]; exact (s.lists a ha).2) (by simp)
theorem Cur.freeze (c:Cur B F H σ δ ts) (e:δ[i]?=some (some d)):∃F',Same F F'/\Cur B F' H σ (δ.set i (some d.sh)) ts:=by
 have hi:i < δ.length:=(List.getElem?_eq_some_iff.mp e).1
 obtain ⟨v,e2,c1⟩:=c.move e
 obtain ⟨F',s,c2⟩:=c1.frzWith
 refine ⟨F',s,?_⟩
 have c3:=c2.fill (i:=i) (by simp [hi]) e2
 rwa [List.set_set] at c3
theorem Cur.rebase (c:Cur B F H σ δ ts):Cur ⟨B.H0,F⟩ F H σ δ ts:=⟨c.ext,c.b1,Same.refl _,λ_ _ q=>.inl q,c.own⟩
theorem Cur.unbase {F1:Hp} (c:Cur ⟨B.H0,F1⟩ F H σ δ ts) (h:Same B.F0 F1) (h3:∀a ws,F1 a=some (.lst ws)->B.F0 a=some (.lst ws)\/B.H0 a=none):Cur B F H σ δ ts :=
 ⟨c.ext,c.b1,h.trans c.b2,λa o q=>(c.b3 a o q).elim (h3 a o) .inr,c.own⟩
theorem Cur.only (c:Cur B F H σ δ ts) {σ':St} {δ':Dl} (h:RS F H δ' σ' []):Cur B F H σ' δ' ts:=by
 obtain ⟨A,C,r,s,nd,fr⟩:=c.own
 exact ⟨c.ext,c.b1,c.b2,c.b3,A,[],r,h,by simpa using (nd_app.mp nd).1,λa ha=>fr a (by simp at ha; simp [ha])⟩
theorem Cur.call (c:Cur B F H σ δ ts) (hs:Same H H') (hf:Same F F') (he:Same F' H') (h3:∀a ws,F' a=some (.lst ws)->F a=some (.lst ws)\/H a=none) (r:R F' H' [d] [v] A) (nd:A.Nodup) (fr:∀a∈A,H a=none) :
  Cur B F' H' σ δ ((d,v) :: ts):=by
 obtain ⟨A0,C,r0,s,nd0,fr0⟩:=c.own
 have no:∀a,(∃ws,H a=some (.lst ws))/\F a=none->F' a=none:=λa zz=>by
  obtain ⟨⟨ws,e⟩,n⟩:=zz
  cases q:F' a with
  | none=>rfl
  | some o =>
   have q2:H' a=some o:=by
    cases n:by8 o with
    | true=>exact he.get a o q n
    | false =>
     obtain ⟨ps,rfl⟩:=cb6 n
     obtain ⟨m,z⟩:=he.tb a ps q
     rw [hs a _ e] at z
     cases z
   rw [hs a _ e] at q2
   cases q2
   rcases h3 a ws q with z | z
   ·rw [n] at z; cases z
   ·rw [e] at z; cases z
 refine ⟨he,c.b1.trans hs,c.b2.trans hf,λa o q=>(h3 a o q).elim (c.b3 a o) λz=>.inr (c.b1.free z),A++A0,C,R.cons r (r0.grow hf hs λa ha=>no a (r0.lists a ha)),
  s.keep hf (But.same hs) Lists.nil (λa ha=>no a (s.lists a ha)) (by simp),?_,?_⟩
 ·rw [List.append_assoc]
  refine nd_app.mpr ⟨nd,nd0,λa ha hb=>?_⟩
  have z:=fr a ha
  rcases List.mem_append.mp hb with y | y
  ·obtain ⟨⟨_,q⟩,_⟩:=r0.lists a y; rw [z] at q; cases q
  ·obtain ⟨⟨_,q⟩,_⟩:=s.lists a y; rw [z] at q; cases q
 ·intro a ha
  rw [List.append_assoc] at ha
  rcases List.mem_append.mp ha with y | y
  ·exact c.b1.free (fr a y)
  ·exact fr0 a y
theorem Cur.inS (c:Cur B F H σ δ ((d,v) :: ts)):Cur B F H (some v :: σ) (some d :: δ) ts:=by
 obtain ⟨A,C,r,s,nd,fr⟩:=c.own
 obtain ⟨w,vs',A1,A2,e',rfl,h1,h2⟩:=R.uncons r
 obtain ⟨rfl,rfl⟩:=List.cons.inj e'
 have pp:((A1++A2)++C).Perm (A2++(A1++C)):=by
  rw [<-List.append_assoc]; exact List.perm_append_comm.append_right C
 exact ⟨c.ext,c.b1,c.b2,c.b3,A2,A1++C,h2,.som h1 s,pp.nodup_iff.mp nd,λa ha=>fr a (pp.mem_iff.mpr ha)⟩
theorem Cur.outS {w:V} (c:Cur B F H (some w :: σ) (some d :: δ) ts):Cur B F H σ δ ((d,w) :: ts):=by
 obtain ⟨A,C,r,s,nd,fr⟩:=c.own
 cases s with
 | @som _ _ A1 _ _ C1 h1 s =>
  have pp:(A++(A1++C1)).Perm ((A1++A)++C1):=by
   rw [<-List.append_assoc]; exact List.perm_append_comm.append_right C1
  exact ⟨c.ext,c.b1,c.b2,c.b3,A1++A,C1,R.cons h1 r,s,pp.nodup_iff.mp nd,λa ha=>fr a (pp.mem_iff.mpr ha)⟩
theorem Cur.appT (c:Cur B F H σ δ ((d,v) :: (.lst true xs,.ref p) :: ts)) (hp:H p=some (.lst ws)):Cur B F (upd H p (.lst (ws++[v]))) σ δ ((.lst true (xs++[d]),.ref p) :: ts):=by
 have c1:=(c.perm (List.Perm.swap _ _ _)).inS
 refine (Cur.mut (ps:=[(d,v)]) (i:=0) (ys:=xs++[d]) (vs:=ws++[v]) c1 rfl rfl λws' A1 A2 h r1 r2 nd=>?_).outS
 rw [hp] at h; cases h
 exact ⟨A1++A2,r1.append r2,nd,λa ha=>ha⟩
theorem Cur.app (c:Cur B F H σ δ ((d,v) :: ts)) (e:δ[i]?=some (some (.lst true xs))) (e2:σ[i]?=some (some (.ref p))) (hp:H p=some (.lst ws)) :
  Cur B F (upd H p (.lst (ws++[v]))) σ (δ.set i (some (.lst true (xs++[d])))) ts :=
 Cur.mut (ps:=[(d,v)]) c e e2 λws' A1 A2 h r1 r2 nd=>by
  rw [hp] at h; cases h
  exact ⟨A1++A2,r1.append r2,nd,λa ha=>ha⟩
theorem R.set1:∀{xs:List D} {ws:List V} {A1 A2:List Addr} (j:Nat),R F H xs ws A1->R F H [d] [v] A2->(A1++A2).Nodup->∃A',R F H (xs.set j d) (ws.set j v) A'/\A'.Nodup/\∀a∈A',a∈A1++A2
 | [],_,A1,A2,j,r,q,nd=>by cases r; exact ⟨[],.nil,by simp,by simp⟩
 | x :: xs,_,A1,A2,j,r,q,nd=>by
  obtain ⟨w,ws',B1,B2,rfl,rfl,h1,h2⟩:=r.uncons
  rw [List.append_assoc] at nd
  obtain ⟨n1,n2,n3⟩:=nd_app.mp nd
  cases j with
  | zero =>
   refine ⟨A2++B2,q.cons h2,(List.perm_append_comm (l₁:=B2) (l₂:=A2)).nodup_iff.mp n2,λa ha=>?_⟩
   simp only [List.mem_append] at ha ⊢
   rcases ha with z | z
   ·exact .inr z
   ·exact .inl (.inr z)
  | succ j =>
   obtain ⟨A',r',nd',sub⟩:=R.set1 j h2 q n2
   refine ⟨B1++A',h1.cons r',nd_app.mpr ⟨n1,nd',λa ha hb=>n3 a ha (sub a hb)⟩,λa ha=>?_⟩
   rcases List.mem_append.mp ha with z | z
   ·simp [z]
   ·have:=sub a z
    simp only [List.mem_append] at this ⊢
    rcases this with z | z
    ·exact .inl (.inr z)
    ·exact .inr z
theorem Cur.setI (c:Cur B F H σ δ ((d,v) :: ts)) (e:δ[i]?=some (some (.lst true xs))) (e2:σ[i]?=some (some (.ref p))) (hp:H p=some (.lst ws)) (j:Nat) :
  Cur B F (upd H p (.lst (ws.set j v))) σ (δ.set i (some (.lst true (xs.set j d)))) ts :=
 Cur.mut (ps:=[(d,v)]) c e e2 λws' A1 A2 h r1 r2 nd=>by
  rw [hp] at h; cases h
  exact r1.set1 j r2 nd
theorem Cur.ownAt (c:Cur B F H σ δ ts) (e:δ[i]?=some (some (.lst true xs))):∃p ws,σ[i]?=some (some (.ref p))/\H p=some (.lst ws)/\xs.length=ws.length:=by
 obtain ⟨v,e1,s⟩:=c.look e
 cases s with
 | own h x _=>exact ⟨_,_,e1,h,x.length⟩
theorem RS.start {ds:List D} {vs:List V} (r:R F H ds vs []) (n:Nat):RS F H (ds.map some++List.replicate n none) (vs.map some++List.replicate n none) []:=by
 have z:∀n,RS F H (List.replicate n none) (List.replicate n none) []:=λn=>by
  induction n with
  | zero=>exact .nil
  | succ n ih=>exact .non ih
 have:∀(ds:List D) (vs:List V),R F H ds vs []->RS F H (ds.map some++List.replicate n none) (vs.map some++List.replicate n none) []:=by
  intro ds
  induction ds with
  | nil=>intro vs r; cases r; exact z n
  | cons d ds ih =>
   intro vs r
   obtain ⟨v,vs',A1,A2,rfl,e,h1,h2⟩:=r.uncons
   obtain ⟨rfl,rfl⟩:=List.append_eq_nil_iff.mp e.symm
   exact .som (A:=[]) h1 (ih _ h2)
 exact this ds vs r
theorem Cur.start {ds:List D} {vs:List V} (e:Same F H) (r:R F H ds vs []) (n:Nat):Cur ⟨H,F⟩ F H (vs.map some++List.replicate n none) (ds.map some++List.replicate n none) [] :=
 ⟨e,Same.refl _,Same.refl _,λ_ _ q=>.inl q,[],[],.nil,RS.start r n,by simp,by simp⟩
theorem Cur.snap (c:Cur B F H σ δ ts):Cur B (L3.snap F H) H σ δ ts:=by
 obtain ⟨A,C,r,s,nd,fr⟩:=c.own
 have no:∀a,(∃ws,H a=some (.lst ws))/\F a=none->L3.snap F H a=none:=λa ⟨⟨ws,e⟩,n⟩=>bG1 e n
 exact ⟨bQ8 c.ext,c.b1,c.b2.trans (aW4 c.ext),λa ws q=>c.b3 a ws (bN8 c.ext q),A,C,r.grow (aW4 c.ext) (Same.refl _) λa ha=>no a (r.lists a ha),
  s.keep (aW4 c.ext) (But.same (Same.refl _)) Lists.nil (λa ha=>no a (s.lists a ha)) (by simp),nd,fr⟩
end
end L3
namespace L3
open PySem L2 PySem.Spec PyProof.Rows
noncomputable abbrev TEd:=Dl->(D->Dl->Prop)->Prop
noncomputable abbrev TTd:=Dl->(Bool->Dl->Prop)->Prop
noncomputable abbrev TAd:=Dl->(List D->Dl->Prop)->Prop
structure EndsD where
 nx:Dl->Prop
 rt:D->Prop
 bk:Dl->Prop:=λ_=>False
 ct:Dl->Prop:=λ_=>False
 xc:Addr->Dl->Prop:=λ_ _=>False
 xr:Addr->Dl->Prop:=λ_ _=>False
noncomputable abbrev TSd:=EndsD->Dl->Prop
noncomputable def lE (t:TEd):TE:=λσ H Q=>∃B F δ ts Qd,Cur B F H σ δ ts/\t δ Qd/\∀d δ' v F' H',Qd d δ'->Same F F'->Same H H'->Cur B F' H' σ δ' ((d,v) :: ts)->Q v H'
noncomputable def lB (t:TEd):TE:=λσ H Q=>∃B F δ ts Qd,Cur B F H σ δ ts/\t δ Qd/\∀d δ' v F' H',Qd d δ'->Same F F'->Same H H'->Cur B F' H' σ δ' ts->S F' H' [d] [v]->Q v H'
noncomputable def lT (t:TTd):TT:=λσ H Q=>∃B F δ ts Qd,Cur B F H σ δ ts/\t δ Qd/\∀b δ' F' H',Qd b δ'->Same F F'->Same H H'->Cur B F' H' σ δ' ts->Q b H'
noncomputable def lA (t:TAd):TA:=λσ H Q=>∃B F δ ts Qd,Cur B F H σ δ ts/\t δ Qd/\∀ds δ' vs F' H',Qd ds δ'->Same F F'->Same H H'->Cur B F' H' σ δ' ts->S F' H' ds vs->Q vs H'
noncomputable def lO (t:TAd):TA:=λσ H Q=>∃B F δ ts Qd,Cur B F H σ δ ts/\t δ Qd/\∀(ps:List (D × V)) δ' F' H',Qd (ps.map (·.1)) δ'->Same F F'->Same H H'->Cur B F' H' σ δ' (ps++ts)->Q (ps.map (·.2)) H'
noncomputable def XL (X:Cx) (B:Bs) (Dd:EndsD):Prop :=
 (∀C δ' pins σ' F' H' s' a T,Dd.xc C δ'->Cur B F' H' σ' δ' []->Inv X pins σ' H' s'->Trc s'.heap a T (.ref C)->Apart X pins H' a->Apart X pins H' T->X.xe (.ref a) s') /\
 (∀C δ' pins σ' F' H' s' h' e vs,Dd.xr C δ'->Cur B F' H' σ' δ' []->Inv X pins σ' H' s'->Heap.MadeExcOf s'.heap h' e (.ref C) vs->X.xe (.ref e) { s' with heap:=h' })
theorem XL.none {X:Cx} {B:Bs} {Dd:EndsD} (h1:∀C δ,¬ Dd.xc C δ) (h2:∀C δ,¬ Dd.xr C δ):XL X B Dd:=⟨λC δ _ _ _ _ _ _ _ h=>absurd h (h1 C δ),λC δ _ _ _ _ _ _ _ _ h=>absurd h (h2 C δ)⟩
noncomputable def lS (X:Cx) (t:TSd):TS:=λD σ H=>∃B F δ Dd,Cur B F H σ δ []/\t Dd δ/\(∀δ' σ' F' H',Dd.nx δ'->Cur B F' H' σ' δ' []->D.nx σ' H')/\(∀d v δ' σ' F' H',Dd.rt d->Cur B F' H' σ' δ' [(d,v)]->D.rt v H') /\
 (∀δ' σ' F' H',Dd.bk δ'->Cur B F' H' σ' δ' []->D.bk σ' H')/\(∀δ' σ' F' H',Dd.ct δ'->Cur B F' H' σ' δ' []->D.ct σ' H')/\XL X B Dd
section
variable {X:Cx} {e a b c:Expr} {es:List Expr} {pos:Pos} {st:Stmt} {sts:List Stmt}
theorem aQ6 {t t':TE} (h:PE X e t) (m:∀σ H Q,t' σ H Q->t σ H Q):PE X e t':=λpins s σ H Q I q=>h pins s σ H Q I (m σ H Q q)
theorem bw8 {t t':TT} (h:PT X e t) (m:∀σ H Q,t' σ H Q->t σ H Q):PT X e t':=λpins s σ H Q I q=>h pins s σ H Q I (m σ H Q q)
theorem b81 {t t':TT} (h:PW X e t) (m:∀σ H Q,t' σ H Q->t σ H Q):PW X e t':=λwh pins s σ H Q I q=>h wh pins s σ H Q I (m σ H Q q)
theorem bh5 {t t':TA} (h:PA X es t) (m:∀σ H Q,t' σ H Q->t σ H Q):PA X es t':=λp pins s σ H Q I q=>h p pins s σ H Q I (m σ H Q q)
theorem aY6 {t t':TS} (h:PS X st t) (m:∀D σ H,t' D σ H->t D σ H):PS X st t':=λpins s σ H D I q=>h pins s σ H D I (m D σ H q)
theorem bl9 {t t':TS} (h:PSs X sts t) (m:∀D σ H,t' D σ H->t D σ H):PSs X sts t':=λpins s σ H D I q=>h pins s σ H D I (m D σ H q)
variable {t u ta tb tc:TEd}
theorem aP0 (h:PE X e (lE t)):PE X e (lB t):=aQ6 h λσ H Q ⟨B,F,δ,ts,Qd,c,q,k⟩=>⟨B,F,δ,ts,Qd,c,q,λd δ' v F' H' hd sf sh c'=>k d δ' v F' H' hd sf sh c'.pop c'.top⟩
noncomputable def dPl (t:TEd):TEd:=λδ Q=>t δ λd δ'=>d.pl=true/\Q d δ'
theorem ba9 (h:PE X e (lB t)):PE X e (lE (dPl t)):=aQ6 h λσ H Q ⟨B,F,δ,ts,Qd,c,q,k⟩=>⟨B,F,δ,ts,_,c,q,λd δ' v F' H' hd sf sh c' s=>k d δ' v F' H' hd.2 sf sh (c'.pushS s hd.1)⟩
noncomputable def bY0 (i:Nat):TEd:=λδ Q=>match δ[i]? with
 | some (some d)=>Q d δ
 | _=>False
noncomputable def br7 (i:Nat):TEd:=λδ Q=>match δ[i]? with
 | some (some d)=>Q d (δ.set i none)
 | _=>False
theorem b97 {i:Nat} {δ:Dl} {Q:D->Dl->Prop} (h:bY0 i δ Q):∃d,δ[i]?=some (some d)/\Q d δ:=by
 unfold bY0 at h
 split at h
 ·rename_i d e; exact ⟨d,e,h⟩
 ·exact h.elim
theorem bW7 {i:Nat} {δ:Dl} {Q:D->Dl->Prop} (h:br7 i δ Q):∃d,δ[i]?=some (some d)/\Q d (δ.set i none):=by
 unfold br7 at h
 split at h
 ·rename_i d e; exact ⟨d,e,h⟩
 ·exact h.elim
noncomputable def dC (d:D):TEd:=λδ Q=>Q d δ
theorem bv (i:Nat) {x:Str} (hN:X.N[i]?=some x:=by rfl) (hv:Vis X.env.scope x:=by first | exact Or.inl rfl | exact Or.inr (Or.inl rfl) | exact Or.inr (Or.inr rfl)) (hd:(x == ("__debug__":Str))=false:=by decide)
  (hcd:(x == ("__classdict__":Str))=false:=by decide):PE X (.Name x pos) (lB (bY0 i)):=aQ6 (bd3 hN hv hd hcd) λσ H Q ⟨B,F,δ,ts,Qd,c,q,k⟩=>by
 obtain ⟨d,e,q⟩:=b97 q
 obtain ⟨v,e1,s⟩:=c.look e
 exact ⟨v,e1,k d δ v F H q (Same.refl _) (Same.refl _) c s⟩
theorem em (i:Nat) {x:Str} (hN:X.N[i]?=some x:=by rfl) (hv:Vis X.env.scope x:=by first | exact Or.inl rfl | exact Or.inr (Or.inl rfl) | exact Or.inr (Or.inr rfl)) (hd:(x == ("__debug__":Str))=false:=by decide)
  (hcd:(x == ("__classdict__":Str))=false:=by decide):PE X (.Name x pos) (lE (br7 i)):=aQ6 (bd3 hN hv hd hcd) λσ H Q ⟨B,F,δ,ts,Qd,c,q,k⟩=>by
 obtain ⟨d,e,q⟩:=bW7 q
 obtain ⟨v,e1,c'⟩:=c.move e
 exact ⟨v,e1,k d _ v F H q (Same.refl _) (Same.refl _) c'⟩
theorem bn9 {B:Bs} {F H:Hp} {σ:L2.St} {δ:Dl} {ts:List (D × V)} {Qd:D->Dl->Prop} {Q:VK} {d:D} {v:V} (c:Cur B F H σ δ ts) (q:Qd d δ) (s:S F H [d] [v]) (p:d.pl=true)
  (k:∀d δ' v F' H',Qd d δ'->Same F F'->Same H H'->Cur B F' H' σ δ' ((d,v) :: ts)->Q v H'):Q v H:=k d δ v F H q (Same.refl _) (Same.refl _) (c.pushS s p)
theorem aP2 {i j}:PE X (.Constant (.int i) j pos) (lE (dC (.int i))):=aQ6 bk1 λσ H Q ⟨B,F,δ,ts,Qd,c,q,k⟩=>bn9 c q (.int .nil) rfl k
theorem bP4 {i j}:PE X (.Constant (.bool i) j pos) (lE (dC (.bl i))):=aQ6 cw6 λσ H Q ⟨B,F,δ,ts,Qd,c,q,k⟩=>bn9 c q (.bl .nil) rfl k
theorem bu6 {j}:PE X (.Constant .none j pos) (lE (dC .non)):=aQ6 cq9 λσ H Q ⟨B,F,δ,ts,Qd,c,q,k⟩=>bn9 c q (.non .nil) rfl k
theorem cp2 {x j}:PE X (.Constant (.str x) j pos) (lE (dC (.str x))):=aQ6 cl9 λσ H Q ⟨B,F,δ,ts,Qd,c,q,k⟩=>bn9 c q (.str .nil) rfl k
noncomputable abbrev Rd2:=D->D->(D->Prop)->Prop
noncomputable def Lk2 (r:R2) (rd:Rd2):Prop:=∀{B:Bs} {F H:Hp} {σ:L2.St} {δ:Dl} {ts:List (D × V)} {x y:D} {v w:V} {Q:VK} {Qd:D->Prop},Cur B F H σ δ ts->S F H [x] [v]->S F H [y] [w]->rd x y Qd ->
 (∀d z H',Qd d->Same H H'->Cur B F H' σ δ ((d,z) :: ts)->Q z H')->r v w H Q
noncomputable def OpD (X:Cx) (f:Value->Value->Sem Value) (rd:Rd2):Prop:=∃r,OpR X f r/\Lk2 r rd
theorem OpD.or {f:Value->Value->Sem Value} {r1 r2:Rd2} (h1:OpD X f r1) (h2:OpD X f r2):OpD X f λx y Q=>r1 x y Q\/r2 x y Q:=by
 obtain ⟨q1,a1,b1⟩:=h1
 obtain ⟨q2,a2,b2⟩:=h2
 refine ⟨_,a1.or a2,λ{B F H σ δ ts x y v w Q Qd} c sx sy h k=>?_⟩
 rcases h with h | h
 ·exact .inl (b1 c sx sy h k)
 ·exact .inr (b2 c sx sy h k)
theorem OpD.imp {f:Value->Value->Sem Value} {r1 r2:Rd2} (h1:OpD X f r1) (h:∀x y Q,r2 x y Q->r1 x y Q):OpD X f r2:=by
 obtain ⟨q1,a1,b1⟩:=h1
 exact ⟨q1,a1,λ{B F H σ δ ts x y v w Q Qd} c sx sy h2 k=>b1 c sx sy (h _ _ _ h2) k⟩
noncomputable def dOp (rd:Rd2) (ta tb:TEd):TEd:=λδ Q=>ta δ λx δ1=>tb δ1 λy δ2=>rd x y λd=>Q d δ2
theorem bJ5 {r:R2} {rd:Rd2} (hl:Lk2 r rd):∀σ H Q,lE (dOp rd ta tb) σ H Q->tOp r (lB ta) (lB tb) σ H Q:=λσ H Q ⟨B,F,δ,ts,Qd,c,q,k⟩ =>
 ⟨B,F,δ,ts,_,c,q,λx δ1 v F1 H1 q1 f1 h1 c1 s1=>⟨B,F1,δ1,ts,_,c1,q1,λy δ2 w F2 H2 q2 f2 h2 c2 s2 =>
  hl c2 (s1.mono f2 h2) s2 q2 λd z H' hd hs c3=>k d δ2 z F2 H' hd (f1.trans f2) ((h1.trans h2).trans hs) c3⟩⟩
theorem aS3 {op:Operator} {rd:Rd2} (ho:OpD X (binaryOp op) rd) (ha:PE X a (lB ta)) (hb:PE X b (lB tb)):PE X (.BinOp a op b pos) (lE (dOp rd ta tb)):=by
 obtain ⟨r,h1,h2⟩:=ho
 exact aQ6 (bL8 h1 ha hb) (bJ5 h2)
theorem bK4 {op:CmpOp} {rd:Rd2} (ho:OpD X (compareOp op) rd) (ha:PE X a (lB ta)) (hb:PE X b (lB tb)) (hm:behindInMarks op b=false):PE X (.Compare a [op] [b] pos) (lE (dOp rd ta tb)):=by
 obtain ⟨r,h1,h2⟩:=ho
 exact aQ6 (b84 h1 ha hb hm) (bJ5 h2)
noncomputable def dT (t:TEd):TTd:=λδ Q=>t δ λd δ'=>∃k,d=.bl k/\Q k δ'
theorem bT1 {te:TE} (h:∀σ H Q,lE t σ H Q->te σ H Q):∀σ H Q,lT (dT t) σ H Q->ck9 te σ H Q:=λσ H Q zz=>by
 obtain ⟨B,F,δ,ts,Qd,c,q,k⟩:=zz
 refine h σ H _ ⟨B,F,δ,ts,_,c,q,λd δ' v F' H' hd sf sh c'=>?_⟩
 obtain ⟨b,rfl,qb⟩:=hd
 have s:=c'.top
 cases s with
 | bl _=>exact ⟨b,rfl,k b δ' F' H' qb sf sh c'.pop⟩
theorem aU9 {op:CmpOp} {rd:Rd2} (ho:OpD X (compareOp op) rd) (ha:PE X a (lB ta)) (hb:PE X b (lB tb)) (hm:behindInMarks op b=false):PT X (.Compare a [op] [b] pos) (lT (dT (dOp rd ta tb))):=by
 obtain ⟨r,h1,h2⟩:=ho
 exact bw8 (cc0 h1 ha hb hm) (bT1 (bJ5 h2))
noncomputable def bg3 (r r':Rd2) (ta tb tc:TEd):TEd:=λδ Q=>ta δ λx δ1=>tb δ1 λy δ2=>r x y λd=>∃k,d=.bl k/\if k=true then tc δ2 λz δ3=>r' y z λd'=>Q d' δ3 else Q (.bl false) δ2
theorem bn2 (h:PE X e (lB t)) (he:∀whole,isTrue e X.env whole=(do let v<-whole; standAt e.pos; holding [v] (truthy v)):=by intro _; rfl):PT X e (lT (dT t)) :=
 bw8 (bK3 h he) λσ H Q ⟨B,F,δ,ts,Qd,c,q,k⟩=>⟨B,F,δ,ts,_,c,q,λd δ' v F' H' hd sf sh c' s=>by
  obtain ⟨b,rfl,qb⟩:=hd
  cases s with
  | bl _=>exact ⟨b,rfl,k b δ' F' H' qb sf sh c'⟩⟩
variable {tA tB:TTd} {bk6:List Expr}
noncomputable def dOr (t u:TTd):TTd:=λδ Q=>t δ λc δ1=>if c=true then Q true δ1 else u δ1 Q
noncomputable def ci1 (t:TTd):TTd:=λδ Q=>t δ λc δ1=>Q (!c) δ1
theorem cr7 (ha:PT X a (lT tA)) (hb:PW X (.BoolOp .Or (b :: bk6) pos) (lT tB)):PW X (.BoolOp .Or (a :: b :: bk6) pos) (lT (dOr tA tB)) :=
 b81 (cs3 ha hb) λσ H Q ⟨B,F,δ,ts,Qd,c,q,k⟩=>⟨B,F,δ,ts,_,c,q,λb δ1 F1 H1 q1 f1 h1 c1=>by
  cases b with
  | true=>exact b93 (k true δ1 F1 H1 (by simpa using q1) f1 h1 c1)
  | false=>exact bT5 ⟨B,F1,δ1,ts,Qd,c1,by simpa using q1,λb δ' F' H' hd sf sh c'=>k b δ' F' H' hd (f1.trans sf) (h1.trans sh) c'⟩⟩
theorem bM8 (ha:PT X a (lT tA)):PT X (.UnaryOp .Not a pos) (lT (ci1 tA)) :=
 bw8 (bF7 ha) λσ H Q ⟨B,F,δ,ts,Qd,c,q,k⟩=>⟨B,F,δ,ts,_,c,q,λb δ1 F1 H1 q1 f1 h1 c1=>k _ δ1 F1 H1 q1 f1 h1 c1⟩
noncomputable def bD2 (ta tb:TEd):TEd:=λδ Q=>ta δ λx δ1=>∃c,x=.bl c/\if c=true then tb δ1 Q else Q (.bl false) δ1
noncomputable def bC7 (ta:TEd):TEd:=λδ Q=>ta δ λx δ1=>∃c,x=.bl c/\Q (.bl (!c)) δ1
theorem bD7 (ha:PE X a (lB ta)) (hb:PE X (.BoolOp .And (b :: bk6) pos) (lE tb)):PE X (.BoolOp .And (a :: b :: bk6) pos) (lE (bD2 ta tb)) :=
 aQ6 (cp4 ha hb) λσ H Q ⟨B,F,δ,ts,Qd,c,q,k⟩=>⟨B,F,δ,ts,_,c,q,λd δ1 v F1 H1 q1 f1 h1 c1 s1=>by
  obtain ⟨b,rfl,qb⟩:=q1
  cases s1 with
  | bl _ =>
   refine ⟨b,rfl,?_⟩
   cases b with
   | true=>exact b93 ⟨B,F1,δ1,ts,Qd,c1,by simpa using qb,λd δ' v F' H' hd sf sh c'=>k d δ' v F' H' hd (f1.trans sf) (h1.trans sh) c'⟩
   | false=>exact bT5 (k _ δ1 _ F1 H1 (by simpa using qb) f1 h1 (c1.pushS (.bl .nil) rfl))⟩
theorem ck5 (ha:PE X a (lB ta)):PE X (.UnaryOp .Not a pos) (lE (bC7 ta)) :=
 aQ6 (ck1 ha) λσ H Q ⟨B,F,δ,ts,Qd,c,q,k⟩=>⟨B,F,δ,ts,_,c,q,λd δ1 v F1 H1 q1 f1 h1 c1 s1=>by
  obtain ⟨b,rfl,qb⟩:=q1
  cases s1 with
  | bl _=>exact ⟨b,rfl,k _ δ1 _ F1 H1 qb f1 h1 (c1.pushS (.bl .nil) rfl)⟩⟩
noncomputable def ci4 (t:TTd) (ta tb:TEd):TEd:=λδ Q=>t δ λc δ1=>if c=true then ta δ1 Q else tb δ1 Q
theorem cC5 (hc:PT X c (lT tA)) (ha:PE X a (lE ta)) (hb:PE X b (lE tb)):PE X (.IfExp c a b pos) (lE (ci4 tA ta tb)) :=
 aQ6 (bT3 hc ha hb) λσ H Q ⟨B,F,δ,ts,Qd,c,q,k⟩=>⟨B,F,δ,ts,_,c,q,λb δ1 F1 H1 q1 f1 h1 c1=>by
  cases b with
  | true=>exact b93 ⟨B,F1,δ1,ts,Qd,c1,by simpa using q1,λd δ' v F' H' hd sf sh c'=>k d δ' v F' H' hd (f1.trans sf) (h1.trans sh) c'⟩
  | false=>exact bT5 ⟨B,F1,δ1,ts,Qd,c1,by simpa using q1,λd δ' v F' H' hd sf sh c'=>k d δ' v F' H' hd (f1.trans sf) (h1.trans sh) c'⟩⟩
noncomputable def cc7:TAd:=λδ Q=>Q [] δ
noncomputable def bw9 (t:TEd) (r:TAd):TAd:=λδ Q=>t δ λd δ1=>r δ1 λds δ2=>Q (d :: ds) δ2
theorem aP6:PA X [] (lA cc7):=bh5 a02 λσ H Q ⟨B,F,δ,ts,Qd,c,q,k⟩=>k [] δ [] F H q (Same.refl _) (Same.refl _) c .nil
variable {tr:TAd}
theorem aO4 (ha:PE X e (lB t)) (hr:PA X es (lA tr)) (hs:starEach (e :: es) X.env=(false,eval e X.env) :: starEach es X.env:=by rfl):PA X (e :: es) (lA (bw9 t tr)) :=
 bh5 (aS1 ha hr hs) λσ H Q ⟨B,F,δ,ts,Qd,c,q,k⟩=>⟨B,F,δ,ts,_,c,q,λd δ1 v F1 H1 q1 f1 h1 c1 s1=>⟨B,F1,δ1,ts,_,c1,q1,λds δ2 vs F2 H2 q2 f2 h2 c2 s2 =>
  k (d :: ds) δ2 (v :: vs) F2 H2 q2 (f1.trans f2) (h1.trans h2) c2 ((s1.mono f2 h2).cons s2)⟩⟩
theorem aX6:PA X [] (lO cc7):=bh5 a02 λσ H Q ⟨B,F,δ,ts,Qd,c,q,k⟩=>k [] δ F H q (Same.refl _) (Same.refl _) c
theorem aU3 (ha:PE X e (lE t)) (hr:PA X es (lO tr)) (hs:starEach (e :: es) X.env=(false,eval e X.env) :: starEach es X.env:=by rfl):PA X (e :: es) (lO (bw9 t tr)) :=
 bh5 (aS1 ha hr hs) λσ H Q ⟨B,F,δ,ts,Qd,c,q,k⟩=>⟨B,F,δ,ts,_,c,q,λd δ1 v F1 H1 q1 f1 h1 c1=>⟨B,F1,δ1,(d,v) :: ts,_,c1,q1,λps δ2 F2 H2 q2 f2 h2 c2 =>
  k ((d,v) :: ps) δ2 F2 H2 q2 (f1.trans f2) (h1.trans h2) (c2.perm (List.perm_middle))⟩⟩
noncomputable def ch3 (t:TAd):TEd:=λδ Q=>t δ λds δ'=>ds.length<=sizeLine/\Q (.lst true ds) δ'
noncomputable def ci7 (t:TAd):TEd:=λδ Q=>t δ λds δ'=>ds.length<=sizeLine/\Q (.tup ds) δ'
theorem a09 (h:PA X es (lO tr)):PE X (.List es pos) (lE (ch3 tr)) :=
 aQ6 (cp9 h) λσ H Q ⟨B,F,δ,ts,Qd,c,q,k⟩=>⟨B,F,δ,ts,_,c,q,λps δ1 F1 H1 q1 f1 h1 c1=>⟨by simpa using q1.1,λp hp=>k _ δ1 _ F1 _ q1.2 f1 (h1.trans (Same.upd hp)) (c1.packL hp)⟩⟩
theorem bG4 {x1} (h:PA X es (lO tr)):PE X (.Tuple es x1 pos) (lE (ci7 tr)) :=
 aQ6 (cm0 h) λσ H Q ⟨B,F,δ,ts,Qd,c,q,k⟩=>⟨B,F,δ,ts,_,c,q,λps δ1 F1 H1 q1 f1 h1 c1=>⟨by simpa using q1.1,λp hp=>k _ δ1 _ F1 _ q1.2 f1 (h1.trans (Same.upd hp)) (c1.packT hp)⟩⟩
end
end L3
namespace L3
open PySem L2 PySem.Spec PyProof.Rows
noncomputable abbrev SpD:=List D->(D->Prop)->Prop
noncomputable def lSp (sp:SpD):Sp:=λvs H Q _=>∃F ds Qd,Same F H/\R F H ds vs []/\sp ds Qd/\∀d v F' H' A,Qd d->Same H H'->Same F F'->Same F' H'->(∀a ws,F' a=some (.lst ws)->F a=some (.lst ws)\/H a=none)->R F' H' [d] [v] A->A.Nodup->(∀a∈A,H a=none)->Q v H'
noncomputable def bu0 (sp:SpD) (t:TAd):TEd:=λδ Q=>t δ λds δ'=>sp (ds.map D.sh) λd=>(ds.all D.pl || d.fr)=true/\Q d δ'
theorem bn4 {B:Bs} {F H:Hp} {σ:L2.St} {δ:Dl} {ts:List (D × V)} {Qd:D->Prop} {Q:VK} {E:XK} {ds:List D} {vs:List V} {sp:SpD} (c:Cur B F H σ δ ts) (s:S F H ds vs) (q:sp (ds.map D.sh) λd=>(ds.all D.pl || d.fr)=true/\Qd d)
  (k:∀d v F' H',Qd d->Same F F'->Same H H'->Cur B F' H' σ δ ((d,v) :: ts)->Q v H'):lSp sp vs H Q E:=by
 by_cases hp:ds.all D.pl=true
 ·rw [aU2 hp] at q
  exact ⟨F,ds,_,c.ext,s.r hp,q,λd v F' H' A hd hs hf he h3 r nd fr=>k d v F' H' hd.2 hf hs (c.call hs hf he h3 r nd fr)⟩
 ·refine ⟨H,ds.map D.sh,_,Same.refl _,s.frozen c.ext,q,λd v F' H' A hd hs hf he h3 r nd fr=>?_⟩
  have hfr:d.fr=true:=by
   have:=hd.1
   rw [Bool.or_eq_true] at this
   exact this.resolve_left hp
  exact k d v F H' hd.2 (Same.refl _) hs (c.pushNew hs (r.thaw (by simp [hfr]) (c.ext.trans hf)) nd fr)
section
variable {X:Cx} {CX:CXT} {n:Nat} {f:Addr} {fd:FuncData} {ps:List Str} {sp:SpD} {E:XK} {x:Str} {p pos:Pos} {e:Expr} {es:List Expr} {t:TAd}
theorem aQ3 (F:FnOk X.prog X.w X.K X.mg X.base CX n f fd ps (lSp sp)) (hr:Room n X.A) (hg:Gl X x) (hm:X.mg x=some (.ref f)) (hk:PySem.W.keepIn X.K (.ref f)=true) (hb:Binds X.K fd ps []) (hx:a93 CX X E)
  (ha:PA X (e :: es) (lA t)) (hdb:(x == ("__debug__":Str))=false:=by decide) (he:starEach (e :: es) X.env=(false,eval e X.env) :: starEach es X.env:=by rfl) (hpl:(backTo pos (starEach es X.env)).any (·.1)=false:=by rfl) :
  PE X (.Call (.Name x p) (e :: es) [] pos) (lE (bu0 sp t)) :=
 aQ6 (ba1 F hr hg hm hk hb .nil hx ha hdb he hpl) λσ H Q ⟨B,F,δ,ts,Qd,c,q,k⟩=>⟨B,F,δ,ts,_,c,q,λds δ1 vs F1 H1 q1 f1 h1 c1 s1=>by
  show lSp sp (vs++[]) H1 Q E
  rw [List.append_nil]
  exact bn4 c1 s1 q1 λd v F' H' hd hf hs c'=>k d δ1 v F' H' hd (f1.trans hf) (h1.trans hs) c'⟩
end
noncomputable def a62 (N:List Str) (ds:List D):Dl:=ds.map some++List.replicate (N.length - ds.length) none
section
variable {P:Program} {w:World} {K:PySem.W.Frag} {mg:Str->Option Value} {base:Heap}
theorem aS4 {x qual:Str} {st:Stmt} {f:Addr} {fd:FuncData} {N ps:List Str} {k:Nat} {sp:SpD} (F:Fun K x qual st f fd) (S:FnScope N ps (aO3 st)) (len:∀ds Q,sp ds Q->ds.length=ps.length)
  (hbody:∀(cdv:Value) (A:Around) (outer:List Env) (s:Shared) (H:Hp) (E:XK),Room k (A.deeper (envOfC qual (aO3 st) s.heap.objs.size f cdv)) ->
   ∃t:TSd,PSs (bB2 CX0 P w K mg base N qual (aO3 st) f cdv A outer s H E).nox (aO9 st) (lS (bB2 CX0 P w K mg base N qual (aO3 st) f cdv A outer s H E).nox t)/\∀ds Q,sp ds Q->t { nx:=λ_=>Q .non,rt:=Q } (a62 N ds)):FnOk P w K mg base CX0 (k + 1) f fd ps (lSp sp):=by
 refine F.ok S (λvs H Q E ⟨F,ds,Qd,e,r,h,_⟩=>by rw [<-r.length]; exact len ds Qd h) λcdv A outer s H vs Q E hr zz=>?_
 obtain ⟨F,ds,Qd,e,r,h,k⟩:=zz
 obtain ⟨t,ht,hq⟩:=hbody cdv A outer s H E hr
 have fin:∀d v δ' σ' F' H',Qd d->Cur ⟨H,F⟩ F' H' σ' δ' [(d,v)]->Q v H':=λd v δ' σ' F' H' hd c=>by
  obtain ⟨A,C,r',s',nd,fr⟩:=c.own
  exact k d v F' H' A hd c.b1 c.b2 c.ext c.b3 r' (nd_app.mp nd).1 λa ha=>fr a (List.mem_append_left _ ha)
 have e1:L2.start N vs=vs.map some++List.replicate (N.length - ds.length) none:=by unfold L2.start; rw [r.length]
 refine ⟨_,ht,⟨H,F⟩,F,a62 N ds,_,?_,hq ds Qd h,λδ' σ' F' H' hd c=>fin .non .non δ' σ' F' H' hd (c.pushS (.non .nil) rfl),fin,λ_ _ _ _ z=>z.elim,λ_ _ _ _ z=>z.elim,XL.none (λ_ _ z=>z) λ_ _ z=>z⟩
 rw [e1]
 exact Cur.start e r _
end
section
variable {X:Cx} {e a b c:Expr} {es:List Expr} {pos:Pos} {st:Stmt} {sts bk6:List Stmt} {t u:TSd} {te:TEd} {tt:TTd}
noncomputable def bC0:TSd:=λD δ=>D.nx δ
noncomputable def cz2 (t u:TSd):TSd:=λD δ=>t { D with nx:=u D } δ
theorem aO6 {t u:TSd} {En:EndsD} {δ:Dl} (h:∀U:Dl->Prop,(∀δ',u En δ'->U δ')->t { En with nx:=U } δ):cz2 t u En δ:=h (u En) λ_ z=>z
theorem aT1:PSs X [] (lS X bC0):=bl9 bv3 λD σ H ⟨B,F,δ,Dd,c,q,k1,_⟩=>k1 δ σ F H q c
theorem aO5 (h1:PS X st (lS X t)) (h2:PSs X bk6 (lS X u)):PSs X (st :: bk6) (lS X (cz2 t u)) :=
 bl9 (aV1 h1 h2) λD σ H ⟨B,F,δ,Dd,c,q,k1,k2,k3,k4⟩=>⟨B,F,δ,{ Dd with nx:=u Dd },c,q,λδ' σ' F' H' hq c'=>⟨B,F',δ',Dd,c',hq,k1,k2,k3,k4⟩,k2,k3,k4⟩
theorem aO7 (h1:PS X st (lS X t)):PSs X [st] (lS X t):=bc5 h1
noncomputable def cg0 (i:Nat) (t:TSd):TSd:=λD δ=>∃d,δ[i]?=some (some d)/\t D (δ.set i (some d.sh))
theorem bq8 (i:Nat) (h:PSs X sts (lS X t)):PSs X sts (lS X (cg0 i t)):=bl9 h λD σ H zz=>by
 obtain ⟨B,F,δ,Dd,c,⟨d,e,q⟩,k⟩:=zz
 obtain ⟨F',s,c'⟩:=c.freeze e
 exact ⟨B,F',_,Dd,c',q,k⟩
noncomputable def b90 (i:Nat) (t:TEd):TSd:=λD δ=>t δ λd δ'=>D.nx (δ'.set i (some d))
theorem aQ5 {i:Nat} {x:Str} {pos':Pos} (hN:X.N.Nodup) (hi:X.N[i]?=some x) (hx:Loc X.env.scope x) (he:PE X e (lE te)) (hs:swapsWith e (some (.Name x pos')) pos.line X.env=pure false:=by rfl)
  (hf:X.fn x=true\/X.env.scope.names.lookup x=some .local:=by first | exact .inl rfl | exact .inr rfl | assumption):PS X (.Assign [.Name x pos'] e pos) (lS X (b90 i te)) :=
 aY6 (bZ7 hN hi hx he hs hf) λD σ H ⟨B,F,δ,Dd,c,q,k1,k2,k3,k4⟩=>⟨B,F,δ,[],_,c,q,λd δ' v F' H' hd sf sh c'=>k1 _ _ F' H' hd (c'.store i)⟩
noncomputable def ci2 (t:TEd):TSd:=λD δ=>t δ λd _=>D.rt d
theorem aQ4 (he:PE X e (lE te)):PS X (.Return (some e) pos) (lS X (ci2 te)) :=
 aY6 (cj0 he) λD σ H ⟨B,F,δ,Dd,c,q,k1,k2,k3,k4⟩=>⟨B,F,δ,[],_,c,q,λd δ' v F' H' hd sf sh c'=>k2 d v δ' σ F' H' hd c'⟩
noncomputable def dIf (tc:TTd) (t u:TSd):TSd:=λD δ=>tc δ λb δ'=>if b=true then t D δ' else u D δ'
theorem bd8 {l r:List Stmt} (hc:PT X c (lT tt)) (ha:PSs X l (lS X t)) (hb:PSs X r (lS X u)):PS X (.If c l r pos) (lS X (dIf tt t u)) :=
 aY6 (cb9 hc ha hb) λD σ H ⟨B,F,δ,Dd,c,q,k⟩=>⟨B,F,δ,[],_,c,q,λb δ' F' H' hq sf sh c'=>by
  cases b with
  | true=>exact b93 ⟨B,F',δ',Dd,c',by simpa using hq,k⟩
  | false=>exact bT5 ⟨B,F',δ',Dd,c',by simpa using hq,k⟩⟩
noncomputable def cg3 (i:Nat) (rd:Rd2) (t:TEd):TSd:=λD δ=>∃x,δ[i]?=some (some x)/\t δ λy δ1=>rd x y λz=>D.nx (δ1.set i (some z))
theorem bT6 {i:Nat} {x:Str} {op:Operator} {rd:Rd2} {pos':Pos} (hN:X.N.Nodup) (hi:X.N[i]?=some x) (hx:Loc X.env.scope x) (he:PE X e (lB te)) (ho:OpD X (inplaceOp op) rd)
  (hf:X.fn x=true\/X.env.scope.names.lookup x=some .local:=by first | exact .inl rfl | exact .inr rfl | assumption):PS X (.AugAssign (.Name x pos') op e pos) (lS X (cg3 i rd te)):=by
 obtain ⟨r,h1,h2⟩:=ho
 refine aY6 (ck3 hN hi hx he (ti:=r) h1 hf) λD σ H zz=>?_
 obtain ⟨B,F,δ,Dd,c,⟨d0,e0,q⟩,k1,k2,k3,k4⟩:=zz
 obtain ⟨v0,e1,s0⟩:=c.look e0
 exact ⟨v0,e1,B,F,δ,[],_,c,q,λd δ' v F' H' hd sf sh c' s=>h2 c' (s0.mono sf sh) s hd λz w H2 hz h3 c3=>k1 _ _ F' H2 hz (c3.store i)⟩
noncomputable def bk2 (tc:TTd) (tb:TSd):TSd:=λD δ=>∃W:Nat->Dl->Prop,(∃m,W m δ)/\∀m δ,W m δ->tc δ λb δ'=>if b=true then tb { D with nx:=λδ'=>∃m',m' < m/\W m' δ',ct:=λδ'=>∃m',m' < m/\W m' δ',bk:=D.nx } δ' else D.nx δ'
theorem bg5 {body:List Stmt} (hp:PassesOwn (model X.prog X.w) X.A X.env X.xe) (hc:PT X c (lT tt)) (hb:PSs X body (lS X t)):PS X (.While c body [] pos) (lS X (bk2 tt t)) :=
 aY6 (bQ5 hp hc hb) λD σ H zz=>by
  obtain ⟨B,F,δ,Dd,c,⟨W,⟨m0,w0⟩,hw⟩,k1,k2,k3,k4⟩:=zz
  refine ⟨λm σ H=>∃F δ,Cur B F H σ δ []/\W m δ,⟨m0,F,δ,c,w0⟩,λm σ H ⟨F,δ,c,w⟩=>⟨B,F,δ,[],_,c,hw m δ w,λb δ' F' H' hq sf sh c'=>?_⟩⟩
  cases b with
  | true =>
   refine b93 ⟨λσ' H'=>∃m',m' < m/\∃F δ,Cur B F H' σ' δ []/\W m' δ,λσ' H' z=>z,B,F',δ',{ Dd with nx:=λδ'=>∃m',m' < m/\W m' δ',ct:=λδ'=>∃m',m' < m/\W m' δ',bk:=Dd.nx },c',by simpa using hq,λδ2 σ2 F2 H2 ⟨m',hm,w2⟩ c2=>⟨m',hm,F2,δ2,c2,w2⟩,k2,λδ2 σ2 F2 H2 z c2=>k1 δ2 σ2 F2 H2 z c2,λδ2 σ2 F2 H2 ⟨m',hm,w2⟩ c2=>⟨m',hm,F2,δ2,c2,w2⟩,k4.2⟩
  | false=>exact bT5 (k1 δ' σ F' H' (by simpa using hq) c')
end
structure JD (J:It) (F:Hp) (xs:List D):Prop where
 go:∀i H,Same F H->i < xs.length->J.go i H
 yld:∀i H x H',Same F H->i < xs.length->J.yld i H x H'->∃d,xs[i]?=some d/\Same H H'/\R F H' [d] [x] []
 stop:∀i H,Same F H->xs.length<=i->J.stop i H
noncomputable abbrev TId:=Dl->(Bool->List D->Dl->Prop)->Prop
noncomputable def lI (t:TId):TI:=λσ H Rr=>∃B F δ ts Qd,Cur B F H σ δ ts/\t δ Qd/\∀g xs δ' J F' H',Qd g xs δ'->Same F F'->Same H H'->Cur B F' H' σ δ' ts->JD J H' (xs.map D.sh)->(g=true->xs.all D.pl=true/\JD J F' xs)->Rr J H'
noncomputable abbrev TGd:=D->Dl->(Dl->Prop)->Prop
noncomputable def lG (m:Nat) (t:TGd):TG:=λv σ H Q=>∃B F δ ts d Qd,Cur B F H σ δ ((d,v) :: ts)/\t d δ Qd/\∀δ' σ',Qd δ'->σ'.length=σ.length->(∀j,j < m->σ'[j]?=σ[j]?)->Cur B F H σ' δ' ts->Q σ' H
noncomputable def isL:D->Option (List D)
 | .lst _ xs=>some xs
 | .fz xs=>some xs
 | _=>none
section
variable {B:Bs} {F H F1:Hp} {σ:L2.St} {δ:Dl} {ts:List (D × V)}
end
section
variable {X:Cx} {e a b c tg l iter:Expr} {es:List Expr} {pos:Pos} {t u:TSd} {te:TEd} {tt:TTd} {ta:TAd} {m:Nat}
theorem a96 {w w':TI} (h:PI X tg iter w) (m:∀σ H Q,w' σ H Q->w σ H Q):PI X tg iter w':=λpins s σ H Q I q=>h pins s σ H Q I (m σ H Q q)
theorem bG7 {w w':TG} (h:PG X tg w) (m:∀v σ H Q,w' v σ H Q->w v σ H Q):PG X tg w':=λpins s σ H v u Q I r q=>h pins s σ H v u Q I r (m v σ H Q q)
noncomputable def gN (i:Nat):TGd:=λd δ Q=>Q (δ.set i (some d))
theorem aS6 {i:Nat} {x:Str} (hN:X.N.Nodup) (hi:X.N[i]?=some x) (hx:Loc X.env.scope x) (hm:m<=i:=by decide) (hf:X.fn x=true\/X.env.scope.names.lookup x=some .local:=by first | exact .inl rfl | exact .inr rfl | assumption):PG X (.Name x pos) (lG m (gN i)) :=
 bG7 (bm8 hN hi hx hf) λv σ H Q ⟨B,F,δ,ts,d,Qd,c,q,k⟩=>k _ _ q (by simp) (λj hj=>by rw [List.getElem?_set_ne (by omega)]) (c.store i)
theorem a49 {K:PySem.W.Frag} {F H:Hp} {p:Addr} {xs:List D} {ws:List V} (hp:Rd F p (.lst ws)) (r:R F H xs ws []) (hF:Full F H):JD (Itl K p) F xs where
 go:=λi H' hs hi=>by
  have l:=r.length
  have hi':i < ws.length:=by omega
  exact ⟨ws,ws[i],.inl (aT7 hp hs),List.getElem?_eq_getElem hi'⟩
 yld:=λi H' x H2 hs hi zz=>by
  obtain ⟨e,y⟩:=zz
  subst e
  have hx:=y ws (.inl (aT7 hp hs))
  obtain ⟨v,A1,e2,r1,sub⟩:=(r.full hF hs rfl).get (List.getElem?_eq_getElem hi)
  rw [hx] at e2; cases e2
  have:A1=[]:=List.eq_nil_iff_forall_not_mem.mpr λa ha=>by simpa using sub ha
  subst this
  exact ⟨_,List.getElem?_eq_getElem hi,Same.refl _,r1⟩
 stop:=λi H' hs hi=>⟨ws,.inl (aT7 hp hs),by have:=r.length; omega⟩
theorem be4 {F:Hp} (lo:Int) (n:Nat):JD (Itr lo n) F ((List.range n).map λ(k:Nat)=>D.int (lo + (k:Int))) where
 go:=λi H' hs hi=>by
  have hi':i < n:=by simpa using hi
  exact hi'
 yld:=λi H' x H2 hs hi zz=>by
  obtain ⟨e,y⟩:=zz
  subst e y
  have hi':i < n:=by simpa using hi
  exact ⟨.int (lo + i),by simp [List.getElem?_range hi'],Same.refl _,.int .nil⟩
 stop:=λi H' hs hi=>by
  have hi':n<=i:=by simpa using hi
  exact hi'
noncomputable def dIo (t:TEd):TId:=λδ Q=>t δ λd δ'=>∃xs,isL d=some xs/\Q true (xs.map D.sh) δ'
theorem cC6 (xs:List D) {F H:Hp} {ws:List V} (r:R F H (xs.map D.sh) ws []):(xs.map D.sh).map D.sh=xs.map D.sh:=aU2 r.pl
theorem b73 (h:PE X l (lE te)):PI X tg l (lI (dIo te)) :=
 a96 (bM6 h) λσ H Q ⟨B,F,δ,ts,Qd,c,q,k⟩=>⟨B,F,δ,ts,_,c,q,λd δ1 v F1 H1 hd f1 h1 c1=>by
  obtain ⟨xs,e,hq⟩:=hd
  obtain ⟨F2,f2,c2⟩:=c1.frzWith
  have tp:=c2.top
  have c3:=c2.pop.snap
  have e2:=c2.ext
  have sn:=aW4 e2
  cases d with
  | lst o ys =>
   obtain rfl:=Option.some.inj e
   rw [aT6] at tp
   cases tp with
   | @shr p ws _ _ _ hp r _ =>
    have r3:=r.shared sn (Same.refl _)
    refine ⟨p,rfl,⟨ws,SqL.of (e2 _ _ hp)⟩,k true _ δ1 _ _ H1 hq ((f1.trans f2).trans sn) h1 c3 ?_ λ_=>⟨r.pl,a49 (.inl (sn _ _ hp)) r3 aZ1⟩⟩
    rw [cC6 _ r]
    exact a49 (.inl (e2 _ _ hp)) (r.shared e2 (Same.refl _)) (Full.refl _)
  | fz ys =>
   obtain rfl:=Option.some.inj e
   cases tp with
   | @fz p o ws _ _ _ hp r _ =>
    have r3:=r.shared sn (Same.refl _)
    have es:=aU2 r.pl
    rw [es] at hq
    refine ⟨p,rfl,⟨ws,.inl (.inr ⟨o,e2 _ _ hp⟩)⟩,k true _ δ1 _ _ H1 hq ((f1.trans f2).trans sn) h1 c3 ?_ λ_=>⟨r.pl,a49 (.inr ⟨o,sn _ _ hp⟩) r3 aZ1⟩⟩
    rw [es]
    exact a49 (.inr ⟨o,e2 _ _ hp⟩) (r.shared e2 (Same.refl _)) (Full.refl _)
  | non=>cases e
  | bl _=>cases e
  | int _=>cases e
  | str _=>cases e
  | tup _=>cases e
  | obj _ _ _=>cases e
  | clo _=>cases e⟩
noncomputable def dIv (t:TEd):TId:=λδ Q=>t δ λd δ'=>∃xs,isL d=some xs/\Q d.pl xs δ'
theorem a53 (h:PE X l (lB te)):PI X tg l (lI (dIv te)) :=
 a96 (bM6 h) λσ H Q ⟨B,F,δ,ts,Qd,c,q,k⟩=>⟨B,F,δ,ts,_,c,q,λd δ1 v F1 H1 hd f1 h1 c1 s=>by
  obtain ⟨xs,e,hq⟩:=hd
  have c3:=c1.snap
  have e2:=c1.ext
  have sn:=aW4 e2
  cases s with
  | @shr p ws ys _ _ hp r _ =>
   obtain rfl:=Option.some.inj e
   refine ⟨p,rfl,⟨ws,SqL.of (e2 _ _ hp)⟩,k _ _ δ1 _ _ H1 hq (f1.trans sn) h1 c3 ?_ λ_=>⟨r.pl,a49 (.inl (sn _ _ hp)) (r.shared sn (Same.refl _)) aZ1⟩⟩
   rw [aU2 r.pl]
   exact a49 (.inl (e2 _ _ hp)) (r.shared e2 (Same.refl _)) (Full.refl _)
  | @own p ws ys _ _ hp r _ =>
   obtain rfl:=Option.some.inj e
   refine ⟨p,rfl,⟨ws,SqL.of hp⟩,k _ _ δ1 _ _ H1 hq (f1.trans sn) h1 c3 (a49 (.inl hp) (r.frozen e2) (Full.refl _)) λz=>by simp [aW6] at z⟩
  | @fz p o ws ys _ _ hp r _ =>
   obtain rfl:=Option.some.inj e
   refine ⟨p,rfl,⟨ws,.inl (.inr ⟨o,e2 _ _ hp⟩)⟩,k _ _ δ1 _ _ H1 hq (f1.trans sn) h1 c3 ?_ λ_=>⟨r.pl,a49 (.inr ⟨o,sn _ _ hp⟩) (r.shared sn (Same.refl _)) aZ1⟩⟩
   rw [aU2 r.pl]
   exact a49 (.inr ⟨o,e2 _ _ hp⟩) (r.shared e2 (Same.refl _)) (Full.refl _)
  | non _=>cases e
  | bl _=>cases e
  | int _=>cases e
  | str _=>cases e
  | tup _ _ _=>cases e
  | obj _ _ _ _=>cases e
  | clo _ _=>cases e⟩
theorem a05 (f:Nat->Int) (l:List Nat):(l.map λk=>D.int (f k)).map D.sh=l.map λk=>D.int (f k):=by simp [D.sh]
theorem bk5 (f:Nat->Int) (l:List Nat):(l.map λk=>D.int (f k)).all D.pl=true:=by simp [D.pl]
noncomputable def dR1 (t:TAd):TId:=λδ Q=>t δ λds δ'=>∃j:Int,ds=[.int j]/\(-(2 ^ 62)<=j/\j < 2 ^ 62)/\Q true ((List.range j.toNat).map λ(k:Nat)=>D.int (0 + (k:Int))) δ'
theorem aZ3 {p:Pos} (hg:Gl X "range") (hm:X.mg "range"=none) (ha:PA X [a] (lA ta)) (hs:starEach [a] X.env=[(false,eval a X.env)]:=by rfl):PI X tg (.Call (.Name "range" p) [a] [] pos) (lI (dR1 ta)) :=
 a96 (bL0 hg hm ha hs) λσ H Q ⟨B,F,δ,ts,Qd,c,q,k⟩=>⟨B,F,δ,ts,_,c,q,λds δ1 vs F1 H1 hd f1 h1 c1 s=>by
  obtain ⟨j,rfl,⟨b1,b2⟩,hq⟩:=hd
  cases s with
  | int s =>
   cases s
   refine ⟨j,rfl,b1,b2,k true _ δ1 _ _ H1 hq f1 h1 c1 ?_ λ_=>⟨bk5 _ _,be4 0 _⟩⟩
   rw [a05]
   exact be4 0 _⟩
noncomputable def dR2 (t:TAd):TId:=λδ Q=>t δ λds δ'=>∃i j:Int,ds=[.int i,.int j]/\(-(2 ^ 62)<=i/\i < 2 ^ 62/\-(2 ^ 62)<=j/\j < 2 ^ 62)/\Q true ((List.range (j - i).toNat).map λ(k:Nat)=>D.int (i + (k:Int))) δ'
theorem be1 {p:Pos} (hg:Gl X "range") (hm:X.mg "range"=none) (ha:PA X [a,b] (lA ta)) (hs:starEach [a,b] X.env=[(false,eval a X.env),(false,eval b X.env)]:=by rfl) (hs2:starEach [b] X.env=[(false,eval b X.env)]:=by rfl) :
  PI X tg (.Call (.Name "range" p) [a,b] [] pos) (lI (dR2 ta)) :=
 a96 (bK5 hg hm ha hs hs2) λσ H Q ⟨B,F,δ,ts,Qd,c,q,k⟩=>⟨B,F,δ,ts,_,c,q,λds δ1 vs F1 H1 hd f1 h1 c1 s=>by
  obtain ⟨i,j,rfl,bd,hq⟩:=hd
  cases s with
  | int s =>
   cases s with
   | int s =>
    cases s
    refine ⟨i,j,rfl,bd,k true _ δ1 _ _ H1 hq f1 h1 c1 ?_ λ_=>⟨bk5 _ _,be4 i _⟩⟩
    rw [a05]
    exact be4 i _⟩
noncomputable def dForB (xs:List D) (g:TGd) (tb:TSd):TSd:=λEn δ1=>∃Iv:Nat->Dl->Prop,Iv 0 δ1 /\
 (∀i d δ',xs[i]?=some d->Iv i δ'->g d δ' λδ2=>tb { En with nx:=Iv (i + 1),ct:=Iv (i + 1),bk:=En.nx } δ2)/\∀δ',Iv xs.length δ'->En.nx δ'
theorem dForB.mk {xs:List D} {g:TGd} {tb:TSd} {En:EndsD} {δ:Dl} (Iv:Nat->Dl->Prop) (h0:Iv 0 δ) (ht:∀i d δ',xs[i]?=some d->Iv i δ'->g d δ' λδ2=>tb { En with nx:=Iv (i + 1),ct:=Iv (i + 1),bk:=En.nx } δ2)
  (hf:∀δ',Iv xs.length δ'->En.nx δ'):dForB xs g tb En δ:=⟨Iv,h0,ht,hf⟩
noncomputable def ch2 (ti:TId) (g:TGd) (tb:TSd):TSd:=λEn δ=>ti δ λsh xs δ1=>sh=true/\dForB xs g tb En δ1
theorem bb6 {ti:TId} {g:TGd} {body:List Stmt} (hp:PassesOwn (model X.prog X.w) X.A X.env X.xe) (hc:X.calm=true) (hi:PI X tg iter (lI ti)) (hg:PG X tg (lG 0 g)) (hb:PSs X body (lS X t))
  (hs:∀x,foldedSetIterable iter X.env x=pure x:=by intro _; rfl):PS X (.For tg iter body [] pos) (lS X (ch2 ti g t)) :=
 aY6 (cj7 hp hc hi hg hb hs) λEn σ H ⟨B,F,δ,Dd,c,q,k1,k2,k3,k4⟩=>⟨B,F,δ,[],_,c,q,λsh xs δ1 J F1 H1 hq f1 h1 c1 _ jd=>by
  obtain ⟨hsh,Iv,i0,turn,fin⟩:=hq
  obtain ⟨hpl,jd⟩:=jd hsh
  have un:∀{F' H':Hp} {σ':L2.St} {δ':Dl} {ts:List (D × V)},Cur ⟨B.H0,F1⟩ F' H' σ' δ' ts->Cur B F' H' σ' δ' ts:=λc'=>c'.unbase c1.b2 c1.b3
  refine ⟨λi m σ H=>m=xs.length - i/\i<=xs.length/\∃F δ,Cur ⟨B.H0,F1⟩ F H σ δ []/\Iv i δ,⟨_,rfl,Nat.zero_le _,F1,δ1,c1.rebase,i0⟩,?_⟩
  rintro i m σ2 H2 ⟨rfl,hi,F2,δ2,c2,iv⟩
  have s2:Same F1 H2:=c2.b2.trans c2.ext
  by_cases hlt:i < xs.length
  ·refine .inr ⟨jd.go i H2 s2 hlt,λσ' H'=>∃F δ,Cur ⟨B.H0,F1⟩ F H' σ' δ []/\Iv (i + 1) δ,λσ' H' z=>⟨xs.length - (i + 1),by omega,rfl,hlt,z⟩,λx H3 y=>?_⟩
   obtain ⟨d,e,s3,r⟩:=jd.yld i H2 x H3 s2 hlt y
   have c3:=(c2.grow s3).pushS (d:=d) (v:=x) ((r.s).mono c2.b2 (Same.refl _)) (by have:=r.pl; simpa using this)
   refine ⟨⟨B.H0,F1⟩,F2,δ2,[],d,_,c3,turn i d δ2 e iv,λδ' σ' hq _ _ c4=>?_⟩
   exact ⟨⟨B.H0,F1⟩,F2,δ',_,c4,hq,λδ5 σ5 F5 H5 h5 c5=>⟨F5,δ5,c5,h5⟩,λd5 v5 δ5 σ5 F5 H5 h5 c5=>k2 d5 v5 δ5 σ5 F5 H5 h5 (un c5),λδ5 σ5 F5 H5 h5 c5=>k1 δ5 σ5 F5 H5 h5 (un c5),λδ5 σ5 F5 H5 h5 c5=>⟨F5,δ5,c5,h5⟩,⟨λC δ5 pins σ5 F5 H5 s5 a T h5 c5=>k4.2.1 C δ5 pins σ5 F5 H5 s5 a T h5 (un c5),λC δ5 pins σ5 F5 H5 s5 h' e vs h5 c5=>k4.2.2 C δ5 pins σ5 F5 H5 s5 h' e vs h5 (un c5)⟩⟩
  ·have e:i=xs.length:=by omega
   subst e
   exact .inl ⟨jd.stop _ H2 s2 (Nat.le_refl _),k1 δ2 σ2 F2 H2 (fin δ2 iv) (un c2)⟩⟩
end
end L3
namespace L3
open PySem L2 PySem.Spec PyProof.Rows
noncomputable def bD5 (δ:Dl) (q:Str × Nat):Option D:=(δ[q.2]?).getD none
noncomputable def bb7 (δ:Dl) (q:Str × Nat):Bool:=match bD5 δ q with
 | some d=>d.pl
 | none=>true
noncomputable def aV4 (caps:List (Str × Nat)) (n:Nat) (δ:Dl):Dl:=(caps.map λq=>(bD5 δ q).map D.sh)++List.replicate n none
noncomputable def bl0 (sh:Bool) (xs:List D) (caps:List (Str × Nat)) (n:Nat) (g:TGd) (tt:TTd) (te:TEd) (δ1:Dl) (Q:D->Dl->Prop):Prop:=∃(p:D->Bool) (f:D->D),
 (∀x∈xs.map D.sh,g x (aV4 caps n δ1) λδ2=>tt δ2 λb δ3=>b=p x/\(p x=true->te δ3 λd _=>d=f x)) /\
 ((sh && caps.all (bb7 δ1))=true\/∀x∈xs.map D.sh,p x=true->(f x).fr=true)/\xs.length<=sizeLine/\Q (.lst true (((xs.map D.sh).filter p).map f)) δ1
noncomputable def bv4 (ti:TId) (caps:List (Str × Nat)) (n:Nat) (g:TGd) (tt:TTd) (te:TEd):TEd:=λδ Q=>ti δ λsh xs δ1=>bl0 sh xs caps n g tt te δ1 Q
noncomputable def bP5:TTd:=λδ Q=>Q true δ
theorem bW6 {sh:Bool} {xs:List D} {caps:List (Str × Nat)} {n m:Nat} {te:TEd} {δ1:Dl} {Q:D->Dl->Prop} (f:D->D) (hx:∀x∈xs.map D.sh,te ((aV4 caps n δ1).set m (some x)) λd _=>d=f x)
  (hfr:(sh && caps.all (bb7 δ1))=true\/∀x∈xs.map D.sh,(f x).fr=true) (hl:xs.length<=sizeLine) (hq:Q (.lst true ((xs.map D.sh).map f)) δ1):bl0 sh xs caps n (gN m) bP5 te δ1 Q :=
 ⟨λ_=>true,f,λx h=>⟨rfl,λ_=>hx x h⟩,hfr.imp id λh x hx _=>h x hx,hl,by rw [List.filter_eq_self.mpr (λ_ _=>rfl)]; exact hq⟩
section
variable {B:Bs} {F H:Hp} {σ:L2.St} {δ:Dl} {ts:List (D × V)}
theorem bI8 (c:Cur B F H σ δ ts) (n:Nat):∀(caps:List (Str × Nat)),caps.all (bb7 δ)=true->RS F H (aV4 caps n δ) (slG caps n σ) []
 | [],_=>by
  have z:∀n,RS F H (List.replicate n none) (List.replicate n none) []:=λn=>by
   induction n with
   | zero=>exact .nil
   | succ n ih=>exact .non ih
  exact z n
 | q :: r,h=>by
  rw [List.all_cons,Bool.and_eq_true] at h
  have ih:=bI8 c n r h.2
  show RS F H ((bD5 δ q).map D.sh :: aV4 r n δ) ((σ[q.2]?).getD none :: slG r n σ) []
  cases e:bD5 δ q with
  | none=>exact .non ih
  | some d =>
   have e2:δ[q.2]?=some (some d):=by
    unfold bD5 at e
    cases z:δ[q.2]? with
    | none=>rw [z] at e; cases e
    | some o=>rw [z] at e; exact congrArg some e
   have hp:d.pl=true:=by have:=h.1; unfold bb7 at this; rw [e] at this; exact this
   obtain ⟨v,e3,s⟩:=c.look e2
   rw [e3]
   show RS F H (some d.sh :: _) (some v :: _) []
   rw [D.sh_of_pl hp]
   exact .som (A:=[]) (s.r (by simp [hp])) ih
theorem bA9 (c:Cur B F H σ δ ts) (n:Nat):∀(caps:List (Str × Nat)),RS H H (aV4 caps n δ) (slG caps n σ) []
 | []=>by
  have z:∀n,RS H H (List.replicate n none) (List.replicate n none) []:=λn=>by
   induction n with
   | zero=>exact .nil
   | succ n ih=>exact .non ih
  exact z n
 | q :: r=>by
  have ih:=bA9 c n r
  show RS H H ((bD5 δ q).map D.sh :: aV4 r n δ) ((σ[q.2]?).getD none :: slG r n σ) []
  cases e:bD5 δ q with
  | none=>exact .non ih
  | some d =>
   have e2:δ[q.2]?=some (some d):=by
    unfold bD5 at e
    cases z:δ[q.2]? with
    | none=>rw [z] at e; cases e
    | some o=>rw [z] at e; exact congrArg some e
   obtain ⟨v,e3,s⟩:=c.look e2
   rw [e3]
   exact .som (A:=[]) (s.frozen c.ext) ih
theorem a55 {α:Type} (xs:List α) (p:α->Bool) (i:Nat) (x:α) (h:xs[i]?=some x):(xs.take (i + 1)).filter p=(xs.take i).filter p++(if p x=true then [x] else []):=by
 rw [List.take_add_one,h,List.filter_append]
 simp only [Option.toList_some]
 by_cases hp:p x=true <;> simp [hp]
end
section
variable {X:Cx} {elt iter tg:Expr} {pos:Pos} {ifs:List Expr} {scope:Scope} {cl:List (Str × Addr)} {ti:TId} {tt:TTd} {te:TEd} {g:TGd}
theorem bJ1 {B:Bs} {F1 H1:Hp} {σ:L2.St} {δ1:Dl} {ts:List (D × V)} {J:It} {Qd:D->Dl->Prop} {Q:VK} {xs:List D} {sh:Bool} {caps:List (Str × Nat)} {n:Nat} (c1:Cur B F1 H1 σ δ1 ts)
  (jd1:JD J H1 (xs.map D.sh)) (jd2:sh=true->xs.all D.pl=true/\JD J F1 xs) (p:D->Bool) (f:D->D)
  (hx:∀x∈xs.map D.sh,g x (aV4 caps n δ1) λδ2=>tt δ2 λb δ3=>b=p x/\(p x=true->te δ3 λd _=>d=f x))
  (hfr:(sh && caps.all (bb7 δ1))=true\/∀x∈xs.map D.sh,p x=true->(f x).fr=true) (hlen:xs.length<=sizeLine) (hq:Qd (.lst true (((xs.map D.sh).filter p).map f)) δ1)
  (k:∀d δ' v F' H',Qd d δ'->Same F1 F'->Same H1 H'->Cur B F' H' σ δ' ((d,v) :: ts)->Q v H'):b50 J caps n (lG caps.length g) (lT tt) (lE te) σ H1 Q:=by
 intro Dp hD
 have cD:Cur B F1 (upd H1 Dp (.lst [])) σ δ1 ((.lst true [],.ref Dp) :: ts):=c1.newL hD .nil rfl
 refine ⟨λi m acc H2=>m=xs.length - i/\i<=xs.length/\H2 Dp=some (.lst acc)/\Same H1 H2/\acc.length<=i/\∃F2,Same F1 F2 /\
  Cur B F2 H2 σ δ1 ((.lst true ((((xs.map D.sh).take i).filter p).map f),.ref Dp) :: ts),⟨xs.length,rfl,Nat.zero_le _,aP7,Same.upd hD,Nat.le_refl _,F1,Same.refl _,by simpa using cD⟩,?_⟩
 rintro i m acc H2 ⟨rfl,hi,hacc,s12,hal,F2,f12,c2⟩
 refine ⟨hacc,?_⟩
 by_cases hlt:i < xs.length
 case neg =>
  have e:i=xs.length:=by omega
  subst e
  refine .inl ⟨jd1.stop _ H2 s12 (by simp),k _ δ1 _ F2 H2 ?_ f12 s12 c2⟩
  have:(xs.map D.sh).take xs.length=xs.map D.sh:=by rw [List.take_of_length_le (by simp)]
  rw [this]
  exact hq
 case pos =>
  refine .inr ⟨jd1.go i H2 s12 (by simpa using hlt),λx H3 y=>?_⟩
  obtain ⟨d0,e0,s23,r0⟩:=jd1.yld i H2 x H3 s12 (by simpa using hlt) y
  have hmem:d0∈xs.map D.sh:=List.mem_of_getElem? e0
  have hD3:H3 Dp=some (.lst acc):=s23 _ _ hacc
  have c3:=c2.grow s23
  have s13:=s12.trans s23
  refine ⟨hD3,?_⟩
  have hx0:=hx d0 hmem
  have turn:∀Fi,Same Fi H3->RS Fi H3 (aV4 caps n δ1) (slG caps n σ) []->S Fi H3 [d0] [x]->d0.pl=true ->
    (∀d v F' H' A,d=f d0->p d0=true->Same H3 H'->Same Fi F'->Same F' H'->(∀a ws,F' a=some (.lst ws)->Fi a=some (.lst ws)\/H3 a=none)->R F' H' [d] [v] A->A.Nodup->(∀a∈A,H3 a=none) ->
     ∃F4,Same F2 F4/\Cur B F4 H' σ δ1 ((d,v) :: (.lst true ((((xs.map D.sh).take i).filter p).map f),.ref Dp) :: ts)) ->
    lG caps.length g x (slG caps n σ) H3 λσ1 H4 =>
     (σ1.length=(slG caps n σ).length/\∀j,j < caps.length->σ1[j]?=(slG caps n σ)[j]?)/\lT tt σ1 H4 λb H5=>H5 Dp=some (.lst acc) /\
     if b=true then lE te σ1 H5 λy H6=>H6 Dp=some (.lst acc)/\acc.length < sizeLine/\∃m',m' < xs.length - i /\
      (m'=xs.length - (i + 1)/\i + 1<=xs.length/\upd H6 Dp (.lst (acc++[y])) Dp=some (.lst (acc++[y]))/\Same H1 (upd H6 Dp (.lst (acc++[y])))/\(acc++[y]).length<=i + 1/\∃F2,Same F1 F2 /\
       Cur B F2 (upd H6 Dp (.lst (acc++[y]))) σ δ1 ((.lst true ((((xs.map D.sh).take (i + 1)).filter p).map f),.ref Dp) :: ts))
     else ∃m',m' < xs.length - i/\(m'=xs.length - (i + 1)/\i + 1<=xs.length/\H5 Dp=some (.lst acc)/\Same H1 H5/\acc.length<=i + 1/\∃F2,Same F1 F2 /\
       Cur B F2 H5 σ δ1 ((.lst true ((((xs.map D.sh).take (i + 1)).filter p).map f),.ref Dp) :: ts)):=by
   intro Fi hFi hRS hS hpl back
   have ci:Cur ⟨H3,Fi⟩ Fi H3 (slG caps n σ) (aV4 caps n δ1) []:=⟨hFi,Same.refl _,Same.refl _,λ_ _ q=>.inl q,[],[],.nil,hRS,by simp,by simp⟩
   refine ⟨⟨H3,Fi⟩,Fi,aV4 caps n δ1,[],d0,_,ci.pushS hS hpl,hx0,λδ' σ1 hq1 l1 k1 c4=>⟨⟨l1,k1⟩,⟨H3,Fi⟩,Fi,δ',[],_,c4,hq1,λb δ5 F5 H5 hb f5 h5 c5=>?_⟩⟩
   obtain ⟨hb,ht⟩:=hb
   have hD5:H5 Dp=some (.lst acc):=h5 _ _ hD3
   refine ⟨hD5,?_⟩
   by_cases hp:p d0=true
   ·rw [hb,hp]
    refine b93 ⟨⟨H3,Fi⟩,F5,δ5,[],_,c5,ht hp,λd δ6 v F6 H6 hd f6 h6 c6=>?_⟩
    have hD6:H6 Dp=some (.lst acc):=h6 _ _ hD5
    obtain ⟨A,C,r,s,nd,fr⟩:=c6.own
    obtain ⟨F4,f24,c7⟩:=back d v F6 H6 A hd hp c6.b1 c6.b2 c6.ext c6.b3 r (nd_app.mp nd).1 λa ha=>fr a (List.mem_append_left _ ha)
    have c8:=c7.appT hD6
    refine ⟨hD6,by omega,xs.length - (i + 1),by omega,rfl,hlt,aP7,?_,by simpa using hal,F4,f12.trans f24,?_⟩
    ·have s16:=s13.trans c6.b1
     exact ⟨λa o q n=>by rw [aP5 (aQ1 q hD)]; exact s16.get a o q n,λa ps q=>by rw [aP5 (aQ1 q hD)]; exact s16.tb a ps q⟩
    ·have e9:(((xs.map D.sh).take (i + 1)).filter p).map f=(((xs.map D.sh).take i).filter p).map f++[d]:=by
      rw [a55 _ p i d0 e0,hp,hd]; simp
     rw [e9]
     exact c8
   ·have hp':p d0=false:=by simpa using hp
    rw [hb,hp']
    refine bT5 ⟨xs.length - (i + 1),by omega,rfl,hlt,hD5,s13.trans h5,by omega,F2,f12,?_⟩
    have e9:(((xs.map D.sh).take (i + 1)).filter p).map f=(((xs.map D.sh).take i).filter p).map f:=by
     rw [a55 _ p i d0 e0,hp']; simp
    rw [e9]
    exact c3.grow h5
  by_cases hA:(sh && caps.all (bb7 δ1))=true
  ·rw [Bool.and_eq_true] at hA
   obtain ⟨hpl,jd⟩:=jd2 hA.1
   have hsh:=aU2 hpl
   rw [hsh] at e0
   obtain ⟨d1,e1,_,r1⟩:=jd.yld i H2 x H3 (f12.trans c2.ext) hlt y
   rw [e0] at e1; cases e1
   have hpl0:d0.pl=true:=by have:=r1.pl; simpa using this
   refine turn F2 c3.ext (bI8 c3 n caps hA.2) ((r1.s).mono f12 (Same.refl _)) hpl0 λd v F' H' A hd hp hs hf he h3 r nd fr=>⟨F',hf,c3.call hs hf he h3 r nd fr⟩
  ·have hfr':=hfr.resolve_left hA
   refine turn H3 (Same.refl _) (bA9 c3 n caps) ((r0.shared s13 (Same.refl _)).s) (by have:=r0.pl; simpa using this) λd v F' H' A hd hp hs hf he h3 r nd fr=>⟨F2,Same.refl _,?_⟩
   exact c3.pushNew hs (r.thaw (by rw [hd]; simp [hfr' d0 hmem hp]) (c3.ext.trans hf)) nd fr
theorem aU7 {Y:Cx}:PTs Y [] (lT bP5):=λ_ _ _ H _ I ⟨B,F,δ,ts,Qd,c,q,k⟩=>b82 _ _ _ H _ I (k true δ F H q (Same.refl _) (Same.refl _) c)
theorem bz1 {Y:Cx} {c:Expr} (h:PT Y c (lT tt)):PTs Y [c] (lT tt):=b77 h
end
end L3
namespace L3
open PySem L2 PySem.Spec PyProof.Rows
section
variable {X:Cx} {F H:Hp} {v w:V}
noncomputable def l2 (rd:Rd2):R2:=λv w H Q=>∃B F σ δ ts x y Qd,Cur B F H σ δ ts/\S F H [x] [v]/\S F H [y] [w]/\rd x y Qd/\∀d z H',Qd d->Same H H'->Cur B F H' σ δ ((d,z) :: ts)->Q z H'
theorem OpD.of {f:Value->Value->Sem Value} {rd:Rd2} (h:OpR X f (l2 rd)):OpD X f rd:=⟨_,h,λ{B F H σ δ ts x y v w Q Qd} c sx sy q k=>⟨B,F,σ,δ,ts,x,y,Qd,c,sx,sy,q,k⟩⟩
theorem bM4 {f:Value->Value->Sem Value} {C:Int->Int->Prop} {g:Int->Int->V} {gd:Int->Int->D} (ho:OpR X f (rI C g)) (hg:∀i j F H,S F H [gd i j] [g i j]) (hp:∀i j,(gd i j).pl=true):OpD X f λx y Q=>∃i j,x=.int i/\y=.int j/\C i j/\Q (gd i j) :=
 ⟨_,ho,λ{B F H σ δ ts x y v w Q Qd} c sx sy h k=>by
  obtain ⟨i,j,rfl,rfl,hc,q⟩:=h
  cases sx; cases sy
  exact ⟨i,j,rfl,rfl,hc,k _ _ _ q (Same.refl _) (c.pushS (hg i j F H) (hp i j))⟩⟩
theorem a92 {f:Value->Value->Sem Value} {g:Int->Int->V} {gd:Int->Int->D} (ho:OpR X f (rI0 g)) (hg:∀i j F H,S F H [gd i j] [g i j]) (hp:∀i j,(gd i j).pl=true):OpD X f λx y Q=>∃i j,x=.int i/\y=.int j/\Q (gd i j) :=
 ⟨_,ho,λ{B F H σ δ ts x y v w Q Qd} c sx sy h k=>by
  obtain ⟨i,j,rfl,rfl,q⟩:=h
  cases sx; cases sy
  exact ⟨i,j,rfl,rfl,k _ _ _ q (Same.refl _) (c.pushS (hg i j F H) (hp i j))⟩⟩
theorem a69 {o:Bool} {xs:List D} (s:S F H [.lst o xs] [v]) (e:Same F H):∃p ws,v=.ref p/\H p=some (.lst ws)/\S F H xs ws:=by
 cases s with
 | shr h r _=>exact ⟨_,_,rfl,e _ _ h,r.s⟩
 | own h r _=>exact ⟨_,_,rfl,h,r⟩
theorem bc8 {xs:List D} (s:S F H [.tup xs] [v]):∃p ws,v=.ref p/\H p=some (.tup ws)/\S F H xs ws:=by
 cases s with
 | tup h r _=>exact ⟨_,_,rfl,h,r⟩
theorem bl4 {d:D} {xs:List D} (s:S F H [d] [v]) (e:Same F H) (h:isL d=some xs):∃p ws,v=.ref p/\Rd H p (.lst ws)/\S F H xs ws:=by
 cases s with
 | shr h' r _=>cases h; exact ⟨_,_,rfl,.inl (e _ _ h'),r.s⟩
 | own h' r _=>cases h; exact ⟨_,_,rfl,.inl h',r⟩
 | fz h' r _=>cases h; exact ⟨_,_,rfl,.inr ⟨_,e _ _ h'⟩,r.s⟩
 | non _=>cases h
 | bl _=>cases h
 | int _=>cases h
 | str _=>cases h
 | tup _ _ _=>cases h
 | obj _ _ _ _=>cases h
 | clo _ _=>cases h
theorem S.rep {xs:List D} {ws:List V} (s:S F H xs ws):∀k:Nat,S F H (List.replicate k xs).flatten (List.replicate k ws).flatten
 | 0=>by simpa using S.nil
 | k + 1=>by
  rw [List.replicate_succ,List.replicate_succ,List.flatten_cons,List.flatten_cons]
  exact s.append (S.rep s k)
noncomputable def cg1:Rd2:=λx y Q=>match x,y with
 | .int i,.int j=>Q (.int (i + j))
 | .str a,.str b=>a.length + b.length<=sizeLine/\Q (.str (a++b))
 | .lst _ xs,.lst _ ys=>(xs.length + ys.length<=sizeLine/\xs.all D.pl=true/\ys.all D.pl=true)/\Q (.lst true (xs++ys))
 | _,_=>False
theorem cx1:OpD X (binaryOp .Add) λx y Q=>∃o xs o' ys,x=.lst o xs/\y=.lst o' ys/\(xs.length + ys.length<=sizeLine/\xs.all D.pl=true/\ys.all D.pl=true)/\Q (.lst true (xs++ys)) :=
 ⟨_,b53,λ{B F H σ δ ts x y v w Q Qd} c sx sy h k=>by
  obtain ⟨o,xs,o',ys,rfl,rfl,⟨hz,h1,h2⟩,q⟩:=h
  obtain ⟨p,ws,rfl,e1,s1⟩:=a69 sx c.ext
  obtain ⟨p',ws',rfl,e2,s2⟩:=a69 sy c.ext
  refine ⟨p,p',ws,ws',rfl,rfl,e1,e2,by rw [<-s1.length,<- s2.length]; exact hz,λr hr=>?_⟩
  exact k _ _ _ q (Same.upd hr) (c.newL hr (s1.append s2) (by simp [h1,h2]))⟩
theorem o_catS:OpD X (binaryOp .Add) λx y Q=>∃i j,x=.str i/\y=.str j/\i.length + j.length<=sizeLine/\Q (.str (i++j)) :=
 ⟨_,bB4,λ{B F H σ δ ts x y v w Q Qd} c sx sy h k=>by
  obtain ⟨i,j,rfl,rfl,hz,q⟩:=h
  cases sx; cases sy
  exact ⟨i,j,rfl,rfl,hz,k _ _ _ q (Same.refl _) (c.pushS (.str .nil) rfl)⟩⟩
theorem aZ8:OpD X (binaryOp .Add) cg1:=((a92 (gd:=λi j=>.int (i + j)) cr2 (λ_ _ _ _=>.int .nil) λ_ _=>rfl).or (o_catS.or cx1)).imp λx y Q h=>by
 unfold cg1 at h
 split at h
 ·exact .inl ⟨_,_,rfl,rfl,h⟩
 ·exact .inr (.inl ⟨_,_,rfl,rfl,h.1,h.2⟩)
 ·exact .inr (.inr ⟨_,_,_,_,rfl,rfl,h.1,h.2⟩)
 ·exact h.elim
noncomputable def iI (C:Int->Int->Prop) (g:Int->Int->D):Rd2:=λx y Q=>match x,y with
 | .int i,.int j=>C i j/\Q (g i j)
 | _,_=>False
noncomputable def iI0 (g:Int->Int->D):Rd2:=λx y Q=>match x,y with
 | .int i,.int j=>Q (g i j)
 | _,_=>False
theorem bU1 {f:Value->Value->Sem Value} {C:Int->Int->Prop} {g:Int->Int->D} (h:OpD X f λx y Q=>∃i j,x=.int i/\y=.int j/\C i j/\Q (g i j)):OpD X f (iI C g):=h.imp λx y Q h=>by
 unfold iI at h
 split at h
 ·exact ⟨_,_,rfl,rfl,h.1,h.2⟩
 ·exact h.elim
theorem bb4 {f:Value->Value->Sem Value} {g:Int->Int->D} (h:OpD X f λx y Q=>∃i j,x=.int i/\y=.int j/\Q (g i j)):OpD X f (iI0 g):=h.imp λx y Q h=>by
 unfold iI0 at h
 split at h
 ·exact ⟨_,_,rfl,rfl,h⟩
 ·exact h.elim
noncomputable def cg4:Rd2:=iI0 λi j=>.int (i - j)
theorem bd7:OpD X (binaryOp .Sub) cg4:=bb4 (a92 bF5 (λ_ _ _ _=>.int .nil) λ_ _=>rfl)
noncomputable def b94 (_ j:Int):Prop:=0 < j/\j.natAbs.log2 < 9000
theorem fdS {i j:Int} (h1:0 < j) (h2:j < 1073741824):b94 i j:=⟨h1,by
 have h:j.natAbs < 2 ^ 30:=by omega
 have:=(Nat.log2_lt (show j.natAbs≠0 by omega)).mpr h
 omega⟩
theorem bS5:OpR X (binaryOp .FloorDiv) (rI b94 λi j=>.int (i / j)):=opI λi j _ _ _ _ _ hc q =>
 floordiv_int (show j≠0 by have:=hc.1; omega) (by rw [Int.fdiv_eq_ediv_of_nonneg i (by have:=hc.1; omega)]; exact q) (.inl (PyProof.noPylong_of_log2 hc.2))
noncomputable def bD9:Rd2:=iI b94 λi j=>.int (i / j)
theorem bl2:OpD X (binaryOp .FloorDiv) bD9:=bU1 (bM4 bS5 (λ_ _ _ _=>.int .nil) λ_ _=>rfl)
noncomputable def cg5:Rd2:=iI (λ_ j=>0 < j) λi j=>.int (i % j)
theorem a04:OpD X (binaryOp .Mod) cg5:=bU1 (bM4 cn1 (λ_ _ _ _=>.int .nil) λ_ _=>rfl)
noncomputable def cg6:Rd2:=iI cz6 λi j=>.int (i * 2 ^ j.toNat)
theorem bD6:OpD X (binaryOp .LShift) cg6:=bU1 (bM4 bN0 (λ_ _ _ _=>.int .nil) λ_ _=>rfl)
noncomputable def ci3:Rd2:=iI (λ_ j=>0<=j) λi j=>.int (i / 2 ^ j.toNat)
theorem cm8:OpD X (binaryOp .RShift) ci3:=bU1 (bM4 cj5 (λ_ _ _ _=>.int .nil) λ_ _=>rfl)
noncomputable def ch7:Rd2:=iI0 λi j=>.int (Builtin.bitAnd i j)
theorem ck7:OpD X (binaryOp .BitAnd) ch7:=bb4 (a92 cm9 (λ_ _ _ _=>.int .nil) λ_ _=>rfl)
noncomputable def ci5:Rd2:=iI0 λi j=>.int (Builtin.bitXor i j)
theorem bM9:OpD X (binaryOp .BitXor) ci5:=bb4 (a92 cq2 (λ_ _ _ _=>.int .nil) λ_ _=>rfl)
theorem bT2:OpR X (binaryOp .Mult) (rI IntMulOk λi j=>.int (i * j)):=opI λ_ _ _ _ _ _ _ hc q=>mul_int q hc
noncomputable def cf5:Rd2:=λx y Q=>match x,y with
 | .int i,.int j=>IntMulOk i j/\Q (.int (i * j))
 | .lst _ xs,.int k=>(-(2 ^ 63)<=k/\k < 2 ^ 63/\xs.length * k.toNat<=sizeLine/\xs.all D.pl=true)/\Q (.lst true (List.replicate k.toNat xs).flatten)
 | _,_=>False
theorem cs9:OpD X (binaryOp .Mult) λx y Q=>∃o xs k,x=.lst o xs/\y=.int k/\(-(2 ^ 63)<=k/\k < 2 ^ 63/\xs.length * k.toNat<=sizeLine/\xs.all D.pl=true)/\Q (.lst true (List.replicate k.toNat xs).flatten) :=
 ⟨_,co7,λ{B F H σ δ ts x y v w Q Qd} c sx sy h k=>by
  obtain ⟨o,xs,n,rfl,rfl,⟨b1,b2,hz,h1⟩,q⟩:=h
  obtain ⟨p,ws,rfl,e1,s1⟩:=a69 sx c.ext
  cases sy
  refine ⟨p,n,ws,rfl,rfl,e1,b1,b2,by rw [<-s1.length]; exact hz,λr hr=>?_⟩
  refine k _ _ _ q (Same.upd hr) (c.newL hr (s1.rep _) ?_)
  rw [List.all_eq_true]
  intro x hx
  obtain ⟨l,hl,hxl⟩:=List.mem_flatten.mp hx
  rw [(List.mem_replicate.mp hl).2] at hxl
  exact List.all_eq_true.mp h1 x hxl⟩
theorem bd9:OpD X (binaryOp .Mult) cf5:=((bM4 (gd:=λi j=>.int (i * j)) bT2 (λ_ _ _ _=>.int .nil) λ_ _=>rfl).or cs9).imp λx y Q h=>by
 unfold cf5 at h
 split at h
 ·exact .inl ⟨_,_,rfl,rfl,h.1,h.2⟩
 ·exact .inr ⟨_,_,_,rfl,rfl,h.1,h.2⟩
 ·exact h.elim
theorem cn2:OpD X (inplaceOp .Add) (iI0 λi j=>.int (i + j)):=bb4 (a92 cf0 (λ_ _ _ _=>.int .nil) λ_ _=>rfl)
theorem bI9:OpD X (inplaceOp .BitXor) (iI0 λi j=>.int (Builtin.bitXor i j)):=bb4 (a92 cf3 (λ_ _ _ _=>.int .nil) λ_ _=>rfl)
noncomputable def ltD:Rd2:=iI0 λi j=>.bl (decide (i < j))
noncomputable def leD:Rd2:=iI0 λi j=>.bl (decide (i<=j))
noncomputable def gtD:Rd2:=iI0 λi j=>.bl (decide (j < i))
noncomputable def geD:Rd2:=iI0 λi j=>.bl (decide (j<=i))
theorem cr5:OpD X (compareOp .Lt) ltD:=bb4 (a92 cx8 (λ_ _ _ _=>.bl .nil) λ_ _=>rfl)
theorem cr0:OpD X (compareOp .LtE) leD:=bb4 (a92 cw1 (λ_ _ _ _=>.bl .nil) λ_ _=>rfl)
theorem cA2:OpD X (compareOp .Gt) gtD:=bb4 (a92 cs8 (λ_ _ _ _=>.bl .nil) λ_ _=>rfl)
theorem cy9:OpD X (compareOp .GtE) geD:=bb4 (a92 cu0 (λ_ _ _ _=>.bl .nil) λ_ _=>rfl)
noncomputable def isNon:D->Bool
 | .non=>true
 | _=>false
noncomputable def isD:Rd2:=λx y Q=>match y with
 | .non=>Q (.bl (isNon x))
 | _=>False
noncomputable def bu8:Rd2:=λx y Q=>match y with
 | .non=>Q (.bl (!isNon x))
 | _=>False
theorem bH9 {d:D} (s:S F H [d] [v]):decide (v=.non)=isNon d:=by cases s <;> simp [isNon]
theorem cw3:OpD X (compareOp .Is) isD:=⟨_,cn4,λ{B F H σ δ ts x y v w Q Qd} c sx sy h k=>by
 unfold isD at h
 split at h
 ·cases sy
  refine ⟨rfl,?_⟩
  rw [bH9 sx]
  exact k _ _ _ h (Same.refl _) (c.pushS (.bl .nil) rfl)
 ·exact h.elim⟩
theorem cq6:OpD X (compareOp .IsNot) bu8:=⟨_,ca1,λ{B F H σ δ ts x y v w Q Qd} c sx sy h k=>by
 unfold bu8 at h
 split at h
 ·cases sy
  refine ⟨rfl,?_⟩
  rw [bH9 sx]
  exact k _ _ _ h (Same.refl _) (c.pushS (.bl .nil) rfl)
 ·exact h.elim⟩
noncomputable def deq:D->D->Bool
 | .non,.non=>true
 | .bl a,.bl b=>a == b
 | .bl a,.int b=>(if a then 1 else 0) == b
 | .int a,.bl b=>a == (if b then 1 else 0)
 | .int a,.int b=>a == b
 | .str a,.str b=>a == b
 | .lst _ xs,.lst _ ys=>deqL xs ys
 | .tup xs,.tup ys=>deqL xs ys
 | _,_=>false
where deqL:List D->List D->Bool
 | [],[]=>true
 | x :: xs,y :: ys=>deq x y && deqL xs ys
 | _,_=>false
noncomputable def eqK:Nat->D->Bool
 | _,.non=>true
 | _,.bl _=>true
 | _,.int _=>true
 | _,.str _=>true
 | n + 1,.lst _ xs=>xs.all (eqK n)
 | n + 1,.tup xs=>xs.all (eqK n)
 | _,_=>false
theorem bc4:∀(xs ys:List D),xs.length=ys.length->deq.deqL xs ys=(List.range xs.length).all λj=>deq (xs.getD j .non) (ys.getD j .non)
 | [],[],_=>rfl
 | x :: xs,y :: ys,h=>by
  rw [List.length_cons,List.range_succ_eq_map,List.all_cons,List.all_map]
  show (deq x y && deq.deqL xs ys)=_
  rw [bc4 xs ys (by simpa using h)]
  rfl
theorem bo3:∀(xs ys:List D),xs.length≠ys.length->deq.deqL xs ys=false
 | [],[],h=>absurd rfl h
 | [],_ :: _,_=>rfl
 | _ :: _,[],_=>rfl
 | x :: xs,y :: ys,h=>by
  show (deq x y && deq.deqL xs ys)=false
  rw [bo3 xs ys (by simpa using h),Bool.and_false]
noncomputable def ofV:V->D
 | .bl b=>.bl b
 | .int i=>.int i
 | .str z=>.str z
 | _=>.non
theorem b05 {x:D} {v:V} (h:eqK 0 x=true) (s:S F H [x] [v]):x=ofV v:=by
 cases s with
 | non _=>rfl
 | bl _=>rfl
 | int _=>rfl
 | str _=>rfl
 | _=>cases h
theorem bV6 {x:D} (h:eqK 0 x=true):deq x x=true:=by
 cases x with
 | non=>rfl
 | bl b=>exact beq_self_eq_true b
 | int i=>exact beq_self_eq_true i
 | str z=>exact beq_self_eq_true z
 | _=>cases h
theorem bx9:∀(n:Nat) {xs ys:List D} {vs:List V},xs.all (eqK n)=true->ys.all (eqK n)=true->S F H xs vs->S F H ys vs->Same F H->deq.deqL xs ys=true:=by
 intro n
 induction n with
 | zero =>
  intro xs
  induction xs with
  | nil=>intro ys vs _ _ s1 s2 _; cases s1; cases s2; rfl
  | cons x xs ih =>
   intro ys vs h1 h2 s1 s2 e
   obtain ⟨v,vs',rfl,q1,r1⟩:=s1.uncons
   cases ys with
   | nil=>cases s2
   | cons y ys =>
    obtain ⟨v',vs2,ee,q2,r2⟩:=s2.uncons
    cases ee
    rw [List.all_cons,Bool.and_eq_true] at h1 h2
    show (deq x y && deq.deqL xs ys)=true
    rw [ih h1.2 h2.2 r1 r2 e,Bool.and_true]
    have e1:=b05 h1.1 q1
    have e2:=b05 h2.1 q2
    rw [e2,<- e1]
    exact bV6 h1.1
 | succ n ihn =>
  intro xs
  induction xs with
  | nil=>intro ys vs _ _ s1 s2 _; cases s1; cases s2; rfl
  | cons x xs ih =>
   intro ys vs h1 h2 s1 s2 e
   obtain ⟨v,vs',rfl,q1,r1⟩:=s1.uncons
   cases ys with
   | nil=>cases s2
   | cons y ys =>
    obtain ⟨v',vs2,ee,q2,r2⟩:=s2.uncons
    cases ee
    rw [List.all_cons,Bool.and_eq_true] at h1 h2
    show (deq x y && deq.deqL xs ys)=true
    rw [ih h1.2 h2.2 r1 r2 e,Bool.and_true]
    cases x with
    | lst o1 a1 =>
     obtain ⟨p,ws,rfl,e1,t1⟩:=a69 q1 e
     cases y with
     | lst o2 a2 =>
      obtain ⟨p2,ws2,ev,e2,t2⟩:=a69 q2 e
      cases ev
      rw [e1] at e2; cases e2
      exact ihn h1.1 h2.1 t1 t2 e
     | tup a2=>obtain ⟨p2,ws2,ev,e2,t2⟩:=bc8 q2; cases ev; rw [e1] at e2; cases e2
     | _=>first | (cases q2; done) | (exact absurd h2.1 (by simp [eqK]))
    | tup a1 =>
     obtain ⟨p,ws,rfl,e1,t1⟩:=bc8 q1
     cases y with
     | tup a2 =>
      obtain ⟨p2,ws2,ev,e2,t2⟩:=bc8 q2
      cases ev
      rw [e1] at e2; cases e2
      exact ihn h1.1 h2.1 t1 t2 e
     | lst o2 a2=>obtain ⟨p2,ws2,ev,e2,t2⟩:=a69 q2 e; cases ev; rw [e1] at e2; cases e2
     | _=>first | (cases q2; done) | (exact absurd h2.1 (by simp [eqK]))
    | non=>cases q1; cases q2; simp [deq]
    | bl _=>cases q1; cases q2; simp [deq]
    | int _=>cases q1; cases q2; simp [deq]
    | str _=>cases q1; cases q2; simp [deq]
    | obj _ _ _=>exact absurd h1.1 (by simp [eqK])
    | fz _=>exact absurd h1.1 (by simp [eqK])
    | clo _=>exact absurd h1.1 (by simp [eqK])
end
end L3
namespace L3
open PySem L2 PySem.Spec PyProof.Rows
structure Cmp3 (A:Around) (s:Shared) (u w:Value) (b:Bool):Prop where
 rc:SeqAt.RcAt A s u w b
 ne:SeqAt.RcNeAt A s u w (!b)
 eq:SeqAt.EqAt A s u w b
section
variable {X:Cx} {F H:Hp} {v w:V}
theorem bx4 {xs:List V} {us:List Value} (r:Vals xs us) {j:Nat} (h:j < us.toArray.size):∃x,xs[j]?=some x/\RelV x us.toArray[j]:=by
 have l:=r.length
 have hj:j < xs.length:=by rw [l]; simpa using h
 obtain ⟨u,e,q⟩:=r.get (List.getElem?_eq_getElem hj)
 obtain ⟨_,z⟩:=List.getElem?_eq_some_iff.mp e
 refine ⟨_,List.getElem?_eq_getElem hj,?_⟩
 have:us.toArray[j]=u:=by simpa using z
 rw [this]; exact q
theorem bK8 {xs:List D} {j:Nat} {d:D} (h:xs[j]?=some d):xs.getD j .non=d:=by rw [List.getD_eq_getElem?_getD,h]; rfl
theorem cy8 {pins:List (Addr × Obj)} {σ:L2.St} {s:Shared} (I:Inv X pins σ H s) (e:Same F H):∀(n:Nat) (x y:D) (v w:V) (u u':Value) (A:Around),eqK n x=true->eqK n y=true->S F H [x] [v]->S F H [y] [w]->RelV v u->RelV w u' ->
  A.units + n < cLine->Cmp3 A s u u' (deq x y):=by
 intro n
 induction n with
 | zero =>
  intro x y v w u u' A hx hy sx sy rv rw' hu
  cases sx with
  | non _ =>
   cases rv
   cases sy with
   | non _=>cases rw'; exact ⟨.none_none,.none_none,.same _⟩
   | bl _=>cases rw'; exact ⟨.none_bool _,.none_bool _,.none_bool _⟩
   | int _=>obtain ⟨t,rfl⟩:=rw'; exact ⟨.none_int _ _,.none_int _ _,.none_int _ _⟩
   | str _=>obtain ⟨t,rfl⟩:=rw'; exact ⟨.none_str _ _,.none_str _ _,.none_str _ _⟩
   | _=>simp [eqK] at hy
  | bl _ =>
   cases rv
   cases sy with
   | non _=>cases rw'; exact ⟨.bool_none _,.bool_none _,.bool_none _⟩
   | bl _=>cases rw'; exact ⟨.bool_bool _ _,.bool_bool _ _,.bool_bool _ _⟩
   | int _=>obtain ⟨t,rfl⟩:=rw'; exact ⟨.bool_int _ _ _,.bool_int _ _ _,.bool_int _ _ _⟩
   | str _=>obtain ⟨t,rfl⟩:=rw'; exact ⟨.bool_str _ _ _,.bool_str _ _ _,.bool_str _ _ _⟩
   | _=>simp [eqK] at hy
  | int _ =>
   obtain ⟨t0,rfl⟩:=rv
   cases sy with
   | non _=>cases rw'; exact ⟨.int_none _ _,.int_none _ _,.int_none _ _⟩
   | bl _=>cases rw'; exact ⟨.int_bool _ _ _,.int_bool _ _ _,.int_bool _ _ _⟩
   | int _=>obtain ⟨t,rfl⟩:=rw'; exact ⟨.int_int _ _ _ _,.int_int _ _ _ _,.int_int _ _ _ _⟩
   | str _=>obtain ⟨t,rfl⟩:=rw'; exact ⟨.int_str _ _ _ _,.int_str _ _ _ _,.int_str _ _ _ _⟩
   | _=>simp [eqK] at hy
  | str _ =>
   obtain ⟨t0,rfl⟩:=rv
   cases sy with
   | non _=>cases rw'; exact ⟨.str_none _ _,.str_none _ _,.str_none _ _⟩
   | bl _=>cases rw'; exact ⟨.str_bool _ _ _,.str_bool _ _ _,.str_bool _ _ _⟩
   | int _=>obtain ⟨t,rfl⟩:=rw'; exact ⟨.str_int _ _ _ _,.str_int _ _ _ _,.str_int _ _ _ _⟩
   | str _=>obtain ⟨t,rfl⟩:=rw'; exact ⟨.str_str _ _ _ _,.str_str _ _ _ _,.str_str _ _ _ _⟩
   | _=>simp [eqK] at hy
  | _=>simp [eqK] at hx
 | succ n ih =>
  intro x y v w u u' A hx hy sx sy rv rw' hu
  have hu0:A.units < cLine:=by omega
  have hu1:A.in1.units + n < cLine:=by show A.units + 1 + n < cLine; omega
  have items:∀{xs ys:List D} {vs ws:List V} {us us':List Value},xs.all (eqK n)=true->ys.all (eqK n)=true->S F H xs vs->S F H ys ws->Vals vs us->Vals ws us' ->
    ∀j (h1:j < us.toArray.size) (h2:j < us'.toArray.size),SeqAt.EqAt A.in1 s us.toArray[j] us'.toArray[j] (deq (xs.getD j .non) (ys.getD j .non)):=by
   intro xs ys vs ws us us' hx hy sx sy r1 r2 j h1 h2
   obtain ⟨a,e1,q1⟩:=bx4 r1 h1
   obtain ⟨b,e2,q2⟩:=bx4 r2 h2
   obtain ⟨d1,g1,t1⟩:=sx.get' e1
   obtain ⟨d2,g2,t2⟩:=sy.get' e2
   rw [bK8 g1,bK8 g2]
   exact (ih d1 d2 a b _ _ A.in1 (List.all_eq_true.mp hx d1 (List.mem_of_getElem? g1)) (List.all_eq_true.mp hy d2 (List.mem_of_getElem? g2)) t1 t2 q1 q2 hu1).eq
  have low:∀x:D,(eqK 0 x=true)\/(∃o xs,x=.lst o xs)\/(∃xs,x=.tup xs)\/eqK (n + 1) x=false:=by
   intro x; cases x <;> simp [eqK]
  cases x with
  | lst o xs =>
   obtain ⟨p,ws,rfl,e1,t1⟩:=a69 sx e
   cases rv
   obtain ⟨its,r1,p1,z1⟩:=I.list (SqL.of (K:=X.K) e1)
   have l1:=r1.length
   cases y with
   | lst o' ys =>
    obtain ⟨p',ws',rfl,e2,t2⟩:=a69 sy e
    cases rw'
    obtain ⟨it2,r2,p2,z2⟩:=I.list (SqL.of (K:=X.K) e2)
    have l2:=r2.length
    have k1:=t1.length
    have k2:=t2.length
    by_cases hl:xs.length=ys.length
    ·have hsz:its.toArray.size=it2.toArray.size:=by simp; omega
     have ev:(List.range its.toArray.size).all (λj=>deq (xs.getD j .non) (ys.getD j .non))=deq (.lst o xs) (.lst o' ys):=by
      show _=deq.deqL xs ys
      rw [bc4 xs ys hl,List.size_toArray,<- l1,<- k1]
     have a:=SeqAt.RcAt.lists (e:=λj=>deq (xs.getD j .non) (ys.getD j .non)) p1.isList p2.isList hsz hu0 (items hx hy t1 t2 r1 r2)
     have b:=SeqAt.RcNeAt.lists (e:=λj=>deq (xs.getD j .non) (ys.getD j .non)) p1.isList p2.isList hsz hu0 (items hx hy t1 t2 r1 r2)
     rw [ev] at a b
     refine ⟨a,b,?_⟩
     by_cases hpp:p=p'
     ·subst hpp
      rw [e1] at e2; cases e2
      have:deq (.lst o xs) (.lst o' ys)=true:=bx9 n hx hy t1 t2 e
      rw [this]
      exact .same _
     ·exact .of_refs hpp a
    ·have hsz:(its.toArray.size != it2.toArray.size)=true:=by simp; omega
     have ev:deq (.lst o xs) (.lst o' ys)=false:=bo3 xs ys hl
     rw [ev]
     have a:=SeqAt.RcAt.lists_lengths p1.isList p2.isList hsz hu0
     refine ⟨a,SeqAt.RcNeAt.lists_lengths p1.isList p2.isList hsz hu0,.of_refs (λhpp=>?_) a⟩
     subst hpp
     rw [e1] at e2; cases e2
     omega
   | tup ys =>
    obtain ⟨p',ws',rfl,e2,t2⟩:=bc8 sy
    cases rw'
    obtain ⟨it2,r2,p2,z2⟩:=I.tuple (SqT.of (K:=X.K) e2)
    exact ⟨.list_tuple p1.isList p2 hu0,.list_tuple p1.isList p2 hu0,.list_tuple p1.isList p2 hu0⟩
   | non=>cases sy; cases rw'; exact ⟨.list_none p1.isList hu0,.list_none p1.isList hu0,.list_none p1.isList hu0⟩
   | bl _=>cases sy; cases rw'; exact ⟨.list_bool _ p1.isList hu0,.list_bool _ p1.isList hu0,.list_bool _ p1.isList hu0⟩
   | int _=>cases sy; obtain ⟨t,rfl⟩:=rw'; exact ⟨.list_int _ _ p1.isList hu0,.list_int _ _ p1.isList hu0,.list_int _ _ p1.isList hu0⟩
   | str _=>cases sy; obtain ⟨t,rfl⟩:=rw'; exact ⟨.list_str _ _ p1.isList hu0,.list_str _ _ p1.isList hu0,.list_str _ _ p1.isList hu0⟩
   | obj _ _ _=>simp [eqK] at hy
   | fz _=>simp [eqK] at hy
   | clo _=>simp [eqK] at hy
  | tup xs =>
   obtain ⟨p,ws,rfl,e1,t1⟩:=bc8 sx
   cases rv
   obtain ⟨its,r1,p1,z1⟩:=I.tuple (SqT.of (K:=X.K) e1)
   have l1:=r1.length
   cases y with
   | tup ys =>
    obtain ⟨p',ws',rfl,e2,t2⟩:=bc8 sy
    cases rw'
    obtain ⟨it2,r2,p2,z2⟩:=I.tuple (SqT.of (K:=X.K) e2)
    have l2:=r2.length
    have k1:=t1.length
    have k2:=t2.length
    have ev:((List.range (min its.toArray.size it2.toArray.size)).all (λj=>deq (xs.getD j .non) (ys.getD j .non)) && its.toArray.size == it2.toArray.size)=deq (.tup xs) (.tup ys):=by
     show _=deq.deqL xs ys
     by_cases hl:xs.length=ys.length
     ·have e3:its.length=it2.length:=by omega
      rw [bc4 xs ys hl,List.size_toArray,List.size_toArray,<- e3,Nat.min_self,<- l1,<- k1]; simp
     ·have e3:(its.length == it2.length)=false:=by simp; omega
      rw [bo3 xs ys hl,List.size_toArray,List.size_toArray,e3,Bool.and_false]
    have a:=SeqAt.RcAt.tuples (e:=λj=>deq (xs.getD j .non) (ys.getD j .non)) p1 p2 hu0 (items hx hy t1 t2 r1 r2)
    have b:=SeqAt.RcNeAt.tuples (e:=λj=>deq (xs.getD j .non) (ys.getD j .non)) p1 p2 hu0 (items hx hy t1 t2 r1 r2)
    rw [ev] at a b
    refine ⟨a,b,?_⟩
    by_cases hpp:p=p'
    ·subst hpp
     rw [e1] at e2; cases e2
     have:deq (.tup xs) (.tup ys)=true:=bx9 n hx hy t1 t2 e
     rw [this]
     exact .same _
    ·exact .of_refs hpp a
   | lst o' ys =>
    obtain ⟨p',ws',rfl,e2,t2⟩:=a69 sy e
    cases rw'
    obtain ⟨it2,r2,p2,z2⟩:=I.list (SqL.of (K:=X.K) e2)
    exact ⟨.tuple_list p1 p2.isList hu0,.tuple_list p1 p2.isList hu0,.tuple_list p1 p2.isList hu0⟩
   | non=>cases sy; cases rw'; exact ⟨.tuple_none p1 hu0,.tuple_none p1 hu0,.tuple_none p1 hu0⟩
   | bl _=>cases sy; cases rw'; exact ⟨.tuple_bool _ p1 hu0,.tuple_bool _ p1 hu0,.tuple_bool _ p1 hu0⟩
   | int _=>cases sy; obtain ⟨t,rfl⟩:=rw'; exact ⟨.tuple_int _ _ p1 hu0,.tuple_int _ _ p1 hu0,.tuple_int _ _ p1 hu0⟩
   | str _=>cases sy; obtain ⟨t,rfl⟩:=rw'; exact ⟨.tuple_str _ _ p1 hu0,.tuple_str _ _ p1 hu0,.tuple_str _ _ p1 hu0⟩
   | obj _ _ _=>simp [eqK] at hy
   | fz _=>simp [eqK] at hy
   | clo _=>simp [eqK] at hy
  | non =>
   cases sx; cases rv
   cases y with
   | lst o' ys =>
    obtain ⟨p',ws',rfl,e2,t2⟩:=a69 sy e; cases rw'
    obtain ⟨it2,r2,p2,z2⟩:=I.list (SqL.of (K:=X.K) e2)
    exact ⟨.none_list p2.isList hu0,.none_list p2.isList hu0,.none_list p2.isList hu0⟩
   | tup ys =>
    obtain ⟨p',ws',rfl,e2,t2⟩:=bc8 sy; cases rw'
    obtain ⟨it2,r2,p2,z2⟩:=I.tuple (SqT.of (K:=X.K) e2)
    exact ⟨.none_tuple p2 hu0,.none_tuple p2 hu0,.none_tuple p2 hu0⟩
   | non=>exact ih _ _ _ _ _ _ A (by simp [eqK]) (by simp [eqK]) (.non .nil) sy rfl rw' (by omega)
   | bl _=>exact ih _ _ _ _ _ _ A (by simp [eqK]) (by simp [eqK]) (.non .nil) sy rfl rw' (by omega)
   | int _=>exact ih _ _ _ _ _ _ A (by simp [eqK]) (by simp [eqK]) (.non .nil) sy rfl rw' (by omega)
   | str _=>exact ih _ _ _ _ _ _ A (by simp [eqK]) (by simp [eqK]) (.non .nil) sy rfl rw' (by omega)
   | obj _ _ _=>simp [eqK] at hy
   | fz _=>simp [eqK] at hy
   | clo _=>simp [eqK] at hy
  | bl b =>
   cases sx; cases rv
   cases y with
   | lst o' ys =>
    obtain ⟨p',ws',rfl,e2,t2⟩:=a69 sy e; cases rw'
    obtain ⟨it2,r2,p2,z2⟩:=I.list (SqL.of (K:=X.K) e2)
    exact ⟨.bool_list _ p2.isList hu0,.bool_list _ p2.isList hu0,.bool_list _ p2.isList hu0⟩
   | tup ys =>
    obtain ⟨p',ws',rfl,e2,t2⟩:=bc8 sy; cases rw'
    obtain ⟨it2,r2,p2,z2⟩:=I.tuple (SqT.of (K:=X.K) e2)
    exact ⟨.bool_tuple _ p2 hu0,.bool_tuple _ p2 hu0,.bool_tuple _ p2 hu0⟩
   | non=>exact ih _ _ _ _ _ _ A (by simp [eqK]) (by simp [eqK]) (.bl .nil) sy rfl rw' (by omega)
   | bl _=>exact ih _ _ _ _ _ _ A (by simp [eqK]) (by simp [eqK]) (.bl .nil) sy rfl rw' (by omega)
   | int _=>exact ih _ _ _ _ _ _ A (by simp [eqK]) (by simp [eqK]) (.bl .nil) sy rfl rw' (by omega)
   | str _=>exact ih _ _ _ _ _ _ A (by simp [eqK]) (by simp [eqK]) (.bl .nil) sy rfl rw' (by omega)
   | obj _ _ _=>simp [eqK] at hy
   | fz _=>simp [eqK] at hy
   | clo _=>simp [eqK] at hy
  | int b =>
   cases sx
   cases y with
   | lst o' ys =>
    obtain ⟨t0,rfl⟩:=rv
    obtain ⟨p',ws',rfl,e2,t2⟩:=a69 sy e; cases rw'
    obtain ⟨it2,r2,p2,z2⟩:=I.list (SqL.of (K:=X.K) e2)
    exact ⟨.int_list _ _ p2.isList hu0,.int_list _ _ p2.isList hu0,.int_list _ _ p2.isList hu0⟩
   | tup ys =>
    obtain ⟨t0,rfl⟩:=rv
    obtain ⟨p',ws',rfl,e2,t2⟩:=bc8 sy; cases rw'
    obtain ⟨it2,r2,p2,z2⟩:=I.tuple (SqT.of (K:=X.K) e2)
    exact ⟨.int_tuple _ _ p2 hu0,.int_tuple _ _ p2 hu0,.int_tuple _ _ p2 hu0⟩
   | non=>exact ih _ _ _ _ _ _ A (by simp [eqK]) (by simp [eqK]) (.int .nil) sy rv rw' (by omega)
   | bl _=>exact ih _ _ _ _ _ _ A (by simp [eqK]) (by simp [eqK]) (.int .nil) sy rv rw' (by omega)
   | int _=>exact ih _ _ _ _ _ _ A (by simp [eqK]) (by simp [eqK]) (.int .nil) sy rv rw' (by omega)
   | str _=>exact ih _ _ _ _ _ _ A (by simp [eqK]) (by simp [eqK]) (.int .nil) sy rv rw' (by omega)
   | obj _ _ _=>simp [eqK] at hy
   | fz _=>simp [eqK] at hy
   | clo _=>simp [eqK] at hy
  | str b =>
   cases sx
   cases y with
   | lst o' ys =>
    obtain ⟨t0,rfl⟩:=rv
    obtain ⟨p',ws',rfl,e2,t2⟩:=a69 sy e; cases rw'
    obtain ⟨it2,r2,p2,z2⟩:=I.list (SqL.of (K:=X.K) e2)
    exact ⟨.str_list _ _ p2.isList hu0,.str_list _ _ p2.isList hu0,.str_list _ _ p2.isList hu0⟩
   | tup ys =>
    obtain ⟨t0,rfl⟩:=rv
    obtain ⟨p',ws',rfl,e2,t2⟩:=bc8 sy; cases rw'
    obtain ⟨it2,r2,p2,z2⟩:=I.tuple (SqT.of (K:=X.K) e2)
    exact ⟨.str_tuple _ _ p2 hu0,.str_tuple _ _ p2 hu0,.str_tuple _ _ p2 hu0⟩
   | non=>exact ih _ _ _ _ _ _ A (by simp [eqK]) (by simp [eqK]) (.str .nil) sy rv rw' (by omega)
   | bl _=>exact ih _ _ _ _ _ _ A (by simp [eqK]) (by simp [eqK]) (.str .nil) sy rv rw' (by omega)
   | int _=>exact ih _ _ _ _ _ _ A (by simp [eqK]) (by simp [eqK]) (.str .nil) sy rv rw' (by omega)
   | str _=>exact ih _ _ _ _ _ _ A (by simp [eqK]) (by simp [eqK]) (.str .nil) sy rv rw' (by omega)
   | obj _ _ _=>simp [eqK] at hy
   | fz _=>simp [eqK] at hy
   | clo _=>simp [eqK] at hy
  | obj _ _ _=>simp [eqK] at hx
  | fz _=>simp [eqK] at hx
  | clo _=>simp [eqK] at hx
noncomputable def eqD:Rd2:=λx y Q=>(eqK 6 x=true/\eqK 6 y=true)/\Q (.bl (deq x y))
noncomputable def neD:Rd2:=λx y Q=>(eqK 6 x=true/\eqK 6 y=true)/\Q (.bl (!deq x y))
theorem bI1 (hu:X.A.units + 6 < cLine):OpD X (compareOp .Eq) eqD:=OpD.of λpins s σ H v w u u' Q I rv rw' zz=>by
 obtain ⟨B,F,σ',δ,ts,x,y,Qd,c,sx,sy,⟨⟨hx,hy⟩,q⟩,k⟩:=zz
 exact (cy8 I c.ext 6 x y v w u u' X.A hx hy sx sy rv rw' hu).rc _ _ _ _ ⟨.bl _,H,I,rfl,k _ _ _ q (Same.refl _) (c.pushS (.bl .nil) rfl)⟩
theorem bC4 (hu:X.A.units + 6 < cLine):OpD X (compareOp .NotEq) neD:=OpD.of λpins s σ H v w u u' Q I rv rw' zz=>by
 obtain ⟨B,F,σ',δ,ts,x,y,Qd,c,sx,sy,⟨⟨hx,hy⟩,q⟩,k⟩:=zz
 exact (cy8 I c.ext 6 x y v w u u' X.A hx hy sx sy rv rw' hu).ne _ _ _ _ ⟨.bl _,H,I,rfl,k _ _ _ q (Same.refl _) (c.pushS (.bl .nil) rfl)⟩
end
end L3
namespace L3
open PySem L2 PySem.Spec PyProof.Rows
section
variable {X:Cx} {F H:Hp} {v w:V} {e a b c o:Expr} {es:List Expr} {pos p p2 apos cpos:Pos} {t ta tb tc te:TEd} {tr:TAd} {x:Str}
theorem bP1 {r r':R2} {rd rd':Rd2} (hl:Lk2 r rd) (hl':Lk2 r' rd'):∀σ H Q,lE (bg3 rd rd' ta tb tc) σ H Q->bZ9 r r' (lB ta) (lB tb) (lB tc) σ H Q:=λσ H Q ⟨B,F,δ,ts,Qd,c,q,k⟩ =>
 ⟨B,F,δ,ts,_,c,q,λx δ1 v F1 H1 q1 f1 h1 c1 s1=>⟨B,F1,δ1,ts,_,c1,q1,λy δ2 w F2 H2 q2 f2 h2 c2 s2=>by
  refine hl c2 (s1.mono f2 h2) s2 q2 λd z H' hd hs c3=>?_
  obtain ⟨b,rfl,qb⟩:=hd
  have st:=c3.top
  cases st with
  | bl _ =>
   refine ⟨b,rfl,?_⟩
   cases b with
   | true =>
    refine b93 ⟨B,F2,δ2,ts,_,c3.pop,by simpa using qb,λz δ3 w3 F3 H3 q3 f3 h3 c4 s3=>?_⟩
    exact hl' c4 (s2.mono f3 (hs.trans h3)) s3 q3 λd z H' hd hs' c5=>k d δ3 z F3 H' hd ((f1.trans f2).trans f3) ((((h1.trans h2).trans hs).trans h3).trans hs') c5
   | false=>exact bT5 (k _ δ2 _ F2 H' (by simpa using qb) (f1.trans f2) ((h1.trans h2).trans hs) (c3.pop.pushS (.bl .nil) rfl))⟩⟩
theorem bw7 {op op':CmpOp} {rd rd':Rd2} (ho:OpD X (compareOp op) rd) (ho':OpD X (compareOp op') rd') (ha:PE X a (lB ta)) (hb:PE X b (lB tb)) (hc:PE X c (lB tc))
  (hm:lastMarks [op,op'] [b,c]=false:=by with_unfolding_all rfl):PE X (.Compare a [op,op'] [b,c] pos) (lE (bg3 rd rd' ta tb tc)):=by
 obtain ⟨r,h1,h2⟩:=ho
 obtain ⟨r',h1',h2'⟩:=ho'
 exact aQ6 (bW3 h1 h1' ha hb hc hm) (bP1 h2 h2')
noncomputable abbrev Rdc:=List D->(D->Prop)->Prop
noncomputable def lc (rd:Rdc):List V->Hp->VK->Prop:=λvs H Q=>∃B F σ δ ts ds Qd,Cur B F H σ δ ts/\S F H ds vs/\rd ds Qd/\∀d z H',Qd d->Same H H'->Cur B F H' σ δ ((d,z) :: ts)->Q z H'
noncomputable def CallD (X:Cx) (f:Value) (rd:Rdc):Prop:=CallR X f (lc rd)
theorem CallD.of {f:Value} {r:List V->Hp->VK->Prop} {rd:Rdc} (h:CallR X f r) (m:∀vs H Q,lc rd vs H Q->r vs H Q):CallD X f rd:=λpins s σ H xs us Q I r q=>h pins s σ H xs us Q I r (m xs H Q q)
noncomputable def dCB (rd:Rdc) (t:TAd):TEd:=λδ Q=>t δ λds δ'=>rd ds λd=>Q d δ'
theorem b04 {rd:Rdc}:∀σ H Q,lE (dCB rd tr) σ H Q->tCB (lc rd) (lA tr) σ H Q:=λσ H Q ⟨B,F,δ,ts,Qd,c,q,k⟩=>⟨B,F,δ,ts,_,c,q,λds δ1 vs F1 H1 q1 f1 h1 c1 s1 =>
 ⟨B,F1,σ,δ1,ts,ds,_,c1,s1,q1,λd z H' hd hs c'=>k d δ1 z F1 H' hd f1 (h1.trans hs) c'⟩⟩
theorem aU4 {id:String} {rd:Rdc} (hc:CallD X (.builtin id) rd) (hg:Gl X x) (hm:X.mg x=none) (hv:bootBuiltins x=some (.builtin id)) (ha:PA X (e :: es) (lA tr)) (hn:x≠"__name__":=by decide) (hdb:(x == ("__debug__":Str))=false:=by decide)
  (he:starEach (e :: es) X.env=(false,eval e X.env) :: starEach es X.env:=by rfl) (hpl:(backTo pos (starEach es X.env)).any (·.1)=false:=by rfl):PE X (.Call (.Name x p) (e :: es) [] pos) (lE (dCB rd tr)) :=
 aQ6 (by7 hc hg hm hv ha hn hdb he hpl) b04
theorem bS4 {T:String} {rd:Rdc} (hc:CallD X (.type T) rd) (hg:Gl X x) (hm:X.mg x=none) (hv:bootBuiltins x=some (.type T)) (ha:PA X (e :: es) (lA tr)) (hn:x≠"__name__":=by decide) (hdb:(x == ("__debug__":Str))=false:=by decide)
  (he:starEach (e :: es) X.env=(false,eval e X.env) :: starEach es X.env:=by rfl) (hpl:(backTo pos (starEach es X.env)).any (·.1)=false:=by rfl):PE X (.Call (.Name x p) (e :: es) [] pos) (lE (dCB rd tr)) :=
 aQ6 (bK7 hc hg hm hv ha hn hdb he hpl) b04
theorem bi3 {d:D} {vs:List V} (s:S F H [d] vs):∃v,vs=[v]/\S F H [d] [v]:=by
 obtain ⟨v,vs',rfl,h1,h2⟩:=s.uncons
 cases h2
 exact ⟨v,rfl,h1⟩
theorem cv1 {d d':D} {vs:List V} (s:S F H [d,d'] vs):∃v v',vs=[v,v']/\S F H [d] [v]/\S F H [d'] [v']:=by
 obtain ⟨v,vs',rfl,h1,h2⟩:=s.uncons
 obtain ⟨v',rfl,h3⟩:=bi3 h2
 exact ⟨v,v',rfl,h1,h3⟩
theorem bh0 {K:PySem.W.Frag} {p:Addr} {ws:List V} (h:Rd H p (.lst ws)):SqL K H p ws:=.inl h
noncomputable def b87:Rdc:=λds Q=>match ds with
 | [.lst _ xs]=>Q (.int xs.length)
 | [.fz xs]=>Q (.int xs.length)
 | [.tup xs]=>Q (.int xs.length)
 | [.str z]=>z.length<=sizeLine/\Q (.int z.length)
 | _=>False
theorem bl5:CallD X (.builtin "len") b87:=CallD.of (call_len_seq.or bo7) λvs H Q zz=>by
 obtain ⟨B,F,σ,δ,ts,ds,Qd,c,s,q,k⟩:=zz
 unfold b87 at q
 split at q
 ·obtain ⟨v,rfl,s1⟩:=bi3 s
  obtain ⟨p,ws,rfl,h,t⟩:=bl4 s1 c.ext rfl
  refine .inl ⟨p,ws,rfl,.inl (bh0 h),?_⟩
  rw [<-t.length]
  exact k _ _ _ q (Same.refl _) (c.pushS (.int .nil) rfl)
 ·obtain ⟨v,rfl,s1⟩:=bi3 s
  obtain ⟨p,ws,rfl,h,t⟩:=bl4 s1 c.ext rfl
  refine .inl ⟨p,ws,rfl,.inl (bh0 h),?_⟩
  rw [<-t.length]
  exact k _ _ _ q (Same.refl _) (c.pushS (.int .nil) rfl)
 ·obtain ⟨v,rfl,s1⟩:=bi3 s
  obtain ⟨p,ws,rfl,h,t⟩:=bc8 s1
  refine .inl ⟨p,ws,rfl,.inr (SqT.of h),?_⟩
  rw [<-t.length]
  exact k _ _ _ q (Same.refl _) (c.pushS (.int .nil) rfl)
 ·obtain ⟨v,rfl,s1⟩:=bi3 s
  cases s1
  exact .inr ⟨_,rfl,q.1,k _ _ _ q.2 (Same.refl _) (c.pushS (.int .nil) rfl)⟩
 ·exact q.elim
noncomputable def bu5:Rdc:=λds Q=>match ds with
 | [.lst _ xs]=>xs.all D.pl=true/\Q (.lst true xs)
 | [.fz xs]=>Q (.lst true xs)
 | [.tup xs]=>xs.all D.pl=true/\Q (.lst true xs)
 | _=>False
theorem cp6:CallD X (.type "list") bu5:=CallD.of bt0 λvs H Q zz=>by
 obtain ⟨B,F,σ,δ,ts,ds,Qd,c,s,q,k⟩:=zz
 unfold bu5 at q
 split at q
 ·obtain ⟨v,rfl,s1⟩:=bi3 s
  obtain ⟨p,ws,rfl,h,t⟩:=bl4 s1 c.ext rfl
  exact ⟨p,ws,rfl,.inl (bh0 h),λl hl=>k _ _ _ q.2 (Same.upd hl) (c.newL hl t q.1)⟩
 ·obtain ⟨v,rfl,s1⟩:=bi3 s
  cases s1 with
  | fz h r _=>exact ⟨_,_,rfl,.inl (bh0 (.inr ⟨_,c.ext _ _ h⟩)),λl hl=>k _ _ _ q (Same.upd hl) (c.newL hl r.s r.pl)⟩
 ·obtain ⟨v,rfl,s1⟩:=bi3 s
  obtain ⟨p,ws,rfl,h,t⟩:=bc8 s1
  exact ⟨p,ws,rfl,.inr (SqT.of h),λl hl=>k _ _ _ q.2 (Same.upd hl) (c.newL hl t q.1)⟩
 ·exact q.elim
noncomputable def ii (g:Int->Int->Int):Rdc:=λds Q=>match ds with
 | [.int i,.int j]=>Q (.int (g i j))
 | _=>False
theorem cs4 {f:Value} {g:Int->Int->Int} (h:CallR X f (λxs H Q=>∃i j,xs=[.int i,.int j]/\Q (.int (g i j)) H)):CallD X f (ii g):=CallD.of h λvs H Q zz=>by
 obtain ⟨B,F,σ,δ,ts,ds,Qd,c,s,q,k⟩:=zz
 unfold ii at q
 split at q
 ·obtain ⟨v,v',rfl,s1,s2⟩:=cv1 s
  cases s1; cases s2
  exact ⟨_,_,rfl,k _ _ _ q (Same.refl _) (c.pushS (.int .nil) rfl)⟩
 ·exact q.elim
theorem cy3 (hc:X.calm=true):CallD X (.builtin "min") (ii λi j=>if j < i then j else i):=cs4 (bF2 hc)
noncomputable def bls (bs:List Bool):List D:=bs.map D.bl
theorem ck6:∀{bs:List Bool} {ws:List V},S F H (bls bs) ws->ws=bs.map V.bl
 | [],_,s=>by cases s; rfl
 | b :: bs,_,s=>by
  cases s with
  | bl s=>rw [ck6 s]; rfl
noncomputable def ce2:Rdc:=λds Q=>match ds with
 | [.lst _ xs]=>∃bs,xs=bls bs/\Q (.bl (bs.all id))
 | _=>False
theorem bU4 (hc:X.calm=true):CallD X (.builtin "all") ce2:=CallD.of (bR2 hc) λvs H Q zz=>by
 obtain ⟨B,F,σ,δ,ts,ds,Qd,c,s,q,k⟩:=zz
 unfold ce2 at q
 split at q
 ·obtain ⟨v,rfl,s1⟩:=bi3 s
  obtain ⟨bs,rfl,q⟩:=q
  obtain ⟨p,ws,rfl,h,t⟩:=bl4 s1 c.ext rfl
  rw [ck6 t] at h
  exact ⟨p,bs,rfl,bh0 h,k _ _ _ q (Same.refl _) (c.pushS (.bl .nil) rfl)⟩
 ·exact q.elim
noncomputable def b85:D->Option String
 | .int _=>some "int"
 | .bl _=>some "bool"
 | .non=>some "NoneType"
 | .str _=>some "str"
 | .lst _ _=>some "list"
 | .fz _=>some "list"
 | .tup _=>some "tuple"
 | _=>none
noncomputable def isT (k n:String):Option Bool:=([("int","int",true),("int","bool",false),("int","list",false),("int","tuple",false),("int","str",false),("bool","int",true),("bool","bool",true),("bool","list",false),("bool","tuple",false),("bool","str",false),
 ("NoneType","int",false),("NoneType","bool",false),("NoneType","list",false),("NoneType","tuple",false),("NoneType","str",false),("str","int",false),("str","bool",false),("str","list",false),("str","tuple",false),("str","str",true),
 ("list","int",false),("list","bool",false),("list","list",true),("list","tuple",false),("list","str",false),("tuple","int",false),("tuple","bool",false),("tuple","list",false),("tuple","tuple",true),("tuple","str",false)].find? λz=>z.1 == k && z.2.1 == n).map (·.2.2)
noncomputable def isK (n:String) (d:D):Option Bool:=(b85 d).bind λk=>isT k n
theorem cl2 {K:PySem.W.Frag} {k n:String} {r:Bool} (h:isT k n=some r):PySem.W.kitOne K (.type k) (.type n)=some r:=by
 unfold isT at h
 obtain ⟨z,hz,rfl⟩:=Option.map_eq_some_iff.mp h
 have hm:=List.mem_of_find?_eq_some hz
 have hp:=List.find?_some hz
 rw [Bool.and_eq_true,beq_iff_eq,beq_iff_eq] at hp
 obtain ⟨rfl,rfl⟩:=hp
 simp only [List.mem_cons,List.not_mem_nil,or_false] at hm
 repeat' (rcases hm with hm | hm)
 all_goals rfl
theorem ca5 {K:PySem.W.Frag} {d:D} (s:S F H [d] [v]) (e:Same F H) {k:String} (h:b85 d=some k):TyOf K H v (.type k):=by
 cases s with
 | int _=>cases h; exact .int _
 | bl _=>cases h; exact .bl _
 | non _=>cases h; exact .non
 | str _=>cases h; exact .str _
 | shr h' _ _=>cases h; exact .lst (e _ _ h')
 | own h' _ _=>cases h; exact .lst h'
 | fz h' _ _=>cases h; exact .frz (e _ _ h')
 | tup h' _ _=>cases h; exact .tup h'
 | obj _ _ _ _=>cases h
 | clo _ _=>cases h
theorem cw8 {K:PySem.W.Frag} {d:D} (s:S F H [d] [v]) (e:Same F H) {n:String} {r:Bool} (h:isK n d=some r):∃t,TyOf K H v t/\PySem.W.kitOne K t (.type n)=some r:=by
 unfold isK at h
 cases hk:b85 d with
 | none=>rw [hk] at h; cases h
 | some k=>rw [hk] at h; exact ⟨_,ca5 s e hk,cl2 h⟩
noncomputable def ci6 (n:String) (t:TEd):TEd:=λδ Q=>t δ λd δ'=>∃r,isK n d=some r/\Q (.bl r) δ'
theorem bS2 {n:String} {y:Str} {q:Pos} (hg:Gl X "isinstance") (hm:X.mg "isinstance"=none) (hg2:Gl X y) (hm2:X.mg y=none) (hv2:bootBuiltins y=some (.type n)) (ha:PE X a (lB ta))
  (hn:y≠"__name__":=by decide) (hd:(y == ("__debug__":Str))=false:=by decide)
  (hs:starEach [a,.Name y q] X.env=(false,eval a X.env) :: starEach [.Name y q] X.env:=by rfl) (hs2:starEach [.Name y q] X.env=(false,eval (.Name y q) X.env) :: starEach [] X.env:=by rfl) (hpl:(backTo pos (starEach [.Name y q] X.env)).any (·.1)=false:=by rfl) :
  PE X (.Call (.Name "isinstance" p) [a,.Name y q] [] pos) (lE (ci6 n ta)) :=
 aQ6 (by7 be8 hg hm bo1 (aS1 ha (aS1 (cu5 hg2 hm2 hv2 hn hd) a02 hs2) hs) (by decide) (by decide) hs hpl) λσ H Q ⟨B,F,δ,ts,Qd,c,q,k⟩=>⟨B,F,δ,ts,_,c,q,λd δ1 v F1 H1 q1 f1 h1 c1 s1=>by
  obtain ⟨r,e,qr⟩:=q1
  obtain ⟨t,h2,h3⟩:=cw8 (K:=X.K) s1 c1.ext e
  exact ⟨v,n,t,r,rfl,h2,h3,k _ δ1 _ F1 H1 qr f1 h1 (c1.pushS (.bl .nil) rfl)⟩⟩
theorem ce7 {xs:List D} {ws:List V} {i:Int} {d:D} (s:S F H xs ws) (h:atI xs i=some d):∃v,atI ws i=some v/\S F H [d] [v]:=by
 unfold atI at h ⊢
 rw [<-s.length]
 cases e:ixN xs.length i with
 | none=>rw [e] at h; cases h
 | some j =>
  rw [e] at h
  exact s.get h
noncomputable def ixD (x y:D) (Q:D->Prop):Prop:=match x,y with
 | .lst _ xs,.int i=>∃d,atI xs i=some d/\Q d
 | .fz xs,.int i=>∃d,atI xs i=some d/\Q d
 | .tup xs,.int i=>∃d,atI xs i=some d/\Q d
 | .str z,.int i=>z.length<=sizeLine/\∃ch,atI z.cps.toList i=some ch/\Q (.str ⟨#[ch]⟩)
 | _,_=>False
noncomputable def dIx (ta tb:TEd):TEd:=λδ Q=>ta δ λx δ1=>tb δ1 λy δ2=>ixD x y λd=>Q d δ2
theorem aZ0 (ha:PE X a (lB ta)) (hb:PE X b (lB tb)) (hs:bt7 b):PE X (.Subscript a b pos) (lB (dIx ta tb)) :=
 aQ6 (ck4 co6 ha hb hs) λσ H Q ⟨B,F,δ,ts,Qd,c,q,k⟩=>⟨B,F,δ,ts,_,c,q,λx δ1 v F1 H1 q1 f1 h1 c1 s1=>⟨B,F1,δ1,ts,_,c1,q1,λy δ2 w F2 H2 q2 f2 h2 c2 s2=>by
  have s1':=s1.mono f2 h2
  have fin:∀d z,Qd d δ2->S F2 H2 [d] [z]->Q z H2:=λd z hd s=>k d δ2 z F2 H2 hd (f1.trans f2) (h1.trans h2) c2 s
  unfold ixD at q2
  split at q2
  ·obtain ⟨d,ed,qd⟩:=q2
   cases s2
   obtain ⟨p,ws,rfl,h,t⟩:=bl4 s1' c2.ext rfl
   obtain ⟨z,ez,sz⟩:=ce7 t ed
   exact .inl ⟨p,ws,_,z,rfl,rfl,bh0 h,ez,fin d z qd sz⟩
  ·obtain ⟨d,ed,qd⟩:=q2
   cases s2
   obtain ⟨p,ws,rfl,h,t⟩:=bl4 s1' c2.ext rfl
   obtain ⟨z,ez,sz⟩:=ce7 t ed
   exact .inl ⟨p,ws,_,z,rfl,rfl,bh0 h,ez,fin d z qd sz⟩
  ·obtain ⟨d,ed,qd⟩:=q2
   cases s2
   obtain ⟨p,ws,rfl,h,t⟩:=bc8 s1'
   obtain ⟨z,ez,sz⟩:=ce7 t ed
   exact .inr (.inl ⟨p,ws,_,z,rfl,rfl,SqT.of h,ez,fin d z qd sz⟩)
  ·obtain ⟨hz,ch,ec,qc⟩:=q2
   cases s1'
   cases s2
   exact .inr (.inr ⟨_,_,ch,rfl,rfl,hz,ec,fin _ _ qc (.str .nil)⟩)
  ·exact q2.elim⟩⟩
noncomputable abbrev TOd:=Dl->(Option Int->Dl->Prop)->Prop
noncomputable def lP (t:TOd):TO:=λσ H Q=>∃B F δ ts Qd,Cur B F H σ δ ts/\t δ Qd/\∀o δ' F' H',Qd o δ'->Same F F'->Same H H'->Cur B F' H' σ δ' ts->Q o H'
theorem bG0 {oe:Option Expr} {u u':TO} (h:PO X oe u) (m:∀σ H Q,u' σ H Q->u σ H Q):PO X oe u':=λpins s σ H Q I q=>h pins s σ H Q I (m σ H Q q)
noncomputable def dP0:TOd:=λδ Q=>Q none δ
noncomputable def dP1 (t:TEd):TOd:=λδ Q=>t δ λd δ'=>match d with
 | .int i=>Q (some i) δ'
 | _=>False
theorem bs1:PO X none (lP dP0):=bG0 ce6 λσ H Q ⟨B,F,δ,ts,Qd,c,q,k⟩=>k none δ F H q (Same.refl _) (Same.refl _) c
theorem bs8 (h:PE X e (lB t)):PO X (some e) (lP (dP1 t)):=bG0 (ce8 h) λσ H Q ⟨B,F,δ,ts,Qd,c,q,k⟩=>⟨B,F,δ,ts,_,c,q,λd δ1 v F1 H1 q1 f1 h1 c1 s1=>by
 cases s1 with
 | int _=>exact ⟨_,rfl,k _ δ1 F1 H1 q1 f1 h1 c1⟩
 | _=>exact q1.elim⟩
noncomputable def bi1 {α:Type} (xs:List α) (lo hi:Option Int):List α:=(xs.drop (HT.sIx xs.length 0 lo)).take (HT.sIx xs.length xs.length hi - HT.sIx xs.length 0 lo)
theorem S.cut {xs:List D} {ws:List V} (s:S F H xs ws) (lo hi:Option Int):S F H (bi1 xs lo hi) (ch1 ws lo hi):=by
 unfold bi1 ch1
 rw [<-s.length]
 exact (s.drop _).take _
theorem bP3 {xs:List D} {p:D->Bool} (h:xs.all p=true) (lo hi:Option Int):(bi1 xs lo hi).all p=true:=by
 rw [List.all_eq_true] at h ⊢
 intro x hx
 exact h x (List.mem_of_mem_drop (List.mem_of_mem_take hx))
noncomputable def blD (t:TEd):TEd:=λδ Q=>t δ λd δ'=>match d with
 | .int i=>Q (.int (Mf.bl i.natAbs:Nat)) δ'
 | _=>False
theorem aX9 (ho:PE X o (lB t)) (hbase:attributeBase o "bit_length" X.env (eval o X.env)=eval o X.env:=by rfl) (hline:(apos.endLine == cpos.line)=true:=by rfl):PE X (.Call (.Attribute o "bit_length" apos) [] [] cpos) (lE (blD t)) :=
 aQ6 (bh8 ho hbase hline) λσ H Q ⟨B,F,δ,ts,Qd,c,q,k⟩=>⟨B,F,δ,ts,_,c,q,λd δ1 v F1 H1 q1 f1 h1 c1 s1=>by
  cases s1 with
  | int _=>exact ⟨rfl,_,rfl,rfl,k _ δ1 _ F1 H1 q1 f1 h1 (c1.pushS (.int .nil) rfl)⟩
  | _=>exact q1.elim⟩
end
end L3
namespace L3
open PySem L2 PySem.Spec PyProof.Rows
section
variable {X:Cx} {F H:Hp} {v w:V} {e a b c o tg:Expr} {es:List Expr} {pos p p2 apos cpos pos':Pos} {t ta tb tc te ti:TEd} {tr:TAd} {x:Str} {i:Nat}
noncomputable def cg8 (i:Nat) (t:TEd):TSd:=λD δ=>(∃xs,δ[i]?=some (some (.lst true xs)))/\t δ λd δ'=>∃xs,δ'[i]?=some (some (.lst true xs))/\xs.length < sizeLine/\D.nx (δ'.set i (some (.lst true (xs++[d]))))
theorem a77 (hN:X.N[i]?=some x) (hv:Vis X.env.scope x) (he:PE X e (lE t)) (hd:(x == ("__debug__":Str))=false:=by decide) (hcd:(x == ("__classdict__":Str))=false:=by decide)
  (hbase:attributeBase (.Name x p) "append" X.env (eval (.Name x p) X.env)=eval (.Name x p) X.env:=by rfl)
  (hfew:((backTo cpos (starEach [e] X.env)).all (λx=>!x.1) && (backToKw cpos (keywordEach [] X.env)).all (λx=>x.1.isSome)
   && decide ([e].length + ([]:List Keyword).length + (if ([]:List Keyword).isEmpty then 0 else 1) < 30))=true:=by rfl)
  (hline:(apos.endLine == cpos.line)=true:=by rfl) (hs:starEach [e] X.env=(false,eval e X.env) :: starEach [] X.env:=by rfl) (hplain:(backTo cpos (starEach [] X.env)).any (·.1)=false:=by rfl)
  (hsw:swapsWith (.Call (.Attribute (.Name x p) "append" apos) [e] [] cpos) none pos.line X.env=pure false:=by rfl) :
  PS X (.Expr (.Call (.Attribute (.Name x p) "append" apos) [e] [] cpos) pos) (lS X (cg8 i t)) :=
 aY6 (bg6 (cx7 PySem.F.plainAttrs_list PySem.F.slot_list_append PySem.F.type_list_append bs7 (bd3 hN hv hd hcd) (aS1 he a02 hs) hbase hfew hline hs hplain) hsw) λEn σ H zz=>by
  obtain ⟨B,F,δ,Dd,c,⟨⟨ys,ey⟩,q⟩,k1,k2,k3,k4⟩:=zz
  obtain ⟨p0,ws0,g1,g2,g3⟩:=c.ownAt ey
  refine ⟨.ref p0,g1,.inl ⟨rfl,_,SqL.of g2⟩,B,F,δ,[],_,c,q,λd δ' v F' H' hd sf sh c'=>?_⟩
  obtain ⟨xs,ex,hl,hn⟩:=hd
  obtain ⟨p1,ws,r1,r2,r3⟩:=c'.ownAt ex
  rw [g1] at r1; cases r1
  exact ⟨p0,ws,v,rfl,rfl,r2,by omega,k1 _ _ F' _ hn (c'.app ex g1 r2)⟩
noncomputable def bB5 (i:Nat) (te ti:TEd):TSd:=λD δ=>te δ λd δ1=>∃ys,δ1[i]?=some (some (.lst true ys))/\dPl ti δ1 λk δ2=>match k with
 | .int n=>∃xs j,δ2[i]?=some (some (.lst true xs))/\ixN xs.length n=some j/\D.nx (δ2.set i (some (.lst true (xs.set j d))))
 | _=>False
theorem bA1 (hN:X.N[i]?=some x) (hv:Vis X.env.scope x) (he:PE X e (lE te)) (hi:PE X b (lB ti)) (hd:(x == ("__debug__":Str))=false:=by decide) (hcd:(x == ("__classdict__":Str))=false:=by decide)
  (ha:∀v,assign (.Subscript (.Name x p) b pos') X.env v=(do
   let ov<-holding [v] (eval (.Name x p) X.env)
   let iv<-holding [v,ov] (eval b X.env)
   standAt pos'
   holding [v,ov,iv] (setItem ov iv v)
   release [v,ov,iv] []):=by intro _; rfl)
  (hs:swapsWithSole [.Subscript (.Name x p) b pos'] e pos.line X.env=pure false:=by rfl) (hw:swappedStores [.Subscript (.Name x p) b pos'] e X.env=pure none:=by rfl)
  (h1:(assignEach [.Subscript (.Name x p) b pos'] X.env).map (·.2)=[assign (.Subscript (.Name x p) b pos') X.env]:=by rfl) :
  PS X (.Assign [.Subscript (.Name x p) b pos'] e pos) (lS X (bB5 i te ti)) :=
 aY6 (cn5 he (cm3 (bd3 hN hv hd hcd) (ba9 hi) bQ7 ha) hs hw h1) λEn σ H ⟨B,F,δ,Dd,c,q,k1,k2,k3,k4⟩=>⟨B,F,δ,[],_,c,q,λd δ1 v F1 H1 hq f1 h1 c1=>by
  obtain ⟨ys,ey,hq⟩:=hq
  obtain ⟨p0,ws0,g1,g2,g3⟩:=c1.ownAt ey
  refine ⟨.ref p0,g1,B,F1,δ1,[(d,v)],_,c1,hq,λkd δ2 kv F2 H2 hk f2 h2 c2=>?_⟩
  have st:=c2.top
  split at hk
  ·obtain ⟨xs,j,ex,ej,hn⟩:=hk
   cases st
   have c3:=c2.pop
   obtain ⟨p1,ws,r1,r2,r3⟩:=c3.ownAt ex
   rw [g1] at r1; cases r1
   exact ⟨p0,ws,_,j,rfl,rfl,r2,by rw [<-r3]; exact ej,k1 _ _ F2 _ hn (c3.setI ex g1 r2 j)⟩
  ·exact hk.elim⟩
theorem R.dropLast1:∀{xs:List D} {ws:List V} {A:List Addr},R F H xs ws A->A.Nodup->∃A',R F H xs.dropLast ws.dropLast A'/\A'.Nodup/\∀a∈A',a∈A
 | [],_,A,r,nd=>by cases r; exact ⟨[],.nil,by simp,by simp⟩
 | [d],_,A,r,nd=>by
  obtain ⟨w,ws',B1,B2,rfl,rfl,h1,h2⟩:=r.uncons
  cases h2
  exact ⟨[],.nil,by simp,by simp⟩
 | d :: d' :: ds,_,A,r,nd=>by
  obtain ⟨w,ws',B1,B2,rfl,rfl,h1,h2⟩:=r.uncons
  obtain ⟨n1,n2,n3⟩:=nd_app.mp nd
  obtain ⟨A',r',nd',sub⟩:=R.dropLast1 h2 n2
  have hl:ws'≠[]:=by have:=h2.length; intro z; rw [z] at this; simp at this
  refine ⟨B1++A',?_,nd_app.mpr ⟨n1,nd',λa ha hb=>n3 a ha (sub a hb)⟩,λa ha=>?_⟩
  ·rw [List.dropLast_cons_of_ne_nil (by simp),List.dropLast_cons_of_ne_nil hl]
   exact h1.cons r'
  ·rcases List.mem_append.mp ha with z | z
   ·simp [z]
   ·simp [sub a z]
noncomputable def cg9 (i:Nat):TSd:=λD δ=>∃xs,δ[i]?=some (some (.lst true xs))/\xs≠[]/\D.nx (δ.set i (some (.lst true xs.dropLast)))
theorem cv2 (hN:X.N[i]?=some x) (hv:Vis X.env.scope x) (hd:(x == ("__debug__":Str))=false:=by decide) (hcd:(x == ("__classdict__":Str))=false:=by decide)
  (hbase:attributeBase (.Name x p) "pop" X.env (eval (.Name x p) X.env)=eval (.Name x p) X.env:=by rfl) (hline:(apos.endLine == cpos.line)=true:=by rfl)
  (hsw:swapsWith (.Call (.Attribute (.Name x p) "pop" apos) [] [] cpos) none pos.line X.env=pure false:=by rfl) :
  PS X (.Expr (.Call (.Attribute (.Name x p) "pop" apos) [] [] cpos) pos) (lS X (cg9 i)) :=
 aY6 (bg6 (bL2 PySem.F.plainAttrs_list PySem.F.slot_list_pop PySem.F.type_list_pop cn7 (bd3 hN hv hd hcd) hbase hline) hsw) λEn σ H zz=>by
  obtain ⟨B,F,δ,Dd,c,⟨ys,ey,hne,hn⟩,k1,k2,k3,k4⟩:=zz
  obtain ⟨p0,ws0,g1,g2,g3⟩:=c.ownAt ey
  have hl:0 < ws0.length:=by rw [<-g3]; exact List.length_pos_iff.mpr hne
  refine ⟨.ref p0,g1,.inl ⟨rfl,_,SqL.of g2⟩,p0,ws0,_,rfl,rfl,g2,List.getElem?_eq_getElem (by omega),k1 _ _ F _ hn ?_⟩
  exact Cur.mut (ps:=[]) c ey g1 λws' A1 A2 h r1 r2 nd=>by
   rw [g2] at h; cases h
   obtain ⟨A',r',nd',sub⟩:=r1.dropLast1 (nd_app.mp nd).1
   exact ⟨A',r',nd',λa ha=>List.mem_append_left _ (sub a ha)⟩
end
end L3
namespace L3
open PySem L2 PySem.Spec PyProof.Rows
theorem hu6 {A:Around} {k:Nat} (hr:Room k A):A.units + 6 < cLine:=by have:=hr.un; omega
noncomputable def aR7 (ns:List Int):List D:=ns.map D.int
noncomputable def bM2 (o:Obj):Bool:=match o.cls with
 | .type n=>n != "list"
 | _=>true
noncomputable def bX7:SpD:=λds Q=>∃ns:List Int,ds=[.fz (aR7 ns)]/\ns.length<=63/\Q (.bl true)
theorem a71 {F H:Hp}:∀ns:List Int,R F H (aR7 ns) (ns.map V.int) []
 | []=>.nil
 | n :: ns=>.int (a71 ns)
theorem bu7 {K:PySem.W.Frag} {a:Addr} {o:Obj} (h:K.lookup a=some o):(a,o)∈K:=by
 induction K with
 | nil=>cases h
 | cons p K ih =>
  obtain ⟨b,u⟩:=p
  rw [List.lookup_cons] at h
  split at h
  ·rename_i z
   have:a=b:=by simpa using z
   cases h; subst this; simp
  ·exact List.mem_cons_of_mem _ (ih h)
end L3
namespace L3
open PySem L2 PySem.Spec PyProof.Rows
section
variable {B:Bs} {F H:Hp} {σ:L2.St} {δ:Dl} {ts ps:List (D × V)} {i k:Nat} {p q:Addr} {l1 l2 ys ys':List D} {ws us':List V}
end
section
variable {X:Cx} {F H:Hp} {e b:Expr} {pos p pr apos cpos ipos:Pos} {t ti te:TEd} {x y:Str} {i j:Nat}
end
end L3
namespace L3
open PySem L2 PySem.Spec PyProof.Rows
theorem br6 (i:Int):(D.int i).pl=true:=rfl
theorem bI5 (i:Bool):(D.bl i).pl=true:=rfl
theorem bq5 (i:Str):(D.str i).pl=true:=rfl
theorem bt1:D.non.pl=true:=rfl
theorem bL7 (xs:List D):(D.fz xs).pl=true:=rfl
theorem bq4 (C:Addr) (ns:List Str) (xs:List D):(D.obj C ns xs).pl=true:=rfl
theorem bq2 (i:Int):(D.int i).fr=true:=rfl
theorem bG8 (i:Bool):(D.bl i).fr=true:=rfl
theorem bp2 (i:Str):(D.str i).fr=true:=rfl
theorem br5:D.non.fr=true:=rfl
theorem bd4 (i:Int):(D.int i).sh=.int i:=rfl
theorem bL5 (i:Bool):(D.bl i).sh=.bl i:=rfl
theorem br4 (i:Str):(D.str i).sh=.str i:=rfl
theorem bq3:D.non.sh=.non:=rfl
theorem bO3 (xs:List D):(D.fz xs).sh=.fz xs:=rfl
theorem br8 (C:Addr) (ns:List Str) (xs:List D):(D.obj C ns xs).sh=.obj C ns xs:=rfl
theorem bf5 {α:Type} (n:Nat) (x:α):(List.replicate n [x]).flatten=List.replicate n x:=by
 induction n with
 | zero=>rfl
 | succ n ih=>rw [List.replicate_succ,List.flatten_cons,ih]; rfl
theorem aX7 (ns:List Int):(aR7 ns).length=ns.length:=by simp [aR7]
theorem a67 (ns:List Int):(aR7 ns).all D.pl=true:=by simp [aR7,D.pl]
theorem a98 (ns:List Int):(aR7 ns).all D.fr=true:=by simp [aR7,D.fr]
theorem aX2 (ns:List Int):(aR7 ns).map D.sh=aR7 ns:=by simp [aR7,D.sh]
theorem a50 (a b:List Int):aR7 a++aR7 b=aR7 (a++b):=by simp [aR7]
theorem bb1 (n:Nat) (i:Int):List.replicate n (D.int i)=aR7 (List.replicate n i):=by simp [aR7]
theorem bc2 (n:Nat) (i:Int):eqK n (.int i)=true:=by cases n <;> rfl
theorem bf7 (n:Nat) (i:Str):eqK n (.str i)=true:=by cases n <;> rfl
theorem aZ6 (i j:Int):deq (.int i) (.int j)=decide (i=j):=by
 show (i == j)=_
 rw [Bool.beq_eq_decide_eq]
theorem bs3:∀(a b:List Int),deq.deqL (aR7 a) (aR7 b)=decide (a=b)
 | [],[]=>rfl
 | [],_ :: _=>by simp [aR7,deq.deqL]
 | _ :: _,[]=>by simp [aR7,deq.deqL]
 | x :: xs,y :: ys=>by
  show (deq (.int x) (.int y) && deq.deqL (aR7 xs) (aR7 ys))=_
  rw [bs3 xs ys,aZ6,Bool.eq_iff_iff]; simp
theorem a85 (o o':Bool) (a b:List Int):deq (.lst o (aR7 a)) (.lst o' (aR7 b))=decide (a=b):=bs3 a b
theorem bP8 {ns:List Int} {k:Nat} (h:k < ns.length):(aR7 ns)[k]?=some (.int ns[k]):=by simp [aR7,h]
theorem aW1 {ns:List Int} {k:Int} (h0:0<=k) (h:k < ns.length):atI (aR7 ns) k=some (.int (ns.getD k.toNat 0)):=by
 unfold atI ixN
 rw [if_pos h0,aX7,if_pos h]
 show (aR7 ns)[k.toNat]?=_
 have hk:k.toNat < ns.length:=by omega
 rw [bP8 hk,List.getD_eq_getElem?_getD,List.getElem?_eq_getElem hk]; rfl
theorem a78 (ns:List Int) (lo hi:Option Int):bi1 (aR7 ns) lo hi=aR7 (bi1 ns lo hi):=by simp [bi1,aR7,List.map_drop,List.map_take]
theorem aY8 (i:Int):isK "int" (.int i)=some true:=by rfl
theorem aX0 (i:Int):isK "bool" (.int i)=some false:=by rfl
theorem aW5 (i:Int):isK "list" (.int i)=some false:=by rfl
theorem aW7 (o:Bool) (xs:List D):isK "list" (.lst o xs)=some true:=by rfl
theorem aY9:isK "int" .non=some false:=by rfl
theorem aY1 (x:Str):isK "str" (.str x)=some true:=by rfl
theorem aV0 (xs:List D):isK "tuple" (.tup xs)=some true:=by rfl
theorem sL:sizeLine=16777216:=rfl
theorem cp7 {p:Prop} [Decidable p]:(decide p=true)=p:=by simp
theorem cc6 {α:Type} (xs:List α) (a b:Nat):bi1 xs (some (a:Int)) (some (b:Int))=(xs.drop a).take (b - a):=by
 unfold bi1
 rw [HT.sIx_nat,HT.sIx_nat]
 by_cases h:a<=xs.length
 ·rw [Nat.min_eq_left h]
  apply List.ext_getElem?
  intro i
  rw [List.getElem?_take,List.getElem?_take,List.getElem?_drop]
  by_cases hi:i < b - a
  ·rw [if_pos hi]
   by_cases hb:a + i < xs.length
   ·rw [if_pos (by omega)]
   ·rw [List.getElem?_eq_none (by omega)]; simp
  ·rw [if_neg hi,if_neg (by omega)]
 ·rw [Nat.min_eq_right (show xs.length<=a by omega),List.drop_eq_nil_of_le (Nat.le_refl _),List.drop_eq_nil_of_le (show xs.length<=a by omega)]; simp
end L3
namespace L2
open PySem PySem.Spec PyProof.Rows
section
variable {X:Cx} {e:Expr} {te:TE} {lo hi:Option Expr} {st:Expr} {tl th ts:TO} {pos p2:Pos}
noncomputable def b71 {α:Type} (xs:List α) (lo hi st:Option Int):List α:=(sliceRange (sliceBounds lo hi st xs.length).1 (sliceBounds lo hi st xs.length).2.1 (sliceBounds lo hi st xs.length).2.2).filterMap (xs[·]?)
end
end L2
namespace L3
open PySem L2 PySem.Spec PyProof.Rows
section
variable {X:Cx} {F H:Hp} {e:Expr} {t:TEd} {lo hi:Option Expr} {st:Expr} {tl th td:TOd} {pos p2:Pos}
theorem b55:∀{a:List Int} {ws:List V},S F H (aR7 a) ws->ws=a.map V.int
 | [],_,s=>by cases s; rfl
 | b :: bs,_,s=>by
  cases s with
  | int s=>rw [b55 s]; rfl
noncomputable def cz5:Rdc:=λds Q=>match ds with
 | [.lst _ xs]=>∃a,xs=aR7 a/\Q (.int a.sum)
 | _=>False
theorem S.pickI {xs:List D} {ws:List V} (s:S F H xs ws):∀ix:List Nat,S F H (ix.filterMap (xs[·]?)) (ix.filterMap (ws[·]?))
 | []=>.nil
 | i :: ix=>by
  rw [List.filterMap_cons,List.filterMap_cons]
  cases e:xs[i]? with
  | none =>
   have:ws[i]?=none:=by
    have:=s.length
    rw [List.getElem?_eq_none_iff] at e ⊢
    omega
   rw [this]; exact S.pickI s ix
  | some x =>
   obtain ⟨u,e2,q⟩:=s.get e
   rw [e2]
   exact q.cons (S.pickI s ix)
theorem S.pick {xs:List D} {ws:List V} (s:S F H xs ws) (l u d:Option Int):S F H (b71 xs l u d) (b71 ws l u d):=by
 unfold b71; rw [<-s.length]; exact s.pickI _
noncomputable def b72:Expr->Option Int
 | .Constant (.int i) _ _=>some i
 | _=>none
noncomputable def bx8:List Expr->Option (List Int)
 | []=>some []
 | e :: es=>(b72 e).bind λi=>(bx8 es).map (i :: ·)
theorem bR8 {e:Expr} {i:Int} (h:b72 e=some i):∃a b,e=.Constant (.int i) a b:=by
 cases e with
 | Constant c a b =>
  cases c with
  | int j=>cases h; exact ⟨_,_,rfl⟩
  | _=>cases h
 | _=>cases h
noncomputable def cy1 (ns:List Int):TAd:=λδ Q=>Q (aR7 ns) δ
theorem bZ3:∀(es:List Expr) (ns:List Int),bx8 es=some ns->PA X es (lO (cy1 ns))
 | [],ns,h=>by cases h; exact aX6
 | e :: es,ns,h=>by
  obtain ⟨i,hi,h2⟩:=Option.bind_eq_some_iff.mp (show (b72 e).bind (λi=>(bx8 es).map (i :: ·))=some ns from h)
  obtain ⟨ms,hm,rfl⟩:=Option.map_eq_some_iff.mp h2
  obtain ⟨a,b,rfl⟩:=bR8 hi
  exact bh5 (aU3 (aP2 (i:=i)) (bZ3 es ms hm)) λ_ _ _ q=>q
noncomputable def bD0 (ns:List Int):TEd:=λδ Q=>ns.length<=sizeLine/\Q (.lst true (aR7 ns)) δ
theorem b61 {es:List Expr} {ns:List Int} (h:bx8 es=some ns):PE X (.List es pos) (lE (bD0 ns)) :=
 aQ6 (a09 (bZ3 es ns h)) λ_ _ _ ⟨B,F,δ,ts,Qd,c,q,k⟩=>⟨B,F,δ,ts,Qd,c,by
  show (aR7 ns).length<=sizeLine/\_
  rw [aX7]; exact q,k⟩
noncomputable def tab (f:Nat->Int) (n:Nat):List Int:=(List.range n).map f
theorem bF6 {n:Nat} {g:TGd} {tb:TSd} {En:EndsD} {δ:Dl} (Iv:Nat->Dl->Prop) (h0:Iv 0 δ) (ht:∀k δ',k < n->Iv k δ'->g (.int k) δ' λδ2=>tb { En with nx:=Iv (k + 1),ct:=Iv (k + 1),bk:=En.nx } δ2)
  (hf:∀δ',Iv n δ'->En.nx δ'):dForB (List.map (λ(k:Nat)=>D.int (0 + (k:Int))) (List.range (n:Int).toNat)) g tb En δ:=by
 rw [Int.toNat_natCast]
 refine dForB.mk Iv h0 (λi d δ' hd iv=>?_) λδ' iv=>hf δ' (by simpa using iv)
 rw [List.getElem?_map] at hd
 obtain ⟨k,hk,rfl⟩:=Option.map_eq_some_iff.mp hd
 have hi:i < n:=by have:=(List.getElem?_eq_some_iff.mp hk).1; simpa using this
 rw [List.getElem?_range hi] at hk
 cases hk
 rw [Int.zero_add]
 exact ht i δ' hi iv
theorem a76 {xs:List D} {k:Int} {d:D} (h0:0<=k) (h:xs[k.toNat]?=some d):atI xs k=some d:=by
 unfold atI ixN
 have hk:k.toNat < xs.length:=(List.getElem?_eq_some_iff.mp h).1
 rw [if_pos h0,if_pos (by omega)]
 exact h
end
end L3
namespace L3
open PySem L2 PySem.Spec PyProof.Rows
noncomputable abbrev SpX:=List D->(D->Prop)->(Addr->Prop)->Prop
noncomputable def cm4 (sp:SpX):Sp:=λvs H Q E=>∃F ds Qd Ed,Same F H/\R F H ds vs []/\sp ds Qd Ed/\(∀d v F' H' A,Qd d->Same H H'->Same F F'->Same F' H'->(∀a ws,F' a=some (.lst ws)->F a=some (.lst ws)\/H a=none)->R F' H' [d] [v] A->A.Nodup->(∀a∈A,H a=none)->Q v H') /\
 ∀C H',Ed C->Same H H'->E (.ref C) none H'
section
variable {P:Program} {w:World} {K:PySem.W.Frag} {mg:Str->Option Value} {base:Heap}
theorem b51 {x qual:Str} {st:Stmt} {f:Addr} {fd:FuncData} {N ps:List Str} {k:Nat} {sp:SpX} (F:Fun K x qual st f fd) (S:FnScope N ps (aO3 st)) (len:∀ds Q E,sp ds Q E->ds.length=ps.length)
  (hbody:∀(cdv:Value) (A:Around) (outer:List Env) (s:Shared) (H:Hp) (E:XK),Room k (A.deeper (envOfC qual (aO3 st) s.heap.objs.size f cdv)) ->
   ∃t:TSd,PSs (bB2 (CX1 P w) P w K mg base N qual (aO3 st) f cdv A outer s H E) (aO9 st) (lS (bB2 (CX1 P w) P w K mg base N qual (aO3 st) f cdv A outer s H E) t) /\
    ∀ds Q Ex,sp ds Q Ex->t { nx:=λ_=>Q .non,rt:=Q,xc:=λC _=>Ex C,xr:=λC _=>Ex C } (a62 N ds)):FnOk P w K mg base (CX1 P w) (k + 1) f fd ps (cm4 sp):=by
 obtain ⟨oc,od,kV,doc,pm,an,cdv,ct,osl,rfl,lk,hcd⟩:=F.ex
 refine cc2 lk hcd S (λvs H Q E ⟨F,ds,Qd,Ed,e,r,h,_⟩=>by rw [<-r.length]; exact len ds Qd Ed h) λA outer s H vs Q E hr zz=>?_
 obtain ⟨F,ds,Qd,Ed,e,r,h,k,kx⟩:=zz
 obtain ⟨t,ht,hq⟩:=hbody cdv A outer s H E hr
 have fin:∀d v δ' σ' F' H',Qd d->Cur ⟨H,F⟩ F' H' σ' δ' [(d,v)]->Q v H':=λd v δ' σ' F' H' hd c=>by
  obtain ⟨A,C,r',s',nd,fr⟩:=c.own
  exact k d v F' H' A hd c.b1 c.b2 c.ext c.b3 r' (nd_app.mp nd).1 λa ha=>fr a (List.mem_append_left _ ha)
 have e1:L2.start N vs=vs.map some++List.replicate (N.length - ds.length) none:=by unfold L2.start; rw [r.length]
 refine ⟨_,ht,⟨H,F⟩,F,a62 N ds,_,?_,hq ds Qd Ed h,λδ' σ' F' H' hd c=>fin .non .non δ' σ' F' H' hd (c.pushS (.non .nil) rfl),fin,λ_ _ _ _ z=>z.elim,λ_ _ _ _ z=>z.elim,λC δ' pins σ' F' H' s' a T hx c I tr pa pT=>?_,λC δ' pins σ' F' H' s' h' e vs hx c I hm=>?_⟩
 ·rw [e1]
  exact Cur.start e r _
 ·exact bH3 I rfl rfl rfl tr pa pT λh' T' g=>⟨a,T',.ref C,H',rfl,I.os,I.bare,g.un,g.hok,g.trc,g.a0,g.a1,g.t0,g.t1,kx C H' hx c.b1⟩
 ·exact bI0 I rfl rfl rfl hm λh' T' g=>⟨e,T',.ref C,H',rfl,I.os,I.bare,g.un,g.hok,g.trc,g.a0,g.a1,g.t0,g.t1,kx C H' hx c.b1⟩
end
noncomputable abbrev cA7:=Dl->(D->Dl->Prop)->(Addr->Dl->Prop)->Prop
section
variable {X:Cx} {n:Nat} {f:Addr} {fd:FuncData} {ps:List Str} {sp:SpX} {x:Str} {p pos:Pos} {e:Expr} {es:List Expr} {t:TAd} {tx:cA7}
noncomputable def ch5 (t:TSd):TSd:=λD δ=>t { D with xc:=λ_ _=>False,xr:=λ_ _=>False } δ
theorem cy5 {st:Stmt} {u:TSd} (h:PS X.nox st (lS X.nox u)):PS X st (lS X (ch5 u)):=by
 intro pins s σ H D I zz
 obtain ⟨B,F,δ,Dd,c,q,k1,k2,k3,k4,xl⟩:=zz
 exact wpAny_mono (h pins s σ H D (I.wish _) ⟨B,F,δ,_,c,q,k1,k2,k3,k4,XL.none (λ_ _ z=>z) λ_ _ z=>z⟩) (λ_ _ q=>q.unwish) λ_ _ z=>False.elim z
noncomputable def bj2 (C:Addr) (t:TAd):TSd:=λD δ=>t δ λds δ'=>ds.length<=9/\D.xr C δ'
structure XMk (K:PySem.W.Frag) (mg:Str->Option Value) (x:Str) (C:Addr):Prop where
 own:∀h:Heap,K.In h->h.Ns mainGlobals mg->∃newId Bn inN bmN B nid initId bmB,OwnCls x C bmB newId mg h/\ExcBaseFacts Bn newId inN bmN/\bmB.contains (.type Bn)=true/\ExcBaseFacts B nid initId bmB
theorem bO1 {C:Addr} {np cpos:Pos} (hm:XMk X.K X.mg x C) (hc:X.calm=true) (hg:Gl X x) (ha:PA X (e :: es) (lA t)) (hdb:(x == ("__debug__":Str))=false:=by decide)
  (he:starEach (e :: es) X.env=(false,eval e X.env) :: starEach es X.env:=by rfl) (hpl:(backTo cpos (starEach es X.env)).any (·.1)=false:=by rfl) :
  PS X (.Raise (some (.Call (.Name x np) (e :: es) [] cpos)) none pos) (lS X (bj2 C t)):=by
 intro pins s σ H D I zz
 obtain ⟨B,F,δ,Dd,c,q,k1,k2,k3,k4,xl⟩:=zz
 obtain ⟨newId,Bn,inN,bmN,B',nid,initId,bmB,O,Fn,hBn,FB⟩:=hm.own X.base I.ok.mod.kin I.ok.mod.glob
 obtain ⟨tl,N,nm,qn,bs,hdct,sn,sub,ab,col,dd,k0,k1',k2',k3',k5,mN,hC,hN,hni,T⟩:=O.obj
 refine wpAny_Raise_call_subU (k5:=k5) (k3:=k3') (k2:=k2') (k1:=k1') (k0:=k0) (dd:=dd) (col:=col) (ab:=ab) (sub:=sub) (sn:=sn) (hdct:=hdct) (bs:=bs) (N:=N) (q:=qn) (nm:=nm) (C:=C) Fn hBn FB (mN:=mN) (T.hasType FB.hasBase) (I.ok.hd hc) (by rw [he]; show (false || (backTo cpos (starEach es X.env)).any (·.1))=false; rw [hpl]; rfl) hni (bm4 I hg O.bound ⟨rfl,?_⟩ hdb)
 have ha':=ha cpos pins s σ H (λvs H1=>vs.length<=9/\∃δ' F',Dd.xr C δ'/\Cur B F' H1 σ δ' []) I ⟨B,F,δ,[],_,c,q,λds δ1 vs F1 H1 q1 f1 h1 c1 s1=>⟨by rw [<-s1.length]; exact q1.1,δ1,F1,q1.2,c1⟩⟩
 rw [he] at ha' ⊢
 refine Calls.evalArgs_plain (wpAny_mono ha' (λus s2 h2=>?_) λ_ _ y=>y)
 obtain ⟨vs,H1,I1,r,hl,δ',F',hx,c'⟩:=h2
 exact ⟨rfl,by rw [<-r.length]; exact Nat.le_trans hl (by decide),I1.bk _ _ hC,hN.keeps I1.bk,T.keeps I1.bk,λh' e' hm'=>xl.2 C δ' pins σ F' H1 s2 h' e' _ hx c' I1 hm'⟩
end
end L3
namespace L3
open PySem L2 PySem.Spec PyProof.Rows
section
variable {X:Cx} {pins pins':List (Addr × Obj)} {σ:L2.St} {H:Hp} {s:Shared} {a:Addr}
noncomputable abbrev tr (X:Cx) (xe:Value->Shared->Prop) (pn:List (Addr × Obj)):Cx:={ X with xe:=xe,pn:=pn }
end
noncomputable abbrev exc (C:Addr):D:=.clo (.ext λa=>XAt a C)
section
variable {X:Cx} {tb th:TSd} {body suite:List Stmt} {b₀:Stmt} {K n:Str} {Kc:Addr} {i:Nat} {kp hpos pos:Pos}
end
end L3
namespace L3
open PySem L2 PySem.Spec PyProof.Rows
section
variable {X:Cx} {F H:Hp} {v:V} {a:Expr} {ta:TEd} {p pos:Pos}
end
section
variable {K:PySem.W.Frag} {mg:Str->Option Value} {x:Str} {C:Addr}
theorem co9 (hm:mg x=some (.ref C)) (q:PySem.W.excIn K C [.type "ValueError",.type "Exception",.type "BaseException",.type "object"] "ValueError.__new__"=true):XMk K mg x C:=by
 refine ⟨λh X G=>⟨"ValueError.__new__","ValueError",_,_,"ValueError",_,_,[.type "ValueError",.type "Exception",.type "BaseException",.type "object"],?_,PySem.F.excBase_ValueError,rfl,PySem.F.excBase_ValueError⟩⟩
 refine ⟨hm,?_⟩
 unfold PySem.W.excIn at q
 split at q
 ·rename_i dd cd sl ho
  split at q
  ·rename_i C' bm k0 k1 k2 k3 n k5 hm hs
   simp only [Bool.and_eq_true,beq_iff_eq,Bool.not_eq_true'] at q
   obtain ⟨⟨⟨⟨⟨rfl,rfl⟩,hdel⟩,ht⟩,hok⟩,hni⟩:=q
   obtain ⟨nm,bs,mro,ns,qn,hd,sn,sub,ab,col,del⟩:=cd
   dsimp only at hm hdel hok hni
   subst hm hdel
   have hsl:sl=#[k0,k1,k2,k3,some (.builtin "ValueError.__new__"),k5]:=by
    obtain ⟨l⟩:=sl
    simp only at hs
    rw [hs]
   subst hsl
   exact ⟨bm,ns,nm,qn,bs,hd,sn,sub,ab,col,dd,k0,k1,k2,k3,k5,_,X _ _ ho,.of_isNs (PySem.W.isNs_of_in X hok),PySem.W.nsMap_none_of_in X hok hni,PySem.W.tail_of_in X ht⟩
  ·cases q
 ·cases q
end
theorem b79 {P:Program} {w:World} {X:Cx}:a93 (CX1 P w) X E0:=by
 rintro _ _ _ _ _ _ _ ⟨_,_,_,_,_,_,_,_,_,_,_,_,_,_,z⟩
 exact z.elim
theorem bu2 {P:Program} {w:World} {K:PySem.W.Frag} {mg:Str->Option Value} {base:Heap} {k:Nat} {f:Addr} {fd:FuncData} {ps:List Str} {sp:SpX} (h:FnOk P w K mg base (CX1 P w) k f fd ps (cm4 sp)) :
  FnOk P w K mg base (CX1 P w) k f fd ps (lSp λds Q=>sp ds Q λ_=>False) :=
 h.imp λvs H Q E ⟨F,ds,Qd,e,r,q,k⟩=>⟨F,ds,Qd,_,e,r,q,k,λ_ _ z=>z.elim⟩
end L3
namespace L3
open PySem L2 PySem.Spec PyProof.Rows
theorem bo8 {CX:CXT} {P:Program} {w:World} {K:PySem.W.Frag} {mg:Str->Option Value} {base:Heap} {N:List Str} {q:Str} {sc:Scope} {f:Addr} {cdv:Value} {A:Around} {outer:List Env} {s:Shared} {H:Hp} {E:XK}:(bB2 CX P w K mg base N q sc f cdv A outer s H E).K=K:=rfl
theorem br3 (φ:CloD):(D.clo φ).pl=true:=rfl
theorem bq0 (φ:CloD):(D.clo φ).sh=.clo φ:=rfl
end L3
namespace L3
open PySem L2 PySem.Spec PyProof.Rows
theorem bH7 {X:Cx}:X.nox.K=X.K:=rfl
end L3
namespace L3
open PySem L2 PySem.Spec PyProof.Rows
noncomputable def bc0 (xs ys:List D):List D:=List.zipWith (λx y=>D.tup [x,y]) xs ys
noncomputable def a74 (xs:List D):List D:=xs.mapIdx λi x=>D.tup [.int i,x]
theorem bt6 (xs ys:List D):(bc0 xs ys).map D.sh=bc0 (xs.map D.sh) (ys.map D.sh):=by
 unfold bc0
 rw [List.map_zipWith,List.zipWith_map]
 congr 1
theorem bH0 {xs ys:List D} (h1:xs.all D.pl=true) (h2:ys.all D.pl=true):(bc0 xs ys).all D.pl=true:=by
 unfold bc0
 rw [List.all_eq_true] at h1 h2 ⊢
 intro d hd
 obtain ⟨i,hi,e⟩:=List.getElem_of_mem hd
 rw [List.getElem_zipWith] at e
 subst e
 rw [a75]
 simp only [List.all_cons,List.all_nil,Bool.and_true,Bool.and_eq_true]
 exact ⟨h1 _ (List.getElem_mem _),h2 _ (List.getElem_mem _)⟩
theorem bX3 (xs:List D):(a74 xs).map D.sh=a74 (xs.map D.sh):=by
 unfold a74
 apply List.ext_getElem?
 intro i
 simp only [List.getElem?_map,List.getElem?_mapIdx,Option.map_map]
 cases xs[i]? with
 | none=>rfl
 | some x =>
  show some (D.sh (.tup [.int i,x]))=some (D.tup [.int i,x.sh])
  rw [a94]; rfl
theorem bX2 {xs:List D} (h1:xs.all D.pl=true):(a74 xs).all D.pl=true:=by
 unfold a74
 rw [List.all_eq_true] at h1 ⊢
 intro d hd
 obtain ⟨i,hi,e⟩:=List.getElem_of_mem hd
 rw [List.getElem_mapIdx] at e
 subst e
 rw [a75]
 simp only [List.all_cons,List.all_nil,Bool.and_true,Bool.and_eq_true]
 exact ⟨rfl,h1 _ (List.getElem_mem _)⟩
theorem a03 (xs:List D):(a74 xs).length=xs.length:=by simp [a74]
theorem bo0 (xs ys:List D):(bc0 xs ys).length=min xs.length ys.length:=by simp [bc0]
section
variable {F H:Hp} {d:D} {v:V} {xs ys:List D} {ws us:List V} {p q:Addr} {K:PySem.W.Frag}
theorem ba7 (s:S F H [d] [v]) (e2:Same F H) (e:isL d=some xs):∃p ws,v=.ref p/\Rd H p (.lst ws)/\R H H (xs.map D.sh) ws []/\(d.pl=true->xs.all D.pl=true/\Rd F p (.lst ws)/\R F H xs ws []):=by
 cases s with
 | @shr p ws ys _ _ hp r _ =>
  obtain rfl:=Option.some.inj e
  refine ⟨p,ws,rfl,.inl (e2 _ _ hp),?_,λ_=>⟨r.pl,.inl hp,r⟩⟩
  rw [aU2 r.pl]
  exact r.shared e2 (Same.refl _)
 | @own p ws ys _ _ hp r _ =>
  obtain rfl:=Option.some.inj e
  exact ⟨p,ws,rfl,.inl hp,r.frozen e2,λz=>by simp [aW6] at z⟩
 | @fz p o ws ys _ _ hp r _ =>
  obtain rfl:=Option.some.inj e
  refine ⟨p,ws,rfl,.inr ⟨o,e2 _ _ hp⟩,?_,λ_=>⟨r.pl,.inr ⟨o,hp⟩,r⟩⟩
  rw [aU2 r.pl]
  exact r.shared e2 (Same.refl _)
 | non _=>cases e
 | bl _=>cases e
 | int _=>cases e
 | str _=>cases e
 | tup _ _ _=>cases e
 | obj _ _ _ _=>cases e
 | clo _ _=>cases e
theorem cs1 (r:R F H xs ws []) {i:Nat} (hi:i < xs.length) {x:V} (hx:ws[i]?=some x):R F H [xs[i]] [x] []:=by
 obtain ⟨v,A1,e2,r1,sub⟩:=r.get (List.getElem?_eq_getElem hi)
 rw [hx] at e2; cases e2
 have:A1=[]:=List.eq_nil_iff_forall_not_mem.mpr λa ha=>by simpa using sub ha
 subst this
 exact r1
theorem by2 (hp:Rd F p (.lst ws)) (r:R F H xs ws []) (hq:Rd F q (.lst us)) (t:R F H ys us []) (hF:Full F H):JD (Itz K p q) F (bc0 xs ys) where
 go:=λi H' hs hi=>by
  rw [bo0] at hi
  have l1:=r.length
  have l2:=t.length
  exact ⟨ws,us,_,_,.inl (aT7 hp hs),.inl (aT7 hq hs),List.getElem?_eq_getElem (show i < ws.length by omega),List.getElem?_eq_getElem (show i < us.length by omega)⟩
 yld:=λi H' v H2 hs hi zz=>by
  obtain ⟨T,x,y,e1,e2,e3,hx,hy⟩:=zz
  subst e1 e3
  have hi2:=hi
  rw [bo0] at hi2
  have h1:=cs1 (r.full hF hs rfl) (show i < xs.length by omega) (hx ws (.inl (aT7 hp hs)))
  have h2:=cs1 (t.full hF hs rfl) (show i < ys.length by omega) (hy us (.inl (aT7 hq hs)))
  have sm:=Same.upd (o:=.tup [x,y]) e2
  refine ⟨_,List.getElem?_eq_getElem hi,sm,?_⟩
  have eg:(bc0 xs ys)[i]=.tup [xs[i]'(by omega),ys[i]'(by omega)]:=by simp [bc0]
  rw [eg]
  exact R.tup (A:=[]) (B:=[]) aP7 ((h1.shared (Same.refl _) sm).cons (h2.shared (Same.refl _) sm)) .nil
 stop:=λi H' hs hi=>by
  rw [bo0] at hi
  have l1:=r.length
  have l2:=t.length
  exact ⟨ws,us,.inl (aT7 hp hs),.inl (aT7 hq hs),by omega⟩
theorem bO8 (hp:Rd F p (.lst ws)) (r:R F H xs ws []) (hF:Full F H):JD (Ite K p) F (a74 xs) where
 go:=λi H' hs hi=>by
  rw [a03] at hi
  have l1:=r.length
  exact ⟨ws,_,.inl (aT7 hp hs),List.getElem?_eq_getElem (show i < ws.length by omega)⟩
 yld:=λi H' v H2 hs hi zz=>by
  obtain ⟨T,x,e1,e2,e3,hx⟩:=zz
  subst e1 e3
  have hi2:=hi
  rw [a03] at hi2
  have h1:=cs1 (r.full hF hs rfl) hi2 (hx ws (.inl (aT7 hp hs)))
  have sm:=Same.upd (o:=.tup [.int i,x]) e2
  refine ⟨_,List.getElem?_eq_getElem hi,sm,?_⟩
  have eg:(a74 xs)[i]=.tup [.int i,xs[i]]:=by simp [a74]
  rw [eg]
  exact R.tup (A:=[]) (B:=[]) aP7 (.int (h1.shared (Same.refl _) sm)) .nil
 stop:=λi H' hs hi=>by
  rw [a03] at hi
  have l1:=r.length
  exact ⟨ws,.inl (aT7 hp hs),by omega⟩
end
section
variable {X:Cx} {a b:Expr} {ta:TAd} {p pos tpos:Pos} {elts:List Expr} {x1:Nat}
noncomputable def ci8 (t:TAd):TId:=λδ Q=>t δ λds δ'=>match ds with
 | [d1,d2]=>∃xs ys,isL d1=some xs/\isL d2=some ys/\Q (d1.pl && d2.pl) (bc0 xs ys) δ'
 | _=>False
theorem bL6 (hg:Gl X "zip") (hm:X.mg "zip"=none) (ha:PA X [a,b] (lA ta)) (hs:starEach [a,b] X.env=[(false,eval a X.env),(false,eval b X.env)]:=by rfl) (hs2:starEach [b] X.env=[(false,eval b X.env)]:=by rfl) :
  PI X (.Tuple elts x1 tpos) (.Call (.Name "zip" p) [a,b] [] pos) (lI (ci8 ta)) :=
 a96 (b52 hg hm ha hs hs2) λσ H Q ⟨B,F,δ,ts,Qd,c,q,k⟩=>⟨B,F,δ,ts,_,c,q,λds δ1 vs F1 H1 hd f1 h1 c1 s=>by
  match ds,hd,s with
  | [d1,d2],⟨xs,ys,i1,i2,hq⟩,s =>
   obtain ⟨v1,vs',rfl,s1,s2⟩:=s.uncons
   obtain ⟨v2,vs'',rfl,s2,s3⟩:=s2.uncons
   cases s3
   have e2:=c1.ext
   have sn:=aW4 e2
   obtain ⟨p1,w1,rfl,r1,t1,u1⟩:=ba7 s1 e2 i1
   obtain ⟨p2,w2,rfl,r2,t2,u2⟩:=ba7 s2 e2 i2
   refine ⟨p1,p2,rfl,⟨w1,.inl r1⟩,⟨w2,.inl r2⟩,k _ _ δ1 _ _ H1 hq (f1.trans sn) h1 c1.snap ?_ λz=>?_⟩
   ·rw [bt6]
    exact by2 r1 t1 r2 t2 (Full.refl _)
   ·rw [Bool.and_eq_true] at z
    obtain ⟨a1,a2,a3⟩:=u1 z.1
    obtain ⟨b1,b2,b3⟩:=u2 z.2
    exact ⟨bH0 a1 b1,by2 (aT7 a2 sn) (a3.shared sn (Same.refl _)) (aT7 b2 sn) (b3.shared sn (Same.refl _)) aZ1⟩⟩
noncomputable def bB8 (t:TAd):TId:=λδ Q=>t δ λds δ'=>match ds with
 | [d1]=>∃xs,isL d1=some xs/\Q d1.pl (a74 xs) δ'
 | _=>False
theorem aY2 (hg:Gl X "enumerate") (hm:X.mg "enumerate"=none) (ha:PA X [a] (lA ta)) (hs:starEach [a] X.env=[(false,eval a X.env)]:=by rfl) :
  PI X (.Tuple elts x1 tpos) (.Call (.Name "enumerate" p) [a] [] pos) (lI (bB8 ta)) :=
 a96 (cf4 hg hm ha hs) λσ H Q ⟨B,F,δ,ts,Qd,c,q,k⟩=>⟨B,F,δ,ts,_,c,q,λds δ1 vs F1 H1 hd f1 h1 c1 s=>by
  match ds,hd,s with
  | [d1],⟨xs,i1,hq⟩,s =>
   obtain ⟨v1,vs',rfl,s1,s2⟩:=s.uncons
   cases s2
   have e2:=c1.ext
   have sn:=aW4 e2
   obtain ⟨p1,w1,rfl,r1,t1,u1⟩:=ba7 s1 e2 i1
   refine ⟨p1,rfl,⟨w1,.inl r1⟩,k _ _ δ1 _ _ H1 hq (f1.trans sn) h1 c1.snap ?_ λz=>?_⟩
   ·rw [bX3]
    exact bO8 r1 t1 (Full.refl _)
   ·obtain ⟨a1,a2,a3⟩:=u1 z
    exact ⟨bX2 a1,bO8 (aT7 a2 sn) (a3.shared sn (Same.refl _)) aZ1⟩⟩
end
end L3
namespace L3
open PySem L2 PySem.Spec PyProof.Rows
section
variable {X:Cx} {F H:Hp} {e b:Expr} {pos p p2 p3 pr apos cpos ipos:Pos} {t ti te:TEd} {x y:Str} {i j:Nat}
theorem atI_nat {α:Type} {xs:List α} {k:Nat} {v:α} (h:xs[k]?=some v):atI xs (k:Int)=some v:=by
 unfold atI ixN
 have hk:k < xs.length:=(List.getElem?_eq_some_iff.mp h).1
 rw [if_pos (by omega),if_pos (by omega)]
 exact h
theorem cC8 {B:Bs} {σ:L2.St} {δ:Dl} {ts:List (D × V)} {l1 l2 ys:List D} {p0:Addr} {ws:List V} (c:Cur B F H σ δ ts) (e1:δ[i]?=some (some (.lst true (l1++.lst true ys :: l2)))) (g1:σ[i]?=some (some (.ref p0))) (g2:H p0=some (.lst ws)) :
  ∃q us,ws[l1.length]?=some (.ref q)/\H q=some (.lst us)/\ys.length=us.length/\S F H [.lst true ys] [.ref q]:=by
 obtain ⟨v,ev,sv⟩:=c.look e1
 rw [g1] at ev; cases ev
 cases sv with
 | own hh sx _ =>
  rw [g2] at hh; cases hh
  obtain ⟨v2,e2,s3⟩:=sx.get (i:=l1.length) (d:=D.lst true ys) (by rw [List.getElem?_append_right (Nat.le_refl _),Nat.sub_self]; rfl)
  have s4:=s3
  cases s3 with
  | own h3 s5 _=>exact ⟨_,_,e2,h3,s5.length,s4⟩
end
section
variable {X:Cx} {CX:CXT} {k:Nat} {f:Addr} {fd:FuncData} {ps:List Str} {sp:SpD} {E:XK} {fn x1 x2 y1 y2:Str} {i1 i2 j1 j2:Nat} {tk:Nat}
 {tp t1 t2 zp zpos q1 q2 fp fpos a1 a2 npos rpos bpos cp ipos pr apos cpos epos pos:Pos}
end
end L3
namespace L3
open PySem L2 PySem.Spec PyProof.Rows
theorem Cur.untup {B:Bs} {F H:Hp} {σ:L2.St} {δ:Dl} {ts:List (D × V)} {a b:D} {v:V} (c:Cur B F H σ δ ((.tup [a,b],v) :: ts)):∃p u w,v=.ref p/\H p=some (.tup [u,w])/\Cur B F H σ δ ((a,u) :: (b,w) :: ts):=by
 obtain ⟨A,C,r,s,nd,fr⟩:=c.own
 cases r with
 | @tup p ws xs A1 _ _ B1 hp r1 r2 =>
  obtain ⟨u,ws',A2,A3,rfl,rfl,h1,h2⟩:=r1.uncons
  obtain ⟨w,ws'',A4,A5,rfl,rfl,h3,h4⟩:=h2.uncons
  cases h4
  refine ⟨p,u,w,rfl,hp,c.ext,c.b1,c.b2,c.b3,A2++(A4++B1),C,h1.cons (h3.cons r2),s,?_,?_⟩
  ·simpa using nd
  ·intro a ha; exact fr a (by simpa using ha)
section
variable {X:Cx} {y1 y2:Str} {i1 i2 tk m:Nat} {t1 t2 tp:Pos}
noncomputable def gN2 (i1 i2:Nat):TGd:=λd δ Q=>match d with
 | .tup [a,b]=>Q ((δ.set i1 (some a)).set i2 (some b))
 | _=>False
theorem a54 (hc:X.calm=true) (hnd:X.N.Nodup) (m1:X.N[i1]?=some y1) (l1:Loc X.env.scope y1) (m2:X.N[i2]?=some y2) (l2:Loc X.env.scope y2) (hm1:m<=i1:=by decide) (hm2:m<=i2:=by decide)
  (f1:X.fn y1=true\/X.env.scope.names.lookup y1=some .local:=by first | exact .inl rfl | exact .inr rfl | assumption) (f2:X.fn y2=true\/X.env.scope.names.lookup y2=some .local:=by first | exact .inl rfl | exact .inr rfl | assumption)
  (hag:(assignEach [.Name y1 t1,.Name y2 t2] X.env).map (·.2)=assign (.Name y1 t1) X.env :: (assignEach [.Name y2 t2] X.env).map (·.2):=by rfl) (hag2:(assignEach [.Name y2 t2] X.env).map (·.2)=assign (.Name y2 t2) X.env :: (assignEach [] X.env).map (·.2):=by rfl)
  (hn:(assignEach [.Name y1 t1,.Name y2 t2] X.env).length=2:=by rfl) (hst:(assignEach [.Name y1 t1,.Name y2 t2] X.env).findIdx? (·.1)=none:=by rfl) :
  PG X (.Tuple [.Name y1 t1,.Name y2 t2] tk tp) (lG m (gN2 i1 i2)) :=
 bG7 (cm2 hc (bz5 (bm8 hnd m1 l1 f1) (bz5 (bm8 hnd m2 l2 f2) b80 hag2) hag) hn hst) λv σ H Q zz=>by
  obtain ⟨B,F,δ,ts,d,Qd,c,q,k⟩:=zz
  obtain ⟨a,b,rfl,q⟩:∃a b,d=D.tup [a,b]/\Qd ((δ.set i1 (some a)).set i2 (some b)):=by
   unfold gN2 at q
   split at q
   ·exact ⟨_,_,rfl,q⟩
   ·exact q.elim
  obtain ⟨p,u,w,rfl,hp,c2⟩:=c.untup
  refine ⟨p,[u,w],rfl,SqT.of hp,rfl,u,[w],rfl,w,[],rfl,rfl,k _ _ q (by simp) (λj hj=>?_) ((c2.store i1).store i2)⟩
  rw [List.getElem?_set_ne (by omega),List.getElem?_set_ne (by omega)]
end
open Classical in
theorem aR9 {α:Type} {sh:Bool} {xs:List D} {caps:List (Str × Nat)} {n m:Nat} {te:TEd} {δ1:Dl} {Q:D->Dl->Prop} (l:List α) (e g:α->D) (hxs:xs.map D.sh=l.map e) (inj:∀a b,e a=e b->a=b)
  (hx:∀a∈l,te ((aV4 caps n δ1).set m (some (e a))) λd _=>d=g a) (hfr:(sh && caps.all (bb7 δ1))=true\/∀a∈l,(g a).fr=true) (hl:l.length<=sizeLine) (hq:Q (.lst true (l.map g)) δ1):bl0 sh xs caps n (gN m) bP5 te δ1 Q:=by
 let f:D->D:=λx=>if h:∃a∈l,e a=x then g h.choose else .non
 have hf:∀a∈l,f (e a)=g a:=λa ha=>by
  have h:∃b∈l,e b=e a:=⟨a,ha,rfl⟩
  show (if h:∃b∈l,e b=e a then g h.choose else .non)=g a
  rw [dif_pos h]
  exact congrArg g (inj _ _ h.choose_spec.2)
 refine bW6 f (λx h=>?_) (hfr.imp id λh x hx=>?_) ?_ ?_
 ·rw [hxs] at h
  obtain ⟨a,ha,rfl⟩:=List.mem_map.mp h
  rw [hf a ha]; exact hx a ha
 ·rw [hxs] at hx
  obtain ⟨a,ha,rfl⟩:=List.mem_map.mp hx
  rw [hf a ha]; exact h a ha
 ·have:=congrArg List.length hxs
  simp at this
  omega
 ·rw [hxs,List.map_map,show l.map (f ∘ e)=l.map g from List.map_congr_left λa ha=>hf a ha]
  exact hq
end L3
namespace L3
open PySem L2 PySem.Spec PyProof.Rows
end L3
namespace L2
open PySem PySem.Spec PyProof.Rows
section
variable {X:Cx}
end
end L2
namespace L3
open PySem L2 PySem.Spec PyProof.Rows
noncomputable abbrev tx (l:List Nat):D:=.str ⟨l.toArray⟩
section
variable {X:Cx} {F H:Hp} {e:Expr} {es:List Expr} {t:TEd} {pos p p2 apos cpos:Pos}
noncomputable def slE (x:D) (lo hi:Option Int) (Q:D->Prop):Prop:=match x with
 | .lst _ xs=>xs.all D.pl=true/\Q (.lst true (bi1 xs lo hi))
 | .fz xs=>Q (.lst true (bi1 xs lo hi))
 | .str z=>z.length<=sizeLine/\Q (tx (bi1 z.cps.toList lo hi))
 | _=>False
noncomputable def ch6 (t:TEd) (tl th:TOd):TEd:=λδ Q=>t δ λx δ1=>tl δ1 λl δ2=>th δ2 λu δ3=>slE x l u λd=>Q d δ3
theorem ba6 {lo hi:Option Expr} {tl th:TOd} (he:PE X e (lB t)) (hl:PO X lo (lP tl)) (hu:PO X hi (lP th)):PE X (.Subscript e (.Slice lo hi none p2) pos) (lE (ch6 t tl th)) :=
 aQ6 (bW0 (sl_list.or cl3) he hl hu) λσ H Q ⟨B,F,δ,ts,Qd,c,q,k⟩=>⟨B,F,δ,ts,_,c,q,λx δ1 v F1 H1 q1 f1 h1 c1 s1=>⟨B,F1,δ1,ts,_,c1,q1,λl δ2 F2 H2 q2 f2 h2 c2=>⟨B,F2,δ2,ts,_,c2,q2,λu δ3 F3 H3 q3 f3 h3 c3=>by
  have s1':=s1.mono (f2.trans f3) (h2.trans h3)
  unfold slE at q3
  split at q3
  ·obtain ⟨p,ws,rfl,h,t⟩:=bl4 s1' c3.ext rfl
   exact .inl ⟨p,ws,rfl,bh0 h,λr hr=>k _ δ3 _ F3 _ q3.2 ((f1.trans f2).trans f3) (((h1.trans h2).trans h3).trans (Same.upd hr)) (c3.newL hr (t.cut _ _) (bP3 q3.1 _ _))⟩
  ·obtain ⟨p,ws,rfl,h,t⟩:=bl4 s1' c3.ext rfl
   cases s1' with
   | fz h' r _=>exact .inl ⟨_,_,rfl,bh0 (.inr ⟨_,c3.ext _ _ h'⟩),λr' hr=>k _ δ3 _ F3 _ q3 ((f1.trans f2).trans f3) (((h1.trans h2).trans h3).trans (Same.upd hr)) (c3.newL hr (r.s.cut _ _) (bP3 r.pl _ _))⟩
  ·cases s1' with
   | str _=>exact .inr ⟨_,rfl,q3.1,k _ δ3 _ F3 H3 q3.2 ((f1.trans f2).trans f3) ((h1.trans h2).trans h3) (c3.pushS (.str .nil) rfl)⟩
  ·exact q3.elim⟩⟩⟩
noncomputable def inS:Rd2:=λx y Q=>match x,y with
 | .str z,.str w=>∃ch,z=⟨#[ch]⟩/\Q (.bl (decide (ch∈w.cps.toList)))
 | _,_=>False
end
theorem bp7 (a:List Nat):(⟨a.toArray⟩:Str).length=a.length:=by show a.toArray.size=_; simp
end L3
namespace L3
open PySem L2 PySem.Spec PyProof.Rows
noncomputable def aO8 (l:List Nat):List D:=aR7 (l.map λ(n:Nat)=>(n:Int))
theorem aR3 (l:List Nat):(aO8 l).length=l.length:=by unfold aO8; rw [aX7,List.length_map]
theorem aQ0 (l:List Nat):aO8 l=l.map λ(n:Nat)=>D.int (n:Int):=by unfold aO8 aR7; rw [List.map_map]; rfl
theorem a81 (l:List Nat):(aO8 l).map D.sh=l.map λ(n:Nat)=>D.int (n:Int):=by unfold aO8; rw [aX2]; exact aQ0 l
theorem aY5 (a b:Nat) (h:D.int (a:Int)=D.int (b:Int)):a=b:=by injection h with h; omega
theorem aZ5 (l:List Nat):(aO8 l).all D.pl=true:=a67 _
theorem aW8 (l:List Nat):(aO8 l).map D.sh=aO8 l:=aX2 _
theorem a73 (a b:List Nat):aO8 a++aO8 b=aO8 (a++b):=by unfold aO8; rw [a50,List.map_append]
theorem a58 (l:List Nat) (lo hi:Option Int):bi1 (aO8 l) lo hi=aO8 (bi1 l lo hi):=by
 unfold aO8
 rw [a78]
 congr 1
 unfold bi1
 rw [List.length_map,List.map_take,List.map_drop]
theorem bh1 {α:Type} (xs:List α) (b:Nat):bi1 xs none (some (b:Int))=xs.take b:=by
 have:=cc6 xs 0 b
 unfold bi1 at this ⊢
 simpa [HT.sIx] using this
theorem bo2 {α:Type} (xs:List α) (a:Nat):bi1 xs (some (a:Int)) none=xs.drop a:=by
 unfold bi1
 rw [HT.sIx_nat]
 show (xs.drop (min a xs.length)).take (xs.length - min a xs.length)=_
 by_cases h:a<=xs.length
 ·rw [Nat.min_eq_left h,List.take_of_length_le (by rw [List.length_drop]; exact Nat.le_refl _)]
 ·rw [Nat.min_eq_right (by omega),List.drop_length,List.drop_eq_nil_of_le (by omega)]; simp
noncomputable def vl (c:List Nat):Nat:=c.foldl (λa c=>2 * a + (c - 48)) 0
end L3
namespace L2
open PySem PySem.Spec PyProof.Rows
section
variable {X:Cx} {tg l o e:Expr} {tl to te:TE} {apos cpos:Pos}
end
end L2
namespace L3
open PySem L2 PySem.Spec PyProof.Rows
section
variable {X:Cx} {F H:Hp} {tg l e:Expr} {te t tb:TEd} {apos cpos pos:Pos}
variable {o:Expr}
noncomputable def inN:Rd2:=λx y Q=>match x,y with
 | .int i,.lst _ xs=>∃ns:List Int,xs=aR7 ns/\Q (.bl (decide (i∈ns)))
 | _,_=>False
theorem bu3:∀{ns:List Int} {ws:List V},S F H (aR7 ns) ws->ws=ns.map V.int
 | [],_,s=>by cases s; rfl
 | n :: ns,_,s=>by
  cases s with
  | int s=>rw [bu3 s]; rfl
end
end L3
namespace L3
open PySem L2 PySem.Spec PyProof.Rows
end L3
namespace L2
open PySem PySem.Spec PyProof.Rows
noncomputable def Tb (ts:List Addr) (H:Hp):Prop:=∀P∈ts,∃ps,H P=some (.tbl ps)
structure OnlyT (ts:List Addr) (H:Hp):Prop where
 any:∀b,H b=none\/(∃o xs,H b=some (.frz o (.lst xs)))\/(b∈ts/\H b=some (.tbl #[]))
 tab:∀P∈ts,H P=some (.tbl #[])
theorem OnlyT.tb {ts:List Addr} {H:Hp} (h:OnlyT ts H):Tb ts H:=λP hP=>⟨#[],h.tab P hP⟩
noncomputable def Bm (mg:Str->Option Value) (base:Heap):Prop:=∃bm o,mg "__builtins__"=some (.ref bm)/\bm≠builtinsNs/\bm≠mainGlobals/\base.get? bm=some o/\o.cls=.type "module"/\o.dict=some builtinsNs/\o.data=.plain
theorem bF9 {P:Program} {w:World} {K:PySem.W.Frag} {mg mb:Str->Option Value} {CX:CXT} {k:Nat} {fa a:Addr} {fd:FuncData} {x:Str} {sp:Sp} {s₁:Shared} {vs:List Value} {ns:List Int} {ts:List Addr}
  (KX:K.In s₁.heap) (hns:s₁.heap.Ns mainGlobals mg) (hb:s₁.heap.Ns builtinsNs mb) (hbb:∀x:Str,x≠"__name__"->mb x=bootBuiltins x) (hlim:s₁.heap.NoLimit) (hg:s₁.gens=#[])
  (ht:∀P∈ts,s₁.heap.get? P=some (PySem.W.tabObj #[])) (hct:∀P∈ts,isCodeTable s₁.heap P) (hkt:∀P∈ts,K.lookup P=none)
  (ha:s₁.heap.get? a=some { cls:=.type "list",data:=.seq vs.toArray }) (hi:IntsAre vs ns) (hl:ns.length<=sizeLine) (hr:Room k callerA)
  (hbm:Bm mg s₁.heap) (F:∀base:Heap,K.In base->base.Ns mainGlobals mg->Bm mg base->FnOk P w K mg base CX k fa fd [x] sp) (hbind:∀(s:Shared) (u:Value),BindsTo s fd ⟨[u],[]⟩ [(x,u)])
  (hsp:∀H:Hp,OnlyT ts H->SqL K H a (ns.map V.int)->sp [.ref a] H (λv _=>v=.bl true) λ_ _ _=>False)
  (hCX:∀H e s',CX [] H s₁ (λ_ _ _=>False) e s'->False) :
  codeAny (model P w) callerA (.call (.ref fa) ⟨[.ref a],[]⟩) (λr s'=>r=.ok (.ret (.bool true))/\OldK s₁.heap s'.heap/\s'.os=s₁.os/\AllBare s'.gens) s₁:=by
 have rv:=bs5 hi
 have lenV:=hi.length
 have nat:a ∉ ts:=λz=>by
  have:=ht a z
  rw [ha] at this
  cases this
 have core:∀H:Hp,OnlyT ts H->SqL K H a (ns.map V.int)->HOk P w H s₁.heap->(∀b,H b≠none->b=a\/b∈ts)->(H a≠none->K.lookup a=none) ->
   codeAny (model P w) callerA (.call (.ref fa) ⟨[.ref a],[]⟩) (λr s'=>r=.ok (.ret (.bool true))/\OldK s₁.heap s'.heap/\s'.os=s₁.os/\AllBare s'.gens) s₁:=by
  intro H hO hS hok hA hK
  have base_of:∀{b:Addr} {o:Obj},s₁.heap.get? b=some o->H b=none->(bP6 s₁.heap H).get? b=some o:=λe n=>bS1 e n
  have noA:∀{b:Addr} {o:Obj} {es:Array DictEntry} {ep:Nat},s₁.heap.get? b=some o->o.data=.dict es ep->H b=none:=λ{b o es ep} e d=>by
   cases q:H b with
   | none=>rfl
   | some u =>
    rcases hA b (by rw [q]; simp) with e' | e'
    ·subst e'
     rw [ha] at e; cases e
     have d':Data.seq vs.toArray _=Data.dict es ep:=d
     cases d'
    ·rw [ht b e'] at e; cases e
     have d':Data.fields #[]=Data.dict es ep:=d
     cases d'
  have nsK:∀{b:Addr} {m:Str->Option Value},s₁.heap.Ns b m->(bP6 s₁.heap H).Ns b m:=λ{b m} ⟨o,es,ep,e,d,r⟩=>⟨o,es,ep,base_of e (noA e d),d,r⟩
  have hKb:K.In (bP6 s₁.heap H):=λb o e=>base_of (KX b o e) (by
   cases q:H b with
   | none=>rfl
   | some u =>
    rcases hA b (by rw [q]; simp) with e' | e'
    ·subst e'
     rw [hK (by rw [q]; simp)] at e; cases e
    ·rw [hkt b e'] at e; cases e)
  have hBm:Bm mg (bP6 s₁.heap H):=by
   obtain ⟨bm,o,b1,b2,b3,b4,b5,b6,b7⟩:=hbm
   refine ⟨bm,o,b1,b2,b3,base_of b4 ?_,b5,b6,b7⟩
   cases q:H bm with
   | none=>rfl
   | some u =>
    rcases hA bm (by rw [q]; simp) with e' | e'
    ·rw [e',ha] at b4; cases b4
     have d':Data.seq vs.toArray _=Data.plain:=b7
     cases d'
    ·rw [ht bm e'] at b4; cases b4
     have d':Data.fields #[]=Data.plain:=b7
     cases d'
  have hM:Mod K mg (bP6 s₁.heap H):=⟨hKb,nsK hns,⟨mb,nsK hb,hbb⟩,let ⟨mc,h1,h2⟩:=hlim; ⟨mc,nsK h1,h2⟩⟩
  have e0:Env0 P w K mg (bP6 s₁.heap H) callerA [] s₁ H:=⟨rfl,hM,λb o e=>cf6 e,Nat.le_of_eq (bM7 _ _),trivial,λb hb=>absurd (show b∈([]:List Addr) from hb) (by simp),hok,.of_eq hg⟩
  refine codeAny_mono ((F _ hKb (nsK hns) hBm).run callerA [] s₁ H ⟨[.ref a],[]⟩ [.ref a] [.ref a] _ _ hr e0 (hbind s₁ (.ref a)) (.cons rfl .nil) (hsp H hO hS)) λr s' h=>?_
  cases r with
  | error e=>exact (hCX H e s' h).elim
  | ok fl =>
   cases fl with
   | next=>exact False.elim h
   | brk=>exact False.elim h
   | cont=>exact False.elim h
   | ret u =>
    obtain ⟨v,H',os,bare,un,hok',r',q⟩:=h
    have q':v=.bl true:=q
    subst q'
    obtain rfl:u=Value.bool true:=r'
    have each:∀b o,s₁.heap.get? b=some o->asItWas s₁.heap s'.heap b o/\∃o',s'.heap.get? b=some o':=λb o e=>by
     cases q:H b with
     | none =>
      have z:=un.keep b o e q (by intro z; exact absurd (show b∈([]:List Addr) from z) (by simp)) (by simp)
      exact ⟨.inl z,o,z⟩
     | some u =>
      rcases hO.any b with z | ⟨ob,xs,z⟩ | ⟨hbt,z⟩
      ·rw [q] at z; cases z
      ·have z2:=un.frzs b ob _ z
       obtain ⟨e1,_⟩:=hok b _ z
       obtain ⟨e2,_⟩:=hok' b _ z2
       rw [e] at e1; cases e1
       exact ⟨.inl e2,_,e2⟩
      ·obtain ⟨more,z2⟩:=un.tbls b _ z
       have e2:=(hok' b _ z2).1
       rw [ht b hbt] at e; cases e
       exact ⟨.inr (.inl ⟨hct b hbt,rfl,#[],more,rfl,e2⟩),_,e2⟩
    exact ⟨rfl,⟨λb o e=>(each b o e).1,λb o e=>(each b o e).2⟩,os,bare⟩
 have tok:∀(H:Hp) (b:Addr),b∈ts->ObjOk P w H s₁.heap b (.tbl #[]):=λH b hb=>⟨ht b hb,trivial,λpos cv q=>by cases q⟩
 cases hk:K.lookup a with
 | some o =>
  have e:=KX a o hk
  rw [ha] at e
  cases e
  refine core (λb=>if b∈ts then some (.tbl #[]) else none) ⟨λb=>?_,λb hb=>if_pos hb⟩ (.inr ⟨_,vs.toArray,_,hk,rfl,rfl,rfl,by rw [List.size_toArray,lenV]; exact hl,by simpa using rv⟩) (λb u z=>?_) (λb z=>?_) λz=>absurd (if_neg nat) z
  ·by_cases hb:b∈ts
   ·exact .inr (.inr ⟨hb,if_pos hb⟩)
   ·exact .inl (if_neg hb)
  ·by_cases hb:b∈ts
   ·have z':=(if_pos hb).symm.trans z
    cases z'
    exact tok _ b hb
   ·have z':=(if_neg hb).symm.trans z
    cases z'
  ·by_cases hb:b∈ts
   ·exact .inr hb
   ·exact absurd (if_neg hb) z
 | none =>
  refine core (λb=>if b=a then some (.frz { cls:=.type "list",data:=.seq vs.toArray } (.lst (ns.map V.int))) else if b∈ts then some (.tbl #[]) else none) ⟨λb=>?_,λb hb=>?_⟩ (.inl (.inr ⟨{ cls:=.type "list",data:=.seq vs.toArray },if_pos rfl⟩)) (λb u z=>?_) (λb z=>?_) λ_=>hk
  ·by_cases hb:b=a
   ·exact .inr (.inl ⟨_,_,if_pos hb⟩)
   ·by_cases hbt:b∈ts
    ·exact .inr (.inr ⟨hbt,(if_neg hb).trans (if_pos hbt)⟩)
    ·exact .inl ((if_neg hb).trans (if_neg hbt))
  ·have hne:b≠a:=λz=>nat (z ▸ hb)
   exact (if_neg hne).trans (if_pos hb)
  ·by_cases hb:b=a
   ·have z':=(if_pos hb).symm.trans z
    cases z'
    subst hb
    exact ⟨ha,by rw [List.length_map]; exact hl,vs,_,rv,ha⟩
   ·by_cases hbt:b∈ts
    ·have z':=((if_neg hb).trans (if_pos hbt)).symm.trans z
     cases z'
     exact tok _ b hbt
    ·have z':=((if_neg hb).trans (if_neg hbt)).symm.trans z
     cases z'
  ·by_cases hb:b=a
   ·exact .inl hb
   ·by_cases hbt:b∈ts
    ·exact .inr hbt
    ·exact absurd ((if_neg hb).trans (if_neg hbt)) z
theorem walk_ofT {l:PySem.W.OpenLaw} {n k:Nat} {q:Program} {loose:List Str} {XP:(Str->Option Value)->Heap->Prop} {YP:World->Heap->Prop} {d:DefRec} {K:Params->PySem.W.Frag} {CX:World->CXT} {sp:World->Sp} {x:Str} {ts:List Addr}
  (hn:l.most=some n) (hn2:n<=sizeLine) (hdf:d.params.defaults=[]) (hr:Room k callerA)
  (hY:∀(w:World) (h:Heap),YP w h->(K w.params).In h/\∀P∈ts,h.get? P=some (PySem.W.tabObj #[]))
  (hC:∀(w:World) (h:Heap),(K w.params).In h->∀P∈ts,(K w.params).lookup P=none/\∃c,PySem.W.CodeHd h c P)
  (F:∀(w:World) (mg:Str->Option Value) (fa:Addr) (h:Heap),(K w.params).In h->h.Ns mainGlobals mg->mg d.name=some (.ref fa) ->
   ∃fd:FuncData,(∀(s:Shared) (u:Value),BindsTo s fd ⟨[u],[]⟩ [(x,u)]) /\
    ∀base:Heap,(K w.params).In base->base.Ns mainGlobals mg->Bm mg base->FnOk l.prog w (K w.params) mg base (CX w) k fa fd [x] (sp w))
  (hsp:∀(w:World) (H:Hp) (a:Addr) (ns:List Int),ns.length<=n->OnlyT ts H->SqL (K w.params) H a (ns.map V.int)->sp w [.ref a] H (λv _=>v=.bl true) λ_ _ _=>False)
  (hCX:∀(w:World) (H:Hp) (s:Shared) (e:Value) (s':Shared),CX w [] H s (λ_ _ _=>False) e s'->False) :
  PySem.W.WalkO q loose XP YP l.row.toRowW d [] (λf vs=>PySem.call f vs):=by
 refine Att.attach_call hn hdf λw s₀ s₁ mg mb fa o pm cd doc a vs ns G Y ho hd hcd hmg hobj hints hlen hg=>?_
 obtain ⟨KX,hT⟩:=hY w _ Y
 obtain ⟨fd,hb,hF⟩:=F w mg fa _ KX G.T.g hmg
 have hct:∀P∈ts,isCodeTable s₁.heap P:=λP hP=>by
  obtain ⟨_,c,C⟩:=hC w _ KX P hP
  exact (C.tab (hT P hP)).isCodeTable
 have hbm:Bm mg s₁.heap:=by
  obtain ⟨bm,ob,b1,b2,b3,b4,b5,b6⟩:=G.T.bmain
  refine ⟨bm,ob,b1,b2,λq=>?_,b3,b4,b5,b6⟩
  obtain ⟨o,es,ep,e,hd,_⟩:=G.T.g
  rw [q,e] at b3; cases b3; rw [hd] at b6; cases b6
 exact bF9 KX G.T.g G.T.b G.T.builtins G.T.nolimit hg hT hct (λP hP=>(hC w _ KX P hP).1) hobj hints (Nat.le_trans hlen hn2) hr hbm hF hb (λH hO hS=>hsp w H a ns hlen hO hS) λH e s'=>hCX w H s₁ e s'
end L2
namespace L3
open PySem L2 PySem.Spec PyProof.Rows
noncomputable def cp0 (ts:List Addr) (sp:Sp):Sp:=λvs H Q E=>Tb ts H/\sp vs H Q E
theorem bZ5 {X:Cx} {pins:List (Addr × Obj)} {σ:L2.St} {H:Hp} {s:Shared} {ts:List Addr} (I:Inv X pins σ H s) (h:Tb ts X.H₀):Tb ts H:=λP hP=>by
 obtain ⟨ps,e⟩:=h P hP
 obtain ⟨m,e2⟩:=I.base.tbls P ps e
 exact ⟨_,e2⟩
noncomputable def bm3 (ts:List Addr) (K:PySem.W.Frag):Sp:=λvs H Q _=>∃(a:Addr) (ns:List Int),vs=[.ref a]/\OnlyT ts H/\SqL K H a (ns.map V.int)/\ns.length<=63/\∀H',Q (.bl true) H'
theorem bR7 {ts:List Addr} {K:PySem.W.Frag} (nl:K.all (λp=>bM2 p.2)=true) {vs:List V} {H:Hp} {Q:VK} {E:XK} (h:bm3 ts K vs H Q E):cp0 ts (lSp bX7) vs H Q E:=by
 obtain ⟨a,ns,rfl,hO,hS,hl,q⟩:=h
 have hz:∃o,H a=some (.frz o (.lst (ns.map V.int))):=by
  rcases hS with (hS | hS) | ⟨o,its,n,hk,hc,_⟩
  ·rcases hO.any a with z | ⟨o,xs,z⟩ | ⟨_,z⟩
   ·rw [hS] at z; cases z
   ·rw [hS] at z; cases z
   ·rw [hS] at z; cases z
  ·exact hS
  ·have hm:=bu7 hk
   have:=List.all_eq_true.mp nl _ hm
   simp [bM2,hc] at this
 obtain ⟨o,ho⟩:=hz
 refine ⟨hO.tb,H,[.fz (aR7 ns)],λd=>d=.bl true,Same.refl _,.fz ho (a71 ns) .nil,⟨ns,rfl,hl,rfl⟩,λd v F' H' A hd hs hf he h3 r nd fr=>?_⟩
 subst hd
 cases r
 exact q H'
end L3
namespace L2
open PySem PySem.Spec PyProof.Rows
noncomputable def rem (H:Hp) (f c:Addr):Hp:=λb=>if b=f\/b=c then none else H b
noncomputable def addL (H H':Hp) (f c:Addr):Hp:=λb=>if b=f\/b=c then H b else H' b
section
variable {P:Program} {w:World} {H H':Hp} {h:Heap} {a b f c:Addr} {o:HO} {of oc:Obj}
theorem cq5:rem H f c f=none:=if_pos (.inl rfl)
theorem bQ9:rem H f c c=none:=if_pos (.inr rfl)
theorem aX3 (h1:b≠f) (h2:b≠c):rem H f c b=H b:=if_neg (by simp [h1,h2])
theorem a82 (e:H b=none):rem H f c b=none:=by unfold rem; split; rfl; exact e
theorem bZ0 (e:rem H f c b=some o):b≠f/\b≠c/\H b=some o:=by
 unfold rem at e
 split at e
 ·cases e
 ·rename_i n
  exact ⟨λz=>n (.inl z),λz=>n (.inr z),e⟩
theorem a60 (h1:b≠f) (h2:b≠c):addL H H' f c b=H' b:=if_neg (by simp [h1,h2])
theorem bY3:addL H H' f c f=H f:=if_pos (.inl rfl)
theorem bJ0:addL H H' f c c=H c:=if_pos (.inr rfl)
theorem ObjOk.rem {φ:Heap->Prop} (x:ObjOk P w H h a o) (ha:a≠f) (hf:H f=some (.ext φ)) (hc:H c=some (.own f)\/H c=none) (hφ:¬ ∀h',φ h'->∃q,h'.CodeRec (.ref f) q):ObjOk P w (rem H f c) h a o:=by
 have own:∀b,H b=some (.own a)->L2.rem H f c b=some (.own a):=λb e=>by
  rw [aX3 (λz=>by subst z; rw [hf] at e; cases e) (λz=>by subst z; rcases hc with hc | hc <;> (rw [hc] at e; cases e); exact ha rfl)]; exact e
 have tup:∀b xs,H b=some (.tup xs)->L2.rem H f c b=some (.tup xs):=λb xs e=>by
  rw [aX3 (λz=>by subst z; rw [hf] at e; cases e) (λz=>by subst z; rcases hc with hc | hc <;> (rw [hc] at e; cases e))]; exact e
 induction o with
 | lst xs=>exact x
 | tup xs=>exact x
 | dK kvs=>exact x
 | dT kvs =>
  obtain ⟨z,y,xs,r,ob⟩:=x
  exact ⟨z,y,xs,Paired.mapP r λp q z=>⟨z.1,tup _ _ z.2.1,z.2.2⟩,ob⟩
 | set S n=>exact x
 | ins C dx fs =>
  obtain ⟨d,r⟩:=x
  exact ⟨own _ d,r⟩
 | own y=>exact x
 | xd fs=>exact x
 | rng lo hi=>exact x
 | frz ob u ih=>obtain ⟨e,q⟩:=x; exact ⟨e,ih q⟩
 | tbl ps =>
  obtain ⟨e,t,cc⟩:=x
  refine ⟨e,t,λpos cv q=>?_⟩
  obtain ⟨d,φ,e1,e2,e3⟩:=cc pos cv q
  refine ⟨d,φ,e1,?_,e3⟩
  rw [aX3 (λz=>?_) (λz=>by subst z; rcases hc with hc | hc <;> (rw [hc] at e2; cases e2))]
  ·exact e2
  ·subst z
   rw [hf] at e2; cases e2
   exact hφ e3
 | met f y=>exact x
 | ext φ=>obtain ⟨p,r,st⟩:=x; exact ⟨p,r,λh1 h2 p1 kk=>st h1 h2 p1 λb o hb q=>kk b o (hb.imp id (own b)) q⟩
theorem b06 {φ:Heap->Prop} {fd:FuncData} (p:φ h) (g:∀h',φ h'->h'.get? f=some of) (hd:of.data=.func fd):¬ ∀h',φ h'->∃q,h'.CodeRec (.ref f) q:=λz=>by
 obtain ⟨q,k,ok,vs,t,q1,q2,q3,_⟩:=z h p
 cases q1
 rw [g h p] at q2; cases q2
 rw [hd] at q3; cases q3
theorem HOk.lam (ok:HOk P w H h) (hf:H f=some (.ext (L3.cloφ of oc c f))):L3.cloφ of oc c f h:=(ok f _ hf).1
theorem HOk.rem {fd:FuncData} (ok:HOk P w H h) (hf:H f=some (.ext (L3.cloφ of oc c f))) (hc:H c=some (.own f)) (hd:of.data=.func fd):HOk P w (rem H f c) h:=λb o e =>
 let ⟨h1,_,h3⟩:=bZ0 e; (ok b o h3).rem h1 hf (.inl hc) (b06 (ok.lam hf) (λ_ p=>p.1) hd)
end
theorem Env0.rem {P:Program} {w:World} {K:PySem.W.Frag} {mg:Str->Option Value} {base:Heap} {A:Around} {outer:List Env} {s:Shared} {H:Hp} {f c:Addr} {of oc:Obj} {fd:FuncData} (e:Env0 P w K mg base A outer s H)
  (hf:H f=some (.ext (L3.cloφ of oc c f))) (hc:H c=some (.own f)) (hd:of.data=.func fd):Env0 P w K mg base A outer s (rem H f c) :=
 ⟨e.frames,e.mod,λb o q=>⟨(e.bs b o q).1,a82 (e.bs b o q).2⟩,e.bsz,e.funs,λb hb=>a82 (e.frf b hb),e.hok.rem hf hc hd,e.bare⟩
theorem CE.add {P:Program} {w:World} {K:PySem.W.Frag} {mg:Str->Option Value} {base:Heap} {A:Around} {outer:List Env} {s s':Shared} {H:Hp} {f c:Addr} {of oc:Obj} {Q Q':VK} {u:Value} (e0:Env0 P w K mg base A outer s H)
  (hf:H f=some (.ext (L3.cloφ of oc c f))) (hc:H c=some (.own f)) (h:CE outer P w (rem H f c) s Q u s') (hQ:∀v H',Q v H'->H' f=none->H' c=none->Q' v (addL H H' f c)):CE outer P w H s Q' u s':=by
 obtain ⟨v,H',os,bare,un,hok,r,q⟩:=h
 obtain ⟨gf,gc⟩:=e0.hok.lam hf
 have nfr:∀{b o},H b=some o->b ∉ frs outer:=λ{b o} e z=>by rw [e0.frf b z] at e; cases e
 have nf:H' f=none:=un.free f _ gf cq5 (by simp)
 have nc:H' c=none:=un.free c _ gc bQ9 (by simp)
 have kf:=un.keep f _ gf cq5 (nfr hf) (by simp)
 have kc:=un.keep c _ gc bQ9 (nfr hc) (by simp)
 refine ⟨v,addL H H' f c,os,bare,⟨λb o e n=>un.keep b o e (a82 n),λb o e n=>un.slot b o e (a82 n),λb o e n x=>?_,un.there,λb xs e=>?_,λb ob xs e=>?_,λb ps e=>?_⟩,λb o e=>?_,r,hQ v H' q nf nc⟩
 ·rw [a60 (λz=>by subst z; rw [hf] at n; cases n) (λz=>by subst z; rw [hc] at n; cases n)]
  exact un.free b o e (a82 n) x
 ·have n1:b≠f:=λz=>by subst z; rw [hf] at e; cases e
  have n2:b≠c:=λz=>by subst z; rw [hc] at e; cases e
  rw [a60 n1 n2]
  exact un.tups b xs (by rw [aX3 n1 n2]; exact e)
 ·have n1:b≠f:=λz=>by subst z; rw [hf] at e; cases e
  have n2:b≠c:=λz=>by subst z; rw [hc] at e; cases e
  rw [a60 n1 n2]
  exact un.frzs b ob xs (by rw [aX3 n1 n2]; exact e)
 ·have n1:b≠f:=λz=>by subst z; rw [hf] at e; cases e
  have n2:b≠c:=λz=>by subst z; rw [hc] at e; cases e
  rw [a60 n1 n2]
  exact un.tbls b ps (by rw [aX3 n1 n2]; exact e)
 ·by_cases z:b=f
  ·subst z
   rw [bY3,hf] at e; cases e
   refine ⟨⟨kf,kc⟩,⟨_,kf⟩,λh1 h2 p kk=>⟨kk b _ (.inl rfl) p.1,kk c _ (.inr ?_) p.2⟩⟩
   rw [bJ0]; exact hc
  ·by_cases z2:b=c
   ·subst z2
    rw [bJ0,hc] at e; cases e
    exact ⟨_,kc⟩
   ·rw [a60 z z2] at e
    have up:∀{b' o'},H' b'=some o'->addL H H' f c b'=some o':=λ{b' o'} q=>by
     rw [a60 (λz=>by subst z; rw [nf] at q; cases q) (λz=>by subst z; rw [nc] at q; cases q)]; exact q
    exact (hok b o e).stay (λ_ _ _ q=>q) (λ_ q=>up q) (λ_ _ q=>up q) λ_ _ q=>up q
theorem bV8 {prog:Program} {w:World} {A:Around} {R:Result->Shared->Prop} {s:Shared} {a:Addr} {args:Args} {o:Obj} {fd:FuncData} {body:Expr} {q:Str} (hroom:A.depth < recursionLimit)
  (ho:s.heap.get? a=some o)
  (hd':o.data=.func fd) (hco:fd.scope.isCoroutine=false) (hgen:fd.scope.isGenerator=false) (hbody:fd.body=.expr body) (hcd:s.heap.CodeRec fd.code q)
  (h:wpAny (model prog w) A.in1 (bindArgs fd args) (λbinds s₁ =>
   wpAny (model prog w) A.in1 (newFunctionEnv fd.scope fd.globals fd.closure binds (q++".<locals>.") (some a) fd.code none fd.builtins)
    (λenv s₂=>s₂.heap.NoLimit/\codeAny (model prog w) A (.expr body env) R s₂) (λe s'=>R (.error e) s') s₁) (λe s'=>R (.error e) s') s) :
  codeAny (model prog w) A (.call (.ref a) args) R s:=by
 refine codeAny_of_tree ?_
 show wpAny _ A.in1 (callAny (.ref a) args) _ _ s
 simp only [callAny]
 refine wpAny_bind (wpAny_load ho ?_)
 obtain ⟨c,oc,vs,tq,hc,hoc,hdc,hq⟩:=hcd
 simp only [hd',callFunction,hco,hgen,hbody,hc]
 rw [hc] at h
 refine wpAny_bind (m:=field (.ref c) 1) (wpAny_field hoc hdc hq (wpAny_bind (wpAny_pure ?_)))
 exact wpAny_bind (wpAny_mono h (λbinds s₁ h₁=>wpAny_bind (wpAny_mono h₁ (λenv s₂ h₂=>wpAny_bind (wpAny_enterFrame h₂.1 hroom
  (wpAny_pure (And.intro rfl h₂.2)))) λ_ _ h'=>h')) λ_ _ h'=>h')
structure Lam2 (p1 p2 x:Str) (sc:Scope):Prop where
 kind:sc.kind=.function
 co:sc.isCoroutine=false
 gen:sc.isGenerator=false
 nd:[p1,p2,x].Nodup
 l1:sc.names.lookup p1=some .local
 l2:sc.names.lookup p2=some .local
 nocell:∀y∈sc.names,y.2≠.cell
 only:∀y∈sc.names,y.2=.free->y.1=x
 lx:sc.names.lookup x=some .free
noncomputable def bt9 (CX:CXT) (P:Program) (w:World) (K:PySem.W.Frag) (mg:Str->Option Value) (base:Heap) (N:List Str) (qual:Str) (scope:Scope) (f:Addr) (cd:Value) (cl:List (Str × Addr)) (A:Around) (outer:List Env) (s:Shared) (H:Hp) (E:XK):Cx where
 prog:=P
 w:=w
 K:=K
 mg:=mg
 base:=base
 A:=A.deeper (PySem.W.envX qual scope s.heap.objs.size f cd cl)
 N:=N
 s₀:=s
 H₀:=H
 env:=PySem.W.envX qual scope s.heap.objs.size f cd cl
 outer:=outer
 stack:=PySem.W.envX qual scope s.heap.objs.size f cd cl :: outer
 ex:=[]
 calm:=true
 fn:=λ_=>false
 pn:=[]
 xe:=λe s'=>wpAny (model P w) (A.deeper (PySem.W.envX qual scope s.heap.objs.size f cd cl)) (leaving (PySem.W.envX qual scope s.heap.objs.size f cd cl) e) (λ_ s''=>CX outer H s E e s'') (λe' s''=>CX outer H s E e' s'') s'
theorem cb1 {CX:CXT} {P:Program} {w:World} {K:PySem.W.Frag} {mg:Str->Option Value} {base:Heap} {p1 p2 x qn q:Str} {params:Arguments} {body:Expr} {scope:Scope} {pm ctv:Value} {f c c':Addr} {k:Nat} {A:Around} {outer:List Env} {s:Shared} {H:Hp} {E:XK}
  {u1 u2 uc:Value} {v1 v2 vc:V} {Q:VK} {t:TE} {args:Args} (S:Lam2 p1 p2 x scope) (e0:Env0 P w K mg base A outer s H) (hr:Room (k + 1) A)
  (hf:s.heap.get? f=some (PySem.W.kla_obj "<lambda>" qn params body scope [(x,c)] pm c' ctv)) (hc:s.heap.IsCell c (some uc)) (rc:RelV vc uc) (hH:H c=none) (hcd:s.heap.CodeRec (.ref c') q)
  (hb:bindArgs (PySem.W.kla_fn "<lambda>" qn params body scope [(x,c)] pm (.ref c') ctv) args=pure [(p1,u1),(p2,u2)]) (r1:RelV v1 u1) (r2:RelV v2 u2)
  (ht:PE (bt9 CX P w K mg base [p1,p2,x] q scope f (.ref c') [(x,c)] A outer s H E) body t) (h:t [some v1,some v2,some vc] H Q) :
  codeAny (model P w) A (.call (.ref f) args) (CR CX outer P w H s Q E) s:=by
 have lim:s.heap.NoLimit:=e0.mod.nolimit.keeps λb o e=>(e0.bs b o e).1
 refine bV8 hr.depth hf rfl S.co S.gen rfl hcd ?_
 rw [hb]
 have hloc:∀y∈[(p1,u1),(p2,u2)],scope.names.lookup y.1=some .local:=λy hy=>by
  simp at hy
  rcases hy with rfl | rfl
  ·exact S.l1
  ·exact S.l2
 refine wpAny_pure (wpAny_newFunctionEnv S.nocell hloc (λh₁ hns hsb=>⟨lim.fresh _ hsb,?_⟩) S.kind)
 show codeAny _ _ (.expr body (PySem.W.envX q scope s.heap.objs.size f (.ref c') [(x,c)])) _ _
 have hk:∀b o,s.heap.get? b=some o->h₁.get? b=some o:=λb o e=>hsb.extBut b o (Nat.ne_of_lt (Heap.lt_size e)) (Heap.get?_push_of_some _ e)
 have hx1:p1≠p2/\p1≠x/\p2≠x:=by have:=S.nd; simp at this; exact ⟨this.1.1,this.1.2,this.2⟩
 have look:∀y d,([(x,c)]:List (Str × Addr)).lookup y=some d->y=x/\d=c:=λy d e=>by
  rw [List.lookup_cons] at e
  split at e
  ·rename_i z; exact ⟨beq_iff_eq.mp z,(Option.some.inj e).symm⟩
  ·cases e
 have I:Inv (bt9 CX P w K mg base [p1,p2,x] q scope f (.ref c') [(x,c)] A outer s H E) [] [some v1,some v2,some vc] H { s with heap:=h₁,toks:=s.toks + [(p1,u1),(p2,u2)].length }:=by
  refine ⟨⟨e0.mod,S.kind,rfl,rfl,Nat.le_refl _,λy z d h1 h2=>?_,λy hy=>?_,λy d z _=>absurd z (by simp [bt9]),λ_=>hr.hd,Around.frames_deeper e0.frames,.inr ⟨rfl,rfl⟩,λb z=>absurd z (by simp [bt9]),e0.bs,e0.bsz,λb _ _=>by simp [bt9],λb z=>absurd z (by simp [bt9]),e0.funs,e0.frf⟩,
   rfl,e0.bare,Un.kept hk,⟨_,hns,λi y v h1 h2 h3=>?_⟩,λy d h=>?_,e0.hok.fresh (Nat.le_refl _),λy d h=>?_,λp hp=>absurd (show p∈([]:List (Addr × Obj)) from hp) (by simp),e0.hok.kept hk,rfl⟩
  ·exact (look y d h1).1.trans (look z d h2).1.symm
  ·have hy:scope.names.lookup y=some .cell\/scope.names.lookup y=some .free:=hy
   rcases hy with hy | hy
   ·exact absurd rfl (S.nocell _ (PySem.mem_of_lookup hy))
   ·obtain rfl:y=x:=S.only _ (PySem.mem_of_lookup hy) rfl
    exact ⟨c,by show ([(y,c)]:List (Str × Addr)).lookup y=_; rw [List.lookup_cons,beq_self_eq_true]⟩
  ·match i,h1,h2 with
   | 0,h1,h2 =>
    cases h1; cases h2
    exact ⟨u1,r1,.inl ⟨S.l1,by
     show ([(p1,u1),(p2,u2)]:List (Str × Value)).reverse.lookup p1=_
     simp [List.lookup_cons,beq_eq_false_iff_ne.mpr hx1.1]⟩⟩
   | 1,h1,h2 =>
    cases h1; cases h2
    exact ⟨u2,r2,.inl ⟨S.l2,by
     show ([(p1,u1),(p2,u2)]:List (Str × Value)).reverse.lookup p2=_
     simp [List.lookup_cons]⟩⟩
   | 2,h1,h2 =>
    cases h1; cases h2
    exact ⟨uc,rc,.inr ⟨.inr S.lx,c,by show ([(x,c)]:List (Str × Addr)).lookup x=_; rw [List.lookup_cons,beq_self_eq_true],hc.keeps hk⟩⟩
   | n + 3,h1,h2=>cases h2
  ·obtain ⟨rfl,rfl⟩:=look y d h
   exact ⟨_,hc.keeps hk⟩
  ·obtain ⟨rfl,rfl⟩:=look y d h
   exact hH
 refine PySem.W.kla_codeExpr (wpAny_mono (ht [] _ _ H _ I h) (λu s' hs=>?_) λe s' hs=>hs)
 obtain ⟨v,H',J,rv,q⟩:=hs
 exact ⟨v,H',J.os,J.bare,J.base,J.hok,rv,q⟩
end L2
namespace L3
open PySem L2 PySem.Spec PyProof.Rows
theorem Same.addL {H H':Hp} {f c:Addr} {o1 o2:HO} (h:Same (rem H f c) H') (h1:H f=some o1) (n1:by8 o1=true) (h2:H c=some o2) (n2:by8 o2=true):Same H (addL H H' f c) where
 get b o e n:=by
  by_cases z:b=f
  ·rw [z,bY3,<- z]; exact e
  ·by_cases z2:b=c
   ·rw [z2,bJ0,<- z2]; exact e
   ·rw [a60 z z2]; exact h.get b o (by rw [aX3 z z2]; exact e) n
 tb b ps e:=by
  have z:b≠f:=λz=>by subst z; rw [h1] at e; cases e; cases n1
  have z2:b≠c:=λz=>by subst z; rw [h2] at e; cases e; cases n2
  rw [a60 z z2]
  exact h.tb b ps (by rw [aX3 z z2]; exact e)
noncomputable abbrev LSp:=Int->Int->(Int->Prop)->Prop
structure LamOk (P:Program) (w:World) (K:PySem.W.Frag) (mg:Str->Option Value) (base:Heap) (n:Nat) (of oc:Obj) (c k:Addr) (sp:LSp):Prop where
 fn:∃o1 od fd sl,of=⟨o1,od,.func fd,sl⟩
 run:∀(A:Around) (outer:List Env) (s:Shared) (H:Hp) (f:Addr) (t u:Tok) (i j:Int) (Qd:Int->Prop),Room n A->Env0 P w K mg base A outer s H->s.heap.get? f=some of->s.heap.get? c=some oc->H c=none->(∃q,s.heap.CodeRec (.ref k) q)->sp i j Qd ->
  codeAny (model P w) A (.call (.ref f) ⟨[.int i t,.int j u],[]⟩) (CR CX0 outer P w H s (λv H'=>∃r,v=.int r/\Qd r/\Same H H') (λ_ _ _=>False)) s
noncomputable def ci0 (L:Obj->Obj->Addr->Addr->LSp->Prop) (i:Nat) (ta:TAd):TEd:=λδ Q=>∃of oc c k sp,δ[i]?=some (some (.clo (.lam of oc c k)))/\L of oc c k sp/\ta δ λds δ'=>∃a b,ds=[.int a,.int b]/\sp a b λr=>Q (.int r) δ'
theorem ci9 {X:Cx} {n i:Nat} {x:Str} {p pos:Pos} {e1 e2:Expr} {ta:TAd} (hN:X.N[i]?=some x) (hv:Vis X.env.scope x) (hr:Room n X.A) (ha:PA X [e1,e2] (lA ta))
  (hd:(x == ("__debug__":Str))=false:=by decide) (hcd:(x == ("__classdict__":Str))=false:=by decide) (he:starEach [e1,e2] X.env=(false,eval e1 X.env) :: starEach [e2] X.env:=by rfl) (hpl:(backTo pos (starEach [e2] X.env)).any (·.1)=false:=by rfl) :
  PE X (.Call (.Name x p) [e1,e2] [] pos) (lE (ci0 (LamOk X.prog X.w X.K X.mg X.base n) i ta)):=by
 intro pins s σ H Q I zz
 obtain ⟨B,F,δ,ts,Qd,c,⟨of,oc,cc,k,sp,ed,L,q⟩,kk⟩:=zz
 obtain ⟨v,ev,sv⟩:=c.look ed
 obtain ⟨f,rfl,lam⟩:∃f,v=.ref f/\LamAt H f of oc cc k:=by
  cases sv with
  | clo h _=>exact ⟨_,rfl,h⟩
 refine wpAny_Call_Name_kw (thn (bd3 hN hv hd hcd pins s σ H (λv' H'=>v'=.ref f/\H'=H) I ⟨_,ev,rfl,rfl⟩) λu s1 zz=>?_)
 obtain ⟨v',H',I1,r1,e1,e2⟩:=zz
 subst e1 e2
 obtain rfl:u=.ref f:=r1
 have fnAt:∀{H1:Hp} {s2:Shared},Inv X pins σ H1 s2->LamAt H1 f of oc cc k->PySem.W.FnAt f s2.heap:=λ{H1 s2} J l=>by
  obtain ⟨o1,od,fd,sl,e⟩:=L.fn
  exact ⟨o1,od,fd,sl,by rw [<-e]; exact (J.hok.lam l.fn).1⟩
 refine PySem.W.callWith_F (fnAt I1 lam) (thn (ha pos pins s1 σ H' (λvs H2=>∃a b δ' F',vs=[.int a,.int b]/\(sp a b λr=>Qd (.int r) δ')/\Same F F'/\Same H' H2/\Cur B F' H2 σ δ' ts) I1
  ⟨B,F,δ,ts,_,c,q,λds δ' vs F' H2 ⟨a,b,eds,q2⟩ f1 h1 c1 s1=>?_⟩) λus s2 ⟨vs,H2,I2,r2,a,b,δ',F',evs,q2,f1,h1,c1⟩=>⟨fnAt I2 ((show CloAt H' f (.lam of oc cc k) from lam).mono λa o e _ t=>h1.get a o e t),?_⟩) he hpl
 ·subst eds
  refine ⟨a,b,δ',F',?_,q2,f1,h1,c1⟩
  cases s1 with
  | int s1=>cases s1 with
   | int s1=>cases s1; rfl
 ·subst evs
  have lam2:LamAt H2 f of oc cc k:=(show CloAt H' f (.lam of oc cc k) from lam).mono λa o e _ t=>h1.get a o e t
  obtain ⟨o1,od,fd,sl,eof⟩:=L.fn
  have hdat:of.data=.func fd:=by rw [eof]
  obtain ⟨gf,gc⟩:=I2.hok.lam lam2.fn
  obtain ⟨ψ,eψ,hψ⟩:=lam2.kod
  obtain ⟨u1,u2,t1,t2,rfl⟩:∃(u1 u2:Unit) (t1 t2:Tok),us=[.int a t1,.int b t2]:=by
   cases r2 with
   | cons ra r2=>cases r2 with
    | cons rb r2 =>
     cases r2
     obtain ⟨t1,rfl⟩:=ra
     obtain ⟨t2,rfl⟩:=rb
     exact ⟨(),(),t1,t2,rfl⟩
  refine wpAny_call (codeAny_mono (L.run X.A X.stack s2 (rem H2 f cc) f t1 t2 a b _ hr (I2.env0.rem lam2.fn lam2.cell hdat) gf gc bQ9 (hψ _ (I2.hok k _ eψ).1) q2) λr s' hq=>?_)
  cases r with
  | error e=>exact hq.elim
  | ok fl =>
   cases fl with
   | ret u =>
    refine I2.after (CE.add I2.env0 lam2.fn lam2.cell hq (Q':=Q) ?_)
    rintro v H3 ⟨r,rfl,hqd,hs⟩ nf nc
    have sm:=hs.addL lam2.fn rfl lam2.cell rfl
    exact kk _ δ' _ F' _ hqd f1 (h1.trans sm) ((c1.grow sm).pushS (.int .nil) rfl)
   | next=>exact False.elim hq
   | brk=>exact False.elim hq
   | cont=>exact False.elim hq
end L3
namespace L2
open PySem PySem.Spec PyProof.Rows
theorem bo5 {p:Pos} {c:Value} (l:List Value) (h:TriplesOk l):TriplesOk (l++[rawInt p.line,rawInt p.col,c]):=by
 fun_induction TriplesOk l with
 | case1=>simp [TriplesOk,rawInt]
 | case2 a b d e f bk6 ih=>exact ih h
 | case3=>exact h.elim
theorem bE1 {p q:Pos} {c cv:Value} (l:List Value) (h:TriplesOk l) (e:codeAmong q (l++[rawInt p.line,rawInt p.col,c])=some cv):codeAmong q l=some cv\/cv=c:=by
 fun_induction TriplesOk l with
 | case1 =>
  simp only [List.nil_append,rawInt,codeAmong] at e
  split at e
  ·exact .inr (Option.some.inj e).symm
  ·cases e
 | case2 a b d e' f bk6 ih =>
  simp only [List.cons_append,codeAmong] at e ⊢
  split at e
  ·rename_i z; rw [if_pos z]; exact .inl e
  ·rename_i z; rw [if_neg z]; exact ih h e
 | case3=>exact h.elim
noncomputable def bU9 (f:Addr) (o:Obj):Heap->Prop:=λh=>h.get? f=some o
noncomputable def cA9 (P c:Addr) (x:Str) (params:Arguments) (body:Expr) (scope:Scope):TE:=λ_ H Q=>(∃ps,H P=some (.tbl ps)) /\
 ∀f k qn pm ctv H',H f=none->H' f=some (.ext (bU9 f (PySem.W.kla_obj "<lambda>" qn params body scope [(x,c)] pm k ctv)))->L3.Kod H' k->k≠f->L3.Same H H'->(∀a ws,H' a=some (.lst ws)->H a=some (.lst ws))->Q (.ref f) H'
theorem b08 {X:Cx} {P c cc:Addr} {x:Str} {params:Arguments} {body:Expr} {scope:Scope} {pos:Pos} (hcl:closureFor scope X.env=pure [(x,c)]) (hcode:X.env.code=.ref cc) (hK:PySem.W.codeHdIn X.K cc P=true) (hbm:Bm X.mg X.base)
  (hdef:defaultsOf params X.env=([],[]):=by rfl):PE X (.Lambda params body scope pos) (cA9 P c x params body scope):=by
 intro pins s σ H Q I zz
 obtain ⟨⟨ps,hP⟩,q⟩:=zz
 obtain ⟨bm,ob,b1,b2,b3,b4,b5,b6,b7⟩:=hbm
 have C:=PySem.W.codeHd_of_K I.kIn hK
 obtain ⟨oP,tri,codes⟩:=I.hok P _ hP
 have hg:=I.mod.glob.keeps I.bk
 have notP:∀{b o},X.base.get? b=some o->b≠P:=λ{b o} e z=>by
  have:=(I.bs b o e).2
  rw [z,hP] at this; cases this
 have hgP:mainGlobals≠P:=by
  obtain ⟨o,es,ep,e,_⟩:=I.mod.glob
  exact notP e
 have hBA:s.heap.BuiltinsAt X.mg P:=⟨bm,ob,b1,b2,b3,notP b4,I.bk _ _ b4,b5,b6,b7⟩
 refine PySem.W.kla_eval hdef ?_
 have fresh:∀{b:Addr},s.heap.objs.size<=b->H b=none:=λ{b} h=>I.hok.fresh h
 cases hca:codeAmong pos ps.toList with
 | none =>
  refine PySem.W.kla_makeFunction (mg:=X.mg) hcl I.ok.glob hg hcode C oP tri hca hgP hBA λk ctv h' tk hx hge hlt hrec htb=>?_
  have hPs:P < s.heap.objs.size:=Heap.lt_size oP
  have hPk:k≠P:=λz=>by rw [z] at hge; exact absurd hPs (Nat.not_lt.mpr hge)
  have hss:s.heap.objs.size<=h'.objs.size:=Nat.le_trans hge (Nat.le_of_lt hlt)
  have hPf:h'.objs.size≠P:=λz=>by rw [<-z] at hPs; exact absurd hPs (Nat.not_lt.mpr hss)
  have hkf:k≠h'.objs.size:=Nat.ne_of_lt hlt
  generalize hob:PySem.W.kla_obj "<lambda>" (X.env.qual++"<lambda>") params body scope [(x,c)] ((X.mg "__name__").getD .none) k ctv=obj
  have hfr:obj.isFreed=false:=by rw [<-hob]; rfl
  have hH':∀b,b≠P->b≠k->b≠h'.objs.size->upd (upd (upd H P (.tbl (ps++#[rawInt pos.line,rawInt pos.col,.ref k]))) k (.ext λh=>∃q,h.CodeRec (.ref k) q)) h'.objs.size (.ext (bU9 h'.objs.size obj)) b=H b:=λb n1 n2 n3=>by
   rw [aP5 n3,aP5 n2,aP5 n1]
  have atF:upd (upd (upd H P (.tbl (ps++#[rawInt pos.line,rawInt pos.col,.ref k]))) k (.ext λh=>∃q,h.CodeRec (.ref k) q)) h'.objs.size (.ext (bU9 h'.objs.size obj)) h'.objs.size=some (.ext (bU9 h'.objs.size obj)):=aP7
  have atK:upd (upd (upd H P (.tbl (ps++#[rawInt pos.line,rawInt pos.col,.ref k]))) k (.ext λh=>∃q,h.CodeRec (.ref k) q)) h'.objs.size (.ext (bU9 h'.objs.size obj)) k=some (.ext λh=>∃q,h.CodeRec (.ref k) q):=by rw [aP5 hkf,aP7]
  have atP:upd (upd (upd H P (.tbl (ps++#[rawInt pos.line,rawInt pos.col,.ref k]))) k (.ext λh=>∃q,h.CodeRec (.ref k) q)) h'.objs.size (.ext (bU9 h'.objs.size obj)) P=some (.tbl (ps++#[rawInt pos.line,rawInt pos.col,.ref k])):=by rw [aP5 hPf.symm,aP5 hPk.symm,aP7]
  generalize hHn:upd (upd (upd H P (.tbl (ps++#[rawInt pos.line,rawInt pos.col,.ref k]))) k (.ext λh=>∃q,h.CodeRec (.ref k) q)) h'.objs.size (.ext (bU9 h'.objs.size obj))=Hn at hH' atF atK atP
  have old:∀{b o},H b=some o->b≠P->Hn b=some o:=λ{b o} e n=>by
   have hb:b < s.heap.objs.size:=I.hok.lt e
   rw [hH' b n (λz=>absurd hb (Nat.not_lt.mpr (z ▸ hge))) (λz=>absurd hb (Nat.not_lt.mpr (z ▸ hss)))]; exact e
  have kept:∀b o,b≠P->s.heap.get? b=some o->(h'.push obj).get? b=some o:=λb o n e=>Heap.get?_push_of_some _ (hx b o n e)
  have un:Un X.fs [] H Hn s.heap (h'.push obj):=by
   refine ⟨λb o e n _ _=>kept b o (λz=>by rw [z,hP] at n; cases n) e,λb o e n _ _=>⟨o.slots,kept b o (λz=>by rw [z,hP] at n; cases n) e⟩,λb o e n _=>?_,λb o e _=>?_,λb xs e=>old e (λz=>by rw [z,hP] at e; cases e),λb ob xs e=>old e (λz=>by rw [z,hP] at e; cases e),λb ps' e=>?_⟩
   ·have hb:=Heap.lt_size e
    rw [hH' b (λz=>by rw [z,hP] at n; cases n) (λz=>absurd hb (Nat.not_lt.mpr (z ▸ hge))) (λz=>absurd hb (Nat.not_lt.mpr (z ▸ hss)))]; exact n
   ·by_cases z:b=P
    ·rw [z]; exact ⟨_,Heap.get?_push_of_some _ htb⟩
    ·exact ⟨o,kept b o z e⟩
   ·by_cases z:b=P
    ·subst z
     rw [hP] at e; cases e
     exact ⟨_,atP⟩
    ·exact ⟨#[],by rw [old e z]; simp⟩
  have hok:HOk X.prog X.w Hn (h'.push obj):=λb o e=>by
   by_cases z1:b=h'.objs.size
   ·subst z1
    rw [atF] at e; cases e
    exact ⟨Heap.get?_push_size _ hfr,⟨_,Heap.get?_push_size _ hfr⟩,λh1 h2 p kk=>kk _ _ (.inl rfl) p⟩
   ·by_cases z2:b=k
    ·subst z2
     rw [atK] at e; cases e
     have hr:=hrec.push obj
     refine ⟨⟨_,hr⟩,?_,λh1 h2 ⟨q,c1,o1,vs,t,e1,e2,r⟩ kk=>?_⟩
     ·obtain ⟨c1,o1,vs,t,e1,e2,_⟩:=hr
      cases e1
      exact ⟨o1,e2⟩
     ·cases e1
      exact ⟨q,_,o1,vs,t,rfl,kk _ _ (.inl rfl) e2,r⟩
    ·by_cases z3:b=P
     ·subst z3
      rw [atP] at e; cases e
      refine ⟨Heap.get?_push_of_some _ htb,by rw [Array.toList_append]; exact bo5 _ tri,λp' cv e'=>?_⟩
      rw [Array.toList_append] at e'
      rcases bE1 _ tri e' with e' | e'
      ·obtain ⟨d,φ,e1,e2,e3⟩:=codes p' cv e'
       exact ⟨d,φ,e1,old e2 (λz=>by rw [z,hP] at e2; cases e2),e3⟩
      ·exact ⟨k,_,e',atK,λh' p=>p⟩
     ·rw [hH' b z3 z2 z1] at e
      have nP:∀{b' o'},H b'=some o'->(∀ps,o'≠.tbl ps)->b'≠P:=λ{b' o'} e n z=>by rw [z,hP] at e; cases e; exact n _ rfl
      refine (I.hok b o e).stay (λb' u hb' e'=>kept b' u ?_ e') (λb' e'=>old e' (nP e' (λps z=>by cases z))) (λb' xs e'=>old e' (nP e' (λps z=>by cases z))) λb' φ e'=>old e' (nP e' (λps z=>by cases z))
      rcases hb' with rfl | hb'
      ·exact z3
      ·exact nP hb' (λps z=>by cases z)
  refine ⟨.ref h'.objs.size,Hn,I.un un hok,rfl,q _ k _ _ _ _ (fresh hss) (by rw [hob]; exact atF) ⟨_,atK,λh p=>p⟩ hkf ⟨λb o e n=>old e (λz=>by rw [z,hP] at e; cases e; cases n),λb ps' e=>?_⟩ λa ws e=>?_⟩
  ·exact un.tbls b ps' e
  ·by_cases z1:a=h'.objs.size
   ·subst z1; rw [atF] at e; cases e
   ·by_cases z2:a=k
    ·subst z2; rw [atK] at e; cases e
    ·by_cases z3:a=P
     ·subst z3; rw [atP] at e; cases e
     ·rw [hH' a z3 z2 z1] at e; exact e
 | some cv =>
  obtain ⟨k,φ,rfl,hk,hφ⟩:=codes pos cv hca
  refine PySem.W.kla_makeFunctionHit (mg:=X.mg) hcl I.ok.glob hg hcode C oP tri hca hBA λctv h' tk hx hss=>?_
  have hf:=fresh hss
  refine ⟨.ref h'.objs.size,upd H h'.objs.size (.ext (bU9 h'.objs.size (PySem.W.kla_obj "<lambda>" (X.env.qual++"<lambda>") params body scope [(x,c)] ((X.mg "__name__").getD .none) k ctv))),I.laid (λb u e=>Heap.get?_push_of_some _ (hx b u e)) hss ?_,rfl,q _ k (X.env.qual++"<lambda>") ((X.mg "__name__").getD .none) ctv _ hf aP7 ⟨φ,?_,hφ⟩ (aQ1 hk hf) (L3.Same.of λb o e=>?_) λa ws e=>?_⟩
  ·exact ⟨Heap.get?_push_size _ rfl,⟨_,Heap.get?_push_size _ rfl⟩,λh1 h2 p kk=>kk _ _ (.inl rfl) p⟩
  ·rw [aP5 (aQ1 hk hf)]; exact hk
  ·rw [aP5 (aQ1 e hf)]; exact e
  ·by_cases z:a=h'.objs.size
   ·subst z; rw [aP7] at e; cases e
   ·rw [aP5 z] at e; exact e
end L2
namespace L2
open PySem PySem.Spec PyProof.Rows
structure CMeth (K:PySem.W.Frag) (C:Addr) (m:Str) (f:Addr):Prop where
 ga:PySem.W.specialIn K (.ref C) "__getattribute__"=some (some (.builtin "type.__getattribute__"))
 rd:PySem.W.readsIn K C (.type "type")=true
 at_:PySem.W.findCls K (.ref C) (.type "type") m=some (.val (.ref f))
 kp:PySem.W.keepIn K (.ref f)=true
section
variable {X:Cx} {CX:CXT} {k:Nat} {f C:Addr} {fd:FuncData} {ps:List Str} {sp:Sp} {E:XK} {x m:Str} {p pos apos:Pos} {e o:Expr} {es:List Expr} {ta:TE} {t:TA}
theorem bQ1 {pins:List (Addr × Obj)} {σ:St} {H:Hp} {s:Shared} {pl:Sem Bool} {A:Around} {E':Value->Shared->Prop} {Q:Value × List Value->Shared->Prop} (I:Inv X pins σ H s) (M:CMeth X.K C m f) (h:∀s',Inv X pins σ H s'->Q (.ref f,[]) s') :
  wpAny (model X.prog X.w) A (getMethod (.ref C) m pl) Q E' s :=
 PySem.W.method_cls I.kIn M.ga (PySem.W.cls_value (mc:=.type "type") I.kIn M.rd M.at_ rfl (h _ (I.tok _)))
theorem ca0 {pins:List (Addr × Obj)} {σ:St} {H:Hp} {s:Shared} {pl:Sem Bool} {Q:Value->Shared->Prop} {QA:List V->Hp->Prop} (I:Inv X pins σ H s) (M:CMeth X.K C m f) (hg:Gl X x) (hm:X.mg x=some (.ref C)) (ha:PA X (e :: es) t) (h:t σ H QA)
  (hq:∀us s1 vs H1,Inv X pins σ H1 s1->Vals vs us->QA vs H1->wpAny (model X.prog X.w) X.A (call (.ref f) us) Q X.xe s1)
  (hdb:(x == ("__debug__":Str))=false:=by decide) (hst:starEach (e :: es) X.env=(false,eval e X.env) :: starEach es X.env:=by rfl) (hpl:(backTo pos (starEach es X.env)).any (·.1)=false:=by rfl)
  (ht:eval (.Call (.Attribute (.Name x p) m apos) (e :: es) [] pos) X.env=(do
   let ov<-eval (.Name x p) X.env
   standAt apos.atName
   let (f,first)<-holding [ov] (getMethod ov m pl)
   callWith pos f first (backTo pos (starEach (e :: es) X.env)) (backToKw pos (keywordEach [] X.env))):=by rfl) :
  wpAny (model X.prog X.w) X.A (eval (.Call (.Attribute (.Name x p) m apos) (e :: es) [] pos) X.env) Q X.xe s:=by
 refine PySem.W.methodCall_KW (pl:=pl) (bm4 I hg hm ?_ hdb) ht
 refine bQ1 I M λs1 I1=>?_
 refine PySem.W.callWith_K (first:=[]) (h₀:=X.base) I.ok.mod.kin M.kp (thn (ha pos pins s1 σ H _ I1 h) λus s2 ⟨vs,H2,I2,r,q2⟩=>⟨I2.kIn,?_⟩) hst hpl
 exact hq us s2 vs H2 I2 r q2
noncomputable def cs5 (sp:Sp) (E:XK) (c:Addr) (i:Nat) (t:TA):TE:=λσ H Q=>t σ H λvs H1=>∃f of fd v,H1 f=some (.ext (bU9 f of))/\of.data=.func fd/\σ[i]?=some (some v) /\
 ∀oc u,oc.data=.cell (some u)->RelV v u->H1 c=none->c≠f->sp vs (upd (upd H1 f (.ext (L3.cloφ of oc c f))) c (.own f)) (λr H2=>H2 f=some (.ext (L3.cloφ of oc c f))/\H2 c=some (.own f)/\Q r (rem H2 f c)) E
theorem bE7 {pl:Sem Bool} {y:Str} {c:Addr} {i:Nat} (M:CMeth X.K C m f) (F:FnOk X.prog X.w X.K X.mg X.base CX0 k f fd ps sp) (hr:Room k X.A) (hb:Binds X.K fd ps []) (hg:Gl X x) (hm:X.mg x=some (.ref C))
  (hN:X.N[i]?=some y) (hy:X.env.scope.names.lookup y=some .cell) (hcl:X.env.cells.lookup y=some c) (hfn:X.fn y=true) (ha:PA X (e :: es) t)
  (hdb:(x == ("__debug__":Str))=false:=by decide) (hst:starEach (e :: es) X.env=(false,eval e X.env) :: starEach es X.env:=by rfl) (hpl:(backTo pos (starEach es X.env)).any (·.1)=false:=by rfl)
  (ht:eval (.Call (.Attribute (.Name x p) m apos) (e :: es) [] pos) X.env=(do
   let ov<-eval (.Name x p) X.env
   standAt apos.atName
   let (f,first)<-holding [ov] (getMethod ov m pl)
   callWith pos f first (backTo pos (starEach (e :: es) X.env)) (backToKw pos (keywordEach [] X.env))):=by rfl) :
  PE X (.Call (.Attribute (.Name x p) m apos) (e :: es) [] pos) (cs5 sp E c i t):=by
 intro pins s σ H Q I h
 refine ca0 (pl:=pl) I M hg hm ha h (λus s1 vs H1 I1 r ⟨fa,of,fdd,v,hf,hd,hv,hq⟩=>?_) hdb hst hpl ht
 obtain ⟨ml,_,hl⟩:=I1.loc
 obtain ⟨u,rv,lk⟩:=hl i y v hN hv (.inr (.inl hy))
 obtain ⟨oc,gc,hoc⟩:∃oc,s1.heap.get? c=some oc/\oc.data=.cell (some u):=by
  rcases lk with ⟨hk,_⟩ | ⟨_,c',hc',ic⟩
  ·rw [show X.env.kindOf y=some .cell from hy] at hk; cases hk
  ·rw [hcl] at hc'; cases hc'; exact ic
 have nc:H1 c=none:=I1.freeC y c hcl
 have ncf:c≠fa:=λz=>by rw [z,hf] at nc; cases nc
 have gf:s1.heap.get? fa=some of:=(I1.hok fa _ hf).1
 have hq':=hq oc u hoc rv nc ncf
 have cge:=I1.ok.cab y c hfn hcl
 generalize hH:upd (upd H1 fa (.ext (L3.cloφ of oc c fa))) c (.own fa)=Hp at hq'
 have atc:Hp c=some (.own fa):=by rw [<-hH,aP7]
 have atf:Hp fa=some (.ext (L3.cloφ of oc c fa)):=by rw [<-hH,aP5 ncf.symm,aP7]
 have ato:∀b,b≠fa->b≠c->Hp b=H1 b:=λb n1 n2=>by rw [<-hH,aP5 n2,aP5 n1]
 have nfs:c ∉ X.fs:=λhb=>by
  obtain ⟨_,o,ho,_⟩:=I1.ok.funs.mem hb
  exact absurd (Nat.lt_of_lt_of_le (Heap.lt_size ho) cge) (Nat.lt_irrefl _)
 have nst:∀b∈frs X.stack,b≠c:=λb hb z=>by
  rcases List.mem_cons.mp (I1.stkSub b hb) with e | hb
  ·exact I1.cne y c hcl (z ▸ e)
  ·exact nfs (z ▸ hb)
 have hokp:HOk X.prog X.w Hp s1.heap:=λb ob q=>by
  by_cases z1:b=c
  ·subst z1; rw [atc] at q; cases q; exact ⟨_,gc⟩
  ·by_cases z2:b=fa
   ·subst z2; rw [atf] at q; cases q
    exact ⟨⟨gf,gc⟩,⟨_,gf⟩,λh1 h2 p kk=>⟨kk _ _ (.inl rfl) p.1,kk _ _ (.inr atc) p.2⟩⟩
   ·rw [ato b z2 z1] at q
    have x1:=(I1.hok b ob q).rem (f:=fa) (c:=c) z2 hf (.inr nc) (b06 gf (λ_ p=>p) hd)
    have up:∀{b' o'},rem H1 fa c b'=some o'->Hp b'=some o':=λ{b' o'} q=>by
     obtain ⟨n1,n2,q'⟩:=bZ0 q
     rw [ato b' n1 n2]; exact q'
    exact x1.stay (λ_ _ _ q=>q) (λ_ q=>up q) (λ_ _ q=>up q) λ_ _ q=>up q
 have e0:Env0 X.prog X.w X.K X.mg X.base X.A X.stack s1 Hp:=by
  have e1:=I1.env0
  refine ⟨e1.frames,e1.mod,λb ob q=>⟨(e1.bs b ob q).1,?_⟩,e1.bsz,e1.funs,λb hb=>?_,hokp,e1.bare⟩
  ·have hb0:=(I1.ok.bs b ob q).1
   rw [ato b (λz=>by have:=(e1.bs b ob q).2; rw [z,hf] at this; cases this) (λz=>absurd (Nat.lt_of_lt_of_le (Heap.lt_size hb0) (z ▸ cge)) (Nat.lt_irrefl _))]
   exact (e1.bs b ob q).2
  ·have nb:=e1.frf b hb
   rw [ato b (λz=>by rw [z,hf] at nb; cases nb) (nst b hb)]; exact nb
 have hlen:us.length=ps.length:=by rw [<-r.length]; exact F.len _ _ _ _ hq'
 refine wpAny_call (codeAny_mono (F.run X.A X.stack s1 Hp ⟨us,[]⟩ us vs _ E hr e0 (by have:=hb s1 us I1.kIn (by rw [List.append_nil]; exact hlen); rwa [List.append_nil] at this) r hq') λrr s' hz=>?_)
 cases rr with
 | error e=>exact hz.elim
 | ok fl =>
  cases fl with
  | next=>exact False.elim hz
  | brk=>exact False.elim hz
  | cont=>exact False.elim hz
  | ret u' =>
   obtain ⟨v',H2,os,bare,un,hok2,rv',q1,q2,q3⟩:=hz
   obtain ⟨_,gc2⟩:=hok2.lam q1
   refine I1.after ⟨v',rem H2 fa c,os,bare,⟨λb ob g n hb hx=>?_,λb ob g n hb hx=>?_,λb ob g n hx=>?_,un.there,λb xs g=>?_,λb ob xs g=>?_,λb ps g=>?_⟩,hok2.rem q1 q2 hd,rv',q3⟩
   ·by_cases z:b=c
    ·rw [z,gc] at g; cases g; rw [z]; exact gc2
    ·exact un.keep b ob g (by rw [ato b (λz=>by rw [z,hf] at n; cases n) z]; exact n) hb hx
   ·by_cases z:b=c
    ·rw [z,gc] at g; cases g; rw [z]; exact ⟨_,gc2⟩
    ·exact un.slot b ob g (by rw [ato b (λz=>by rw [z,hf] at n; cases n) z]; exact n) hb hx
   ·by_cases z:b=c
    ·rw [z]; exact bQ9
    ·exact a82 (un.free b ob g (by rw [ato b (λz=>by rw [z,hf] at n; cases n) z]; exact n) hx)
   ·have n1:b≠fa:=λz=>by rw [z,hf] at g; cases g
    have n2:b≠c:=λz=>by rw [z,nc] at g; cases g
    rw [aX3 n1 n2]
    exact un.tups b xs (by rw [ato b n1 n2]; exact g)
   ·have n1:b≠fa:=λz=>by rw [z,hf] at g; cases g
    have n2:b≠c:=λz=>by rw [z,nc] at g; cases g
    rw [aX3 n1 n2]
    exact un.frzs b ob xs (by rw [ato b n1 n2]; exact g)
   ·have n1:b≠fa:=λz=>by rw [z,hf] at g; cases g
    have n2:b≠c:=λz=>by rw [z,nc] at g; cases g
    rw [aX3 n1 n2]
    exact un.tbls b ps (by rw [ato b n1 n2]; exact g)
end
end L2
namespace L3
open PySem L2 PySem.Spec PyProof.Rows
theorem bv9 {ts:List Addr} {H H':Hp} (h:Tb ts H) (s:Same H H'):Tb ts H':=λP hP=>by
 obtain ⟨ps,e⟩:=h P hP
 obtain ⟨m,e2⟩:=s.tb P ps e
 exact ⟨_,e2⟩
theorem b07 {P:Program} {w:World} {K:PySem.W.Frag} {mg:Str->Option Value} {base:Heap} {n:Nat} {p1 p2 x qn:Str} {params:Arguments} {body:Expr} {scope:Scope} {pm ctv:Value} {oc:Obj} {c k:Addr} {m:Int} {tm:Tok} {sp:LSp} (S:Lam2 p1 p2 x scope)
  (hoc:oc.data=.cell (some (.int m tm))) (hb:∀u1 u2:Value,bindArgs (PySem.W.kla_fn "<lambda>" qn params body scope [(x,c)] pm (.ref k) ctv) ⟨[u1,u2],[]⟩=pure [(p1,u1),(p2,u2)])
  (hbody:∀(q:Str) (f:Addr) (A:Around) (outer:List Env) (s:Shared) (H:Hp) (E:XK),Room n (A.deeper (PySem.W.envX q scope s.heap.objs.size f (.ref k) [(x,c)])) ->
   ∃t:TEd,PE (bt9 CX0 P w K mg base [p1,p2,x] q scope f (.ref k) [(x,c)] A outer s H E).nox body (lE t)/\∀i j Qd,sp i j Qd->t [some (.int i),some (.int j),some (.int m)] λd _=>∃r,d=.int r/\Qd r) :
  LamOk P w K mg base (n + 1) (PySem.W.kla_obj "<lambda>" qn params body scope [(x,c)] pm k ctv) oc c k sp where
 fn:=⟨_,_,_,_,rfl⟩
 run A outer s H f t u i j Qd hr e0 gf gc hH hcd h:=by
  obtain ⟨q,hcd⟩:=hcd
  obtain ⟨tt,ht,hq⟩:=hbody q f A outer s H (λ_ _ _=>False) (hr.deeper _)
  refine cb1 (v1:=.int i) (v2:=.int j) (vc:=.int m) (E:=λ_ _ _=>False) S e0 hr gf ⟨oc,gc,hoc⟩ ⟨tm,rfl⟩ hH hcd (hb _ _) ⟨t,rfl⟩ ⟨u,rfl⟩ ht.nox ?_
  refine ⟨⟨H,H⟩,H,_,[],_,?_,hq i j Qd h,λd δ' v F' H' hd f1 h1 c1=>?_⟩
  ·exact Cur.start (ds:=[.int i,.int j,.int m]) (vs:=[.int i,.int j,.int m]) (Same.refl H) (.int (.int (.int .nil))) 0
  ·obtain ⟨r,rfl,hd⟩:=hd
   have s1:=c1.top
   cases s1
   exact ⟨r,rfl,hd,h1⟩
section
variable {X:Cx} {CX:CXT} {n:Nat} {f:Addr} {fd:FuncData} {ps:List Str} {sp:SpD} {E:XK} {x:Str} {p pos:Pos} {e:Expr} {es:List Expr} {t:TAd} {tl:List Addr}
theorem ce4 (hT:Tb tl X.H₀) (F:FnOk X.prog X.w X.K X.mg X.base CX n f fd ps (cp0 tl (lSp sp))) (hr:Room n X.A) (hg:Gl X x) (hm:X.mg x=some (.ref f)) (hk:PySem.W.keepIn X.K (.ref f)=true) (hb:Binds X.K fd ps []) (hx:a93 CX X E)
  (ha:PA X (e :: es) (lA t)) (hdb:(x == ("__debug__":Str))=false:=by decide) (he:starEach (e :: es) X.env=(false,eval e X.env) :: starEach es X.env:=by rfl) (hpl:(backTo pos (starEach es X.env)).any (·.1)=false:=by rfl) :
  PE X (.Call (.Name x p) (e :: es) [] pos) (lE (bu0 sp t)):=by
 intro pins s σ H Q I zz
 obtain ⟨B,F',δ,ts,Qd,c,q,k⟩:=zz
 have tb:=bZ5 I hT
 refine ba1 F hr hg hm hk hb .nil hx ha hdb he hpl pins s σ H Q I ⟨B,F',δ,ts,_,c,q,λds δ1 vs F1 H1 q1 f1 h1 c1 s1=>?_⟩
 refine ⟨bv9 tb h1,?_⟩
 rw [List.append_nil]
 exact bn4 c1 s1 q1 λd v F' H' hd hf hs c'=>k d δ1 v F' H' hd (f1.trans hf) (h1.trans hs) c'
end
section
variable {P:Program} {w:World} {K:PySem.W.Frag} {mg:Str->Option Value} {base:Heap}
theorem bX9 {x qual:Str} {st:Stmt} {f:Addr} {fd:FuncData} {N ps:List Str} {k:Nat} {sp:SpD} {tl:List Addr} (F:Fun K x qual st f fd) (S:FnScope N ps (aO3 st)) (len:∀ds Q,sp ds Q->ds.length=ps.length)
  (hbody:∀(cdv:Value) (A:Around) (outer:List Env) (s:Shared) (H:Hp) (E:XK),Tb tl H->Room k (A.deeper (envOfC qual (aO3 st) s.heap.objs.size f cdv)) ->
   ∃t:TSd,PSs (bB2 CX0 P w K mg base N qual (aO3 st) f cdv A outer s H E).nox (aO9 st) (lS (bB2 CX0 P w K mg base N qual (aO3 st) f cdv A outer s H E).nox t)/\∀ds Q,sp ds Q->t { nx:=λ_=>Q .non,rt:=Q } (a62 N ds)):FnOk P w K mg base CX0 (k + 1) f fd ps (cp0 tl (lSp sp)):=by
 refine F.ok S (λvs H Q E ⟨_,F,ds,Qd,e,r,h,_⟩=>by rw [<-r.length]; exact len ds Qd h) λcdv A outer s H vs Q E hr zz=>?_
 obtain ⟨tb,F,ds,Qd,e,r,h,k⟩:=zz
 obtain ⟨t,ht,hq⟩:=hbody cdv A outer s H E tb hr
 have fin:∀d v δ' σ' F' H',Qd d->Cur ⟨H,F⟩ F' H' σ' δ' [(d,v)]->Q v H':=λd v δ' σ' F' H' hd c=>by
  obtain ⟨A,C,r',s',nd,fr⟩:=c.own
  exact k d v F' H' A hd c.b1 c.b2 c.ext c.b3 r' (nd_app.mp nd).1 λa ha=>fr a (List.mem_append_left _ ha)
 have e1:L2.start N vs=vs.map some++List.replicate (N.length - ds.length) none:=by unfold L2.start; rw [r.length]
 refine ⟨_,ht,⟨H,F⟩,F,a62 N ds,_,?_,hq ds Qd h,λδ' σ' F' H' hd c=>fin .non .non δ' σ' F' H' hd (c.pushS (.non .nil) rfl),fin,λ_ _ _ _ z=>z.elim,λ_ _ _ _ z=>z.elim,XL.none (λ_ _ z=>z) λ_ _ z=>z⟩
 rw [e1]
 exact Cur.start e r _
theorem bJ9 {x qual:Str} {st:Stmt} {f cc:Addr} {fd:FuncData} {N ps:List Str} {k:Nat} {sp:Sp} (F:Fun K x qual st f fd) (hcode:fd.code=.ref cc) (S:FnScope N ps (aO3 st)) (len:∀vs H Q E,sp vs H Q E->vs.length=ps.length)
  (hbody:∀(A:Around) (outer:List Env) (s:Shared) (H:Hp) (vs:List V) (Q:VK) (E:XK),Room k (A.deeper (envOfC qual (aO3 st) s.heap.objs.size f (.ref cc)))->sp vs H Q E ->
   ∃t,PSs (bB2 CX0 P w K mg base N qual (aO3 st) f (.ref cc) A outer s H E).nox (aO9 st) t/\t { nx:=λ_ H'=>Q .non H',rt:=Q } (L2.start N vs) H):FnOk P w K mg base CX0 (k + 1) f fd ps sp:=by
 obtain ⟨oc,od,kV,doc,pm,an,cdv,ct,osl,rfl,lk,hcd⟩:=F.ex
 obtain rfl:cdv=.ref cc:=hcode
 refine cc2 lk hcd S len λA outer s H vs Q E hr hsp=>?_
 obtain ⟨t,h,q⟩:=hbody A outer s H vs Q E hr hsp
 exact ⟨t,h.nox,q⟩
end
end L3
namespace L3
open PySem L2 PySem.Spec PyProof.Rows
theorem bD1 {ns:List Str} {xs:List D} {ws:List V} {F H:Hp} {f:Str} {d:D} (r:R F H xs ws []) (h:(ns.zip xs).lookup f=some d):∃w,(ns.zip ws).lookup f=some w/\R F H [d] [w] []:=by
 generalize e:([]:List Addr)=A at r
 induction ns generalizing xs ws A with
 | nil=>simp at h
 | cons n ns ih =>
  cases xs with
  | nil=>simp at h
  | cons x xs =>
   obtain ⟨v,vs',A1,A2,rfl,rfl,h1,h2⟩:=R.uncons r
   obtain ⟨rfl,rfl⟩:=List.append_eq_nil_iff.mp e.symm
   rw [List.zip_cons_cons] at h ⊢
   by_cases z:f=n
   ·subst z
    rw [List.lookup_cons,beq_self_eq_true] at h
    cases h
    refine ⟨v,?_,h1⟩
    rw [List.lookup_cons,beq_self_eq_true]
   ·have z':(f == n)=false:=beq_eq_false_iff_ne.mpr z
    rw [List.lookup_cons,z'] at h
    obtain ⟨w,e1,e2⟩:=ih h [] rfl h2
    refine ⟨w,?_,e2⟩
    rw [List.lookup_cons,z']
    exact e1
theorem a66 {ns:List Str} {ws:List V} {f:Str} (h:f ∉ ns):(ns.zip ws).lookup f=none:=by
 induction ns generalizing ws with
 | nil=>simp
 | cons n ns ih =>
  cases ws with
  | nil=>simp
  | cons w ws =>
   rw [List.zip_cons_cons,List.lookup_cons]
   have hn:(f == n)=false:=beq_eq_false_iff_ne.mpr λz=>h (by rw [z]; simp)
   simp only [hn]
   exact ih λz=>h (by simp [z])
theorem cg2 {F H:Hp} {C:Addr} {ns:List Str} {xs:List D} {v:V} (s:S F H [.obj C ns xs] [v]):∃p dx ws,v=.ref p/\H p=some (.ins C dx (ns.zip ws))/\ns.length=ws.length/\R F H xs ws []:=by
 cases s with
 | obj h l r _=>exact ⟨_,_,_,rfl,h,l,r⟩
section
variable {X:Cx} {e o:Expr} {es:List Expr} {f m x:Str} {pos p apos:Pos} {t to:TEd} {ta:TAd} {n:Nat}
noncomputable def ca4 (K:PySem.W.Frag) (t:TEd) (f:Str):TEd:=λδ Q=>t δ λd δ'=>∃C ns xs v,d=.obj C ns xs/\Cls K C/\NoAttr K C f/\(ns.zip xs).lookup f=some v/\Q v δ'
theorem cx2 (he:PE X e (lB t)) (hb:attributeBase e f X.env (eval e X.env)=eval e X.env:=by rfl):PE X (.Attribute e f pos) (lB (ca4 X.K t f)) :=
 aQ6 (by3 he hb) λσ H Q ⟨B,F,δ,ts,Qd,c,q,k⟩=>⟨B,F,δ,ts,_,c,q,λd δ' v F' H' ⟨C,ns,xs,w,ed,hc,hn,hl,hq⟩ f1 h1 c1 s1=>by
  subst ed
  obtain ⟨p,dx,ws,rfl,hp,_,r⟩:=cg2 s1
  obtain ⟨u,hu,ru⟩:=bD1 r hl
  exact ⟨p,C,dx,_,u,rfl,hp,hc,hn,hu,k w δ' u F' H' hq f1 h1 c1 ru.s⟩⟩
structure MethOk (P:Program) (w:World) (K:PySem.W.Frag) (mg:Str->Option Value) (base:Heap) (n:Nat) (m:Str) (C:Addr) (sp:SpD):Prop where
 cls:Cls K C
 ex:∃f fd ps,Meth K C m f/\FnOk P w K mg base CX0 n f fd ps (lSp sp)/\Binds K fd ps []
noncomputable def bw6 (MO:Addr->SpD->Prop) (m:Str) (to:TEd) (ta:TAd):TEd:=λδ Q=>to δ λd δ1=>∃C ns xs sp,d=.obj C ns xs/\MO C sp/\m ∉ ns/\ta δ1 λds δ2=>sp ((D.obj C ns xs :: ds).map D.sh) λr=>((D.obj C ns xs :: ds).all D.pl || r.fr)=true/\Q r δ2
theorem cq1 {pl:Sem Bool} (ho:PE X o (lB to)) (hr:Room n X.A) (ha:PA X (e :: es) (lA ta))
  (hst:starEach (e :: es) X.env=(false,eval e X.env) :: starEach es X.env:=by rfl) (hpl:(backTo pos (starEach es X.env)).any (·.1)=false:=by rfl)
  (ht:eval (.Call (.Attribute o m apos) (e :: es) [] pos) X.env=(do
   let ov<-eval o X.env
   standAt apos.atName
   let (f,first)<-holding [ov] (getMethod ov m pl)
   callWith pos f first (backTo pos (starEach (e :: es) X.env)) (backToKw pos (keywordEach [] X.env))):=by rfl) :
  PE X (.Call (.Attribute o m apos) (e :: es) [] pos) (lE (bw6 (MethOk X.prog X.w X.K X.mg X.base n m) m to ta)):=by
 intro pins s σ H Q I zz
 obtain ⟨B,F,δ,ts,Qd,c,q,k⟩:=zz
 refine PySem.W.methodCall_KW (pl:=pl) (thn (ho pins s σ H (λx H1=>∃d δ1 F1,S F1 H1 [d] [x]/\Cur B F1 H1 σ δ1 ts/\Same F F1/\Same H H1/\∃C ns xs sp,d=.obj C ns xs/\MethOk X.prog X.w X.K X.mg X.base n m C sp/\m ∉ ns/\ta δ1 λds δ2=>sp ((D.obj C ns xs :: ds).map D.sh) λr=>((D.obj C ns xs :: ds).all D.pl || r.fr)=true/\Qd r δ2) I
  ⟨B,F,δ,ts,_,c,q,λd δ1 v F1 H1 hq f1 h1 c1 s1=>⟨d,δ1,F1,s1,c1,f1,h1,hq⟩⟩) λu s1 ⟨x,H1,I1,rx,d,δ1,F1,sd,c1,f1,h1,C,ns,xs,sp,ed,M,hm,hq⟩=>?_) ht
 subst ed
 obtain ⟨a,dx,ws,rfl,ea,hl,r0⟩:=cg2 sd
 obtain rfl:u=Value.ref a:=rx
 obtain ⟨f,fd,ps,meth,FO,hb⟩:=M.ex
 refine bc3 I1 ea M.cls meth (a66 hm) ?_
 refine PySem.W.callWith_K (first:=[.ref a]) (h₀:=X.base) I.ok.mod.kin meth.kp (thn (ha pos pins s1 σ H1 (λvs H2=>∃ds δ2 F2,S F2 H2 ds vs/\Cur B F2 H2 σ δ2 ts/\Same F1 F2/\Same H1 H2/\sp ((D.obj C ns xs :: ds).map D.sh) λr=>((D.obj C ns xs :: ds).all D.pl || r.fr)=true/\Qd r δ2) I1
  ⟨B,F1,δ1,ts,_,c1,hq,λds δ2 vs F2 H2 hq f2 h2 c2 s2=>⟨ds,δ2,F2,s2,c2,f2,h2,hq⟩⟩) λus s2 ⟨vs,H2,I2,r,ds,δ2,F2,sds,c2,f2,h2,hsp⟩=>⟨I2.kIn,?_⟩) hst hpl
 refine bB1 (us:=.ref a :: us) (vs:=.ref a :: vs) (dvs:=[]) FO hr hb .nil aQ7 I2 (.cons rfl r) ?_
 rw [List.append_nil]
 exact bn4 c2 (.obj (h2 _ _ ea) hl (r0.shared f2 h2) sds) hsp λd v F' H' hd hf hs c'=>k d δ2 v F' H' hd (f1.trans (f2.trans hf)) (h1.trans (h2.trans hs)) c'
end
structure SameX (x:Addr) (H H':Hp):Prop where
 get:∀b o,b≠x->H b=some o->by8 o=true->H' b=some o
 tb:∀b ps,H b=some (.tbl ps)->∃more,H' b=some (.tbl (ps++more))
theorem SameX.trans {x:Addr} {H H1 H2:Hp} (a:SameX x H H1) (b:SameX x H1 H2):SameX x H H2 :=
 ⟨λc o n h t=>b.get c o n (a.get c o n h t) t,λc ps h=>by
  obtain ⟨m1,e1⟩:=a.tb c ps h
  obtain ⟨m2,e2⟩:=b.tb c _ e1
  exact ⟨m1++m2,by rw [e2,Array.append_assoc]⟩⟩
theorem Same.x {x:Addr} {H H':Hp} (h:Same H H'):SameX x H H':=⟨λb o _ e n=>h.get b o e n,h.tb⟩
theorem SameX.upd {x C dx:Addr} {H:Hp} {o o':HO} (h:H x=some o) (n:by8 o=true):SameX x H (upd H x o') :=
 ⟨λb o z e _=>by rw [aP5 z]; exact e,λb ps e=>⟨#[],by rw [aP5 (λz=>by rw [z,h] at e; cases e; cases n),e]; simp⟩⟩
noncomputable def b92 (tl:List Addr) (C:Addr) (spI:List D->List Str->List D->Prop):Sp:=λvs H Q _=>∃x dx vs' ds ns xs,vs=.ref x :: vs'/\Tb tl H/\H x=some (.ins C dx [])/\R H H ds vs' []/\spI ds ns xs /\
 ∀H' ws A,SameX x H H'->H' x=some (.ins C dx (ns.zip ws))->ns.length=ws.length->R (λ_=>none) H' xs ws A->A.Nodup->(∀a∈A,H a=none)->Q .non H'
noncomputable def bB3 (C:Addr) (spI:List D->List Str->List D->Prop) (ta:TAd):TEd:=λδ Q=>ta δ λds δ'=>∃ns xs,spI (ds.map D.sh) ns xs/\Q (.obj C ns (xs.map D.sh)) δ'
theorem Cur.made {B:Bs} {F H H':Hp} {σ:L2.St} {δ:Dl} {ts:List (D × V)} {C dx x:Addr} {ns:List Str} {xs:List D} {ws:List V} {A:List Addr} (c:Cur B F H σ δ ts) (hs:Same H H') (hx:H' x=some (.ins C dx (ns.zip ws))) (hl:ns.length=ws.length)
  (r:R (λ_=>none) H' xs ws A) (fr:∀a∈A,H a=none):Same F (L3.frz F H' A)/\Cur B (L3.frz F H' A) H' σ δ ((.obj C ns (xs.map D.sh),.ref x) :: ts):=by
 have c1:=c.grow hs
 have hF:∀a∈A,F a=none:=λa ha=>c.ext.free (fr a ha)
 have r1:R F H' xs ws A:=r.keep (Same.of λb o e=>by cases e) (But.same (Same.refl _)) Lists.nil hF (by simp)
 have r2:=r1.frz c1.ext A (λ_ h=>h)
 have fs:Same F (L3.frz F H' A):=aW0 c1.ext
 obtain ⟨A',C',r',s',nd,fr'⟩:=c.own
 have out:∀a,(∃ws,H a=some (.lst ws))/\F a=none->L3.frz F H' A a=none:=λa zz=>by
  obtain ⟨⟨ws,h⟩,hf⟩:=zz
  rw [bm5 (λz=>by rw [fr a z] at h; cases h)]; exact hf
 have g1:=r'.grow fs hs λa ha=>out a (r'.lists a ha)
 have g2:=s'.keep fs (But.same hs) Lists.nil (λa ha=>out a (s'.lists a ha)) (by simp)
 refine ⟨fs,bJ3 c1.ext,c1.b1,c1.b2.trans fs,λa ws h=>?_,A',C',?_,g2,nd,fr'⟩
 ·by_cases z:a∈A
  ·exact .inr (c.b1.free (fr a z))
  ·rw [bm5 z] at h; exact c.b3 a ws h
 ·exact R.obj hx hl r2 g1
section
variable {X:Cx} {CX:CXT} {n:Nat} {f C:Addr} {fd:FuncData} {ps:List Str} {spI:List D->List Str->List D->Prop} {E:XK} {x:Str} {p pos:Pos} {e:Expr} {es:List Expr} {t:TAd} {tl:List Addr}
theorem bY9 (hT:Tb tl X.H₀) (M:Mk X.K C f) (F:FnOk X.prog X.w X.K X.mg X.base CX n f fd ps (b92 tl C spI)) (hr:Room (n + 1) X.A) (hg:Gl X x) (hm:X.mg x=some (.ref C)) (hb:Binds X.K fd ps []) (hx:a93 CX X E)
  (ha:PA X (e :: es) (lA t)) (hdb:(x == ("__debug__":Str))=false:=by decide) (he:starEach (e :: es) X.env=(false,eval e X.env) :: starEach es X.env:=by rfl) (hpl:(backTo pos (starEach es X.env)).any (·.1)=false:=by rfl) :
  PE X (.Call (.Name x p) (e :: es) [] pos) (lE (bB3 C spI t)):=by
 intro pins s σ H Q I zz
 obtain ⟨B,F',δ,ts,Qd,c,q,k⟩:=zz
 have tb:=bZ5 I hT
 refine ca9 M F hr hg hm hb .nil hx ha hdb he hpl pins s σ H Q I ⟨B,F',δ,ts,_,c,q,λds δ1 vs F1 H1 q1 f1 h1 c1 s1=>?_⟩
 intro x dx hx1 hx2 hne
 obtain ⟨ns,xs,hI,hq⟩:=q1
 have sm:Same H1 (upd (upd H1 dx (.own x)) x (.ins C dx [])):=.of λb o e=>by rw [aP5 (aQ1 e hx1),aP5 (aQ1 e hx2)]; exact e
 refine ⟨x,dx,vs,ds.map D.sh,ns,xs,by rw [List.append_nil],bv9 (bv9 tb h1) sm,aP7,(s1.frozen c1.ext).shared sm sm,hI,λH' ws A hsx hx' hl r nd fr=>⟨rfl,?_⟩⟩
 have s2:Same H1 H':=⟨λb o e n=>hsx.get b o (aQ1 e hx1) (sm.get b o e n) n,λb ps e=>by
  obtain ⟨m1,e1⟩:=sm.tb b ps e
  obtain ⟨m2,e2⟩:=hsx.tb b _ e1
  exact ⟨m1++m2,by rw [e2,Array.append_assoc]⟩⟩
 obtain ⟨fs,c2⟩:=c1.made s2 hx' hl r λa ha=>sm.free (fr a ha)
 exact k _ δ1 _ _ H' hq (f1.trans fs) (h1.trans s2) c2
end
end L3
namespace Mf
open PySem L2 L3
noncomputable def gm (m:Bool × Nat) (a b:Nat):Nat:=if m.1 then md (cl a b) m.2 else a * b % m.2
noncomputable def mny (m:Bool × Nat):Nat:=if m.1 then 2 ^ (bl m.2 - 1) else m.2
noncomputable def goP (g:Nat->Nat->Nat) (a:Nat):Nat->Nat->List Int->Option (List Int)
 | 0,_,_=>none
 | f + 1,p,acc=>if p=1 then some acc else if p < 64 then goP g a f (g p a) (acc++[(p:Int)]) else none
noncomputable def ce5 (g:Nat->Nat->Nat) (a:Nat):Option (List Int):=goP g a 64 (g 1 a) [1]
noncomputable def goS (g:Nat->Nat->Nat) (many:Nat):Nat->Nat->List Int->Option (List Int)
 | 0,_,_=>none
 | f + 1,st,l=>if l.length + 1 < many then (match ce5 g (st + 1) with | some l'=>goS g many f (st + 1) l' | none=>none) else some l
noncomputable def bJ2 (g:Nat->Nat->Nat) (many:Nat):Option (List Int):=match ce5 g 1 with | some l=>goS g many 62 1 l | none=>none
noncomputable def lsp (g:Nat->Nat->Nat):LSp:=λi j Q=>∃a b:Nat,i=a/\j=b/\a < 64/\b < 64/\Q (g a b:Nat)
noncomputable def fbits:List Nat:=[7,11,13,19,25,31,37,41,47,55,59,61,67,73,87,91,97,103,109,115,117]
noncomputable def fprimes:List Nat:=[2,3,5,7,11,13,17,19,23,29,31,37,41,43,47,53,59,61]
noncomputable def flds:List (Bool × Nat):=fbits.map (λn=>(true,n))++fprimes.map λn=>(false,n)
noncomputable def bn1 (l:List Int):Nat->List Int
 | 0=>List.replicate (l.length + 1) 0
 | i + 1=>(bn1 l i).set (l.getD i 0).toNat (i:Int)
noncomputable def aX1 (l:List Int):List Int:=bn1 l l.length
theorem a70 (l:List Int):∀i,(bn1 l i).length=l.length + 1
 | 0=>by simp [bn1]
 | i + 1=>by simp [bn1,a70 l i]
noncomputable def bp6 (l g:List Int) (a:Nat):List Int:=if a=0 then List.replicate (l.length + 1) 0 else 0 :: (List.range l.length).map λ(b:Nat)=>l.getD ((g.getD a 0 + g.getD (b + 1) 0) % (l.length:Int)).toNat 0
noncomputable def bj9 (l g:List Int) (n:Nat):List D:=(List.range n).map λa=>D.lst true (aR7 (bp6 l g a))
noncomputable def bd1 (l g:List Int):List D:=bj9 l g (l.length + 1)
end Mf
namespace L3
open PySem L2 Mf
noncomputable def LI (H:Hp) (p:Addr) (ns:List Int):Prop:=H p=some (.lst (ns.map V.int))
theorem LI.same {H H':Hp} {p:Addr} {ns:List Int} (h:LI H p ns) (s:Same H H'):LI H' p ns:=s.get _ _ h
theorem LI.upd {H:Hp} {p x:Addr} {ns:List Int} {o o':HO} (h:LI H p ns) (hx:H x=some o) (n:∀ws,o≠.lst ws):LI (upd H x o') p ns:=by
 unfold LI
 rw [aP5 (λz=>by rw [z] at h; unfold LI at h; rw [hx] at h; cases h; exact n _ rfl)]; exact h
theorem bN5 {F' H' H:Hp} {v:V} {A:List Addr} {ns:List Int} (r:R F' H' [.lst true (aR7 ns)] [v] A) (fr:∀a∈A,H a=none):∃p,v=.ref p/\LI H' p ns/\H p=none:=by
 cases r with
 | @own p ws xs A1 _ _ B1 hp hf r1 r2 =>
  have:=b55 r1.s
  subst this
  exact ⟨p,rfl,hp,fr p (by simp)⟩
structure FieldCls (K:PySem.W.Frag) (C f:Addr):Prop where
 cls:Cls K C
 many:NoAttr K C "many"
 wide:NoAttr K C "wide"
 powers:NoAttr K C "powers"
 logs:NoAttr K C "logs"
 step:NoAttr K C "step"
 sp:Meth K C "step_power" f
structure FOk (g:Nat->Nat->Nat) (many:Nat) (l:List Int) (st:Int):Prop where
 lo:2<=many
 hi:many<=64
 step:bJ2 g many=some l
 len:l.length + 1=many
 ins:∀x∈l,0<=x/\x.toNat<=l.length
 st:l[((1:Int) % ((many:Int) - 1)).toNat]?=some st
noncomputable def aX5 (b:Str):List Str:=[b,"many","wide","powers","logs","step"]
noncomputable def bV9 (n0:Int) (many:Nat) (p1 p2:Addr) (st:Int):List V:=[.int n0,.int many,.int ((bl many:Nat) - 1),.ref p1,.ref p2,.int st]
theorem a87 {f:Str} {v:V}:∀{fs:List (Str × V)},(∀p∈fs,p.1≠f)->bj5 f v fs=fs++[(f,v)]
 | [],_=>rfl
 | (g,x) :: r,h=>by
  unfold bj5
  rw [if_neg (h (g,x) (by simp)),a87 λp hp=>h p (by simp [hp])]; rfl
theorem LamAt.updX {H:Hp} {x C dx f c k:Addr} {fs:List (Str × V)} {o':HO} {of oc:Obj} (h:LamAt H f of oc c k) (hx:H x=some (.ins C dx fs)):LamAt (L2.upd H x o') f of oc c k:=by
 obtain ⟨ψ,e,hψ⟩:=h.kod
 exact ⟨by rw [aP5 (λz=>by rw [<-z,h.fn] at hx; cases hx)]; exact h.fn,by rw [aP5 (λz=>by rw [<-z,h.cell] at hx; cases hx)]; exact h.cell,ψ,by rw [aP5 (λz=>by rw [<-z,e] at hx; cases hx)]; exact e,hψ⟩
theorem LamAt.same {H H':Hp} {f c k:Addr} {of oc:Obj} (h:LamAt H f of oc c k) (s:Same H H'):LamAt H' f of oc c k:=CloAt.mono (z:=.lam of oc c k) h λa o e _ t=>s.get a o e t
theorem bq1 {H:Hp} {x p:Addr} {o o':HO} (hx:H x=some o) (h:L2.upd H x o' p=none):H p=none:=by
 by_cases z:p=x
 ·subst z; rw [aP7] at h; cases h
 ·rw [aP5 z] at h; exact h
theorem be6 {α:Type} {b f:Str} {v:α} {r:List (Str × α)} (h:b≠f):((b,v) :: r).lookup f=r.lookup f:=by
 rw [List.lookup_cons,beq_eq_false_iff_ne.mpr (Ne.symm h)]
section
variable {H2 H3 H':Hp} {x f c p:Addr} {o1 o2:HO}
theorem bb9 {b:Addr} {o:HO} (e:H3 b=some o) (nb:b≠f) (nc:H3 c=none):L2.upd (L2.upd H3 f o1) c o2 b=some o:=by
 rw [aP5 (aQ1 e nc),aP5 nb]; exact e
theorem bo6 (hs:Same H2 H3) (nf:H2 f=none) (nc:H3 c=none) (s:SameX x (L2.upd (L2.upd H3 f o1) c o2) H'):SameX x H2 (rem H' f c) where
 get b o n e t:=by
  have z1:=aQ1 e nf
  have e3:=hs.get b o e t
  rw [aX3 z1 (aQ1 e3 nc)]
  exact s.get b o n (bb9 e3 z1 nc) t
 tb b ps e:=by
  have z1:=aQ1 e nf
  obtain ⟨m,e3⟩:=hs.tb b ps e
  obtain ⟨m2,e4⟩:=s.tb b _ (bb9 e3 z1 nc)
  exact ⟨m++m2,by rw [aX3 z1 (aQ1 e3 nc),e4,Array.append_assoc]⟩
theorem bb2 (hs:Same H2 H3) (h:L2.upd (L2.upd H3 f o1) c o2 p=none):H2 p=none:=by
 refine hs.free ?_
 by_cases z:p=c
 ·subst z; rw [aP7] at h; cases h
 ·rw [aP5 z] at h
  by_cases z2:p=f
  ·subst z2; rw [aP7] at h; cases h
  ·rw [aP5 z2] at h; exact h
theorem LI.rem {l:List Int} {φ:Heap->Prop} {y:Addr} (h:LI H' p l) (hf:H' f=some (.ext φ)) (hc:H' c=some (.own y)):LI (rem H' f c) p l:=by
 unfold LI at h ⊢
 rw [aX3 (λz=>by rw [z,hf] at h; cases h) (λz=>by rw [z,hc] at h; cases h)]; exact h
theorem bA2 {of oc:Obj} {k:Addr} (hne:c≠f) (nc:H3 c=none) (hk:Kod H3 k) (kf:k≠f):LamAt (L2.upd (L2.upd H3 f (.ext (cloφ of oc c f))) c (.own f)) f of oc c k:=by
 obtain ⟨ψ,e,hψ⟩:=hk
 exact ⟨by rw [aP5 hne.symm,aP7],aP7,ψ,bb9 e kf nc,hψ⟩
end
noncomputable def fl (m:Bool × Nat):List Int:=(bJ2 (gm m) (mny m)).getD []
noncomputable def fst (m:Bool × Nat):Int:=(fl m).getD ((1:Int) % ((mny m:Int) - 1)).toNat 0
noncomputable def cz0 (m:Bool × Nat):Bool:=decide (2<=mny m) && decide (mny m<=64) && (bJ2 (gm m) (mny m)).isSome && decide ((fl m).length + 1=mny m) && (fl m).all (λx=>decide (0<=x) && decide (x.toNat<=(fl m).length)) && decide (((1:Int) % ((mny m:Int) - 1)).toNat < (fl m).length)
theorem ce9:flds.all cz0=true:=by decide +kernel
theorem fok {m:Bool × Nat} (h:m∈flds):FOk (gm m) (mny m) (fl m) (fst m):=by
 have h:=List.all_eq_true.mp ce9 m h
 simp only [cz0,Bool.and_eq_true,decide_eq_true_eq,List.all_eq_true] at h
 obtain ⟨⟨⟨⟨⟨h1,h2⟩,h3⟩,h4⟩,h5⟩,h6⟩:=h
 obtain ⟨l,e⟩:=Option.isSome_iff_exists.mp h3
 have el:fl m=l:=by unfold fl; rw [e]; rfl
 refine ⟨h1,h2,by rw [e,el],h4,λx hx=>h5 x hx,?_⟩
 unfold fst
 rw [List.getD_eq_getElem?_getD,List.getElem?_eq_getElem h6]; rfl
theorem bV5:∀p∈fprimes,(decide (2<=(p:Int)) && decide ((p:Int)<=61) && (List.range ((p:Int).toNat - 2)).all λi=>(p:Int) % (2 + (i:Int)) != 0)=true:=by decide +kernel
theorem ce0:∀p∈fbits,(decide (4<=(p:Int)) && decide ((p:Int)<=127) && al (p:Int).toNat)=true:=by decide +kernel
theorem R.updX {F H:Hp} {x C dx:Addr} {fs:List (Str × V)} {o':HO} {ds:List D} {vs:List V} {A:List Addr} (r:R F H ds vs A) (hx:H x=some (.ins C dx fs)) (hd:ds.all D.fr=true):R F (L2.upd H x o') ds vs A:=by
 have up:∀{a o},H a=some o->(∀C dx fs,o≠.ins C dx fs)->L2.upd H x o' a=some o:=λ{a o} e n=>by
  rw [aP5 (λz=>by rw [z,hx] at e; cases e; exact n _ _ _ rfl)]; exact e
 induction r with
 | nil=>exact .nil
 | non _ ih=>exact .non (ih (by simpa [D.fr] using hd))
 | bl _ ih=>exact .bl (ih (by simpa [D.fr] using hd))
 | int _ ih=>exact .int (ih (by simpa [D.fr] using hd))
 | str _ ih=>exact .str (ih (by simpa [D.fr] using hd))
 | shr h x _ i1 ih=>simp [aV3] at hd
 | own h f _ _ i1 i2 =>
  rw [List.all_cons,aV3,Bool.and_eq_true,Bool.true_and] at hd
  exact .own (up h λ_ _ _ z=>by cases z) f (i1 hd.1) (i2 hd.2)
 | tup h _ _ i1 i2 =>
  rw [List.all_cons,bg0,Bool.and_eq_true] at hd
  exact .tup (up h λ_ _ _ z=>by cases z) (i1 hd.1) (i2 hd.2)
 | obj h l x _ i1 ih=>simp [D.fr] at hd
 | fz h x _ i1 ih=>simp [D.fr] at hd
 | @clo p z _ _ _ h r ih =>
  refine .clo ?_ (ih (by simpa [D.fr] using hd))
  cases z with
  | ext φ=>exact up h λ_ _ _ z=>by cases z
  | lam of oc c k=>exact LamAt.updX h hx
theorem bz2 (l g:List Int):(bd1 l g).all D.fr=true:=by
 unfold bd1 bj9
 rw [List.all_map,List.all_eq_true]
 intro a _
 show (D.lst true (aR7 _)).fr=true
 rw [aV3,a98]; rfl
theorem SameX.free {x a:Addr} {H H':Hp} (s:SameX x H H') (hx:H' x≠none) (h:H' a=none):H a=none:=by
 cases q:H a with
 | none=>rfl
 | some o =>
  by_cases z:a=x
  ·subst z; exact absurd h hx
  ·cases n:by8 o with
   | true=>rw [s.get a o z q n] at h; cases h
   | false =>
    obtain ⟨ps,rfl⟩:=cb6 n
    obtain ⟨m,e⟩:=s.tb a ps q
    rw [e] at h; cases h
theorem bN3 (l:List Int):∀i,∀x∈bn1 l i,0<=x
 | 0=>λx hx=>by rw [(List.mem_replicate.mp hx).2]; exact Int.le_refl _
 | i + 1=>λx hx=>by
  unfold bn1 at hx
  rcases List.mem_or_eq_of_mem_set hx with h | h
  ·exact bN3 l i x h
  ·rw [h]; exact Int.natCast_nonneg _
theorem bx7:∀p∈fbits,bl p<=7:=by decide +kernel
theorem bt3:∀p∈fbits,1<=bl p:=by decide +kernel
theorem bS0 (a b:Nat):bl (cl a b)<=bl a + bl b:=by
 by_cases ha:a=0
 ·subst ha; rw [a72]; exact Nat.zero_le _
 ·by_cases hb:b=0
  ·subst hb
   have:cl a 0=0:=rfl
   rw [this]; exact Nat.zero_le _
  ·rw [cl1 ha hb]; omega
noncomputable def bk0 (l g:List Int):List D:=(List.range (l.length + 1)).map λa=>D.lst false (aR7 (bp6 l g a))
theorem bP9 (l g:List Int):(D.lst true (bd1 l g)).sh=.lst false (bk0 l g):=by
 rw [aT6]
 unfold bd1 bj9 bk0
 rw [List.map_map]
 congr 1
 apply List.map_congr_left
 intro a _
 show D.sh (.lst true (aR7 _))=_
 rw [aT6,aX2]
noncomputable abbrev pD (m:Bool × Nat):List D:=[.int m.2,.int (mny m),.int ((bl (mny m):Nat) - 1),.lst false (aR7 (fl m)),.lst false (aR7 (aX1 (fl m))),.int (fst m)]
noncomputable def bk7 (C:Addr) (p:Nat):D:=.obj C (aX5 "prime") (pD (false,p))
noncomputable def cl4 (C:Addr) (p:Nat):D:=.obj C (aX5 "bits"++[("products":Str)]) (pD (true,p)++[.lst false (bk0 (fl (true,p)) (aX1 (fl (true,p))))])
noncomputable def fD (cb cp:Addr) (m:Bool × Nat):D:=if m.1 then cl4 cb m.2 else bk7 cp m.2
end L3
namespace L3
open PySem L2 Mf
theorem bb0 {u p:Nat} (h:bl u < bl p):md u p=u:=bK2 (q:=0) (by rw [a72,Nat.zero_xor]) h
theorem bP2 {u v n:Nat} (hu:bl u < n) (hv:bl v < n):bl (u ^^^ v) < n:=by
 have h1:u < 2 ^ (n - 1):=bl_le_iff.mp (by omega)
 have h2:v < 2 ^ (n - 1):=bl_le_iff.mp (by omega)
 have:=bl_le_iff.mpr (bj3 h1 h2)
 omega
theorem bz7 {p:Nat} (hp:p≠0) (u v:Nat):md (u ^^^ v) p=md u p ^^^ md v p:=by
 obtain ⟨⟨q1,e1⟩,l1⟩:=bF0 hp u
 obtain ⟨⟨q2,e2⟩,l2⟩:=bF0 hp v
 refine bK2 (q:=q1 ^^^ q2) ?_ (bP2 l1 l2)
 rw [aT8,<- bY8,<- e1,<- e2]
theorem bF1 {p:Nat} (hp:p≠0) (w:Nat):md (cl p w) p=0:=by rw [bg8]; exact cv8 w hp
theorem aP1:∀m∈flds,0 < m.2:=by decide +kernel
theorem aS9 (m:Bool × Nat) (a b:Nat):gm m a b=gm m b a:=by
 unfold gm
 split
 ·rw [bg8]
 ·rw [Nat.mul_comm]
theorem cm5 {n:Nat} (hn:n≠0) (u c:Nat):md (cl (md u n) c) n=md (cl u c) n:=by
 obtain ⟨⟨q,e⟩,_⟩:=bF0 hn u
 have h:cl u c=cl n (cl q c) ^^^ cl (md u n) c:=by
  conv=>lhs; rw [e]
  rw [aT8,bg8 n q,bx3]
 rw [h,bz7 hn,bF1 hn,Nat.zero_xor]
theorem aR1 {m:Bool × Nat} (h:0 < m.2) (a b c:Nat):gm m (gm m a b) c=gm m a (gm m b c):=by
 unfold gm
 split
 ·rw [cm5 (by omega),bg8 (md (cl b c) m.2) a,cm5 (by omega),bx3 a b c,bg8 (cl b c) a]
 ·rw [Nat.mul_mod,Nat.mod_mod,<- Nat.mul_mod,Nat.mul_mod a (b * c % m.2),Nat.mod_mod,<- Nat.mul_mod,Nat.mul_assoc]
theorem b03 {m:Bool × Nat} (h:m.1=true) {a:Nat}:a < mny m ↔ bl a<=bl m.2 - 1:=by
 unfold mny
 rw [if_pos h]; exact bl_le_iff.symm
theorem a51 {m:Bool × Nat} {a:Nat} (ha:a < mny m):gm m 1 a=a:=by
 obtain ⟨k,n⟩:=m
 cases k with
 | true =>
  show md (cl 1 a) n=a
  rw [bF3]
  have h1:=(b03 (m:=(true,n)) rfl).mp ha
  have h1:bl a<=bl n - 1:=h1
  by_cases z:bl n=0
  ·have a0:a=0:=by
    have:=bl_le_iff (n:=a) (m:=0)
    have:=this.mp (by omega)
    omega
   subst a0
   have n0:n=0:=by
    have:=(bl_le_iff (n:=n) (m:=0)).mp (by omega)
    omega
   subst n0
   decide
  ·exact bb0 (by omega)
 | false=>show 1 * a % n=a; rw [Nat.one_mul]; exact Nat.mod_eq_of_lt ha
theorem aZ7 {m:Bool × Nat} {a:Nat} (ha:a < mny m):gm m a 1=a:=by rw [aS9]; exact a51 ha
noncomputable def lg (m:Bool × Nat) (a:Nat):Int:=(aX1 (fl m)).getD a 0
noncomputable def pw (m:Bool × Nat) (k:Nat):Int:=(fl m).getD k 0
noncomputable def stB (m:Bool × Nat):Bool:=((List.range (mny m - 1)).all λk=>decide (1<=pw m k) && decide (pw m k < mny m) && decide (lg m (pw m k).toNat=k)) && ((List.range (mny m - 1)).all λa=>decide (0<=lg m (a + 1)) && decide (lg m (a + 1) < (mny m:Int) - 1) && decide (pw m (lg m (a + 1)).toNat=((a + 1:Nat):Int)))
theorem b49:flds.all stB=true:=by decide +kernel
theorem bU6 {m:Bool × Nat} (hm:m∈flds) {k:Nat} (hk:k < mny m - 1):1<=pw m k/\pw m k < mny m/\lg m (pw m k).toNat=k:=by
 have h:=List.all_eq_true.mp b49 m hm
 simp only [stB,Bool.and_eq_true,List.all_eq_true,decide_eq_true_eq,List.mem_range] at h
 have:=h.1 k hk
 exact ⟨this.1.1,this.1.2,this.2⟩
theorem bR9 {m:Bool × Nat} (hm:m∈flds) {a:Nat} (h1:1<=a) (h2:a < mny m):0<=lg m a/\lg m a < (mny m:Int) - 1/\pw m (lg m a).toNat=a:=by
 have h:=List.all_eq_true.mp b49 m hm
 simp only [stB,Bool.and_eq_true,List.all_eq_true,decide_eq_true_eq,List.mem_range] at h
 have:=h.2 (a - 1) (by omega)
 rw [show a - 1 + 1=a by omega] at this
 exact ⟨this.1.1,this.1.2,this.2⟩
theorem aR4 (m:Bool × Nat) (b:Nat) (h:0 < m.2):gm m 0 b=0:=by
 unfold gm
 split
 ·rw [a72]; exact bb0 (by rw [a08]; exact aX4 (by omega))
 ·rw [Nat.zero_mul,Nat.zero_mod]
theorem aS7 (m:Bool × Nat) (b:Nat) (h:0 < m.2):gm m b 0=0:=by rw [aS9]; exact aR4 m b h
noncomputable def stC (m:Bool × Nat):Bool:=decide (pw m 0=1) && (List.range (mny m - 1)).all λk=>decide (gm m (pw m k).toNat (pw m (1 % (mny m - 1))).toNat=(pw m ((k + 1) % (mny m - 1))).toNat)
theorem bO5:flds.all stC=true:=by decide +kernel
theorem cc8 (m:Bool × Nat) (hm:m∈flds):pw m 0=1:=by
 have h:=List.all_eq_true.mp bO5 m hm
 simp only [stC,Bool.and_eq_true,decide_eq_true_eq] at h
 exact h.1
noncomputable def pN (m:Bool × Nat) (k:Nat):Nat:=(pw m (k % (mny m - 1))).toNat
theorem cy0 {m:Bool × Nat} (hm:m∈flds) (k:Nat):pN m k < mny m:=by
 have hlo:=(fok hm).lo
 have:=bU6 hm (Nat.mod_lt k (show 0 < mny m - 1 by omega))
 unfold pN
 omega
theorem b60 {m:Bool × Nat} (hm:m∈flds) (k:Nat):gm m (pN m k) (pN m 1)=pN m (k + 1):=by
 have hlo:=(fok hm).lo
 have h:=List.all_eq_true.mp bO5 m hm
 simp only [stC,Bool.and_eq_true,decide_eq_true_eq,List.all_eq_true,List.mem_range] at h
 have h2:=h.2 (k % (mny m - 1)) (Nat.mod_lt k (by omega))
 rw [Nat.mod_add_mod] at h2
 exact h2
theorem b02 {m:Bool × Nat} (hm:m∈flds) (i:Nat):∀j,gm m (pN m i) (pN m j)=pN m (i + j)
 | 0=>by
  have e:pN m 0=1:=by unfold pN; rw [Nat.zero_mod,cc8 m hm]; rfl
  rw [e,aZ7 (cy0 hm i)]; rfl
 | j + 1=>by rw [<-b60 hm j,<- aR1 (aP1 m hm),b02 hm i j,b60 hm]; rfl
theorem bm0 {m:Bool × Nat} (hm:m∈flds) {a b:Nat} (a1:1<=a) (a2:a < mny m) (b1:1<=b) (b2:b < mny m):((gm m a b:Nat):Int)=pw m ((lg m a + lg m b) % ((mny m:Int) - 1)).toNat:=by
 have hlo:=(fok hm).lo
 obtain ⟨g0,g1,g2⟩:=bR9 hm a1 a2
 obtain ⟨f0,f1,f2⟩:=bR9 hm b1 b2
 have ea:pN m (lg m a).toNat=a:=by unfold pN; rw [Nat.mod_eq_of_lt (by omega),g2]; rfl
 have eb:pN m (lg m b).toNat=b:=by unfold pN; rw [Nat.mod_eq_of_lt (by omega),f2]; rfl
 have e:=b02 hm (lg m a).toNat (lg m b).toNat
 rw [ea,eb] at e
 rw [e]
 have ei:((lg m a + lg m b) % ((mny m:Int) - 1)).toNat=((lg m a).toNat + (lg m b).toNat) % (mny m - 1):=by
  have:(((lg m a).toNat + (lg m b).toNat) % (mny m - 1):Nat)=((lg m a + lg m b) % ((mny m:Int) - 1)):=by
   rw [Int.natCast_emod,Int.natCast_add,Int.toNat_of_nonneg g0,Int.toNat_of_nonneg f0,Int.natCast_sub (by omega)]; rfl
  omega
 rw [ei]
 have:=bU6 hm (Nat.mod_lt ((lg m a).toNat + (lg m b).toNat) (show 0 < mny m - 1 by omega))
 unfold pN
 omega
theorem cd7 {p a:Nat} (hp:p∈fbits) (ha:a < mny (true,p)):bp6 (fl (true,p)) (aX1 (fl (true,p))) a=(List.range (mny (true,p))).map λb=>((gm (true,p) a b:Nat):Int):=by
 have hm:(true,p)∈flds:=List.mem_append_left _ (List.mem_map_of_mem hp)
 have h0:=aP1 _ hm
 have hF:=fok hm
 have hlen:=hF.len
 unfold bp6
 split
 ·rename_i h
  subst h
  rw [hlen]
  refine List.ext_getElem (by simp) λi h1 h2=>?_
  simp [aR4 _ _ h0]
 ·rename_i h
  rw [<-hlen,List.range_succ_eq_map,List.map_cons,List.map_map,aS7 _ _ h0]
  congr 1
  apply List.map_congr_left
  intro b hb
  have hb:=List.mem_range.mp hb
  show (fl (true,p)).getD (((aX1 (fl (true,p))).getD a 0 + (aX1 (fl (true,p))).getD (b + 1) 0) % ((fl (true,p)).length:Int)).toNat 0=((gm (true,p) a (b + 1):Nat):Int)
  rw [bm0 hm (by omega) ha (by omega) (by omega),show (((fl (true,p)).length:Nat):Int)=(mny (true,p):Int) - 1 by omega]
  rfl
theorem bw5 {p a b:Nat} (hp:p∈fbits) (ha:a < mny (true,p)) (hb:b < mny (true,p)):atI (aR7 (bp6 (fl (true,p)) (aX1 (fl (true,p))) a)) (b:Int)=some (.int (gm (true,p) a b:Nat)):=by
 refine a76 (by omega) ?_
 rw [cd7 hp ha]
 unfold aR7
 rw [Int.toNat_natCast,List.getElem?_map,List.getElem?_map,List.getElem?_range hb]; rfl
theorem bh7 {p a:Nat} (hp:p∈fbits) (ha:a < mny (true,p)):atI (bk0 (fl (true,p)) (aX1 (fl (true,p)))) (a:Int)=some (.lst false (aR7 (bp6 (fl (true,p)) (aX1 (fl (true,p))) a))):=by
 have hF:=fok (m:=(true,p)) (List.mem_append_left _ (List.mem_map_of_mem hp))
 refine a76 (by omega) ?_
 unfold bk0
 rw [Int.toNat_natCast,List.getElem?_map,List.getElem?_range (by rw [hF.len]; exact ha)]; rfl
end L3
namespace L3
open PySem L2 Mf
theorem cj9 (C:Addr) (p:Nat):D.obj C (aX5 "bits"++[("products":Str)]) (List.map D.sh [.int p,.int (mny (true,p)),.int ((bl (mny (true,p)):Nat) - 1),.lst true (aR7 (fl (true,p))),.lst true (aR7 (aX1 (fl (true,p)))),.int (fst (true,p)),.lst true (bd1 (fl (true,p)) (aX1 (fl (true,p))))])=cl4 C p:=by
 simp only [List.map_cons,List.map_nil]
 rw [bP9]
 simp only [aT6,bd4,aX2]; rfl
theorem bS9 (C:Addr) (p:Nat):D.obj C (aX5 "prime") (List.map D.sh [.int p,.int p,.int ((bl p:Nat) - 1),.lst true (aR7 (fl (false,p))),.lst true (aR7 (aX1 (fl (false,p)))),.int (fst (false,p))])=bk7 C p:=by
 simp only [List.map_cons,List.map_nil,aT6,bd4,aX2]; rfl
theorem a63 {n:Nat} (h:(true,n)∈flds):n∈fbits:=by
 rcases List.mem_append.mp h with h | h
 ·obtain ⟨x,hx,e⟩:=List.mem_map.mp h
  cases e; exact hx
 ·obtain ⟨x,hx,e⟩:=List.mem_map.mp h
  cases e
theorem bw3 {n:Nat} (h:(false,n)∈flds):n∈fprimes:=by
 rcases List.mem_append.mp h with h | h
 ·obtain ⟨x,hx,e⟩:=List.mem_map.mp h
  cases e
 ·obtain ⟨x,hx,e⟩:=List.mem_map.mp h
  cases e; exact hx
open Classical in
theorem bF8 {α:Type} {sh:Bool} {xs:List D} {caps:List (Str × Nat)} {n:Nat} {g0:TGd} {te:TEd} {δ1:Dl} {Q:D->Dl->Prop} (l:List α) (e g:α->D) (hxs:xs.map D.sh=l.map e) (inj:∀a b,e a=e b->a=b)
  (hx:∀a∈l,g0 (e a) (aV4 caps n δ1) λδ2=>te δ2 λd _=>d=g a) (hg:∀d δ (P P':Dl->Prop),(∀δ',P δ'->P' δ')->g0 d δ P->g0 d δ P') (hfr:(sh && caps.all (bb7 δ1))=true\/∀a∈l,(g a).fr=true) (hl:l.length<=sizeLine) (hq:Q (.lst true (l.map g)) δ1):bl0 sh xs caps n g0 bP5 te δ1 Q:=by
 let f:D->D:=λx=>if h:∃a∈l,e a=x then g h.choose else .non
 have hf:∀a∈l,f (e a)=g a:=λa ha=>by
  have h:∃b∈l,e b=e a:=⟨a,ha,rfl⟩
  show (if h:∃b∈l,e b=e a then g h.choose else .non)=g a
  rw [dif_pos h]
  exact congrArg g (inj _ _ h.choose_spec.2)
 refine ⟨λ_=>true,f,λx h=>?_,hfr.imp id λh x hx _=>?_,?_,?_⟩
 ·rw [hxs] at h
  obtain ⟨a,ha,rfl⟩:=List.mem_map.mp h
  rw [hf a ha]
  exact hg _ _ _ _ (λδ' h=>⟨rfl,λ_=>h⟩) (hx a ha)
 ·rw [hxs] at hx
  obtain ⟨a,ha,rfl⟩:=List.mem_map.mp hx
  rw [hf a ha]; exact h a ha
 ·have:=congrArg List.length hxs
  simp at this
  omega
 ·rw [hxs,List.filter_eq_self.mpr (λ_ _=>rfl),List.map_map,show l.map (f ∘ e)=l.map g from List.map_congr_left λa ha=>hf a ha]
  exact hq
theorem bS7 {i1 i2:Nat} (d:D) (δ:Dl) (P P':Dl->Prop) (h:∀δ',P δ'->P' δ') (q:gN2 i1 i2 d δ P):gN2 i1 i2 d δ P':=by
 unfold gN2 at q ⊢
 split at q
 ·exact h _ q
 ·exact q
theorem bH6 (xs ys:List Int):(bc0 (aR7 xs) (aR7 ys)).map D.sh=(xs.zip ys).map λz=>D.tup [.int z.1,.int z.2]:=by
 rw [bt6,aX2,aX2]
 unfold bc0 aR7
 rw [List.zipWith_map,List.zip,List.map_zipWith]
theorem b99 {p x y:Nat} (hp:p≠0) (hx:bl x < bl p):md (cl x y) p=(if y % 2=1 then x else 0) ^^^ md (cl (if bl (2 * x)=bl p then 2 * x ^^^ p else 2 * x) (y / 2)) p:=by
 have e0:md (if y % 2=1 then x else 0) p=(if y % 2=1 then x else 0):=by
  split
  ·exact bb0 hx
  ·exact bb0 (by rw [a08]; exact aX4 hp)
 rw [b58,bz7 hp,e0]
 congr 1
 split
 ·rw [aT8,bz7 hp,bF1 hp,Nat.xor_zero]
 ·rfl
theorem cf2 {p x:Nat} (hp:p≠0) (hx:bl x < bl p):bl (if bl (2 * x)=bl p then 2 * x ^^^ p else 2 * x) < bl p:=by
 have h2:=cr1 x
 have h0:=aX4 hp
 split
 ·rename_i h
  have n0:2 * x≠0:=λz=>by rw [z,a08] at h; omega
  have a1:=aS0 (2 * x)
  have a2:=aS0 p
  have b1:=aV7 n0
  have b2:=aV7 hp
  rw [h] at a1 b1
  obtain ⟨k,hk⟩:∃k,bl p=k + 1:=⟨bl p - 1,by omega⟩
  rw [hk] at a1 a2 b1 b2 ⊢
  have:=bl_le_iff.mpr (bM0 a1 a2 b1 b2)
  omega
 ·omega
end L3
namespace L3
open PySem L2 PySem.Spec PyProof.Rows
structure MethX (P:Program) (w:World) (K:PySem.W.Frag) (mg:Str->Option Value) (base:Heap) (n:Nat) (m:Str) (C:Addr) (sp:SpX):Prop where
 cls:Cls K C
 ex:∃f fd ps,Meth K C m f/\FnOk P w K mg base (CX1 P w) n f fd ps (cm4 sp)/\Binds K fd ps []
section
variable {X:Cx} {e o:Expr} {es:List Expr} {f m x:Str} {pos p apos:Pos} {to:TEd} {ta:TAd} {n:Nat}
noncomputable def bg7 (MO:Addr->SpX->Prop) (m:Str) (to:TEd) (ta:TAd):TEd:=λδ Q=>to δ λd δ1=>∃C ns xs sp,d=.obj C ns xs/\MO C sp/\m ∉ ns/\ta δ1 λds δ2=>sp ((D.obj C ns xs :: ds).map D.sh) (λr=>((D.obj C ns xs :: ds).all D.pl || r.fr)=true/\Q r δ2) λ_=>False
theorem b86 {pl:Sem Bool} (ho:PE X o (lB to)) (hr:Room n X.A) (ha:PA X (e :: es) (lA ta))
  (hst:starEach (e :: es) X.env=(false,eval e X.env) :: starEach es X.env:=by rfl) (hpl:(backTo pos (starEach es X.env)).any (·.1)=false:=by rfl)
  (ht:eval (.Call (.Attribute o m apos) (e :: es) [] pos) X.env=(do
   let ov<-eval o X.env
   standAt apos.atName
   let (f,first)<-holding [ov] (getMethod ov m pl)
   callWith pos f first (backTo pos (starEach (e :: es) X.env)) (backToKw pos (keywordEach [] X.env))):=by rfl) :
  PE X (.Call (.Attribute o m apos) (e :: es) [] pos) (lE (bg7 (MethX X.prog X.w X.K X.mg X.base n m) m to ta)):=by
 intro pins s σ H Q I zz
 obtain ⟨B,F,δ,ts,Qd,c,q,k⟩:=zz
 refine PySem.W.methodCall_KW (pl:=pl) (thn (ho pins s σ H (λx H1=>∃d δ1 F1,S F1 H1 [d] [x]/\Cur B F1 H1 σ δ1 ts/\Same F F1/\Same H H1/\∃C ns xs sp,d=.obj C ns xs/\MethX X.prog X.w X.K X.mg X.base n m C sp/\m ∉ ns/\ta δ1 λds δ2=>sp ((D.obj C ns xs :: ds).map D.sh) (λr=>((D.obj C ns xs :: ds).all D.pl || r.fr)=true/\Qd r δ2) λ_=>False) I
  ⟨B,F,δ,ts,_,c,q,λd δ1 v F1 H1 hq f1 h1 c1 s1=>⟨d,δ1,F1,s1,c1,f1,h1,hq⟩⟩) λu s1 ⟨x,H1,I1,rx,d,δ1,F1,sd,c1,f1,h1,C,ns,xs,sp,ed,M,hm,hq⟩=>?_) ht
 subst ed
 obtain ⟨a,dx,ws,rfl,ea,hl,r0⟩:=cg2 sd
 obtain rfl:u=Value.ref a:=rx
 obtain ⟨f,fd,ps,meth,FO,hb⟩:=M.ex
 refine bc3 I1 ea M.cls meth (a66 hm) ?_
 refine PySem.W.callWith_K (first:=[.ref a]) (h₀:=X.base) I.ok.mod.kin meth.kp (thn (ha pos pins s1 σ H1 (λvs H2=>∃ds δ2 F2,S F2 H2 ds vs/\Cur B F2 H2 σ δ2 ts/\Same F1 F2/\Same H1 H2/\sp ((D.obj C ns xs :: ds).map D.sh) (λr=>((D.obj C ns xs :: ds).all D.pl || r.fr)=true/\Qd r δ2) λ_=>False) I1
  ⟨B,F1,δ1,ts,_,c1,hq,λds δ2 vs F2 H2 hq f2 h2 c2 s2=>⟨ds,δ2,F2,s2,c2,f2,h2,hq⟩⟩) λus s2 ⟨vs,H2,I2,r,ds,δ2,F2,sds,c2,f2,h2,hsp⟩=>⟨I2.kIn,?_⟩) hst hpl
 refine bB1 (us:=.ref a :: us) (vs:=.ref a :: vs) (dvs:=[]) (bu2 FO) hr hb .nil b79 I2 (.cons rfl r) ?_
 rw [List.append_nil]
 exact bn4 (sp:=λds Q=>sp ds Q λ_=>False) c2 (.obj (h2 _ _ ea) hl (r0.shared f2 h2) sds) hsp λd v F' H' hd hf hs c'=>k d δ2 v F' H' hd (f1.trans (f2.trans hf)) (h1.trans (h2.trans hs)) c'
end
section
variable {X:Cx} {tb th:TSd} {body suite:List Stmt} {b₀:Stmt} {K:Str} {Kc:Addr} {kp hpos pos:Pos}
end
structure OCls (K:PySem.W.Frag) (C:Addr):Prop where
 cls:Cls K C
 ha:PySem.W.findIn K (.ref C) "__class__"=some (some (.builtin "object.__class__"))
 hn:PySem.W.specialIn K (.builtin "object.__class__") "__get__"=some (some (.builtin "getset_descriptor.__get__"))
 htk:PySem.W.takesIn K (.builtin "object.__class__")=some true
 hm:PySem.W.mroIn K C (.type "object")=some true
end L3
namespace L3
open PySem L2 Mf
theorem bi7 {m:Bool × Nat} (hm:m∈flds) {a b:Nat} (a1:1<=a) (a2:a < mny m) (b1:1<=b) (b2:b < mny m):∃r:Nat,pw m ((lg m a - lg m b) % ((mny m:Int) - 1)).toNat=r/\r < mny m/\gm m r b=a:=by
 have hF:=fok hm
 have hlo:=hF.lo
 have n0:=Int.emod_nonneg (lg m a - lg m b) (show (mny m:Int) - 1≠0 by omega)
 have n1:=Int.emod_lt_of_pos (lg m a - lg m b) (show (0:Int) < (mny m:Int) - 1 by omega)
 obtain ⟨p1,p2,p3⟩:=bU6 hm (k:=((lg m a - lg m b) % ((mny m:Int) - 1)).toNat) (by omega)
 obtain ⟨g0,g1,g2⟩:=bR9 hm a1 a2
 refine ⟨(pw m ((lg m a - lg m b) % ((mny m:Int) - 1)).toNat).toNat,by omega,by omega,?_⟩
 have e:=bm0 hm (a:=(pw m ((lg m a - lg m b) % ((mny m:Int) - 1)).toNat).toNat) (by omega) (by omega) b1 b2
 rw [p3,Int.toNat_of_nonneg n0,Int.emod_add_emod,Int.sub_add_cancel,Int.emod_eq_of_lt g0 g1,g2] at e
 omega
end L3
namespace L3
open PySem L2 PySem.Spec PyProof.Rows
section
variable {X:Cx} {e o a:Expr} {es:List Expr} {f m y:Str} {pos p apos q:Pos} {t to ta':TEd} {ta:TAd} {n:Nat} {P:Program} {w:World} {K:PySem.W.Frag} {mg:Str->Option Value} {base:Heap}
theorem a61 (he:PE X e (lB t)) (hK:K=X.K:=by rfl) (hb:attributeBase e f X.env (eval e X.env)=eval e X.env:=by rfl):PE X (.Attribute e f pos) (lB (ca4 K t f)):=by
 subst hK; exact cx2 he hb
theorem ba0 {pl:Sem Bool} (ho:PE X o (lB to)) (hr:Room n X.A) (ha:PA X (e :: es) (lA ta)) (hP:P=X.prog:=by rfl) (hw:w=X.w:=by rfl) (hK:K=X.K:=by rfl) (hm:mg=X.mg:=by rfl) (hb:base=X.base:=by rfl)
  (hst:starEach (e :: es) X.env=(false,eval e X.env) :: starEach es X.env:=by rfl) (hpl:(backTo pos (starEach es X.env)).any (·.1)=false:=by rfl)
  (ht:eval (.Call (.Attribute o m apos) (e :: es) [] pos) X.env=(do
   let ov<-eval o X.env
   standAt apos.atName
   let (f,first)<-holding [ov] (getMethod ov m pl)
   callWith pos f first (backTo pos (starEach (e :: es) X.env)) (backToKw pos (keywordEach [] X.env))):=by rfl) :
  PE X (.Call (.Attribute o m apos) (e :: es) [] pos) (lE (bw6 (MethOk P w K mg base n m) m to ta)):=by
 subst hP hw hK hm hb; exact cq1 ho hr ha hst hpl ht
theorem bl7 {pl:Sem Bool} (ho:PE X o (lB to)) (hr:Room n X.A) (ha:PA X (e :: es) (lA ta)) (hP:P=X.prog:=by rfl) (hw:w=X.w:=by rfl) (hK:K=X.K:=by rfl) (hm:mg=X.mg:=by rfl) (hb:base=X.base:=by rfl)
  (hst:starEach (e :: es) X.env=(false,eval e X.env) :: starEach es X.env:=by rfl) (hpl:(backTo pos (starEach es X.env)).any (·.1)=false:=by rfl)
  (ht:eval (.Call (.Attribute o m apos) (e :: es) [] pos) X.env=(do
   let ov<-eval o X.env
   standAt apos.atName
   let (f,first)<-holding [ov] (getMethod ov m pl)
   callWith pos f first (backTo pos (starEach (e :: es) X.env)) (backToKw pos (keywordEach [] X.env))):=by rfl) :
  PE X (.Call (.Attribute o m apos) (e :: es) [] pos) (lE (bg7 (MethX P w K mg base n m) m to ta)):=by
 subst hP hw hK hm hb; exact b86 ho hr ha hst hpl ht
end
theorem bv1:∀m∈Mf.flds,1<=Mf.bl m.2/\Mf.bl m.2<=7:=by decide +kernel
end L3
namespace L3
open PySem L2 Mf
noncomputable def gp (m:Bool × Nat) (a b:Nat):Nat:=if m.1 then a ^^^ b else (a + b) % m.2
noncomputable def gl (m:Bool × Nat) (a b:Nat):Int:=if m.1 then (a ^^^ b:Nat) else ((a:Int) - b) % m.2
noncomputable def gd (m:Bool × Nat) (xs ys:List Nat):Nat:=(List.zipWith (gm m) xs ys).foldl (gp m) 0
noncomputable def bq7 (c:Int):Bool × Nat:=if c % 2=0 then (true,fbits.getD (c / 2 % 21).toNat 0) else (false,fprimes.getD (c / 2 % 18).toNat 0)
theorem bW9 (c:Int):bq7 c∈flds:=by
 unfold bq7
 split
 ·refine List.mem_append_left _ (List.mem_map.mpr ⟨_,?_,rfl⟩)
  have h:(c / 2 % 21).toNat < fbits.length:=by
   have:=Int.emod_lt_of_pos (c / 2) (show (0:Int) < 21 by decide)
   show _ < 21
   omega
  rw [List.getD_eq_getElem?_getD,List.getElem?_eq_getElem h]
  exact List.getElem_mem _
 ·refine List.mem_append_right _ (List.mem_map.mpr ⟨_,?_,rfl⟩)
  have h:(c / 2 % 18).toNat < fprimes.length:=by
   have:=Int.emod_lt_of_pos (c / 2) (show (0:Int) < 18 by decide)
   show _ < 18
   omega
  rw [List.getD_eq_getElem?_getD,List.getElem?_eq_getElem h]
  exact List.getElem_mem _
noncomputable def aX8 (m:Bool × Nat):D:=.tup [.bl m.1,.int m.2]
theorem bd6 (cb cp:Addr) (m:Bool × Nat):fD cb cp m=.obj (if m.1 then cb else cp) (if m.1 then aX5 "bits"++[("products":Str)] else aX5 "prime") (if m.1 then pD (true,m.2)++[.lst false (bk0 (fl (true,m.2)) (aX1 (fl (true,m.2))))] else pD (false,m.2)):=by
 obtain ⟨k,n⟩:=m
 cases k <;> rfl
theorem cc3 (m:Bool × Nat) (x:Str) (h:x ∉ (["bits","prime","many","wide","powers","logs","step","products"]:List Str)):x ∉ (if m.1 then aX5 "bits"++[("products":Str)] else aX5 "prime"):=by
 obtain ⟨k,n⟩:=m
 intro z
 apply h
 cases k
 ·have z:x∈aX5 "prime":=z
  simp [aX5] at z
  simp only [List.mem_cons]
  rcases z with z | z | z | z | z | z <;> simp [z]
 ·have z:x∈aX5 "bits"++[("products":Str)]:=z
  simp [aX5] at z
  simp only [List.mem_cons]
  rcases z with z | z | z | z | z | z | z <;> simp [z]
theorem cx4 (cb cp:Addr) (m:Bool × Nat):(fD cb cp m).sh=fD cb cp m:=by rw [bd6]; rfl
theorem cx6 (cb cp:Addr) (m:Bool × Nat):(fD cb cp m).pl=true:=by rw [bd6]; rfl
theorem cb5 (m:Bool × Nat):(aX8 m).sh=aX8 m:=rfl
theorem b78 (m:Bool × Nat):(aX8 m).pl=true:=rfl
theorem a65 (m:Bool × Nat) (a b:Nat):gp m a b=gp m b a:=by
 unfold gp
 split
 ·rw [Nat.xor_comm]
 ·rw [Nat.add_comm]
theorem be5 (m:Bool × Nat) (a b c:Nat):gp m (gp m a b) c=gp m a (gp m b c):=by
 unfold gp
 split
 ·rw [Nat.xor_assoc]
 ·rw [Nat.mod_add_mod,Nat.add_mod_mod,Nat.add_assoc]
theorem cb0 {m:Bool × Nat} (h:0 < m.2) (a b c:Nat):gm m (gp m a b) c=gp m (gm m a c) (gm m b c):=by
 unfold gm gp
 split
 ·rw [aT8,bz7 (by omega)]
 ·rw [Nat.mul_mod,Nat.mod_mod,<- Nat.mul_mod,Nat.add_mul,Nat.mod_add_mod,Nat.add_mod_mod]
theorem bz0 {m:Bool × Nat} (h:0 < m.2) (a b c:Nat):gm m c (gp m a b)=gp m (gm m c a) (gm m c b):=by rw [aS9,cb0 h,aS9 m a,aS9 m b]
theorem bW1:∀m∈flds,m.1=true->2<=bl m.2:=by decide +kernel
theorem co2 {m:Bool × Nat} (hm:m∈flds) {a b:Nat} (ha:a < mny m) (hb:b < mny m):gp m a b < mny m:=by
 have h0:=aP1 m hm
 obtain ⟨k,n⟩:=m
 cases k with
 | true=>exact bj3 ha hb
 | false=>exact Nat.mod_lt _ h0
theorem aR6 {m:Bool × Nat} (hm:m∈flds) (a b:Nat):gm m a b < mny m:=by
 have h0:=aP1 m hm
 obtain ⟨k,n⟩:=m
 cases k with
 | true =>
  have h2:=bW1 (true,n) hm rfl
  have:=(bF0 (show n≠0 by have:0 < n:=h0; omega) (cl a b)).2
  refine (b03 rfl).mpr ?_
  show bl (md (cl a b) n)<=bl n - 1
  omega
 | false=>exact Nat.mod_lt _ h0
theorem bc1 {m:Bool × Nat} {a:Nat} (ha:a < mny m):gp m 0 a=a:=by
 obtain ⟨k,n⟩:=m
 cases k with
 | true=>exact Nat.zero_xor a
 | false=>show (0 + a) % n=a; rw [Nat.zero_add]; exact Nat.mod_eq_of_lt ha
theorem aW2 {m:Bool × Nat} {a:Nat} (ha:a < mny m):gp m a 0=a:=by rw [a65]; exact bc1 ha
theorem cv7 {m:Bool × Nat} (hm:m∈flds) {a b:Nat} (ha:a < mny m) (hb:b < mny m):∃r:Nat,gl m a b=r/\r < mny m/\gp m r b=a:=by
 have h0:=aP1 m hm
 obtain ⟨k,n⟩:=m
 cases k with
 | true=>exact ⟨a ^^^ b,rfl,bj3 ha hb,by show a ^^^ b ^^^ b=a; rw [Nat.xor_assoc,Nat.xor_self,Nat.xor_zero]⟩
 | false =>
  have h0:0 < n:=h0
  have ha:a < n:=ha
  have hb:b < n:=hb
  refine ⟨(a + (n - b)) % n,?_,Nat.mod_lt _ h0,?_⟩
  ·show ((a:Int) - b) % n=_
   rw [Int.natCast_emod,Int.natCast_add,Int.natCast_sub (by omega),show ((a:Int) + ((n:Int) - b))=((a:Int) - b) + n by omega,Int.add_emod_right]
  ·show ((a + (n - b)) % n + b) % n=a
   rw [Nat.mod_add_mod,show a + (n - b) + b=a + n by omega,Nat.add_mod_right,Nat.mod_eq_of_lt ha]
noncomputable def eS (m:Bool × Nat) (n:Int):Nat:=(pw m (n % ((mny m:Int) - 1)).toNat).toNat
theorem cr4 {m:Bool × Nat} (hm:m∈flds) (n:Int):1<=eS m n/\eS m n < mny m/\lg m (eS m n)=n % ((mny m:Int) - 1)/\pw m (n % ((mny m:Int) - 1)).toNat=eS m n:=by
 have hlo:=(fok hm).lo
 have n0:=Int.emod_nonneg n (show (mny m:Int) - 1≠0 by omega)
 have n1:=Int.emod_lt_of_pos n (show (0:Int) < (mny m:Int) - 1 by omega)
 obtain ⟨p1,p2,p3⟩:=bU6 hm (k:=(n % ((mny m:Int) - 1)).toNat) (by omega)
 unfold eS
 rw [p3]
 omega
theorem cu4 {m:Bool × Nat} (hm:m∈flds) (a b:Int):gm m (eS m a) (eS m b)=eS m (a + b):=by
 obtain ⟨a1,a2,a3,_⟩:=cr4 hm a
 obtain ⟨b1,b2,b3,_⟩:=cr4 hm b
 have e:=bm0 hm a1 a2 b1 b2
 rw [a3,b3,<- Int.add_emod] at e
 have c:=(cr4 hm (a + b)).2.2.2
 rw [c] at e
 omega
theorem cA1 {m:Bool × Nat} (hm:m∈flds) {a:Nat} (h1:1<=a) (h2:a < mny m):eS m (lg m a)=a:=by
 obtain ⟨g0,g1,g2⟩:=bR9 hm h1 h2
 unfold eS
 rw [Int.emod_eq_of_lt g0 g1,g2]; rfl
theorem cv0 {m:Bool × Nat} (hm:m∈flds) {a b:Nat} (a1:1<=a) (a2:a < mny m) (b1:1<=b) (b2:b < mny m):gm m a b≠0:=by
 rw [<-cA1 hm a1 a2,<- cA1 hm b1 b2,cu4 hm]
 have:=(cr4 hm (lg m a + lg m b)).1
 omega
end L3
namespace L2
open PySem PySem.Spec PyProof.Rows
section
variable {X:Cx} {a:Expr} {ta:TA} {p pos:Pos} {tg:Expr}
end
end L2
namespace L3
open PySem L2 PySem.Spec PyProof.Rows
section
variable {F H:Hp} {K:PySem.W.Frag} {p:Addr} {ws:List V} {xs:List D}
end
section
variable {X:Cx} {a:Expr} {ta:TAd} {p pos:Pos} {tg:Expr}
end
end L3
namespace L3
open PySem L2 Mf
noncomputable def px (m:Bool × Nat) (x:Nat):Nat->Nat
 | 0=>1
 | k + 1=>gm m (px m x k) x
noncomputable def AllLt (n:Nat) (l:List Nat):Prop:=∀a∈l,a < n
theorem AllLt.getD {n:Nat} {l:List Nat} (h:AllLt n l) (h0:0 < n) (k:Nat):l.getD k 0 < n:=by
 rw [List.getD_eq_getElem?_getD]
 cases e:l[k]? with
 | none=>exact h0
 | some v=>exact h v (List.mem_of_getElem? e)
end L3
namespace L3
open PySem L2 PySem.Spec PyProof.Rows
theorem bM1 (n:Nat) (l:List Nat):(aO8 l).all (eqK n)=true:=by
 rw [aQ0,List.all_map,List.all_eq_true]
 intro a _
 exact bc2 n _
theorem aW9 (n:Nat) (o:Bool) (l:List Nat):eqK (n + 1) (.lst o (aO8 l))=true:=bM1 n l
theorem aY4 (o o':Bool) (a b:List Nat):deq (.lst o (aO8 a)) (.lst o' (aO8 b))=decide (a=b):=by
 unfold aO8
 rw [a85]
 congr 1
 apply propext
 constructor
 ·intro h
  have:=congrArg (List.map Int.toNat) h
  have e:(Int.toNat ∘ λ(n:Nat)=>(n:Int))=id:=by funext x; rfl
  rw [List.map_map,List.map_map,e,List.map_id,List.map_id] at this
  exact this
 ·intro h; rw [h]
theorem aT0 {l:List Nat} {k:Int} (h0:0<=k) (h:k.toNat < l.length):atI (aO8 l) k=some (.int ((l.getD k.toNat 0:Nat):Int)):=by
 refine a76 h0 ?_
 rw [aQ0,List.getElem?_map,List.getElem?_eq_getElem h,List.getD_eq_getElem?_getD,List.getElem?_eq_getElem h]; rfl
theorem bA8 {n:Nat} {k:Int} (h0:0<=k) (h:k.toNat < n):ixN n k=some k.toNat:=by
 unfold ixN
 rw [if_pos h0,if_pos (by omega)]
theorem ba8 {n:Nat} (k:Int) (h:k=n):(((List.range k.toNat).map λ(k:Nat)=>D.int (0 + (k:Int))).map D.sh)=(List.range n).map λ(i:Nat)=>D.int (i:Int):=by
 subst h
 rw [a05,Int.toNat_natCast]
 simp
theorem bf4 (l:List Nat) (k v:Nat):(aO8 l).set k (.int (v:Nat))=aO8 (l.set k v):=by
 rw [aQ0,aQ0,List.map_set]
theorem bQ6 (l:List Nat):(aO8 l).all D.fr=true:=a98 _
theorem bc9 (o:Bool) (l:List Nat):(D.lst o (aO8 l)).sh=.lst false (aO8 l):=by rw [aT6,aW8]
theorem a56 (l:List Nat):(D.lst true (aO8 l)).fr=true:=by rw [aV3,bQ6]; rfl
theorem bR6 {a:Int} {n i:Nat} {d:D} (h:((List.range n).map λ(k:Nat)=>D.int (a + (k:Int)))[i]?=some d):i < n/\d=.int (a + i):=by
 have hi:i < n:=by
  have:=(List.getElem?_eq_some_iff.mp h).1
  simpa using this
 refine ⟨hi,?_⟩
 rw [List.getElem?_map,List.getElem?_range hi] at h
 exact (Option.some.inj h).symm
section
variable {X:Cx}
end
end L3
namespace L3
open PySem L2 Mf
noncomputable def gln (m:Bool × Nat) (a b:Nat):Nat:=(gl m a b).toNat
theorem bb5 {m:Bool × Nat} (hm:m∈flds) {a b:Nat} (ha:a < mny m) (hb:b < mny m):gl m a b=(gln m a b:Nat)/\gln m a b < mny m/\gp m (gln m a b) b=a:=by
 obtain ⟨r,e,h1,h2⟩:=cv7 hm ha hb
 have:gln m a b=r:=by unfold gln; rw [e]; rfl
 rw [this]
 exact ⟨e,h1,h2⟩
theorem bt8 {n:Nat} {f:Nat->Nat->Nat}:∀{a b:List Nat},(∀x∈a,∀y∈b,f x y < n)->AllLt n (List.zipWith f a b)
 | [],_,_=>by intro x hx; simp at hx
 | _ :: _,[],_=>by intro x hx; simp at hx
 | x :: a,y :: b,h=>by
  intro z hz
  rw [List.zipWith_cons_cons] at hz
  rcases List.mem_cons.mp hz with rfl | hz
  ·exact h x (by simp) y (by simp)
  ·exact bt8 (λx hx y hy=>h x (by simp [hx]) y (by simp [hy])) z hz
theorem bD8 (xs ys:List Nat):(bc0 (aO8 xs) (aO8 ys)).map D.sh=(xs.zip ys).map λz=>D.tup [.int (z.1:Int),.int (z.2:Int)]:=by
 unfold aO8
 rw [bH6,List.zip_map,List.map_map]; rfl
theorem bf9 {sh:Bool} {caps:List (Str × Nat)} {n i1 i2:Nat} {te:TEd} {δ1:Dl} {Q:D->Dl->Prop} (f:Nat->Nat->Nat) {A B:List Nat} (hx:∀x∈A,∀y∈B,gN2 i1 i2 (.tup [.int (x:Int),.int (y:Int)]) (aV4 caps n δ1) λδ2=>te δ2 λd _=>d=.int ((f x y:Nat):Int))
  (hl:A.length<=100000) (hq:Q (.lst true (aO8 (List.zipWith f A B))) δ1):bl0 sh (bc0 (aO8 A) (aO8 B)) caps n (gN2 i1 i2) bP5 te δ1 Q:=by
 refine bF8 (A.zip B) (λz=>D.tup [.int (z.1:Int),.int (z.2:Int)]) (λz=>D.int ((f z.1 z.2:Nat):Int)) (bD8 A B) (λa b h=>?_) (λz hz=>hx z.1 (List.of_mem_zip hz).1 z.2 (List.of_mem_zip hz).2) bS7 (.inr λ_ _=>rfl) (by rw [List.length_zip,sL]; omega) ?_
 ·injection h with h
  simp at h
  exact Prod.ext (by omega) (by omega)
 ·rw [show ((A.zip B).map λz=>D.int ((f z.1 z.2:Nat):Int))=aO8 (List.zipWith f A B) by rw [aQ0,List.zip,List.map_zipWith,List.map_zipWith]]
  exact hq
end L3
namespace L3
open PySem L2 PySem.Spec PyProof.Rows
theorem Cur.not_in {B:Bs} {F H:Hp} {σ:L2.St} {δ:Dl} {ps ts:List (D × V)} {p:Addr} {o:HO} {A1:List Addr} (c:Cur B F H σ δ (ps++ts)) (hp:H p=none) (r:R F (upd H p o) (ps.map (·.1)) (ps.map (·.2)) A1):p ∉ A1:=λh=>by
 obtain ⟨A,C,r0,_,_,_⟩:=c.own
 rw [List.map_append,List.map_append] at r0
 obtain ⟨v1,v2,B1,B2,e,rfl,h1,h2⟩:=R.split r0
 have l1:(ps.map (·.2)).length=v1.length:=by rw [<-h1.length]; simp
 obtain ⟨rfl,rfl⟩:=List.append_inj e l1
 have g1:=h1.grow (Same.refl F) (Same.upd (o:=o) hp) λa ha=>(h1.lists a ha).2
 have:A1=B1:=R.inj r g1
 subst this
 obtain ⟨ws,e⟩:=(h1.lists p h).1
 rw [hp] at e; cases e
theorem Cur.join {B:Bs} {F H:Hp} {σ:L2.St} {δ:Dl} {ts:List (D × V)} {p p' r:Addr} {xs ys:List D} {ws ws':List V} (c:Cur B F H σ δ ((.lst true ys,.ref p') :: (.lst true xs,.ref p) :: ts)) (e1:H p=some (.lst ws)) (e2:H p'=some (.lst ws')) (hr:H r=none) :
  Cur B F (upd H r (.lst (ws++ws'))) σ δ ((.lst true (xs++ys),.ref r) :: ts):=by
 refine Cur.pack (ps:=[(.lst true ys,.ref p'),(.lst true xs,.ref p)]) c (Same.upd hr) λA1 r1 nd=>?_
 have nin:=Cur.not_in (ps:=[(.lst true ys,.ref p'),(.lst true xs,.ref p)]) (ts:=ts) c hr r1
 have n1:p≠r:=λz=>by rw [z,hr] at e1; cases e1
 have n2:p'≠r:=λz=>by rw [z,hr] at e2; cases e2
 have r1:R F (upd H r (.lst (ws++ws'))) [.lst true ys,.lst true xs] [.ref p',.ref p] A1:=r1
 cases r1 with
 | @own _ wy _ Ay _ _ By hy fy ry rb =>
  cases rb with
  | @own _ wx _ Ax _ _ Bx hx fx rx rc =>
   cases rc
   rw [aP5 n2,e2] at hy; cases hy
   rw [aP5 n1,e1] at hx; cases hx
   refine ⟨r :: (Ax++Ay),by simpa using R.own aP7 (c.ext.free hr) (rx.append ry) .nil,?_,λa ha=>?_⟩
   ·refine List.nodup_cons.mpr ⟨λz=>nin ?_,?_⟩
    ·rcases List.mem_append.mp z with z | z <;> simp [z]
    ·have sl:(Ay++Ax).Sublist (p' :: Ay++(p :: Ax++[])):=by
      rw [List.append_nil]
      exact (((List.sublist_cons_self p Ax).append_left Ay).trans (List.sublist_cons_self p' _))
     exact List.perm_append_comm.nodup_iff.mp (nd.sublist sl)
   ·simp only [List.mem_cons,List.mem_append] at ha ⊢
    rcases ha with rfl | ha | ha
    ·exact .inr hr
    ·simp [ha]
    ·simp [ha]
section
variable {X:Cx} {a b:Expr} {ta tb:TEd} {pos:Pos}
noncomputable def bC3 (ta tb:TEd):TEd:=λδ Q=>ta δ λx δ1=>tb δ1 λy δ2=>∃xs ys,x=.lst true xs/\y=.lst true ys/\xs.length + ys.length<=sizeLine/\Q (.lst true (xs++ys)) δ2
theorem cj6 (ha:PE X a (lE ta)) (hb:PE X b (lE tb)):PE X (.BinOp a .Add b pos) (lE (bC3 ta tb)) :=
 aQ6 (bL8 b53 ha hb) λσ H Q ⟨B,F,δ,ts,Qd,c,q,k⟩ =>
  ⟨B,F,δ,ts,_,c,q,λx δ1 v F1 H1 q1 f1 h1 c1=>⟨B,F1,δ1,(x,v) :: ts,_,c1,q1,λy δ2 w F2 H2 q2 f2 h2 c2=>by
   obtain ⟨xs,ys,rfl,rfl,hz,hq⟩:=q2
   obtain ⟨p',ws',rfl,e2,s2⟩:=a69 c2.top c2.ext
   obtain ⟨p,ws,rfl,e1,s1⟩:=a69 c2.pop.top c2.ext
   refine ⟨p,p',ws,ws',rfl,rfl,e1,e2,by rw [<-s1.length,<- s2.length]; exact hz,λr hr=>?_⟩
   exact k _ δ2 _ F2 _ hq (f1.trans f2) ((h1.trans h2).trans (Same.upd hr)) (c2.join e1 e2 hr)⟩⟩
end
theorem bH4 {a b:List Nat} (h:aO8 a=aO8 b):a=b:=by
 have:=aY4 true true a b
 rw [h,show deq (D.lst true (aO8 b)) (D.lst true (aO8 b))=true from (aY4 _ _ _ _).trans (decide_eq_true rfl)] at this
 exact of_decide_eq_true this.symm
theorem a83 {o:Bool} (a b:List Nat) (h:D.lst o (aO8 a)=D.lst o (aO8 b)):a=b:=bH4 (by injection h)
end L3
namespace L3
open PySem L2 Mf
end L3
namespace L2
open PySem PySem.Spec PyProof.Rows
end L2
namespace L3
open PySem L2 PySem.Spec PyProof.Rows Mf
end L3
namespace L3
open PySem L2 Mf
noncomputable def cf (l:List Nat) (k:Nat):Nat:=l.getD k 0
theorem bf1 {l:List Nat} {k:Nat} (h:l.length<=k):cf l k=0:=by
 unfold cf; rw [List.getD_eq_getElem?_getD,List.getElem?_eq_none h]; rfl
theorem aV5 {m:Bool × Nat} (hm:m∈flds) {l:List Nat} (h:AllLt (mny m) l) (k:Nat):cf l k < mny m:=h.getD (by have:=(fok hm).lo; omega) k
theorem bJ7 (n k:Nat):cf (List.replicate n 0) k=0:=by
 unfold cf
 rw [List.getD_eq_getElem?_getD,List.getElem?_replicate]
 split <;> rfl
theorem bm1 (m:Bool × Nat) (x:Nat):gln m x x=0:=by
 obtain ⟨k,n⟩:=m
 cases k with
 | true=>show (((x ^^^ x:Nat):Int)).toNat=0; rw [Nat.xor_self]; rfl
 | false=>show (((x:Int) - (x:Int)) % (n:Int)).toNat=0; rw [Int.sub_self,Int.zero_emod]; rfl
end L3
namespace L3
open PySem L2 PySem.Spec PyProof.Rows
section
variable {B:Bs} {F H:Hp} {σ:L2.St} {δ:Dl} {ts ps:List (D × V)} {i k:Nat} {p q:Addr} {l1 l2 ys ys':List D} {ws us':List V}
end
section
variable {X:Cx} {F H:Hp} {e b:Expr} {pos p p2 p3 pr apos cpos ipos:Pos} {t ti te:TEd} {x y:Str} {i j:Nat}
end
end L3
namespace L3
structure Rg (N:Nat) (p q:Nat->Nat->Nat):Prop where
 pc:∀a b,p a b=p b a
 pa:∀a b c,p (p a b) c=p a (p b c)
 mc:∀a b,q a b=q b a
 ma:∀{a b c},a < N->b < N->c < N->q (q a b) c=q a (q b c)
 dl:∀a b c,q a (p b c)=p (q a b) (q a c)
 z:∀{a},a < N->p 0 a=a
 qz:∀a,q a 0=0
 one:∀{a},a < N->q 1 a=a
 lp:∀{a b},a < N->b < N->p a b < N
 lq:∀a b,q a b < N
 ng:∀{a},a < N->∃b,b < N/\p a b=0
section
variable {N:Nat} {p q:Nat->Nat->Nat}
noncomputable def sm (p:Nat->Nat->Nat):Nat->(Nat->Nat)->Nat
 | 0,_=>0
 | n + 1,f=>p (sm p n f) (f n)
theorem Rg.pos (r:Rg N p q):0 < N:=Nat.lt_of_le_of_lt (Nat.zero_le _) (r.lq 0 0)
theorem Rg.z' (r:Rg N p q) {a:Nat} (h:a < N):p a 0=a:=by rw [r.pc]; exact r.z h
theorem Rg.can (r:Rg N p q) {a b c:Nat} (ha:a < N) (hb:b < N) (hc:c < N) (h:p a c=p b c):a=b:=by
 obtain ⟨d,_,e⟩:=r.ng hc
 have:=congrArg (λx=>p x d) h
 simp only [r.pa,e] at this
 rw [r.z' ha,r.z' hb] at this
 exact this
theorem Rg.cn (r:Rg N p q) {a b:Nat} (ha:a < N) (hb:b < N) (h:p a b=b):a=0:=r.can ha r.pos hb (by rw [h,r.z hb])
theorem aP4 {f g:Nat->Nat}:∀{n:Nat},(∀j,j < n->f j=g j)->sm p n f=sm p n g
 | 0,_=>rfl
 | n + 1,h=>by rw [sm,sm,aP4 λj hj=>h j (by omega),h n (by omega)]
theorem ba2 (r:Rg N p q) {f:Nat->Nat}:∀{n:Nat},(∀j,j < n->f j < N)->sm p n f < N
 | 0,_=>r.pos
 | n + 1,h=>r.lp (ba2 r λj hj=>h j (by omega)) (h n (by omega))
theorem aR8 (r:Rg N p q) {f:Nat->Nat}:∀{n:Nat},(∀j,j < n->f j=0)->sm p n f=0
 | 0,_=>rfl
 | n + 1,h=>by rw [sm,aR8 r λj hj=>h j (by omega),h n (by omega)]; exact r.z r.pos
theorem Rg.four (r:Rg N p q) (a b c d:Nat):p (p a b) (p c d)=p (p a c) (p b d):=by
 rw [r.pa,r.pa,<- r.pa b,<- r.pa c,r.pc b c]
theorem a57 (r:Rg N p q) (f g:Nat->Nat):∀n,sm p n (λj=>p (f j) (g j))=p (sm p n f) (sm p n g)
 | 0=>(r.z r.pos).symm
 | n + 1=>by rw [sm,a57 r f g n,sm,sm,r.four]
theorem a52 (r:Rg N p q) (c:Nat) (f:Nat->Nat):∀n,sm p n (λj=>q c (f j))=q c (sm p n f)
 | 0=>(r.qz c).symm
 | n + 1=>by rw [sm,a52 r c f n,sm,r.dl]
theorem bv8 (r:Rg N p q) (F:Nat->Nat->Nat) (k:Nat):∀n,sm p n (λi=>sm p k λj=>F i j)=sm p k λj=>sm p n λi=>F i j
 | 0=>(aR8 r λ_ _=>rfl).symm
 | n + 1=>by
  rw [sm,bv8 r F k n,<- a57 r]; rfl
theorem aZ2 (r:Rg N p q) {f:Nat->Nat} (n:Nat):∀k,(∀j,j < n + k->f j < N)->sm p (n + k) f=p (sm p n f) (sm p k λj=>f (n + j))
 | 0,h=>(r.z' (ba2 r λj hj=>h j (by omega))).symm
 | k + 1,h=>by
  rw [<-Nat.add_assoc,sm,aZ2 r n k λj hj=>h j (by omega),sm,r.pa]
theorem cm1 (r:Rg N p q) {f:Nat->Nat} {n n':Nat} (hn:n<=n') (h:∀j,j < n'->f j < N) (hz:∀j,n<=j->j < n'->f j=0):sm p n' f=sm p n f:=by
 obtain ⟨k,rfl⟩:=Nat.exists_eq_add_of_le hn
 rw [aZ2 r n k h,aR8 r (f:=λj=>f (n + j)) λj hj=>hz _ (by omega) (by omega),r.z' (ba2 r λj hj=>h j (by omega))]
theorem bW8 (r:Rg N p q) {f:Nat->Nat} (n:Nat) (h:∀j,j < n + 1->f j < N):sm p (n + 1) f=p (f 0) (sm p n λj=>f (j + 1)):=by
 rw [Nat.add_comm n 1,aZ2 r 1 n λj hj=>h j (by omega)]
 show p (p 0 (f 0)) _=_
 rw [r.z (h 0 (by omega))]
 congr 1
 exact aP4 λj _=>by rw [Nat.add_comm]
noncomputable def ds (p q:Nat->Nat->Nat) (s c:Nat->Nat) (n:Nat):Nat:=sm p (n + 1) λj=>q (c j) (s (n - j))
theorem cy2 (r:Rg N p q) (s c:Nat->Nat) (n:Nat):ds p q s c n < N:=ba2 r λj _=>r.lq _ _
noncomputable def shf (k:Nat) (b:Nat->Nat) (j:Nat):Nat:=if j < k then 0 else b (j - k)
theorem bY1 (r:Rg N p q) (s b:Nat->Nat) {k n:Nat} (h:k<=n):ds p q s (shf k b) n=ds p q s b (n - k):=by
 unfold ds
 obtain ⟨d,rfl⟩:=Nat.exists_eq_add_of_le h
 rw [show k + d + 1=k + (d + 1) by omega,aZ2 r k (d + 1) λj _=>r.lq _ _,aR8 r (n:=k),r.z (ba2 r λj _=>r.lq _ _)]
 ·rw [Nat.add_sub_cancel_left]
  refine aP4 λj _=>?_
  unfold shf
  rw [if_neg (by omega),Nat.add_sub_cancel_left,show k + d - (k + j)=d - j by omega]
 ·intro j hj
  unfold shf
  rw [if_pos hj,r.mc,r.qz]
structure BI (N:Nat) (p q:Nat->Nat->Nat) (s:Nat->Nat) (n L:Nat) (c b:Nat->Nat) (o:Nat):Prop where
 c0:c 0=1
 cz:∀j,L < j->c j=0
 cl:∀j,c j < N
 ln:L<=n
 kp:∀i,L<=i->i < n->ds p q s c i=0
 mn:∀L1 c1,c1 0=1->(∀j,L1 < j->c1 j=0)->(∀j,c1 j < N)->(∀i,L1<=i->i < n->ds p q s c1 i=0)->L<=L1
 b0:b 0=0
 bz:∀j,n + 1 - L < j->b j=0
 bl:∀j,b j < N
 bk:∀i,n + 1 - L<=i->i < n->ds p q s b i=0
 bo:n + 1 - L<=n->ds p q s b n=o
theorem bO4 (r:Rg N p q) {b:Nat->Nat} (h:∀j,b j < N) (j:Nat):shf 1 b j < N:=by
 unfold shf
 split
 ·exact r.pos
 ·exact h _
theorem b62 {b:Nat->Nat} {n:Nat} (h:∀j,n < j->b j=0) (j:Nat) (hj:n + 1 < j):shf 1 b j=0:=by
 unfold shf
 rw [if_neg (by omega)]
 exact h _ (by omega)
theorem BI.same (r:Rg N p q) {s c b:Nat->Nat} {n L o:Nat} (I:BI N p q s n L c b o) (h:ds p q s c n=0):BI N p q s (n + 1) L c (shf 1 b) o where
 c0:=I.c0
 cz:=I.cz
 cl:=I.cl
 ln:=by have:=I.ln; omega
 kp:=λi h1 h2=>by
  by_cases e:i=n
  ·rw [e]; exact h
  ·exact I.kp i h1 (by omega)
 mn:=λL1 c1 h1 h2 h3 h4=>I.mn L1 c1 h1 h2 h3 λi a b=>h4 i a (by omega)
 b0:=rfl
 bz:=λj hj=>b62 I.bz j (by have:=I.ln; omega)
 bl:=bO4 r I.bl
 bk:=λi h1 h2=>by
  have:=I.ln
  rw [bY1 r s b (show 1<=i by omega)]
  exact I.bk _ (by omega) (by omega)
 bo:=λh1=>by
  rw [bY1 r s b (by omega)]
  exact I.bo (by have:=I.ln; omega)
end
end L3
namespace L3
section
variable {N:Nat} {p q:Nat->Nat->Nat}
theorem bP0 {s:Nat->Nat} {j n:Nat} (h:n < j):shf j s n=0:=if_pos h
theorem br1 (s:Nat->Nat) {j n:Nat} (h:j<=n):shf j s n=s (n - j):=if_neg (by omega)
theorem Rg.zq (r:Rg N p q) (a:Nat):q 0 a=0:=by rw [r.mc]; exact r.qz a
theorem bl6 (r:Rg N p q) (s c:Nat->Nat) {n M:Nat} (h:n < M):ds p q s c n=sm p M λj=>q (c j) (shf j s n):=by
 unfold ds
 rw [cm1 r (show n + 1<=M by omega) (λj _=>r.lq _ _) λj h1 _=>by rw [bP0 (by omega),r.qz]]
 exact aP4 λj hj=>by rw [br1 s (by omega)]
theorem b83 (r:Rg N p q) (s a b:Nat->Nat) (n:Nat):ds p q s (λj=>p (a j) (b j)) n=p (ds p q s a n) (ds p q s b n):=by
 unfold ds
 rw [<-a57 r]
 exact aP4 λj _=>by rw [r.mc (p _ _),r.dl,r.mc (a j),r.mc (b j)]
theorem ce3 (r:Rg N p q) (s t c:Nat->Nat) (n:Nat):ds p q (λj=>p (s j) (t j)) c n=p (ds p q s c n) (ds p q t c n):=by
 unfold ds
 rw [<-a57 r]
 exact aP4 λj _=>r.dl _ _ _
theorem bV3 (r:Rg N p q) {a b s:Nat->Nat} (ha:∀j,a j < N) (hb:∀j,b j < N) (hs:∀j,s j < N) (n:Nat):ds p q s (ds p q b a) n=ds p q (ds p q s b) a n:=by
 have hsh:∀(s:Nat->Nat) (k j:Nat),(∀j,s j < N)->shf k s j < N:=λs k j h=>by
  unfold shf
  split
  ·exact r.pos
  ·exact h _
 rw [bl6 r (ds p q s b) a (Nat.lt_succ_self n),bl6 r s (ds p q b a) (Nat.lt_succ_self n)]
 have e1:sm p (n + 1) (λk=>q (ds p q b a k) (shf k s n))=sm p (n + 1) λk=>sm p (n + 1) λi=>q (a i) (q (shf i b k) (shf k s n)):=aP4 λk hk=>by
  rw [bl6 r b a hk,r.mc,<- a52 r]
  exact aP4 λi _=>by rw [r.mc,r.ma (ha i) (hsh b i k hb) (hsh s k n hs)]
 rw [e1,bv8 r]
 refine aP4 λi hi=>?_
 rw [a52 r (a i)]
 congr 1
 rw [br1 _ (by omega),bl6 r s b (show n - i < n + 1 - i by omega),show n + 1=i + (n + 1 - i) by omega,aZ2 r i _ λj _=>r.lq _ _,aR8 r (n:=i) λj hj=>by rw [bP0 hj,r.zq]]
 rw [r.z (ba2 r λj _=>r.lq _ _),Nat.add_sub_cancel_left]
 refine aP4 λj hj=>?_
 rw [br1 b (by omega),Nat.add_sub_cancel_left,br1 s (by omega),br1 s (by omega),show n - (i + j)=n - i - j by omega]
theorem ck2 (r:Rg N p q) {u s:Nat->Nat} {d e:Nat} (hu:∀j,d<=j->u j=0) (hs:∀j,e<=j->s j=0) (n:Nat) (h:d + e<=n):ds p q s u n=0:=aR8 r λj _=>by
 by_cases h1:d<=j
 ·rw [hu j h1,r.zq]
 ·rw [hs _ (by omega),r.qz]
noncomputable def Mk (N:Nat) (p q:Nat->Nat->Nat) (a r0 r1:Nat->Nat):Prop:=∃(u0 u1:Nat->Nat) (d:Nat),(∀j,u0 j < N)/\(∀j,u1 j < N)/\(∀j,d<=j->u0 j=0)/\(∀j,d<=j->u1 j=0)/\∀k,a k=p (ds p q r0 u0 k) (ds p q r1 u1 k)
theorem Mk.next (r:Rg N p q) {a r0 r1 r2 t:Nat->Nat} {e:Nat} (h:Mk N p q a r0 r1) (l1:∀j,r1 j < N) (lt:∀j,t j < N) (ft:∀j,e<=j->t j=0) (h2:∀k,r0 k=p (ds p q r1 t k) (r2 k)):Mk N p q a r1 r2:=by
 obtain ⟨u0,u1,d,a1,a2,a3,a4,a5⟩:=h
 refine ⟨λj=>p (ds p q t u0 j) (u1 j),u0,d + e,λj=>r.lp (cy2 r _ _ _) (a2 j),a1,λj hj=>?_,λj hj=>a3 j (by omega),λk=>?_⟩
 ·show p (ds p q t u0 j) (u1 j)=0
  rw [ck2 r a3 ft j hj,a4 j (by omega)]; exact r.z r.pos
 ·rw [a5 k,b83 r,bV3 r a1 lt l1,show r0=λk=>p (ds p q r1 t k) (r2 k) from funext h2,ce3 r,r.pa,r.pa,r.pc (ds p q r2 u0 k)]
end
end L3
namespace L3
open PySem L2 Mf
theorem rg {m:Bool × Nat} (hm:m∈flds):Rg (mny m) (gp m) (gm m) where
 pc:=a65 m
 pa:=be5 m
 mc:=aS9 m
 ma:=λ_ _ _=>aR1 (aP1 m hm) _ _ _
 dl:=λa b c=>bz0 (aP1 m hm) b c a
 z:=bc1
 qz:=λa=>aS7 m a (aP1 m hm)
 one:=a51
 lp:=co2 hm
 lq:=aR6 hm
 ng:=λ{a} ha=>by
  have g:=bb5 hm (a:=0) (b:=a) (by omega) ha
  exact ⟨_,g.2.1,(a65 m _ _).trans g.2.2⟩
theorem bR3 (p:Nat->Nat->Nat) (l:List Nat):l.foldl p 0=sm p l.length λj=>l.getD j 0:=by
 have key:∀n,n<=l.length->(l.take n).foldl p 0=sm p n λj=>l.getD j 0:=by
  intro n
  induction n with
  | zero=>intro _; rfl
  | succ n ih =>
   intro h
   rw [List.take_add_one,List.getElem?_eq_getElem (by omega),List.foldl_append,ih (by omega),sm,List.getD_eq_getElem?_getD,List.getElem?_eq_getElem (show n < l.length by omega)]
   rfl
 have:=key l.length (Nat.le_refl _)
 rw [List.take_length] at this
 exact this
theorem bz4 {m:Bool × Nat} (hm:m∈flds) (f:Nat) (b:List Nat) (j:Nat):cf (b.map (gm m f)) j=gm m f (cf b j):=by
 unfold cf
 rw [List.getD_eq_getElem?_getD,List.getElem?_map,List.getD_eq_getElem?_getD]
 cases b[j]? with
 | none=>exact (aS7 m f (aP1 m hm)).symm
 | some x=>rfl
theorem cr8 {m:Bool × Nat} (hm:m∈flds) {a b:Nat} (ha:a < mny m) (hb:b < mny m) (h0:b≠0):∃r,r < mny m/\gm m r b=a:=by
 by_cases a0:a=0
 ·exact ⟨0,by have:=(fok hm).lo; omega,by rw [a0]; exact aR4 m b (aP1 m hm)⟩
 ·obtain ⟨r,_,h1,h2⟩:=bi7 hm (show 1<=a by omega) ha (show 1<=b by omega) hb
  exact ⟨r,h1,h2⟩
theorem bt5 {p q:Nat->Nat->Nat} {s s' c:Nat->Nat} {n:Nat} (h:∀j,j < n + 1->s j=s' j):ds p q s c n=ds p q s' c n:=aP4 λj hj=>by rw [h (n - j) (by omega)]
theorem BI.other {N:Nat} {p q:Nat->Nat->Nat} (r:Rg N p q) {s s' c b:Nat->Nat} {n L o:Nat} (I:BI N p q s n L c b o) (h:∀j,j < n->s j=s' j):BI N p q s' n L c b o where
 c0:=I.c0
 cz:=I.cz
 cl:=I.cl
 ln:=I.ln
 kp:=λi h1 h2=>by rw [<-bt5 λj hj=>h j (by omega)]; exact I.kp i h1 h2
 mn:=λL1 c1 h1 h2 h3 h4=>I.mn L1 c1 h1 h2 h3 λi a b=>by rw [bt5 λj hj=>h j (by omega)]; exact h4 i a b
 b0:=I.b0
 bz:=I.bz
 bl:=I.bl
 bk:=λi h1 h2=>by rw [<-bt5 λj hj=>h j (by omega)]; exact I.bk i h1 h2
 bo:=λh1=>by
  rw [<-I.bo h1]
  refine aP4 λj hj=>?_
  by_cases e:j=0
  ·rw [e,I.b0,r.mc,r.qz,r.mc,r.qz]
  ·rw [h (n - j) (by omega)]
theorem BI.start {m:Bool × Nat} (hm:m∈flds) (s:Nat->Nat):BI (mny m) (gp m) (gm m) s 0 0 (cf [1]) (shf 1 (cf [1])) 1:=by
 have lo:=(fok hm).lo
 have cl:∀j,cf [1] j < mny m:=λj=>by
  cases j with
  | zero=>exact lo
  | succ j=>exact Nat.lt_of_lt_of_le (show 0 < 2 by decide) lo
 have cz:∀j,0 < j->cf [1] j=0:=λj hj=>bf1 (show ([1]:List Nat).length<=j from hj)
 exact ⟨rfl,cz,cl,Nat.le_refl _,λi _ h=>absurd h (Nat.not_lt_zero i),λ_ _ _ _ _ _=>Nat.zero_le _,rfl,λj hj=>b62 cz j hj,bO4 (rg hm) cl,λi _ h=>absurd h (Nat.not_lt_zero i),λh=>absurd h (by omega)⟩
end L3
namespace L3
open PySem L2 PySem.Spec PyProof.Rows
section
variable {X:Cx} {i j:Nat} {x y:Str} {p pos pos' apos cpos:Pos}
end
section
variable {X:Cx} {e:Expr} {t:TEd} {p pos:Pos}
end
section
variable {X:Cx}
theorem bP7 (i:Int) (ns:List Int):inV (.int i) (ns.map V.int)=decide (i∈ns):=by
 unfold inV
 rw [List.any_map,Bool.eq_iff_iff,List.any_eq_true,decide_eq_true_iff]
 exact ⟨λ⟨x,hx,he⟩=>(show x=i by simpa [eqV] using he) ▸ hx,λhx=>⟨i,hx,by simp [eqV]⟩⟩
noncomputable def ca6:Rd2:=λx y Q=>match x,y with
 | .int i,.lst _ xs=>∃ns:List Int,xs=aR7 ns/\Q (.bl (!decide (i∈ns)))
 | _,_=>False
theorem co1:OpD X (compareOp .NotIn) ca6 :=
 ⟨_,br0,λ{B F H σ δ ts x y v w Q Qd} c sx sy h k=>by
  unfold ca6 at h
  split at h
  ·rename_i i o xs
   obtain ⟨ns,rfl,q⟩:=h
   obtain ⟨p,ws,rfl,e1,s1⟩:=a69 sy c.ext
   have e:=bu3 s1
   subst e
   cases sx
   refine ⟨p,_,rfl,.inl (SqL.of e1),rfl,by simp [bm7],?_⟩
   rw [if_pos rfl,bP7]
   exact k _ _ _ q (Same.refl _) (c.pushS (.bl .nil) rfl)
  ·exact h.elim⟩
end
end L3
namespace L3
open PySem L2 Mf
noncomputable def aP8 (o:Bool) (T:List (List Nat)):List D:=T.map λr=>.lst o (aO8 r)
theorem aV2 (o:Bool) (T:List (List Nat)):(aP8 o T).length=T.length:=by unfold aP8; rw [List.length_map]
theorem aS5 (o:Bool) (T:List (List Nat)):(aP8 o T).map D.sh=aP8 false T:=by
 unfold aP8
 rw [List.map_map]
 exact List.map_congr_left λr _=>bc9 o r
theorem a80 (T:List (List Nat)):(aP8 false T).all D.pl=true:=by
 unfold aP8
 rw [List.all_map,List.all_eq_true]
 intro r _
 show (D.lst false (aO8 r)).pl=true
 rw [aW6,aZ5]; rfl
theorem a79 (T:List (List Nat)):(aP8 true T).all D.fr=true:=by
 unfold aP8
 rw [List.all_map,List.all_eq_true]
 intro r _
 exact a56 r
theorem a64 (o:Bool) (S T:List (List Nat)):aP8 o S++aP8 o T=aP8 o (S++T):=by unfold aP8; rw [List.map_append]
theorem a68 (o:Bool) (T:List (List Nat)) (lo hi:Option Int):bi1 (aP8 o T) lo hi=aP8 o (bi1 T lo hi):=by
 unfold aP8 bi1
 rw [List.length_map,List.map_take,List.map_drop]
theorem be3 (o:Bool) {T:List (List Nat)} {i:Nat} (h:i < T.length):atI (aP8 o T) (i:Int)=some (.lst o (aO8 T[i])):=by
 refine L3.atI_nat ?_
 unfold aP8
 rw [List.getElem?_map,List.getElem?_eq_getElem h]; rfl
theorem bK6 (n:Nat) (o:Bool) (T:List (List Nat)):(aP8 o T).all (eqK (n + 1))=true:=by
 unfold aP8
 rw [List.all_map,List.all_eq_true]
 intro r _
 exact aW9 _ _ _
theorem bl8 (n:Nat) (o o':Bool) (T:List (List Nat)):eqK (n + 2) (.lst o (aP8 o' T))=true:=bK6 n o' T
theorem bj1 (o o':Bool):∀(a b:List (List Nat)),deq.deqL (aP8 o a) (aP8 o' b)=decide (a=b)
 | [],[]=>rfl
 | [],_ :: _=>by simp [aP8,deq.deqL]
 | _ :: _,[]=>by simp [aP8,deq.deqL]
 | x :: xs,y :: ys=>by
  show (deq (.lst o (aO8 x)) (.lst o' (aO8 y)) && deq.deqL (aP8 o xs) (aP8 o' ys))=_
  rw [bj1 o o' xs ys,aY4,Bool.eq_iff_iff]; simp
theorem bO6 (o o' o1 o2:Bool) (a b:List (List Nat)):deq (.lst o (aP8 o1 a)) (.lst o' (aP8 o2 b))=decide (a=b):=bj1 o1 o2 a b
open Classical in
theorem bn5 {α:Type} {sh:Bool} {xs:List D} {caps:List (Str × Nat)} {n:Nat} {g0:TGd} {tt:TTd} {te:TEd} {δ1:Dl} {Q:D->Dl->Prop} (l:List α) (e g:α->D) (kp:α->Bool) (hxs:xs.map D.sh=l.map e) (inj:∀a b,e a=e b->a=b)
  (hx:∀a∈l,g0 (e a) (aV4 caps n δ1) λδ2=>tt δ2 λb δ3=>b=kp a/\(kp a=true->te δ3 λd _=>d=g a)) (hfr:(sh && caps.all (bb7 δ1))=true\/∀a∈l,kp a=true->(g a).fr=true) (hl:l.length<=sizeLine) (hq:Q (.lst true ((l.filter kp).map g)) δ1):bl0 sh xs caps n g0 tt te δ1 Q:=by
 have pick:∀{β:Type} (h:α->β) (z:β),∃f:D->β,∀a∈l,f (e a)=h a:=λh z=>⟨λx=>if w:∃a∈l,e a=x then h w.choose else z,λa ha=>by
  have w:∃b∈l,e b=e a:=⟨a,ha,rfl⟩
  show (if w:∃b∈l,e b=e a then h w.choose else z)=h a
  rw [dif_pos w]
  exact congrArg h (inj _ _ w.choose_spec.2)⟩
 obtain ⟨f,hf⟩:=pick g .non
 obtain ⟨p,hp⟩:=pick kp false
 refine ⟨p,f,λx h=>?_,hfr.imp id λh x hx'=>?_,?_,?_⟩
 ·rw [hxs] at h
  obtain ⟨a,ha,rfl⟩:=List.mem_map.mp h
  rw [hp a ha,hf a ha]
  exact hx a ha
 ·rw [hxs] at hx'
  obtain ⟨a,ha,rfl⟩:=List.mem_map.mp hx'
  rw [hp a ha,hf a ha]; exact h a ha
 ·have:=congrArg List.length hxs
  simp at this
  omega
 ·rw [hxs,List.filter_map,List.map_map,show l.filter (p ∘ e)=l.filter kp from List.filter_congr λa ha=>hp a ha,show (l.filter kp).map (f ∘ e)=(l.filter kp).map g from List.map_congr_left λa ha=>hf a (List.mem_filter.mp ha).1]
  exact hq
theorem bz8 {o:Bool} {G:List (List Nat)} {i:Nat} {d:D} (h:(a74 (aP8 o G))[i]?=some d):∃hi:i < G.length,d=.tup [.int i,.lst o (aO8 G[i])]:=by
 unfold a74 aP8 at h
 rw [List.getElem?_mapIdx,List.getElem?_map] at h
 by_cases hi:i < G.length
 ·rw [List.getElem?_eq_getElem hi] at h
  exact ⟨hi,(Option.some.inj h).symm⟩
 ·rw [List.getElem?_eq_none (by omega)] at h; cases h
theorem bx1 (r:List Nat):(a74 (aO8 r)).map D.sh=(List.range r.length).map λ(i:Nat)=>D.tup [.int (i:Int),.int ((r.getD i 0:Nat):Int)]:=by
 apply List.ext_getElem?
 intro i
 unfold a74
 rw [aQ0,List.getElem?_map,List.getElem?_mapIdx,List.getElem?_map,List.getElem?_map]
 by_cases hi:i < r.length
 ·have e:r.getD i 0=r[i]:=by rw [List.getD_eq_getElem?_getD,List.getElem?_eq_getElem hi]; rfl
  rw [List.getElem?_eq_getElem hi,List.getElem?_range hi]
  show _=some (D.tup [D.int (i:Int),D.int ((r.getD i 0:Nat):Int)])
  rw [e]; rfl
 ·rw [List.getElem?_eq_none (show r.length<=i by omega),List.getElem?_eq_none (show (List.range r.length).length<=i by simpa using hi)]; rfl
theorem bq6 {r:List Nat} (h:∃x∈r,x≠0):((List.range r.length).filter λi=>r.getD i 0 != 0)[0]?=some (r.findIdx (· != 0)):=by
 obtain ⟨x,hx,h0⟩:=h
 have hl:r.findIdx (· != 0) < r.length:=List.findIdx_lt_length_of_exists ⟨x,hx,by simpa using h0⟩
 rw [<-List.head?_eq_getElem?,List.head?_filter,List.find?_range_eq_some]
 refine ⟨?_,List.mem_range.mpr hl,λj hj=>?_⟩
 ·rw [List.getD_eq_getElem?_getD,List.getElem?_eq_getElem hl]
  exact List.findIdx_getElem (w:=hl)
 ·have:=List.not_of_lt_findIdx hj
  rw [List.getD_eq_getElem?_getD,List.getElem?_eq_getElem (by omega)]
  simpa using this
noncomputable def wof (T:List (List Nat)):Nat:=(T.headD []).length
noncomputable def fwi (T:List (List Nat)) (j:Nat):Option Nat:=T.findIdx? λr=>r.getD j 0 != 0
noncomputable def clr (m:Bool × Nat) (T:List (List Nat)) (l:List Nat) (j:Nat):List (List Nat):=T.map λr=>List.zipWith (λx y=>gln m x (gm m (r.getD j 0) y)) r l
noncomputable def gmi (m:Bool × Nat) (b:Nat):Nat:=((List.range (mny m)).find? λr=>gm m r b == 1).getD 0
theorem bj4 {m:Bool × Nat} (hm:m∈flds) {b r:Nat} (hr:r < mny m) (h:gm m r b=1):gmi m b=r:=by
 have m0:=aP1 m hm
 unfold gmi
 cases e:(List.range (mny m)).find? λr=>gm m r b == 1 with
 | none =>
  have:=List.find?_eq_none.mp e r (List.mem_range.mpr hr)
  simp [h] at this
 | some r' =>
  have h':gm m r' b=1:=by simpa using List.find?_some e
  have l':r' < mny m:=List.mem_range.mp (List.mem_of_find?_eq_some e)
  show r'=r
  rw [<-aZ7 hr,<- h',<- aR1 m0,aS9 m r r',aR1 m0,h,aZ7 l']
noncomputable def RT (N w:Nat) (T:List (List Nat)):Prop:=∀r∈T,r.length=w/\AllLt N r
theorem RT.app {N w:Nat} {S T:List (List Nat)} (a:RT N w S) (b:RT N w T):RT N w (S++T):=λr hr=>(List.mem_append.mp hr).elim (a r) (b r)
theorem b56 {m:Bool × Nat} (hm:m∈flds) {w j:Nat} {T:List (List Nat)} {l:List Nat} (h:RT (mny m) w T) (hl:l.length=w):RT (mny m) w (clr m T l j):=λr hr=>by
 obtain ⟨r,h1,rfl⟩:=List.mem_map.mp hr
 obtain ⟨a,b⟩:=h r h1
 exact ⟨by rw [List.length_zipWith,a,hl,Nat.min_self],bt8 λx hx y hy=>(bb5 hm (b x hx) (aR6 hm _ y)).2.1⟩
noncomputable def ldr (m:Bool × Nat) (T:List (List Nat)) (i p:Nat):List Nat:=(T.getD i []).map (gm m (gmi m ((T.getD i []).getD p 0)))
noncomputable def a91 (m:Bool × Nat) (s:List (List Nat) × List (List Nat)) (p:Nat):List (List Nat) × List (List Nat):=match fwi s.2 p with
 | none=>s
 | some i=>(clr m s.1 (ldr m s.2 i p) p++[ldr m s.2 i p],clr m (s.2.take i++s.2.drop (i + 1)) (ldr m s.2 i p) p)
noncomputable def bA0 (m:Bool × Nat) (G:List (List Nat)) (k:Nat):List (List Nat) × List (List Nat):=(List.range k).foldl (a91 m) ([],G)
noncomputable def ba3 (m:Bool × Nat) (G:List (List Nat)):List (List Nat):=(bA0 m G (wof G)).1
theorem bh6 (m:Bool × Nat) (G:List (List Nat)) (k:Nat):bA0 m G (k + 1)=a91 m (bA0 m G k) k:=by
 unfold bA0
 rw [List.range_succ,List.foldl_append]; rfl
theorem be2 {T:List (List Nat)} {j i:Nat} (h:fwi T j=some i):∃hi:i < T.length,T[i].getD j 0≠0/\T.getD i []=T[i]:=by
 obtain ⟨hi,h1,_⟩:=List.findIdx?_eq_some_iff_getElem.mp h
 exact ⟨hi,by simpa using h1,by rw [List.getD_eq_getElem?_getD,List.getElem?_eq_getElem hi]; rfl⟩
structure RDS (N w n:Nat) (s:List (List Nat) × List (List Nat)):Prop where
 a:RT N w s.1
 b:RT N w s.2
 l:s.1.length + s.2.length<=n
theorem bV2 {m:Bool × Nat} (hm:m∈flds) {w n p:Nat} {s:List (List Nat) × List (List Nat)} (h:RDS (mny m) w n s):RDS (mny m) w n (a91 m s p):=by
 unfold a91
 split
 ·exact h
 ·rename_i i e
  obtain ⟨hi,h1,h2⟩:=be2 e
  have hl:(ldr m s.2 i p).length=w:=by unfold ldr; rw [List.length_map,h2]; exact (h.b _ (List.getElem_mem hi)).1
  have hr:RT (mny m) w [ldr m s.2 i p]:=λr hr=>by
   rw [List.mem_singleton] at hr
   refine ⟨by rw [hr]; exact hl,λx hx=>?_⟩
   rw [hr] at hx
   obtain ⟨y,_,rfl⟩:=List.mem_map.mp hx
   exact aR6 hm _ _
  refine ⟨(b56 hm h.a hl).app hr,b56 hm (λr hr=>h.b r ?_) hl,?_⟩
  ·rcases List.mem_append.mp hr with hr | hr
   ·exact List.mem_of_mem_take hr
   ·exact List.mem_of_mem_drop hr
  ·have:=h.l
   unfold clr
   rw [List.length_append,List.length_map,List.length_map,List.length_append,List.length_take,List.length_drop]
   show s.1.length + 1 + _<=n
   omega
theorem bg4 {m:Bool × Nat} (hm:m∈flds) {w:Nat} {G:List (List Nat)} (h:RT (mny m) w G):∀k,RDS (mny m) w G.length (bA0 m G k)
 | 0=>⟨(λr hr=>nomatch hr),h,Nat.le_of_eq (Nat.zero_add _)⟩
 | k + 1=>by rw [bh6]; exact bV2 hm (bg4 hm h k)
theorem bS6 (j:Nat) (l:List Nat):decide ((j:Int)∈l.map λ(n:Nat)=>(n:Int))=l.contains j:=by
 rw [Bool.eq_iff_iff,decide_eq_true_iff,List.contains_iff_mem,List.mem_map]
 exact ⟨λ⟨a,h,e⟩=>(show a=j by omega) ▸ h,λh=>⟨j,h,rfl⟩⟩
theorem cb8 {o:Bool} {G:List (List Nat)} {f:List Nat->Nat} {k:Nat} {d:D} (h:(bc0 (aO8 (G.map f)) (aP8 o G))[k]?=some d):∃hk:k < G.length,d=.tup [.int ((f G[k]:Nat):Int),.lst o (aO8 G[k])]:=by
 unfold bc0 aP8 at h
 rw [aQ0,List.getElem?_zipWith,List.getElem?_map,List.getElem?_map,List.getElem?_map] at h
 by_cases hk:k < G.length
 ·rw [List.getElem?_eq_getElem hk] at h
  exact ⟨hk,(Option.some.inj h).symm⟩
 ·rw [List.getElem?_eq_none (by omega)] at h; cases h
theorem a07 {α:Type} (a:α->Nat) (b:α->Nat):∀(l:List α) (x:List Nat),(l.foldl (λx z=>x.set (a z) (b z)) x).length=x.length
 | [],_=>rfl
 | z :: l,x=>by rw [List.foldl_cons,a07 a b l,List.length_set]
end L3
namespace L2
open PySem PySem.Spec PyProof.Rows
theorem bC9 {M:Model} {A:Around} {E:Value->Shared->Prop} {s:Shared} {scope:Scope} {globals:Addr} {cl:List (Str × Addr)} {qual:Str} {env:Env} {bi:Addr} {Q:Env->Shared->Prop}
  (hQ:Q (newEnv scope s.heap.objs.size globals (cellsFrom (s.heap.objs.size + 1) scope.names cl) qual none .none (some env) bi) { s with heap:=pushCells (s.heap.push { cls:=.type "dict",data:=.dict #[] }) scope.names }) :
  wpAny M A (newFunctionEnv scope globals cl [] qual none .none (some env) bi) Q E s:=by
 simp only [newFunctionEnv,Option.isSome_some,if_true]
 refine wpAny_bind (wpAny_alloc (wpAny_bind (wpAny_layCells _ (λname kind cells=>by cases e:kind == NameKind.cell <;> simp [e]) _ _ _ _ ?_)))
 rw [List.forIn_nil]
 refine wpAny_bind (wpAny_pure (wpAny_pure ?_))
 have z:({ s with heap:=s.heap.push { cls:=.type "dict",data:=.dict #[] } }:Shared).heap.objs.size=s.heap.objs.size + 1:=Heap.size_push ..
 rw [z]
 exact hQ
theorem bb8:∀(ns:List (Str × NameKind)) (n:Nat) (acc:List (Str × Addr)) (y:Str) (c:Addr),(cellsFrom n ns acc).lookup y=some c->(n<=c/\(y,NameKind.cell)∈ns)\/acc.lookup y=some c
 | [],_,_,_,_,h=>.inr h
 | (z,k) :: r,n,acc,y,c,h=>by
  unfold cellsFrom at h
  split at h
  ·rename_i hk
   rcases bb8 r (n + 1) _ y c h with ⟨h1,h2⟩ | h1
   ·exact .inl ⟨by omega,List.mem_cons_of_mem _ h2⟩
   ·rw [List.lookup_cons] at h1
    cases q:y == z with
    | true =>
     rw [q] at h1; cases h1
     exact .inl ⟨Nat.le_refl _,by rw [eq_of_beq q,eq_of_beq hk]; exact List.mem_cons_self⟩
    | false=>rw [q] at h1; exact .inr h1
  ·rcases bb8 r n acc y c h with ⟨h1,h2⟩ | h1
   ·exact .inl ⟨h1,List.mem_cons_of_mem _ h2⟩
   ·exact .inr h1
theorem be9:∀(ns:List (Str × NameKind)) (n:Nat) (acc:List (Str × Addr)),(∀y z c,acc.lookup y=some c->acc.lookup z=some c->y=z)->(∀y c,acc.lookup y=some c->c < n) ->
  ∀y z c,(cellsFrom n ns acc).lookup y=some c->(cellsFrom n ns acc).lookup z=some c->y=z
 | [],_,_,i,_,y,z,c,h1,h2=>i y z c h1 h2
 | (u,k) :: r,n,acc,i,b,y,z,c,h1,h2=>by
  unfold cellsFrom at h1 h2
  split at h1
  ·rw [if_pos (by assumption)] at h2
   refine be9 r (n + 1) ((u,n) :: acc) (λy z c e1 e2=>?_) (λy c e=>?_) y z c h1 h2
   ·rw [List.lookup_cons] at e1 e2
    cases q1:y == u with
    | true =>
     rw [q1] at e1; cases e1
     cases q2:z == u with
     | true=>rw [eq_of_beq q1,eq_of_beq q2]
     | false=>rw [q2] at e2; exact absurd (b _ _ e2) (Nat.lt_irrefl _)
    | false =>
     rw [q1] at e1
     cases q2:z == u with
     | true=>rw [q2] at e2; cases e2; exact absurd (b _ _ e1) (Nat.lt_irrefl _)
     | false=>rw [q2] at e2; exact i y z c e1 e2
   ·rw [List.lookup_cons] at e
    cases q:y == u with
    | true=>rw [q] at e; cases e; exact Nat.lt_succ_self _
    | false=>rw [q] at e; exact Nat.lt_succ_of_lt (b _ _ e)
  ·rw [if_neg (by assumption)] at h2
   exact be9 r n acc i b y z c h1 h2
theorem bf3:∀(ns:List (Str × NameKind)) (n:Nat) (acc:List (Str × Addr)) (y:Str) (c:Addr),(y,NameKind.cell)∈ns->(cellsFrom n ns acc).lookup y=some c->n<=c
 | [],_,_,_,_,m,_=>nomatch m
 | (z,k) :: r,n,acc,y,c,m,h=>by
  unfold cellsFrom at h
  split at h
  ·rename_i hk
   rcases List.mem_cons.mp m with e | m
   ·have e1:y=z:=(Prod.mk.inj e).1
    rcases bb8 r (n + 1) _ y c h with ⟨h1,_⟩ | h1
    ·exact Nat.le_of_succ_le h1
    ·rw [List.lookup_cons,e1,beq_self_eq_true] at h1
     exact Nat.le_of_eq (Option.some.inj h1)
   ·exact Nat.le_of_succ_le (bf3 r (n + 1) _ y c m h)
  ·rename_i hk
   rcases List.mem_cons.mp m with e | m
   ·cases e; exact absurd rfl hk
   ·exact bf3 r n acc y c m h
noncomputable def aQ8 (X:Cx) (scope:Scope) (N:List Str) (cl:List (Str × Addr)) (C:Addr) (s:Shared) (H:Hp) (fp:List Addr):Cx :=
 { bz3 X scope N (cellsFrom (C + 1) scope.names cl) C s H fp with fn:=λy=>scope.names.contains (y,NameKind.cell) }
section
variable {X:Cx} {scope:Scope} {cl:List (Str × Addr)}
theorem bQ4 {pins:List (Addr × Obj)} {σ:St} {H:Hp} {s:Shared} {fp:List Addr} {C:Addr} (I:Inv X pins σ H s) (hkind:scope.kind=.function) (hC:s.heap.objs.size<=C)
  (hcl:∀y c,cl.lookup y=some c->X.env.cells.lookup y=some c) (hhas:∀y,((relabel scope X.env).names.lookup y=some .cell\/(relabel scope X.env).names.lookup y=some .free)->∃c,(cellsFrom (C + 1) scope.names cl).lookup y=some c)
  (hf:∀b∈fp,bA4 X pins H b) (ho:∀b∈fp,∃o,s.heap.get? b=some o/\∀v,o.data≠.cell v) (N:List Str):(aQ8 X scope N cl C s H fp).Ok where
 mod:=I.ok.mod
 kind:=hkind
 glob:=I.ok.glob
 blt:=I.ok.blt
 above:=hC
 inj:=be9 scope.names (C + 1) cl (λy z c h1 h2=>I.ok.inj y z c (hcl _ _ h1) (hcl _ _ h2)) λy c e=>by
  obtain ⟨v,o,ho,_⟩:=I.cell y c (hcl y c e)
  exact Nat.lt_succ_of_le (Nat.le_of_lt (Nat.lt_of_lt_of_le (Heap.lt_size ho) hC))
 has:=hhas
 cab:=λy c h e=>Nat.le_trans hC (Nat.le_of_succ_le (bf3 _ _ _ y c (List.contains_iff_mem.mp h) e))
 hd:=I.ok.hd
 frames:=I.ok.frames
 stk:=.inl rfl
 exf:=λb hb=>⟨by
  obtain ⟨o,e,_⟩:=ho b hb
  exact Nat.ne_of_lt (Nat.lt_of_lt_of_le (Heap.lt_size e) hC),λy c e z=>by
  rcases bb8 _ _ _ y c e with ⟨h1,_⟩ | h1
  ·obtain ⟨o,e,_⟩:=ho b hb
   rw [z] at h1
   exact absurd (Nat.lt_of_lt_of_le (Heap.lt_size e) (Nat.le_trans hC (Nat.le_of_succ_le h1))) (Nat.lt_irrefl _)
  ·exact (hf b hb).2.2.2.2.1 y c (hcl _ _ h1) z⟩
 bs:=I.bs
 bsz:=Nat.le_trans I.ok.bsz I.sz
 noex:=λb o e hb=>by
  rcases (hf b hb).2.2.2.1 with z | z
  ·exact I.ok.noex b o e z
  ·exact absurd (Nat.lt_of_lt_of_le (Heap.lt_size (I.ok.bs b o e).1) z) (Nat.lt_irrefl _)
 exfs:=λb hb z=>(List.mem_cons.mp (I.stkSub b z)).elim (hf b hb).2.1 (hf b hb).2.2.1
 funs:=I.stack
 frf:=I.stkFree
end
theorem bf0:∀(ns:List (Str × NameKind)) (h:Heap) (acc:List (Str × Addr)) (y:Str) (c:Addr),(cellsFrom h.objs.size ns acc).lookup y=some c->(∃o,(pushCells h ns).get? c=some o/\o.data=.cell none)\/acc.lookup y=some c
 | [],_,_,_,_,e=>.inr e
 | (z,k) :: r,h,acc,y,c,e=>by
  unfold cellsFrom at e
  unfold pushCells
  split at e
  ·rename_i hk
   rw [if_pos hk]
   rw [<-Heap.size_push h { cls:=.type "cell",data:=.cell none }] at e
   rcases bf0 r _ _ y c e with h1 | h1
   ·exact .inl h1
   ·rw [List.lookup_cons] at h1
    cases q:y == z with
    | true =>
     rw [q] at h1; cases h1
     exact .inl ⟨_,pushCells_keeps _ _ _ _ (Heap.get?_push_size _ rfl),rfl⟩
    | false=>rw [q] at h1; exact .inr h1
  ·rename_i hk
   rw [if_neg hk]
   exact bf0 r h acc y c e
end L2
namespace L2
open PySem PySem.Spec PyProof.Rows
section
variable {X:Cx} {elt iter tg:Expr} {pos:Pos} {ifs:List Expr} {scope:Scope} {cl:List (Str × Addr)} {wi:TI} {tt:TT} {te:TE} {g:TG}
theorem bj6 (caps:List (Str × Nat)) (tns:List Str) (hc:X.calm=true) (hi:PI X tg iter wi)
  (hg:∀C s H fp,PG (aQ8 X scope (caps.map (·.1)++tns) cl C s H fp) tg g)
  (ht:∀C s H fp,PTs (aQ8 X scope (caps.map (·.1)++tns) cl C s H fp) ifs tt) (he:∀C s H fp,PE (aQ8 X scope (caps.map (·.1)++tns) cl C s H fp) elt te)
  (hclos:closureFor scope X.env=pure cl) (hclo:ClOk X cl) (hhaso:∀C:Addr,HasOk (cellsFrom (C + 1) scope.names cl) (relabel scope X.env).names) (hcaps:∀C:Addr,CapsOk X scope (cellsFrom (C + 1) scope.names cl) caps)
  (hkind:scope.kind=.function) (hnames:∀y∈scope.names,y.2=.local->scope.names.lookup y.1=some .local)
  (hs:∀x,foldedSetIterable iter X.env x=pure x:=by intro _; rfl) {pins:List (Addr × Obj)} {s:Shared} {σ:L2.St} {H:Hp} {Q:VK} {use:Option (Value->Sem Unit)} {cpos:Pos} {Rf:Value->Shared->Prop} (I:Inv X pins σ H s) (h:bz9 wi caps tns.length g tt te σ H Q)
  (hend:∀(s':Shared) (H':Hp) (C Da:Addr) (m:Str->Option Value),Inv X pins σ H' s'->s'.heap.Ns C m->H' C=none->C≠X.env.locals->X.s₀.heap.objs.size<=C->(∀x c,X.env.cells.lookup x=some c->c≠C)->(∀p∈X.pn++pins,p.1≠C)->C ∉ X.fs->Q (.ref Da) H' ->
   compPost (model X.prog X.w) X.A X.xe use Rf (.ref Da) C (.ok .next) s') :
  wpAny (model X.prog X.w) X.A (comprehension (.ListComp elt [⟨tg,iter,ifs,0⟩] scope pos) scope X.env cpos (newList []) false (eval iter X.env) use) Rf X.xe s:=by
 have hcl:=hclo.all
 refine wpAny_comprehension_free (use:=use) rfl hs hclos hkind hnames (thn (hi pins s σ H _ I h) λv s1 h1=>thn h1 λitv s2 h2=>?_)
 obtain ⟨it,fp,tn,J,H2,e,I2,T,st2,f2,q⟩:=h2
 subst e
 refine wpAny_newList ?_
 refine bC9 ?_
 have hD:H2 s2.heap.objs.size=none:=I2.hok.fresh (Nat.le_refl _)
 obtain ⟨W,⟨m0,w0⟩,turn⟩:=q s2.heap.objs.size hD
 generalize hg0:s2.heap.push { cls:=.type "list",data:=.seq ([]:List Value).toArray }=g0 at ⊢
 have hCs:g0.objs.size=s2.heap.objs.size + 1:=by rw [<-hg0,Heap.size_push]
 have hDC:s2.heap.objs.size≠g0.objs.size:=by omega
 have hle:s2.heap.objs.size<=g0.objs.size:=by omega
 have neC:∀b o,s2.heap.get? b=some o->b≠g0.objs.size:=λb o e=>Nat.ne_of_lt (Nat.lt_of_lt_of_le (Heap.lt_size e) hle)
 obtain ⟨g1,hg1⟩:∃g1,g1=pushCells (g0.push { cls:=.type "dict",data:=.dict #[] }) scope.names:=⟨_,rfl⟩
 have ns1:g1.Ns g0.objs.size (λ_=>none):=by rw [hg1]; exact (Heap.Ns.new g0 (.type "dict")).keeps (pushCells_keeps _ _)
 have kp1:∀b o,g0.get? b=some o->g1.get? b=some o:=λb o e=>by rw [hg1]; exact pushCells_keeps _ _ b o (Heap.get?_push_of_some _ e)
 have old:∀b o,s2.heap.get? b=some o->g1.get? b=some o:=λb o e=>kp1 b o (hg0 ▸ Heap.get?_push_of_some _ e)
 rw [<-hg1]
 have hDg:g1.get? s2.heap.objs.size=some { cls:=.type "list",data:=.seq ([]:List Value).toArray }:=kp1 _ _ (hg0 ▸ Heap.get?_push_size _ rfl)
 have obj2:∀b∈fp,∃o,s2.heap.get? b=some o/\∀v,o.data≠.cell v:=T.obj _ _ st2
 have okY:=bQ4 (scope:=scope) (cl:=cl) (C:=g0.objs.size) I2 hkind hle hcl (hhaso g0.objs.size).all f2 obj2 (caps.map (·.1)++tns)
 have I4:Inv (aQ8 X scope (caps.map (·.1)++tns) cl g0.objs.size s2 H2 fp) [] (slG caps tns.length σ) (upd H2 s2.heap.objs.size (.lst [])) { s2 with heap:=g1 }:=by
  refine ⟨okY,rfl,I2.bare,Un.laid old (Nat.le_refl _) hD,⟨_,ns1,λi y v h1 h2 h3=>?_⟩,λy c e=>?_,?_,λy c e=>?_,λp hp=>absurd hp (by simp [aQ8,bz3]),I2.hok.laid old (Nat.le_refl _) ⟨Nat.zero_le _,[],0,.nil,hDg⟩,by simp [slG,aQ8,bz3]⟩
  ·by_cases hic:i < caps.length
   case neg =>
    have h2':((caps.map λp=>(σ[p.2]?).getD none)++List.replicate tns.length none)[i]?=some (some v):=h2
    rw [List.getElem?_append_right (by simpa using hic),List.getElem?_replicate] at h2'
    split at h2' <;> cases h2'
   case pos =>
    have h1':(caps.map (·.1))[i]?=some y:=by
     have z:(caps.map (·.1)++tns)[i]?=some y:=h1
     rwa [List.getElem?_append_left (by simpa using hic)] at z
    have h2':(caps.map λp=>(σ[p.2]?).getD none)[i]?=some (some v):=by
     have z:((caps.map λp=>(σ[p.2]?).getD none)++List.replicate tns.length none)[i]?=some (some v):=h2
     rwa [List.getElem?_append_left (by simpa using hic)] at z
    rw [List.getElem?_map] at h1' h2'
    cases hj:caps[i]? with
    | none=>rw [hj] at h1'; cases h1'
    | some p =>
     rw [hj] at h1' h2'
     have ey:p.1=y:=Option.some.inj h1'
     have ev:(σ[p.2]?).getD none=some v:=Option.some.inj h2'
     obtain ⟨hN,hk,hk',c,e1,e2⟩:=(hcaps g0.objs.size).at p (List.mem_of_getElem? hj)
     obtain ⟨m,hn,hl⟩:=I2.loc
     have es:σ[p.2]?=some (some v):=by
      cases z:σ[p.2]? with
      | none=>rw [z] at ev; cases ev
      | some o=>rw [z] at ev; exact congrArg some ev
     obtain ⟨u,ru,lk⟩:=hl p.2 p.1 v hN es (hk.elim (λz=>.inr (.inl z)) λz=>.inr (.inr z))
     refine ⟨u,ru,?_⟩
     rcases lk with ⟨lk,_⟩ | ⟨_,c',e3,ic⟩
     ·rcases hk with hk | hk
      ·have:=hk.symm.trans lk; cases this
      ·have:=hk.symm.trans lk; cases this
     ·rw [e2] at e3
      cases e3
      subst ey
      obtain ⟨oc,hoc,hdc⟩:=ic
      exact .inr ⟨hk',c,e1,oc,old _ _ hoc,hdc⟩
  ·rcases bf0 _ _ _ y c (show (cellsFrom (g0.push { cls:=.type "dict",data:=.dict #[] }).objs.size scope.names cl).lookup y=some c by rw [Heap.size_push]; exact e) with h1 | h1
   ·rw [<-hg1] at h1
    exact ⟨none,h1⟩
   ·obtain ⟨v,o,ho,hd⟩:=I2.cell y c (hcl y c h1)
    exact ⟨v,o,old _ _ ho,hd⟩
  ·show upd H2 _ _ g0.objs.size=none
   rw [aP5 (Ne.symm hDC)]
   exact I2.hok.fresh hle
  ·rcases bb8 _ _ _ y c e with ⟨h1,_⟩ | h1
   ·rw [aP5 (Nat.ne_of_gt (Nat.lt_of_le_of_lt hle h1))]
    exact I2.hok.fresh (Nat.le_trans hle (Nat.le_of_succ_le h1))
   ·obtain ⟨v,o,ho,hd⟩:=I2.cell y c (hcl y c h1)
    rw [aP5 (Nat.ne_of_lt (Heap.lt_size ho))]
    exact I2.freeC y c (hcl y c h1)
 have fin:∀(s':Shared) (H':Hp) (σ':L2.St),Inv (aQ8 X scope (caps.map (·.1)++tns) cl g0.objs.size s2 H2 fp) [] σ' H' s'->Q (.ref s2.heap.objs.size) H' ->
   compPost (model X.prog X.w) X.A X.xe use Rf (.ref s2.heap.objs.size) g0.objs.size (.ok .next) s':=by
  intro s' H' σ' I' q'
  obtain ⟨m,hn,_⟩:=I'.loc
  have u:=I'.base
  have hC':H' g0.objs.size=none:=I'.free
  have IX:Inv X pins σ H' s':=I2.call' (s':=s') (ch:=fp) I'.os ⟨u.keep,u.slot,u.free,u.there,u.tups,u.frzs,u.tbls⟩ I'.hok I'.bare λb hb=>by
   obtain ⟨_,y1,y2,y3,y4,y5⟩:=f2 b hb
   exact ⟨y3,y1,y4,y5⟩
  have ltC:∀b,(∃o,s2.heap.get? b=some o)->b≠g0.objs.size:=λb ⟨o,e⟩=>neC b o e
  refine hend s' H' g0.objs.size s2.heap.objs.size m IX hn hC' (λz=>?_) (Nat.le_trans I2.sz hle) (λx c e z=>?_) (λp hp z=>?_) (λz=>?_) q'
  ·have h0:X.env.locals < s2.heap.objs.size:=I2.lt
   rw [<-z] at h0
   exact Nat.lt_irrefl _ (Nat.lt_of_lt_of_le h0 hle)
  ·obtain ⟨v,o,ho,_⟩:=I2.cell x c e
   exact ltC c ⟨o,ho⟩ z
  ·exact ltC p.1 ⟨_,(I2.pin p hp).1⟩ z
  ·exact I2.nofs hle z
 have fpY:∀(H':Hp),(∀b∈fp,H' b=none)->∀b∈fp,bA4 (aQ8 X scope (caps.map (·.1)++tns) cl g0.objs.size s2 H2 fp) [] H' b:=λH' hn b hb =>
  ⟨hn b hb,(okY.exf b hb).1,okY.exfs b hb,.inl hb,(okY.exf b hb).2,λp hp=>absurd hp (by simp [aQ8,bz3])⟩
 have loop:codeAny (model X.prog X.w) X.A (.compLoop (.ListComp elt [⟨tg,iter,ifs,0⟩] scope pos) 0 (.ref it) (.ref s2.heap.objs.size) (compEnvC scope (cellsFrom (g0.objs.size + 1) scope.names cl) g0.objs.size X.env))
   (compPost (model X.prog X.w) X.A X.xe use Rf (.ref s2.heap.objs.size) g0.objs.size) { s2 with heap:=g1 }:=by
  refine bp9 (λn s'=>∃i acc H',Inv (aQ8 X scope (caps.map (·.1)++tns) cl g0.objs.size s2 H2 fp) [] (slG caps tns.length σ) H' s'/\tn i s'.heap/\(∀b∈fp,H' b=none)/\W i n acc H') ?_ m0
   ⟨0,[],_,I4,T.keep _ _ _ st2 λb hb o e=>old b o e,λb hb=>?_,w0⟩
  ·rintro n s' ⟨i,acc,H',I',st',fr',w'⟩
   obtain ⟨hacc,⟨stop,qn⟩ | ⟨go,step⟩⟩:=turn i n acc H' w'
   ·refine thn (T.done (aQ8 X scope (caps.map (·.1)++tns) cl g0.objs.size s2 H2 fp) rfl rfl rfl hc i [] s' _ H' (λ_ _=>False) I' (fpY H' fr') st' stop) λr t1 zz=>?_
    obtain ⟨hr,I1⟩:=zz
    subst hr
    exact fin _ _ _ I1 qn
   ·refine thn (T.item (aQ8 X scope (caps.map (·.1)++tns) cl g0.objs.size s2 H2 fp) rfl rfl rfl hc i [] s' _ H' (λ_ _=>False) I' (fpY H' fr') st' go) λr t1 zz=>?_
    obtain ⟨u,hr,h4⟩:=zz
    subst hr
    refine thn h4 λ_ t2 zz=>?_
    obtain ⟨x5,H5,I5,r5,y5,st5,fr5⟩:=zz
    obtain ⟨hD5,st6⟩:=step x5 H5 y5
    have I5':=I5.pinned (fpY H5 fr5) (T.obj _ _ st5)
    refine thn (hg _ _ _ _ _ t2 _ H5 x5 u _ I5' r5 st6) λ_ t3 zz=>?_
    obtain ⟨σ6,H6,I6,⟨len6,keep6⟩,st7⟩:=zz
    have back:∀(s7:Shared) (H7:Hp) (acc7:List V) (m7:Nat),Inv (aQ8 X scope (caps.map (·.1)++tns) cl g0.objs.size s2 H2 fp) ([]++bp3 fp t2.heap) σ6 H7 s7->W (i + 1) m7 acc7 H7 ->
      ∃i acc H',Inv (aQ8 X scope (caps.map (·.1)++tns) cl g0.objs.size s2 H2 fp) [] (slG caps tns.length σ) H' s7/\tn i s7.heap/\(∀b∈fp,H' b=none)/\W i m7 acc H':=λs7 H7 acc7 m7 I7 w7 =>
     ⟨i + 1,acc7,H7,(I7.unpinned).weak len6.symm λj v z=>by
       by_cases hj:j < caps.length
       ·rw [keep6 j hj]; exact z
       ·have z':((caps.map λp=>(σ[p.2]?).getD none)++List.replicate tns.length none)[j]?=some (some v):=z
        rw [List.getElem?_append_right (by simpa using hj),List.getElem?_replicate] at z'
        split at z' <;> (cases z'),
      T.keep _ _ _ st5 λb hb o e=>(I7.pin (b,o) (List.mem_append_right _ (List.mem_append_right _ (a84 hb e)))).1,λb hb=>by
       obtain ⟨o,e,d⟩:=T.obj _ _ st5 b hb
       exact (I7.pin (b,o) (List.mem_append_right _ (List.mem_append_right _ (a84 hb e)))).2.1,w7⟩
    refine thn (ht _ _ _ _ _ t3 _ H6 _ I6 st7) λok t4 zz=>?_
    obtain ⟨H7,I7,hD7,q7⟩:=zz
    cases ok with
    | false =>
     obtain ⟨m',hm,w7⟩:=(show ∃m',m' < n/\W (i + 1) m' acc H7 from q7)
     exact ⟨m',hm,back t4 H7 acc m' I7 w7⟩
    | true =>
     refine thn (he _ _ _ _ _ t4 _ H7 _ I7 q7) λy t5 zz=>?_
     obtain ⟨v8,H8,I8,r8,hD8,hl8,m',hm,w8⟩:=zz
     exact thn (bs7 _ t5 _ H8 (.ref s2.heap.objs.size) [v8] (.ref s2.heap.objs.size) [y] (λ_ H9=>H9=upd H8 s2.heap.objs.size (.lst (acc++[v8]))) I8 rfl (.cons r8 .nil) ⟨_,acc,v8,rfl,rfl,hD8,hl8,rfl⟩) λ_ t6 zz=>by
      obtain ⟨_,H9,I9,_,e9⟩:=zz
      subst e9
      exact ⟨m',hm,back t6 _ _ m' I9 w8⟩
  ·obtain ⟨o,e,_⟩:=obj2 b hb
   rw [aP5 (Nat.ne_of_lt (Heap.lt_size e))]
   exact (f2 b hb).1
 exact codeAny_compStart_list loop (T.self _ 0 _ _ _ (T.keep _ _ _ st2 λb hb o e=>old b o e) loop)
theorem bU3 (caps:List (Str × Nat)) (tns:List Str) (hc:X.calm=true) (hi:PI X tg iter wi)
  (hg:∀C s H fp,PG (aQ8 X scope (caps.map (·.1)++tns) cl C s H fp) tg g)
  (ht:∀C s H fp,PTs (aQ8 X scope (caps.map (·.1)++tns) cl C s H fp) ifs tt) (he:∀C s H fp,PE (aQ8 X scope (caps.map (·.1)++tns) cl C s H fp) elt te)
  (hclos:closureFor scope X.env=pure cl) (hclo:ClOk X cl) (hhaso:∀C:Addr,HasOk (cellsFrom (C + 1) scope.names cl) (relabel scope X.env).names) (hcaps:∀C:Addr,CapsOk X scope (cellsFrom (C + 1) scope.names cl) caps)
  (hkind:scope.kind=.function) (hnames:∀y∈scope.names,y.2=.local->scope.names.lookup y.1=some .local)
  (hs:∀x,foldedSetIterable iter X.env x=pure x:=by intro _; rfl):PE X (.ListComp elt [⟨tg,iter,ifs,0⟩] scope pos) (bz9 wi caps tns.length g tt te):=by
 intro pins s σ H Q I h
 rw [eval_ListComp]
 refine bj6 caps tns hc hi hg ht he hclos hclo hhaso hcaps hkind hnames hs I h λs' H' C Da m IX hn hC hL h1 h2 h3 h4 q'=>?_
 exact ⟨m,hn,λh' sb=>⟨.ref Da,H',IX.turned (t':=s'.toks) (λb o hb e=>sb.extBut b o hb e) hC hL (.inr h1) h2 h3,rfl,q'⟩⟩
theorem bQ2 {i:Nat} {x:Str} {pos' apos:Pos} (hN:X.N.Nodup) (hni:X.N[i]?=some x) (hx:Loc X.env.scope x) (hf:X.fn x=true\/X.env.scope.names.lookup x=some .local) (caps:List (Str × Nat)) (tns:List Str) (hc:X.calm=true) (hi:PI X tg iter wi)
  (hg:∀C s H fp,PG (aQ8 X scope (caps.map (·.1)++tns) cl C s H fp) tg g)
  (ht:∀C s H fp,PTs (aQ8 X scope (caps.map (·.1)++tns) cl C s H fp) ifs tt) (he:∀C s H fp,PE (aQ8 X scope (caps.map (·.1)++tns) cl C s H fp) elt te)
  (hclos:closureFor scope X.env=pure cl) (hclo:ClOk X cl) (hhaso:∀C:Addr,HasOk (cellsFrom (C + 1) scope.names cl) (relabel scope X.env).names) (hcaps:∀C:Addr,CapsOk X scope (cellsFrom (C + 1) scope.names cl) caps)
  (hkind:scope.kind=.function) (hnames:∀y∈scope.names,y.2=.local->scope.names.lookup y.1=some .local)
  (hsw:swapsWith (.ListComp elt [⟨tg,iter,ifs,0⟩] scope pos) (some (.Name x pos')) apos.line X.env=pure true) (hs:∀x,foldedSetIterable iter X.env x=pure x:=by intro _; rfl):PS X (.Assign [.Name x pos'] (.ListComp elt [⟨tg,iter,ifs,0⟩] scope pos) apos) (cv3 (bz9 wi caps tns.length g tt te) (bW2 i)):=by
 intro pins s σ H D I h
 rw [exec_Assign_Name_used x pos' _ apos hsw]
 refine wpAny_bind (wpAny_standAt (wpAny_bind ?_))
 have hh:bz9 wi caps tns.length g tt te σ H λv H1=>D.nx (σ.set i (some v)) H1:=h
 show wpAny _ _ (comprehension (.ListComp elt [⟨tg,iter,ifs,0⟩] scope pos) scope X.env (firstIterPos [⟨tg,iter,ifs,0⟩] pos) (newList []) false (eval iter X.env) (some (assign (.Name x pos') X.env)) >>= λ_=>pure ()) _ _ _
 refine wpAny_bind (bj6 (use:=some (assign (.Name x pos') X.env)) (pos:=pos) caps tns hc hi hg ht he hclos hclo hhaso hcaps hkind hnames hs I hh λs' H' C Da m IX hn hC hL h1 h2 h3 h4 q'=>?_)
 obtain ⟨oC,es,ep,hoC,hdC,bk6⟩:=id hn
 have IP:Inv X (pins++[(C,oC)]) σ H' s':=⟨IX.ok,IX.os,IX.bare,IX.base,IX.loc,IX.cell,IX.free,IX.freeC,λp hp=>by
  rcases List.mem_append.mp hp with z | z
  ·exact IX.pin p (List.mem_append_left _ z)
  ·rcases List.mem_append.mp z with z | z
   ·exact IX.pin p (List.mem_append_right _ z)
   ·obtain rfl:=List.mem_singleton.mp z
    exact ⟨hoC,hC,hL,h4,λv w=>by rw [hdC] at w; cases w⟩,IX.hok,IX.len⟩
 refine thn (bm8 (X:=X) hN hni hx hf _ s' σ H' (.ref Da) (.ref Da) (λσ2 H2=>σ2=σ.set i (some (.ref Da))/\H2=H') IP rfl ⟨rfl,rfl⟩) λ_ s2 zz=>?_
 obtain ⟨σ2,H2,I2,e1,e2⟩:=zz
 subst e1 e2
 have pC:=I2.pin (C,oC) (List.mem_append_right _ (List.mem_append_right _ (by simp)))
 refine ⟨m,⟨oC,es,ep,pC.1,hdC,bk6⟩,λh' sb=>wpAny_pure (wpAny_pure ?_)⟩
 exact ⟨σ.set i (some (.ref Da)),H2,(I2.unpinned).turned (t':=s2.toks) (λb o hb e=>sb.extBut b o hb e) hC hL (.inr h1) h2 h3,q'⟩
end
end L2
namespace L3
open PySem L2 PySem.Spec PyProof.Rows
section
variable {X:Cx} {elt iter tg:Expr} {pos:Pos} {ifs:List Expr} {scope:Scope} {cl:List (Str × Addr)} {ti:TId} {tt:TTd} {te:TEd} {g:TGd}
theorem aS2 (caps:List (Str × Nat)) (tns:List Str) (hc:X.calm=true) (hi:PI X tg iter (lI ti))
  (hg:∀C s H fp,PG (aQ8 X scope (caps.map (·.1)++tns) cl C s H fp) tg (lG caps.length g))
  (ht:∀C s H fp,PTs (aQ8 X scope (caps.map (·.1)++tns) cl C s H fp) ifs (lT tt)) (he:∀C s H fp,PE (aQ8 X scope (caps.map (·.1)++tns) cl C s H fp) elt (lE te))
  (hclos:closureFor scope X.env=pure cl) (hclo:ClOk X cl) (hhaso:∀C:Addr,HasOk (cellsFrom (C + 1) scope.names cl) (relabel scope X.env).names) (hcaps:∀C:Addr,CapsOk X scope (cellsFrom (C + 1) scope.names cl) caps)
  (hkind:scope.kind=.function) (hnames:∀y∈scope.names,y.2=.local->scope.names.lookup y.1=some .local)
  (hs:∀x,foldedSetIterable iter X.env x=pure x:=by intro _; rfl):PE X (.ListComp elt [⟨tg,iter,ifs,0⟩] scope pos) (lE (bv4 ti caps tns.length g tt te)) :=
 aQ6 (bU3 caps tns hc hi hg ht he hclos hclo hhaso hcaps hkind hnames hs) λσ H Q ⟨B,F,δ,ts,Qd,c,q,k⟩=>⟨B,F,δ,ts,_,c,q,λsh xs δ1 J F1 H1 hq f1 h1 c1 jd1 jd2=>by
  obtain ⟨p,f,hx,hfr,hlen,hQ⟩:=hq
  exact bJ1 c1 jd1 jd2 p f hx hfr hlen hQ λd δ' v F' H' hd hf hs c'=>k d δ' v F' H' hd (f1.trans hf) (h1.trans hs) c'⟩
theorem bv5 {i:Nat} {x:Str} {pos' apos:Pos} (hN:X.N.Nodup) (hni:X.N[i]?=some x) (hx:L2.Loc X.env.scope x) (caps:List (Str × Nat)) (tns:List Str) (hc:X.calm=true) (hi:PI X tg iter (lI ti))
  (hg:∀C s H fp,PG (aQ8 X scope (caps.map (·.1)++tns) cl C s H fp) tg (lG caps.length g))
  (ht:∀C s H fp,PTs (aQ8 X scope (caps.map (·.1)++tns) cl C s H fp) ifs (lT tt)) (he:∀C s H fp,PE (aQ8 X scope (caps.map (·.1)++tns) cl C s H fp) elt (lE te))
  (hclos:closureFor scope X.env=pure cl) (hclo:ClOk X cl) (hhaso:∀C:Addr,HasOk (cellsFrom (C + 1) scope.names cl) (relabel scope X.env).names) (hcaps:∀C:Addr,CapsOk X scope (cellsFrom (C + 1) scope.names cl) caps)
  (hkind:scope.kind=.function) (hnames:∀y∈scope.names,y.2=.local->scope.names.lookup y.1=some .local)
  (hsw:swapsWith (.ListComp elt [⟨tg,iter,ifs,0⟩] scope pos) (some (.Name x pos')) apos.line X.env=pure true:=by rfl) (hf:X.fn x=true\/X.env.scope.names.lookup x=some .local:=by first | exact .inl rfl | exact .inr rfl)
  (hs:∀x,foldedSetIterable iter X.env x=pure x:=by intro _; rfl):PS X (.Assign [.Name x pos'] (.ListComp elt [⟨tg,iter,ifs,0⟩] scope pos) apos) (lS X (b90 i (bv4 ti caps tns.length g tt te))) :=
 aY6 (bQ2 hN hni hx hf caps tns hc hi hg ht he hclos hclo hhaso hcaps hkind hnames hsw hs) λEn σ H ⟨B,F,δ,Dd,c,q,k1,k2,k3,k4⟩=>⟨B,F,δ,[],_,c,q,λsh xs δ1 J F1 H1 hq f1 h1 c1 jd1 jd2=>by
  obtain ⟨p,f,hx,hfr,hlen,hQ⟩:=hq
  exact bJ1 (Qd:=λd δ'=>Dd.nx (δ'.set i (some d))) c1 jd1 jd2 p f hx hfr hlen hQ λd δ' v F' H' hd hf hs c'=>k1 _ _ F' H' hd (c'.store i)⟩
end
end L3
namespace L3
open PySem L2 Mf
theorem lo1 {m:Bool × Nat} (hm:m∈flds):1 < mny m:=by have:=(fok hm).lo; omega
inductive Sp (N:Nat) (p q:Nat->Nat->Nat) (S:(Nat->Nat)->Prop):(Nat->Nat)->Prop
 | mem {f:Nat->Nat}:S f->Sp N p q S f
 | zero:Sp N p q S λ_=>0
 | add {f g:Nat->Nat}:Sp N p q S f->Sp N p q S g->Sp N p q S λk=>p (f k) (g k)
 | mul {f:Nat->Nat} (c:Nat):c < N->Sp N p q S f->Sp N p q S λk=>q c (f k)
theorem Sp.trans {N:Nat} {p q:Nat->Nat->Nat} {S S':(Nat->Nat)->Prop} (h:∀f,S f->Sp N p q S' f) {f:Nat->Nat} (s:Sp N p q S f):Sp N p q S' f:=by
 induction s with
 | mem a=>exact h _ a
 | zero=>exact .zero
 | add _ _ a b=>exact .add a b
 | mul c hc _ a=>exact .mul c hc a
theorem Sp.lt {N:Nat} {p q:Nat->Nat->Nat} (r:Rg N p q) {S:(Nat->Nat)->Prop} (h:∀f,S f->∀k,f k < N) {f:Nat->Nat} (s:Sp N p q S f):∀k,f k < N:=by
 induction s with
 | mem a=>exact h _ a
 | zero=>exact λ_=>r.pos
 | add _ _ a b=>exact λk=>r.lp (a k) (b k)
 | mul c hc _ a=>exact λk=>r.lq _ _
noncomputable def Gn (T:List (List Nat)) (f:Nat->Nat):Prop:=∃r∈T,f=cf r
noncomputable def SpT (m:Bool × Nat) (T:List (List Nat)) (f:Nat->Nat):Prop:=Sp (mny m) (gp m) (gm m) (Gn T) f
theorem Gn.lt {m:Bool × Nat} (hm:m∈flds) {w:Nat} {T:List (List Nat)} (h:RT (mny m) w T) (f:Nat->Nat) (g:Gn T f):∀k,f k < mny m:=by
 obtain ⟨r,hr,rfl⟩:=g
 exact aV5 hm (h r hr).2
theorem SpT.of {m:Bool × Nat} {T:List (List Nat)} {r:List Nat} (h:r∈T):SpT m T (cf r):=.mem ⟨r,h,rfl⟩
theorem bT7 {m:Bool × Nat} (hm:m∈flds) {a:Nat} (ha:a < mny m) {f f' l:Nat->Nat} (hf':∀k,f' k < mny m) (hl:∀k,l k < mny m) (h:∀k,gp m (f' k) (gm m a (l k))=f k):∃b,b < mny m/\f'=λk=>gp m (f k) (gm m b (l k)):=by
 have r:=rg hm
 obtain ⟨b,hb,e⟩:=r.ng ha
 refine ⟨b,hb,funext λk=>?_⟩
 rw [<-h k,r.pa,r.mc a,r.mc b,<- r.dl,e,r.qz,r.z' (hf' k)]
theorem bH1 {m:Bool × Nat} (hm:m∈flds) {r l:List Nat} {w:Nat} (hr:r.length=w) (hl:l.length=w) (a k:Nat):cf (List.zipWith (λx y=>gln m x (gm m a y)) r l) k=gln m (cf r k) (gm m a (cf l k)):=by
 by_cases h:k < w
 ·unfold cf
  rw [List.getD_eq_getElem?_getD,List.getElem?_zipWith,List.getElem?_eq_getElem (by omega),List.getElem?_eq_getElem (by omega),List.getD_eq_getElem?_getD,List.getElem?_eq_getElem (by omega),List.getD_eq_getElem?_getD,List.getElem?_eq_getElem (by omega)]
  rfl
 ·rw [bf1 (by rw [List.length_zipWith]; omega),bf1 (l:=r) (by omega),bf1 (l:=l) (by omega),aS7 m _ (aP1 m hm),bm1]
theorem bm9 {m:Bool × Nat} (hm:m∈flds) {r l:List Nat} {w a:Nat} (hr:r.length=w) (hl:l.length=w) (ar:AllLt (mny m) r) (k:Nat):gp m (cf (List.zipWith (λx y=>gln m x (gm m a y)) r l) k) (gm m a (cf l k))=cf r k:=by
 rw [bH1 hm hr hl]
 exact (bb5 hm (aV5 hm ar k) (aR6 hm _ _)).2.2
theorem bw2 {m:Bool × Nat} (hm:m∈flds) {r l:List Nat} {w:Nat} (hr:r.length=w) (hl:l.length=w) (ar:AllLt (mny m) r) (a k:Nat):cf (List.zipWith (λx y=>gln m x (gm m a y)) r l) k < mny m:=by
 rw [bH1 hm hr hl]
 exact (bb5 hm (aV5 hm ar k) (aR6 hm _ _)).2.1
theorem b63 {m:Bool × Nat} (hm:m∈flds) {w p i:Nat} {T:List (List Nat)} (hT:RT (mny m) w T) (e:fwi T p=some i):∃(g:List Nat) (c:Nat),g∈T/\T.getD i []=g/\g.length=w/\AllLt (mny m) g/\c < mny m/\gm m c (cf g p)=1/\(ldr m T i p).length=w/\AllLt (mny m) (ldr m T i p)/\(∀k,cf (ldr m T i p) k=gm m c (cf g k))/\cf (ldr m T i p) p=1/\∀k,gm m (cf g p) (cf (ldr m T i p) k)=cf g k:=by
 obtain ⟨hi,h1,h2⟩:=be2 e
 obtain ⟨a,b⟩:=hT _ (List.getElem_mem hi)
 have l1:1 < mny m:=lo1 hm
 obtain ⟨c,hc,hc1⟩:=cr8 hm l1 (aV5 hm b p) h1
 have ec:gmi m (cf T[i] p)=c:=bj4 hm hc hc1
 have el:ldr m T i p=T[i].map (gm m c):=by unfold ldr; rw [h2,<- ec]; rfl
 have ek:∀k,cf (ldr m T i p) k=gm m c (cf T[i] k):=λk=>by rw [el]; exact bz4 hm _ _ _
 refine ⟨T[i],c,List.getElem_mem hi,h2,a,b,hc,hc1,by rw [el,List.length_map,a],λx hx=>?_,ek,by rw [ek]; exact hc1,λk=>?_⟩
 ·rw [el] at hx
  obtain ⟨y,_,rfl⟩:=List.mem_map.mp hx
  exact aR6 hm _ _
 ·rw [ek,<- aR1 (aP1 m hm),aS9 m _ c,hc1,a51 (aV5 hm b k)]
theorem bi6 {m:Bool × Nat} {s:List (List Nat) × List (List Nat)} {p i:Nat} (e:fwi s.2 p=some i):a91 m s p=(clr m s.1 (ldr m s.2 i p) p++[ldr m s.2 i p],clr m (s.2.take i++s.2.drop (i + 1)) (ldr m s.2 i p) p):=by unfold a91; rw [e]
theorem bj7 {m:Bool × Nat} {s:List (List Nat) × List (List Nat)} {p:Nat} (e:fwi s.2 p=none):a91 m s p=s:=by unfold a91; rw [e]
theorem be7 {α:Type} {T:List α} {i:Nat} {r:α} (h:r∈T.take i++T.drop (i + 1)):r∈T:=(List.mem_append.mp h).elim List.mem_of_mem_take List.mem_of_mem_drop
theorem bR4 {α:Type} {T:List α} {i:Nat} {r:α} (h:r∈T) (hi:i < T.length):r=T[i]\/r∈T.take i++T.drop (i + 1):=by
 obtain ⟨j,hj,rfl⟩:=List.getElem_of_mem h
 rcases Nat.lt_trichotomy j i with h | h | h
 ·exact .inr (List.mem_append.mpr (.inl (List.mem_take_iff_getElem.mpr ⟨j,by omega,rfl⟩)))
 ·subst h; exact .inl rfl
 ·exact .inr (List.mem_append.mpr (.inr (List.mem_drop_iff_getElem.mpr ⟨j - (i + 1),by omega,by congr 1; omega⟩)))
theorem bC2 {m:Bool × Nat} (hm:m∈flds) {w n p:Nat} {s:List (List Nat) × List (List Nat)} (h:RDS (mny m) w n s) (f:Nat->Nat):SpT m (s.1++s.2) f ↔ SpT m ((a91 m s p).1++(a91 m s p).2) f:=by
 cases e:fwi s.2 p with
 | none=>rw [bj7 e]
 | some i =>
  obtain ⟨g,c,g1,g2,g3,g4,c1,c2,l1,l2,l3,l4,l5⟩:=b63 hm h.b e
  obtain ⟨hi,_,hg⟩:=be2 e
  rw [bi6 e]
  generalize ldr m s.2 i p=l at l1 l2 l3 l4 l5
  have ll:=aV5 hm l2
  have row:∀{T:List (List Nat)},RT (mny m) w T->∀r'∈clr m T l p,∃r∈T,∃b,b < mny m/\cf r'=λk=>gp m (cf r k) (gm m b (cf l k)):=λ{T} hT r' hr'=>by
   obtain ⟨r,hr,rfl⟩:=List.mem_map.mp hr'
   obtain ⟨a1,a2⟩:=hT r hr
   exact ⟨r,hr,bT7 hm (aV5 hm a2 p) (bw2 hm a1 l1 a2 _) ll (bm9 hm a1 l1 a2)⟩
  have wor:∀{T:List (List Nat)},RT (mny m) w T->∀r∈T,∃r'∈clr m T l p,cf r=λk=>gp m (cf r' k) (gm m (cf r p) (cf l k)):=λ{T} hT r hr=>by
   obtain ⟨a1,a2⟩:=hT r hr
   exact ⟨_,List.mem_map.mpr ⟨r,hr,rfl⟩,funext λk=>(bm9 hm a1 l1 a2 k).symm⟩
  have hB:RT (mny m) w (s.2.take i++s.2.drop (i + 1)):=λr hr=>h.b r (be7 hr)
  constructor
  ·refine Sp.trans ?_
   rintro f ⟨r,hr,rfl⟩
   have hl:SpT m ((clr m s.1 l p++[l])++clr m (s.2.take i++s.2.drop (i + 1)) l p) (cf l):=SpT.of (by simp)
   rcases List.mem_append.mp hr with hr | hr
   ·obtain ⟨r',h1,h2⟩:=wor h.a r hr
    rw [h2]
    exact .add (SpT.of (by simp [h1])) (.mul _ (aV5 hm (h.a r hr).2 p) hl)
   ·rcases bR4 hr hi with e' | hr'
    ·have:cf r=λk=>gm m (cf g p) (cf l k):=funext λk=>by rw [l5 k,e',<- hg,g2]
     rw [this]
     exact .mul _ (aV5 hm g4 p) hl
    ·obtain ⟨r',h1,h2⟩:=wor hB r hr'
     rw [h2]
     exact .add (SpT.of (by simp [h1])) (.mul _ (aV5 hm (h.b r hr).2 p) hl)
  ·refine Sp.trans ?_
   rintro f ⟨r,hr,rfl⟩
   have hl:SpT m (s.1++s.2) (cf l):=by
    have:cf l=λk=>gm m c (cf g k):=funext l3
    rw [this]
    exact .mul _ c1 (SpT.of (List.mem_append_right _ g1))
   rcases List.mem_append.mp hr with hr | hr
   ·rcases List.mem_append.mp hr with hr | hr
    ·obtain ⟨r1,h1,b,hb,h2⟩:=row h.a r hr
     rw [h2]
     exact .add (SpT.of (List.mem_append_left _ h1)) (.mul _ hb hl)
    ·rw [List.mem_singleton] at hr
     rw [hr]; exact hl
   ·obtain ⟨r1,h1,b,hb,h2⟩:=row hB r hr
    rw [h2]
    exact .add (SpT.of (List.mem_append_right _ (be7 h1))) (.mul _ hb hl)
structure RR (w:Nat) (R:List (List Nat)) (H:Nat->Nat):Prop where
 u:∀i j,i < R.length->j < R.length->cf (R.getD i []) (H j)=if i=j then 1 else 0
 z:∀i,i < R.length->∀t,t < H i->cf (R.getD i []) t=0
 i:∀i j,i < j->j < R.length->H i < H j
 l:∀i,i < R.length->H i < w
theorem a90 {α β:Type} (f:α->β) {l:List α} {i:Nat} (h:i < l.length) (a:α) (b:β):(l.map f).getD i b=f (l.getD i a):=by
 rw [List.getD_eq_getElem?_getD,List.getElem?_map,List.getD_eq_getElem?_getD,List.getElem?_eq_getElem h]; rfl
theorem aP9 {α:Type} {l:List α} {i:Nat} (h:i < l.length) (a:α):l.getD i a∈l:=by
 rw [List.getD_eq_getElem?_getD,List.getElem?_eq_getElem h]; exact List.getElem_mem h
theorem bv2 {m:Bool × Nat} (hm:m∈flds) {w n p:Nat} {s:List (List Nat) × List (List Nat)} (h:RDS (mny m) w n s) {H:Nat->Nat} (I:RR p s.1 H) (e2:∀r∈s.2,∀t,t < p->cf r t=0):∃H',RR (p + 1) (a91 m s p).1 H'/\∀r∈(a91 m s p).2,∀t,t < p + 1->cf r t=0:=by
 cases e:fwi s.2 p with
 | none =>
  rw [bj7 e]
  refine ⟨H,⟨I.u,I.z,I.i,λi hi=>Nat.lt_succ_of_lt (I.l i hi)⟩,λr hr t ht=>?_⟩
  rcases Nat.lt_or_ge t p with h1 | h1
  ·exact e2 r hr t h1
  ·have:=List.findIdx?_eq_none_iff.mp e r hr
   have z:r.getD p 0=0:=by simpa using this
   rw [show t=p by omega]
   exact z
 | some i0 =>
  obtain ⟨g,c,g1,g2,g3,g4,c1,c2,l1,l2,l3,l4,l5⟩:=b63 hm h.b e
  rw [bi6 e]
  generalize ldr m s.2 i0 p=l at l1 l2 l3 l4 l5
  have m0:=aP1 m hm
  have lz:∀t,t < p->cf l t=0:=λt ht=>by rw [l3,e2 g g1 t ht,aS7 m _ m0]
  have lo':∀{r:List Nat},r.length=w->AllLt (mny m) r->(∀t,t < p->cf (List.zipWith (λx y=>gln m x (gm m (r.getD p 0) y)) r l) t=cf r t)/\cf (List.zipWith (λx y=>gln m x (gm m (r.getD p 0) y)) r l) p=0:=λ{r} a1 a2=>by
   constructor
   ·intro t ht
    have:=bm9 hm (a:=r.getD p 0) a1 l1 a2 t
    rw [lz t ht,aS7 m _ m0,aW2 (bw2 hm a1 l1 a2 _ _)] at this
    exact this
   ·rw [bH1 hm a1 l1,l4]
    show gln m (r.getD p 0) (gm m (r.getD p 0) 1)=0
    rw [aZ7 (show r.getD p 0 < mny m from aV5 hm a2 p),bm1]
  have nl:(clr m s.1 l p).length=s.1.length:=by unfold clr; rw [List.length_map]
  have gl1:∀i,i < s.1.length->∃r,s.1.getD i []=r/\r.length=w/\AllLt (mny m) r/\(clr m s.1 l p++[l]).getD i []=List.zipWith (λx y=>gln m x (gm m (r.getD p 0) y)) r l:=λi hi=>by
   refine ⟨_,rfl,(h.a _ (aP9 hi [])).1,(h.a _ (aP9 hi [])).2,?_⟩
   rw [List.getD_eq_getElem?_getD,List.getElem?_append_left (by omega),<- List.getD_eq_getElem?_getD]
   exact a90 _ hi [] []
  have gl2:(clr m s.1 l p++[l]).getD s.1.length []=l:=by
   rw [List.getD_eq_getElem?_getD,List.getElem?_append_right (by omega),nl,Nat.sub_self]; rfl
  have le:(clr m s.1 l p++[l]).length=s.1.length + 1:=by rw [List.length_append,nl]; rfl
  refine ⟨λi=>if i < s.1.length then H i else p,⟨λi j hi hj=>?_,λi hi t ht=>?_,λi j hij hj=>?_,λi hi=>?_⟩,λr hr t ht=>?_⟩
  ·show cf ((clr m s.1 l p++[l]).getD i []) _=_
   dsimp only at hi hj ⊢
   rw [le] at hi hj
   by_cases h1:i < s.1.length
   ·obtain ⟨r,r1,r2,r3,r4⟩:=gl1 i h1
    rw [r4]
    by_cases h2:j < s.1.length
    ·rw [if_pos h2,(lo' r2 r3).1 _ (I.l j h2),<- r1]
     exact I.u i j h1 h2
    ·rw [if_neg h2,(lo' r2 r3).2,if_neg (by omega)]
   ·have e1:i=s.1.length:=by omega
    rw [e1,gl2]
    by_cases h2:j < s.1.length
    ·rw [if_pos h2,lz _ (I.l j h2),if_neg (by omega)]
    ·rw [if_neg h2,l4,if_pos (by omega)]
  ·dsimp only at hi ht ⊢
   rw [le] at hi
   by_cases h1:i < s.1.length
   ·rw [if_pos h1] at ht
    obtain ⟨r,r1,r2,r3,r4⟩:=gl1 i h1
    rw [r4,(lo' r2 r3).1 _ (by have:=I.l i h1; omega),<- r1]
    exact I.z i h1 t ht
   ·rw [if_neg h1] at ht
    have e1:i=s.1.length:=by omega
    rw [e1,gl2]; exact lz t ht
  ·dsimp only at hj ⊢
   rw [le] at hj
   rw [if_pos (by omega)]
   by_cases h2:j < s.1.length
   ·rw [if_pos h2]; exact I.i i j hij h2
   ·rw [if_neg h2]; exact I.l i (by omega)
  ·dsimp only at hi ⊢
   rw [le] at hi
   split
   ·have:=I.l i (by omega); omega
   ·omega
  ·obtain ⟨r1,hr1,rfl⟩:=List.mem_map.mp hr
   obtain ⟨a1,a2⟩:=h.b r1 (be7 hr1)
   rcases Nat.lt_or_ge t p with h1 | h1
   ·rw [(lo' a1 a2).1 t h1]; exact e2 _ (be7 hr1) t h1
   ·rw [show t=p by omega]; exact (lo' a1 a2).2
theorem bj8 {m:Bool × Nat} (hm:m∈flds) {w:Nat} {G:List (List Nat)} (h:RT (mny m) w G):∀k,(∃H,RR k (bA0 m G k).1 H/\∀r∈(bA0 m G k).2,∀t,t < k->cf r t=0)/\∀f,SpT m G f ↔ SpT m ((bA0 m G k).1++(bA0 m G k).2) f
 | 0=>⟨⟨λ_=>0,⟨(λ_ _ h=>nomatch h),(λ_ h=>nomatch h),(λ_ _ _ h=>nomatch h),(λ_ h=>nomatch h)⟩,λr _ t ht=>nomatch ht⟩,λf=>.rfl⟩
 | k + 1=>by
  obtain ⟨⟨H,h1,h2⟩,h3⟩:=bj8 hm h k
  have D:=bg4 hm h k
  rw [bh6]
  exact ⟨bv2 hm D h1 h2,λf=>(h3 f).trans (bC2 hm D f)⟩
theorem bn7 {m:Bool × Nat} (hm:m∈flds) {G:List (List Nat)} (h:RT (mny m) (wof G) G):(∃H,RR (wof G) (ba3 m G) H)/\RT (mny m) (wof G) (ba3 m G)/\(ba3 m G).length<=G.length/\∀f,SpT m G f ↔ SpT m (ba3 m G) f:=by
 obtain ⟨⟨H,h1,h2⟩,h3⟩:=bj8 hm h (wof G)
 have D:=bg4 hm h (wof G)
 refine ⟨⟨H,h1⟩,D.a,by have:=D.l; show (bA0 m G (wof G)).1.length<=_; omega,λf=>(h3 f).trans ⟨Sp.trans ?_,Sp.trans ?_⟩⟩
 ·rintro f ⟨r,hr,rfl⟩
  rcases List.mem_append.mp hr with hr | hr
  ·exact SpT.of hr
  ·have:cf r=λ_=>0:=funext λt=>by
    rcases Nat.lt_or_ge t (wof G) with h4 | h4
    ·exact h2 r hr t h4
    ·exact bf1 (by rw [(D.b r hr).1]; exact h4)
   rw [this]; exact .zero
 ·rintro f ⟨r,hr,rfl⟩
  exact SpT.of (List.mem_append_left _ hr)
theorem a95 {N:Nat} {p q:Nat->Nat->Nat} (r:Rg N p q) {f:Nat->Nat} {j0:Nat} (hf:f j0 < N):∀{n:Nat},j0 < n->(∀j,j < n->j≠j0->f j=0)->sm p n f=f j0
 | 0,h,_=>nomatch h
 | n + 1,h,hz=>by
  rw [sm]
  by_cases e:j0=n
  ·subst e
   rw [aR8 r λj hj=>hz j (by omega) (by omega),r.z hf]
  ·rw [a95 r hf (by omega) λj hj=>hz j (by omega),hz n (by omega) (by omega),r.z' hf]
theorem RR.own {m:Bool × Nat} (hm:m∈flds) {w:Nat} {R:List (List Nat)} {H:Nat->Nat} (hR:RT (mny m) w R) (I:RR w R H) {f:Nat->Nat} (s:SpT m R f):∀k,f k=sm (gp m) R.length λi=>gm m (f (H i)) (cf (R.getD i []) k):=by
 have r:=rg hm
 have m0:=aP1 m hm
 induction s with
 | mem a =>
  intro k
  obtain ⟨x,hx,rfl⟩:=a
  obtain ⟨i,hi,rfl⟩:=List.getElem_of_mem hx
  have ei:R[i]=R.getD i []:=by rw [List.getD_eq_getElem?_getD,List.getElem?_eq_getElem hi]; rfl
  have one:gm m (cf R[i] (H i)) (cf (R.getD i []) k)=cf R[i] k:=by
   rw [ei,I.u i i hi hi,if_pos rfl]
   exact a51 (aV5 hm (hR _ (aP9 hi [])).2 k)
  refine ((a95 r (f:=λa=>gm m (cf R[i] (H a)) (cf (R.getD a []) k)) (j0:=i) (aR6 hm _ _) hi λj hj hn=>?_).trans one).symm
  rw [ei,I.u i j hi hj,if_neg (by omega),aR4 m _ m0]
 | zero=>exact λk=>(aR8 r λj _=>aR4 m _ m0).symm
 | add _ _ a b =>
  intro k
  dsimp only
  rw [a k,b k,<- a57 r]
  refine aP4 λj _=>?_
  rw [r.mc (gp m _ _),r.dl,r.mc _ (cf _ k),r.mc _ (cf _ k)]
 | mul c hc _ a =>
  intro k
  dsimp only
  rw [a k,<- a52 r]
  refine aP4 λj _=>?_
  rw [aR1 m0]
theorem SpT.sum {m:Bool × Nat} (hm:m∈flds) {w:Nat} {R:List (List Nat)} (hR:RT (mny m) w R) {f:Nat->Nat} (s:SpT m R f):∃c:Nat->Nat,(∀i,c i < mny m)/\∀k,f k=sm (gp m) R.length λi=>gm m (c i) (cf (R.getD i []) k):=by
 have r:=rg hm
 have m0:=aP1 m hm
 have l1:=lo1 hm
 induction s with
 | mem a =>
  obtain ⟨x,hx,rfl⟩:=a
  obtain ⟨i,hi,rfl⟩:=List.getElem_of_mem hx
  have ei:R[i]=R.getD i []:=by rw [List.getD_eq_getElem?_getD,List.getElem?_eq_getElem hi]; rfl
  refine ⟨λj=>if j=i then 1 else 0,λj=>by dsimp only; split <;> omega,λk=>?_⟩
  refine ((a95 r (f:=λa=>gm m (if a=i then 1 else 0) (cf (R.getD a []) k)) (j0:=i) (aR6 hm _ _) hi λj hj hn=>?_).trans ?_).symm
  ·rw [if_neg hn,aR4 m _ m0]
  ·rw [if_pos rfl,ei]
   exact a51 (aV5 hm (hR _ (aP9 hi [])).2 k)
 | zero=>exact ⟨λ_=>0,λ_=>r.pos,λk=>(aR8 r λj _=>aR4 m _ m0).symm⟩
 | add _ _ a b =>
  obtain ⟨c,hc,a⟩:=a
  obtain ⟨d,hd,b⟩:=b
  refine ⟨λi=>gp m (c i) (d i),λi=>r.lp (hc i) (hd i),λk=>?_⟩
  dsimp only
  rw [a k,b k,<- a57 r]
  refine aP4 λj _=>?_
  rw [r.mc (gp m _ _),r.dl,r.mc _ (cf _ k),r.mc _ (cf _ k)]
 | mul e he _ a =>
  obtain ⟨c,hc,a⟩:=a
  refine ⟨λi=>gm m e (c i),λi=>aR6 hm _ _,λk=>?_⟩
  dsimp only
  rw [a k,<- a52 r]
  refine aP4 λj _=>?_
  rw [aR1 m0]
theorem SpT.ann {m:Bool × Nat} (hm:m∈flds) {R:List (List Nat)} {n:Nat} {y:Nat->Nat} (h:∀x∈R,sm (gp m) n (λj=>gm m (cf x j) (y j))=0) {f:Nat->Nat} (s:SpT m R f):sm (gp m) n (λj=>gm m (f j) (y j))=0:=by
 have r:=rg hm
 have m0:=aP1 m hm
 induction s with
 | mem a=>obtain ⟨x,hx,rfl⟩:=a; exact h x hx
 | zero=>exact aR8 r λj _=>aR4 m _ m0
 | @add f g _ _ a b =>
  rw [aP4 (g:=λj=>gp m (gm m (f j) (y j)) (gm m (g j) (y j))) λj _=>by dsimp only; rw [r.mc (gp m _ _),r.dl,r.mc (y j),r.mc (y j)],a57 r,a,b,r.z r.pos]
 | @mul f e he _ a =>
  rw [aP4 (g:=λj=>gm m e (gm m (f j) (y j))) λj _=>aR1 m0 _ _ _,a52 r,a,r.qz]
theorem RR.ldp {m:Bool × Nat} (hm:m∈flds) {w:Nat} {R:List (List Nat)} {H:Nat->Nat} (hR:RT (mny m) w R) (I:RR w R H) {i:Nat} (hi:i < R.length):(R.getD i []).findIdx (· != 0)=H i/\∃x∈R.getD i [],x≠0:=by
 have a:=(hR _ (aP9 hi [])).1
 have l:=I.l i hi
 have u:=I.u i i hi hi
 rw [if_pos rfl] at u
 have eu:(R.getD i [])[H i]'(by omega)=1:=by
  unfold cf at u
  rw [List.getD_eq_getElem?_getD (l:=R.getD i []),List.getElem?_eq_getElem (by omega)] at u
  exact u
 refine ⟨?_,_,List.getElem_mem (show H i < (R.getD i []).length by omega),by rw [eu]; decide⟩
 rw [List.findIdx_eq (by omega)]
 refine ⟨by rw [eu]; rfl,λj hj=>?_⟩
 have z:=I.z i hi j hj
 unfold cf at z
 rw [List.getD_eq_getElem?_getD (l:=R.getD i []),List.getElem?_eq_getElem (by omega)] at z
 simpa using z
theorem cb2 {a b:List Nat} {w:Nat} (ha:a.length=w) (hb:b.length=w) (h:∀k,k < w->cf a k=cf b k):a=b:=by
 refine List.ext_getElem (ha.trans hb.symm) λk h1 h2=>?_
 have:=h k (by omega)
 unfold cf at this
 rw [List.getD_eq_getElem?_getD,List.getD_eq_getElem?_getD,List.getElem?_eq_getElem h1,List.getElem?_eq_getElem h2] at this
 exact this
theorem bI6 (f:Nat->Nat) {w k:Nat} (h:k < w):cf ((List.range w).map f) k=f k:=by
 unfold cf
 rw [List.getD_eq_getElem?_getD,List.getElem?_map,List.getElem?_range h]; rfl
theorem cw9 (m:Bool × Nat) {xs ys:List Nat} (h:xs.length=ys.length):gd m xs ys=sm (gp m) xs.length λj=>gm m (cf xs j) (cf ys j):=by
 unfold gd
 rw [bR3,List.length_zipWith,h,Nat.min_self]
 refine aP4 λj hj=>?_
 unfold cf
 rw [List.getD_eq_getElem?_getD,List.getElem?_zipWith,List.getElem?_eq_getElem (by omega),List.getElem?_eq_getElem (by omega),List.getD_eq_getElem?_getD,List.getElem?_eq_getElem (by omega),List.getD_eq_getElem?_getD,List.getElem?_eq_getElem (by omega)]
 rfl
theorem cl5 {T:List (List Nat)} (k i:Nat):cf (T.map λr=>r.getD k 0) i=cf (T.getD i []) k:=by
 by_cases h:i < T.length
 ·exact a90 (λr:List Nat=>r.getD k 0) h [] 0
 ·rw [bf1 (by rw [List.length_map]; omega),List.getD_eq_getElem?_getD,List.getElem?_eq_none (by omega)]; rfl
noncomputable def ldf (r:List Nat):Nat:=r.findIdx (· != 0)
theorem bb3 {α:Type} (a b:α->Nat) {j:Nat}:∀(l:List α) (x:List Nat),(∀z∈l,a z≠j)->cf (l.foldl (λx z=>x.set (a z) (b z)) x) j=cf x j
 | [],_,_=>rfl
 | z :: l,x,h=>by
  rw [List.foldl_cons,bb3 a b l _ λy hy=>h y (List.mem_cons_of_mem _ hy)]
  unfold cf
  rw [List.getD_eq_getElem?_getD,List.getElem?_set_ne (h z List.mem_cons_self),<- List.getD_eq_getElem?_getD]
theorem by9 {α:Type} (a b:α->Nat):∀(l:List α) (x:List Nat),l.Pairwise (λy z=>a y≠a z)->∀z∈l,a z < x.length->cf (l.foldl (λx z=>x.set (a z) (b z)) x) (a z)=b z
 | [],_,_,_,h,_=>nomatch h
 | y :: l,x,hp,z,hz,hl=>by
  rw [List.foldl_cons]
  rw [List.pairwise_cons] at hp
  rcases List.mem_cons.mp hz with rfl | hz
  ·rw [bb3 a b l _ λy hy=>Ne.symm (hp.1 y hy)]
   unfold cf
   rw [List.getD_eq_getElem?_getD,List.getElem?_set_self hl]; rfl
  ·exact by9 a b l _ hp.2 z hz (by rw [List.length_set]; exact hl)
theorem bf2 {α:Type} (a b:α->Nat):∀(l:List α) (x:List Nat),(l.foldl (λx z=>x.set (a z) (b z)) x).length=x.length
 | [],_=>rfl
 | z :: l,x=>by rw [List.foldl_cons,bf2 a b l,List.length_set]
theorem cw7 {m:Bool × Nat} (hm:m∈flds):∃e,e < mny m/\gp m 1 e=0/\e≠0/\∀{a b},a < mny m->b < mny m->(gp m a (gm m b e)=0 ↔ a=b):=by
 have r:=rg hm
 obtain ⟨e,he,h⟩:=r.ng (lo1 hm)
 refine ⟨e,he,h,λz=>?_,λ{a b} ha hb=>?_⟩
 ·rw [z,r.z' (lo1 hm)] at h; omega
 ·have k:gp m b (gm m b e)=0:=by
   have:=r.dl b 1 e
   rw [h,r.qz,aZ7 hb] at this
   exact this.symm
  exact ⟨λh1=>r.can ha hb (aR6 hm b e) (h1.trans k.symm),λh1=>h1 ▸ k⟩
noncomputable def trn (T:List (List Nat)):List (List Nat):=(List.range (wof T)).map λj=>T.map λr=>r.getD j 0
theorem bZ8 {T:List (List Nat)} {a:Nat} (h:a < wof T):(trn T).getD a []=T.map λr=>r.getD a 0:=by
 unfold trn
 rw [List.getD_eq_getElem?_getD,List.getElem?_map,List.getElem?_range h]; rfl
theorem b54 {N:Nat} {T:List (List Nat)} (h0:0 < N) (hw:0 < wof T) (hT:RT N (wof T) T):(trn T).length=wof T/\wof (trn T)=T.length/\RT N T.length (trn T):=by
 have a:(trn T).length=wof T:=by unfold trn; rw [List.length_map,List.length_range]
 have c:RT N T.length (trn T):=λr hr=>by
  obtain ⟨j,_,rfl⟩:=List.mem_map.mp hr
  refine ⟨List.length_map _,λx hx=>?_⟩
  obtain ⟨y,hy,rfl⟩:=List.mem_map.mp hx
  exact (hT y hy).2.getD h0 j
 refine ⟨a,?_,c⟩
 have:=bZ8 hw
 have e:wof (trn T)=((trn T).getD 0 []).length:=by
  unfold wof
  cases trn T <;> rfl
 rw [e,this,List.length_map]
end L3
namespace L3
open PySem L2 Mf
noncomputable def frp (T:List (List Nat)) (w:Nat):List Nat:=(List.range w).filter λj=>!(T.map ldf).contains j
noncomputable def kro (m:Bool × Nat) (T:List (List Nat)) (w f:Nat):List Nat:=(((T.map ldf).zip T).foldl (λx z=>x.set z.1 (gln m 0 (z.2.getD f 0))) ((List.replicate w 0).set f 1))
noncomputable def cr9 (m:Bool × Nat) (T:List (List Nat)) (w:Nat):List (List Nat):=(frp T w).map (kro m T w)
theorem RR.heads {m:Bool × Nat} (hm:m∈flds) {w:Nat} {R:List (List Nat)} {H:Nat->Nat} (hR:RT (mny m) w R) (I:RR w R H):R.map ldf=(List.range R.length).map H:=by
 refine List.ext_getElem (by rw [List.length_map,List.length_map,List.length_range]) λi h1 h2=>?_
 rw [List.length_map] at h1
 rw [List.getElem_map,List.getElem_map,List.getElem_range,<- (I.ldp hm hR h1).1,List.getD_eq_getElem?_getD,List.getElem?_eq_getElem h1]; rfl
theorem RR.mem {m:Bool × Nat} (hm:m∈flds) {w:Nat} {R:List (List Nat)} {H:Nat->Nat} (hR:RT (mny m) w R) (I:RR w R H) (j:Nat):j∈R.map ldf ↔ ∃i,i < R.length/\H i=j:=by
 rw [I.heads hm hR,List.mem_map]
 exact ⟨λ⟨i,a,b⟩=>⟨i,List.mem_range.mp a,b⟩,λ⟨i,a,b⟩=>⟨i,List.mem_range.mpr a,b⟩⟩
theorem RR.free {m:Bool × Nat} (hm:m∈flds) {w:Nat} {R:List (List Nat)} {H:Nat->Nat} (hR:RT (mny m) w R) (I:RR w R H) (j:Nat):j∈frp R w ↔ j < w/\∀i,i < R.length->H i≠j:=by
 unfold frp
 rw [List.mem_filter,List.mem_range,Bool.not_eq_true',<- Bool.not_eq_true,List.contains_iff_mem,I.mem hm hR]
 exact and_congr_right λ_=>⟨λh i a b=>h ⟨i,a,b⟩,λh ⟨i,a,b⟩=>h i a b⟩
theorem RR.free_len {m:Bool × Nat} (hm:m∈flds) {w:Nat} {R:List (List Nat)} {H:Nat->Nat} (hR:RT (mny m) w R) (I:RR w R H):(frp R w).length + R.length=w:=by
 have nd:(R.map ldf).Nodup:=by
  rw [I.heads hm hR]
  unfold List.Nodup
  rw [List.pairwise_iff_getElem]
  intro i j hi hj hij
  rw [List.length_map,List.length_range] at hi hj
  rw [List.getElem_map,List.getElem_map,List.getElem_range,List.getElem_range]
  have:=I.i i j hij hj
  omega
 have pe:((List.range w).filter λj=>(R.map ldf).contains j).Perm (R.map ldf):=by
  refine (List.perm_ext_iff_of_nodup (List.Pairwise.filter _ List.nodup_range) nd).mpr λj=>?_
  rw [List.mem_filter,List.contains_iff_mem,List.mem_range]
  refine ⟨λh=>h.2,λh=>⟨?_,h⟩⟩
  obtain ⟨i,hi,rfl⟩:=(I.mem hm hR j).mp h
  exact I.l i hi
 have l1:=pe.length_eq
 rw [List.length_map] at l1
 have l2:=List.length_eq_countP_add_countP (λj=>(R.map ldf).contains j) (l:=List.range w)
 rw [List.length_range,List.countP_eq_length_filter,List.countP_eq_length_filter,l1] at l2
 unfold frp
 have e:((List.range w).filter λa=>decide ¬(R.map ldf).contains a=true)=(List.range w).filter λj=>!(R.map ldf).contains j:=List.filter_congr λx _=>by
  cases (R.map ldf).contains x <;> rfl
 rw [e] at l2
 omega
theorem bp4 {m:Bool × Nat} (hm:m∈flds) {w f:Nat} {R:List (List Nat)} {H:Nat->Nat} (hR:RT (mny m) w R) (I:RR w R H) (hf:f∈frp R w):(kro m R w f).length=w/\AllLt (mny m) (kro m R w f)/\cf (kro m R w f) f=1/\(∀i,i < R.length->cf (kro m R w f) (H i)=gln m 0 (cf (R.getD i []) f))/\∀j,j≠f->(∀i,i < R.length->H i≠j)->cf (kro m R w f) j=0:=by
 obtain ⟨f1,f2⟩:=(I.free hm hR f).mp hf
 have l1:=lo1 hm
 have zl:((R.map ldf).zip R).length=R.length:=by rw [List.length_zip,List.length_map,Nat.min_self]
 have zg:∀i (h:i < R.length),((R.map ldf).zip R)[i]'(by omega)=(H i,R.getD i []):=λi h=>by
  rw [List.getElem_zip,List.getElem_map]
  have e:R.getD i []=R[i]:=by rw [List.getD_eq_getElem?_getD,List.getElem?_eq_getElem h]; rfl
  have:=(I.ldp hm hR h).1
  rw [e] at this ⊢
  exact Prod.ext this rfl
 have zm:∀z∈(R.map ldf).zip R,∃i,i < R.length/\z=(H i,R.getD i []):=λz hz=>by
  obtain ⟨i,hi,rfl⟩:=List.getElem_of_mem hz
  exact ⟨i,by omega,zg i (by omega)⟩
 have mz:∀i,i < R.length->(H i,R.getD i [])∈(R.map ldf).zip R:=λi h=>by
  rw [<-zg i h]; exact List.getElem_mem _
 have bd:∀z∈(R.map ldf).zip R,gln m 0 (z.2.getD f 0) < mny m:=λz hz=>by
  obtain ⟨i,hi,rfl⟩:=zm z hz
  exact (bb5 hm (by omega) (aV5 hm (hR _ (aP9 hi [])).2 f)).2.1
 refine ⟨?_,?_,?_,λi hi=>?_,λj hj hj2=>?_⟩
 ·unfold kro
  rw [bf2 (λz:Nat × List Nat=>z.1) (λz=>gln m 0 (z.2.getD f 0)),List.length_set,List.length_replicate]
 ·have key:∀(l:List (Nat × List Nat)) (x:List Nat),(∀z∈l,gln m 0 (z.2.getD f 0) < mny m)->AllLt (mny m) x->AllLt (mny m) (l.foldl (λx z=>x.set z.1 (gln m 0 (z.2.getD f 0))) x):=by
   intro l
   induction l with
   | nil=>exact λx _ h=>h
   | cons z l ih =>
    intro x hz h
    rw [List.foldl_cons]
    refine ih _ (λy hy=>hz y (List.mem_cons_of_mem _ hy)) λy hy=>?_
    rcases List.mem_or_eq_of_mem_set hy with h1 | h1
    ·exact h y h1
    ·rw [h1]; exact hz z List.mem_cons_self
  refine key _ _ bd λx hx=>?_
  rcases List.mem_or_eq_of_mem_set hx with h1 | h1
  ·rw [(List.mem_replicate.mp h1).2]; omega
  ·omega
 ·unfold kro
  rw [bb3 (λz:Nat × List Nat=>z.1) (λz=>gln m 0 (z.2.getD f 0)) _ _ λz hz=>?_]
  ·unfold cf
   rw [List.getD_eq_getElem?_getD,List.getElem?_set_self (by rw [List.length_replicate]; exact f1)]; rfl
  ·obtain ⟨i,hi,rfl⟩:=zm z hz
   exact f2 i hi
 ·have hp:((R.map ldf).zip R).Pairwise (λy z:Nat × List Nat=>y.1≠z.1):=by
   rw [List.pairwise_iff_getElem]
   intro i j hi hj hij
   rw [zg i (by omega),zg j (by omega)]
   have:=I.i i j hij (by omega)
   show H i≠H j
   omega
  exact by9 (λz:Nat × List Nat=>z.1) (λz=>gln m 0 (z.2.getD f 0)) _ _ hp _ (mz i hi) (by rw [List.length_set,List.length_replicate]; exact I.l i hi)
 ·unfold kro
  rw [bb3 (λz:Nat × List Nat=>z.1) (λz=>gln m 0 (z.2.getD f 0)) _ _ λz hz=>?_]
  ·unfold cf
   rw [List.getD_eq_getElem?_getD,List.getElem?_set_ne (Ne.symm hj),List.getElem?_replicate]
   split <;> rfl
  ·obtain ⟨i,hi,rfl⟩:=zm z hz
   exact hj2 i hi
theorem co8 {N:Nat} {p q:Nat->Nat->Nat} (r:Rg N p q) {f:Nat->Nat} {a b n:Nat} (ha:a < n) (hb:b < n) (hn:a≠b) (fa:f a < N) (fb:f b < N) (hz:∀j,j < n->j≠a->j≠b->f j=0):sm p n f=p (f a) (f b):=by
 have h1:=a95 r (f:=λj=>if j=a then f a else 0) (j0:=a) (n:=n) (by rw [if_pos rfl]; exact fa) ha λj _ h=>if_neg h
 have h2:=a95 r (f:=λj=>if j=b then f b else 0) (j0:=b) (n:=n) (by rw [if_pos rfl]; exact fb) hb λj _ h=>if_neg h
 rw [if_pos rfl] at h1 h2
 rw [<-h1,<- h2,<- a57 r]
 refine aP4 λj hj=>?_
 by_cases ja:j=a
 ·rw [if_pos ja,if_neg (by omega),r.z' fa,ja]
 ·by_cases jb:j=b
  ·rw [if_neg ja,if_pos jb,r.z fb,jb]
  ·rw [if_neg ja,if_neg jb,hz j hj ja jb,r.z r.pos]
noncomputable def dt (m:Bool × Nat) (w:Nat) (x y:Nat->Nat):Nat:=sm (gp m) w λj=>gm m (x j) (y j)
theorem cs2 {m:Bool × Nat} (hm:m∈flds) (w:Nat) (x y:Nat->Nat):dt m w x y < mny m:=ba2 (rg hm) λ_ _=>aR6 hm _ _
theorem bG5 {m:Bool × Nat} (hm:m∈flds) (w:Nat) (x y z:Nat->Nat):dt m w x (λk=>gp m (y k) (z k))=gp m (dt m w x y) (dt m w x z):=by
 have r:=rg hm
 unfold dt
 rw [<-a57 r]
 exact aP4 λj _=>r.dl _ _ _
theorem bX5 {m:Bool × Nat} (hm:m∈flds) (w c:Nat) (x y:Nat->Nat):dt m w x (λk=>gm m c (y k))=gm m c (dt m w x y):=by
 have r:=rg hm
 have m0:=aP1 m hm
 unfold dt
 rw [<-a52 r]
 exact aP4 λj _=>by rw [<-aR1 m0,aS9 m (x j),aR1 m0]
theorem bZ4 {m:Bool × Nat} (hm:m∈flds) (w:Nat) (x:Nat->Nat) (c:Nat->Nat) (F:Nat->Nat->Nat):∀n,dt m w x (λk=>sm (gp m) n λi=>gm m (c i) (F i k))=sm (gp m) n λi=>gm m (c i) (dt m w x (F i))
 | 0=>aR8 (rg hm) λj _=>(rg hm).qz _
 | n + 1=>by
  rw [sm,<- bZ4 hm w x c F n,<- bX5 hm,<- bG5 hm]; rfl
theorem bE9 {m:Bool × Nat} (hm:m∈flds) {w f:Nat} {R:List (List Nat)} {H:Nat->Nat} (hR:RT (mny m) w R) (I:RR w R H) (hf:f∈frp R w) {i:Nat} (hi:i < R.length):dt m w (cf (R.getD i [])) (cf (kro m R w f))=0:=by
 have r:=rg hm
 obtain ⟨f1,f2⟩:=(I.free hm hR f).mp hf
 obtain ⟨k1,k2,k3,k4,k5⟩:=bp4 hm hR I hf
 have il:=aV5 hm (hR _ (aP9 hi [])).2
 have g:=bb5 hm (a:=0) r.pos (il f)
 unfold dt
 rw [co8 r (f:=λj=>gm m (cf (R.getD i []) j) (cf (kro m R w f) j)) (a:=H i) (b:=f) (I.l i hi) f1 (f2 i hi) (aR6 hm _ _) (aR6 hm _ _) λj hj ja jb=>?_]
 ·rw [k3,k4 i hi,I.u i i hi hi,if_pos rfl,a51 g.2.1,aZ7 (il f)]
  exact g.2.2
 ·by_cases c:∃i',i' < R.length/\H i'=j
  ·obtain ⟨i',h1,rfl⟩:=c
   rw [I.u i i' hi h1,if_neg (λz:i=i'=>ja (by rw [z])),aR4 m _ (aP1 m hm)]
  ·rw [k5 j jb λi' h1 h2=>c ⟨i',h1,h2⟩,r.qz]
theorem SpT.dt {m:Bool × Nat} (hm:m∈flds) {R:List (List Nat)} {n:Nat} {y:Nat->Nat} (h:∀i,i < R.length->dt m n (cf (R.getD i [])) y=0) {f:Nat->Nat} (s:SpT m R f):dt m n f y=0:=by
 refine s.ann hm λx hx=>?_
 obtain ⟨i,hi,rfl⟩:=List.getElem_of_mem hx
 have:=h i hi
 rw [List.getD_eq_getElem?_getD,List.getElem?_eq_getElem hi] at this
 exact this
theorem RR.ker {m:Bool × Nat} (hm:m∈flds) {w:Nat} {R:List (List Nat)} {H:Nat->Nat} (hR:RT (mny m) w R) (I:RR w R H) {z:Nat->Nat} (hz:∀k,z k < mny m) (h:∀i,i < R.length->dt m w (cf (R.getD i [])) z=0) {k:Nat} (hk:k < w):z k=sm (gp m) (frp R w).length λa=>gm m (z ((frp R w).getD a 0)) (cf (kro m R w ((frp R w).getD a 0)) k):=by
 have r:=rg hm
 have m0:=aP1 m hm
 obtain ⟨e,e1,e2,e3,e4⟩:=cw7 hm
 let z':=λk=>sm (gp m) (frp R w).length λa=>gm m (z ((frp R w).getD a 0)) (cf (kro m R w ((frp R w).getD a 0)) k)
 have hz':∀k,z' k < mny m:=λk=>ba2 r λ_ _=>aR6 hm _ _
 let d:=λk=>gp m (z k) (gm m e (z' k))
 have dk:∀k,d k=0 ↔ z k=z' k:=λk=>by
  show gp m (z k) (gm m e (z' k))=0 ↔ _
  rw [aS9 m e]
  exact e4 (hz k) (hz' k)
 have dz:∀i,i < R.length->dt m w (cf (R.getD i [])) d=0:=λi hi=>by
  show dt m w (cf (R.getD i [])) (λk=>gp m (z k) (gm m e (z' k)))=0
  rw [bG5 hm,bX5 hm,h i hi,bZ4 hm,aR8 r λa ha=>?_,r.qz,r.z r.pos]
  rw [bE9 hm hR I (aP9 ha 0) hi,r.qz]
 have zf:∀f,f∈frp R w->z' f=z f:=λf hf=>by
  obtain ⟨a,ha,rfl⟩:=List.getElem_of_mem hf
  have ea:(frp R w)[a]=(frp R w).getD a 0:=by rw [List.getD_eq_getElem?_getD,List.getElem?_eq_getElem ha]; rfl
  show sm (gp m) (frp R w).length (λb=>gm m (z ((frp R w).getD b 0)) (cf (kro m R w ((frp R w).getD b 0)) _))=_
  rw [ea,a95 r (f:=λb=>gm m (z ((frp R w).getD b 0)) (cf (kro m R w ((frp R w).getD b 0)) ((frp R w).getD a 0))) (aR6 hm _ _) ha λb hb hn=>?_]
  ·rw [(bp4 hm hR I (aP9 ha 0)).2.2.1,aZ7 (hz _)]
  ·have nd:(frp R w).Nodup:=List.Pairwise.filter _ List.nodup_range
   rw [(bp4 hm hR I (aP9 hb 0)).2.2.2.2 _ ?_ ((I.free hm hR _).mp (aP9 ha 0)).2,r.qz]
   intro c
   rw [List.getD_eq_getElem?_getD,List.getElem?_eq_getElem ha,List.getD_eq_getElem?_getD,List.getElem?_eq_getElem hb] at c
   exact hn ((List.getElem_inj nd).mp (Option.some.inj (congrArg some c))).symm
 have key:d k=0:=by
  by_cases c:∃i,i < R.length/\H i=k
  ·obtain ⟨i,hi,rfl⟩:=c
   have:=dz i hi
   unfold dt at this
   rw [a95 r (f:=λj=>gm m (cf (R.getD i []) j) (d j)) (j0:=H i) (aR6 hm _ _) hk λj hj hn=>?_,I.u i i hi hi,if_pos rfl,a51 (r.lp (hz _) (aR6 hm _ _))] at this
   ·exact this
   ·by_cases c:∃i',i' < R.length/\H i'=j
    ·obtain ⟨i',h1,rfl⟩:=c
     rw [I.u i i' hi h1,if_neg (λz:i=i'=>hn (by rw [z])),aR4 m _ m0]
    ·have hf:=(I.free hm hR j).mpr ⟨hj,λi' h1 h2=>c ⟨i',h1,h2⟩⟩
     have:d j=0:=(dk j).mpr (zf j hf).symm
     rw [this,r.qz]
  ·have hf:=(I.free hm hR k).mpr ⟨hk,λi' h1 h2=>c ⟨i',h1,h2⟩⟩
   exact (dk k).mpr (zf k hf).symm
 exact (dk k).mp key
theorem bn0 {N n:Nat} {M:List (List Nat)} (h:RT N n M) (h0:M≠[]):wof M=n:=by
 cases M with
 | nil=>exact absurd rfl h0
 | cons g M=>exact (h g List.mem_cons_self).1
theorem ck8 {m:Bool × Nat} (hm:m∈flds) {n:Nat} {M:List (List Nat)} (h:RT (mny m) n M) (hl:M.length < n):∃(x:Nat->Nat) (f:Nat),f < n/\(∀k,x k < mny m)/\x f=1/\∀i,i < M.length->dt m n (cf (M.getD i [])) x=0:=by
 by_cases h0:M=[]
 ·subst h0
  exact ⟨λ_=>1,0,hl,λ_=>lo1 hm,rfl,λi hi=>nomatch hi⟩
 ·have hw:=bn0 h h0
  obtain ⟨⟨H,I⟩,iR,il,sp⟩:=bn7 hm (G:=M) (by rw [hw]; exact h)
  rw [hw] at I iR
  have fl:=I.free_len hm iR
  have f0:0 < (frp (ba3 m M) n).length:=by omega
  have hf:=aP9 f0 0
  obtain ⟨k1,k2,k3,k4,k5⟩:=bp4 hm iR I hf
  refine ⟨cf (kro m (ba3 m M) n ((frp (ba3 m M) n).getD 0 0)),_,((I.free hm iR _).mp hf).1,aV5 hm k2,k3,λi hi=>?_⟩
  exact SpT.dt hm (λi' hi'=>bE9 hm iR I hf hi') ((sp _).mp (SpT.of (aP9 hi [])))
theorem RR.few {m:Bool × Nat} (hm:m∈flds) {w v:Nat} {S R:List (List Nat)} {H:Nat->Nat} (hS:RT (mny m) w S) (I:RR w S H) (hR:RT (mny m) v R) (h:∀i,i < S.length->SpT m R (cf (S.getD i []))):S.length<=R.length:=by
 have r:=rg hm
 refine Nat.le_of_not_lt λhl=>?_
 have hc:∀i,∃c:Nat->Nat,i < S.length->(∀j,c j < mny m)/\∀k,cf (S.getD i []) k=sm (gp m) R.length λj=>gm m (c j) (cf (R.getD j []) k):=λi=>by
  by_cases hi:i < S.length
  ·obtain ⟨c,a,b⟩:=(h i hi).sum hm hR
   exact ⟨c,λ_=>⟨a,b⟩⟩
  ·exact ⟨λ_=>0,λz=>absurd z hi⟩
 obtain ⟨C,hC⟩:=Classical.axiomOfChoice hc
 have cl:∀i,i < S.length->∀j,C i j < mny m:=λi hi=>(hC i hi).1
 obtain ⟨x,f,f1,x1,x2,x3⟩:=ck8 hm (n:=S.length) (M:=(List.range R.length).map λj=>(List.range S.length).map λi=>C i j) (λy hy=>by
  obtain ⟨j,_,rfl⟩:=List.mem_map.mp hy
  refine ⟨by rw [List.length_map,List.length_range],λz hz=>?_⟩
  obtain ⟨i,hi,rfl⟩:=List.mem_map.mp hz
  exact cl i (List.mem_range.mp hi) j) (by rw [List.length_map,List.length_range]; exact hl)
 rw [List.length_map,List.length_range] at x3
 have x4:∀j,j < R.length->sm (gp m) S.length (λi=>gm m (C i j) (x i))=0:=λj hj=>by
  rw [<-x3 j hj]
  refine aP4 λi hi=>?_
  rw [a90 (λj=>(List.range S.length).map λi=>C i j) (by rw [List.length_range]; exact hj) 0 [],bI6 _ hi,List.getD_eq_getElem?_getD,List.getElem?_range hj]; rfl
 have x5:∀k,sm (gp m) S.length (λi=>gm m (x i) (cf (S.getD i []) k))=0:=λk=>by
  rw [aP4 (g:=λi=>sm (gp m) R.length λj=>gm m (gm m (C i j) (x i)) (cf (R.getD j []) k)) λi hi=>?_,bv8 r,aR8 r λj hj=>?_]
  ·rw [aP4 (g:=λi=>gm m (cf (R.getD j []) k) (gm m (C i j) (x i))) λi hi=>aS9 m _ _,a52 r,x4 j hj,r.qz]
  ·rw [(hC i hi).2 k,<- a52 r]
   exact aP4 λj _=>by rw [<-aR1 (aP1 m hm),aS9 m (x i)]
 have:=x5 (H f)
 rw [a95 r (f:=λi=>gm m (x i) (cf (S.getD i []) (H f))) (aR6 hm _ _) f1 λj hj hn=>by rw [I.u j f hj f1,if_neg hn,r.qz],I.u f f f1 f1,if_pos rfl,x2,a51 (lo1 hm)] at this
 omega
theorem Sp.sm {N:Nat} {p q:Nat->Nat->Nat} {S:(Nat->Nat)->Prop} {c:Nat->Nat} {F:Nat->Nat->Nat}:∀{n:Nat},(∀i,i < n->c i < N)->(∀i,i < n->Sp N p q S (F i))->Sp N p q S λk=>L3.sm p n λi=>q (c i) (F i k)
 | 0,_,_=>.zero
 | n + 1,hc,h=>.add (Sp.sm (λi hi=>hc i (by omega)) λi hi=>h i (by omega)) (.mul _ (hc n (by omega)) (h n (by omega)))
theorem by1 {T:List (List Nat)} {i:Nat} (h:i < T.length):T.getD i []=T[i]:=by rw [List.getD_eq_getElem?_getD,List.getElem?_eq_getElem h]; rfl
end L3
namespace L3
open PySem L2 PySem.Spec PyProof.Rows
section
variable {X:Cx} {F H:Hp} {e b:Expr} {pos pos' p p2 p3 apos cpos:Pos} {ti te:TEd} {x y:Str} {i j:Nat}
theorem R.rev:∀{xs:List D} {ws:List V} {A:List Addr},R F H xs ws A->A.Nodup->∃A',R F H xs.reverse ws.reverse A'/\A'.Nodup/\∀a∈A',a∈A
 | [],_,A,r,nd=>by cases r; exact ⟨[],.nil,by simp,by simp⟩
 | d :: ds,_,A,r,nd=>by
  obtain ⟨w,ws',B1,B2,rfl,rfl,h1,h2⟩:=r.uncons
  obtain ⟨n1,n2,n3⟩:=nd_app.mp nd
  obtain ⟨A',r',nd',sub⟩:=R.rev h2 n2
  refine ⟨A'++B1,?_,nd_app.mpr ⟨nd',n1,λa ha hb=>n3 a hb (sub a ha)⟩,λa ha=>?_⟩
  ·rw [List.reverse_cons,List.reverse_cons]
   exact r'.append h1
  ·rcases List.mem_append.mp ha with z | z
   ·simp [sub a z]
   ·simp [z]
noncomputable def ch0 (i:Nat):TSd:=λD δ=>∃xs,δ[i]?=some (some (.lst true xs))/\D.nx (δ.set i (some (.lst true xs.reverse)))
theorem bO0 (hN:X.N[i]?=some x) (hv:Vis X.env.scope x) (hd:(x == ("__debug__":Str))=false:=by decide) (hcd:(x == ("__classdict__":Str))=false:=by decide)
  (hbase:attributeBase (.Name x p) "reverse" X.env (eval (.Name x p) X.env)=eval (.Name x p) X.env:=by rfl) (hline:(apos.endLine == cpos.line)=true:=by rfl)
  (hsw:swapsWith (.Call (.Attribute (.Name x p) "reverse" apos) [] [] cpos) none pos.line X.env=pure false:=by rfl) :
  PS X (.Expr (.Call (.Attribute (.Name x p) "reverse" apos) [] [] cpos) pos) (lS X (ch0 i)) :=
 aY6 (bg6 (bL2 PySem.F.plainAttrs_list PySem.F.slot_list_reverse PySem.F.type_list_reverse bD4 (bd3 hN hv hd hcd) hbase hline) hsw) λEn σ H zz=>by
  obtain ⟨B,F,δ,Dd,c,⟨ys,ey,hn⟩,k1,k2,k3,k4⟩:=zz
  obtain ⟨p0,ws0,g1,g2,g3⟩:=c.ownAt ey
  refine ⟨.ref p0,g1,.inl ⟨rfl,_,SqL.of g2⟩,p0,ws0,rfl,rfl,g2,k1 _ _ F _ hn ?_⟩
  exact Cur.mut (ps:=[]) c ey g1 λws' A1 A2 h r1 r2 nd=>by
   rw [g2] at h; cases h
   obtain ⟨A',r',nd',sub⟩:=r1.rev (nd_app.mp nd).1
   exact ⟨A',r',nd',λa ha=>List.mem_append_left _ (sub a ha)⟩
end
section
variable {X:Cx}
end
section
variable {X:Cx} {es:List Expr} {tr:TAd} {pos:Pos}
end
end L3
namespace L3
open PySem L2 Mf
theorem RR.lead {m:Bool × Nat} (hm:m∈flds) {w:Nat} {R:List (List Nat)} {H:Nat->Nat} (hR:RT (mny m) w R) (I:RR w R H) {f:Nat->Nat} (s:SpT m R f) {t:Nat} (h1:f t≠0) (h2:∀j,j < t->f j=0):∃i,i < R.length/\H i=t:=by
 refine Classical.byContradiction λc=>h1 ?_
 rw [I.own hm hR s t]
 refine aR8 (rg hm) λi hi=>?_
 rcases Nat.lt_trichotomy (H i) t with h | h | h
 ·rw [h2 _ h,aR4 m _ (aP1 m hm)]
 ·exact absurd ⟨i,hi,h⟩ c
 ·rw [I.z i hi t h,(rg hm).qz]
theorem RR.same {m:Bool × Nat} (hm:m∈flds) {w:Nat} {R R':List (List Nat)} {H H':Nat->Nat} (hR:RT (mny m) w R) (I:RR w R H) (hR':RT (mny m) w R') (I':RR w R' H') (h:∀x∈R,SpT m R' (cf x)) (h':∀x∈R',SpT m R (cf x)):R=R':=by
 have l:R.length=R'.length:=Nat.le_antisymm (I.few hm hR hR' λi hi=>h _ (aP9 hi [])) (I'.few hm hR' hR λi hi=>h' _ (aP9 hi []))
 have a:∀i,i < R.length->∃j,j < R'.length/\H' j=H i:=λi hi=>I'.lead hm hR' (h _ (aP9 hi [])) (by rw [I.u i i hi hi,if_pos rfl]; decide) λj hj=>I.z i hi j hj
 have a':∀i,i < R'.length->∃j,j < R.length/\H j=H' i:=λi hi=>I.lead hm hR (h' _ (aP9 hi [])) (by rw [I'.u i i hi hi,if_pos rfl]; decide) λj hj=>I'.z i hi j hj
 have e:∀n i,i < n->i < R.length->H i=H' i:=by
  intro n
  induction n with
  | zero=>exact λi hi=>nomatch hi
  | succ n ih =>
   intro i hi hl
   by_cases hn:i < n
   ·exact ih i hn hl
   obtain rfl:i=n:=by omega
   obtain ⟨j,j1,j2⟩:=a i hl
   obtain ⟨j',j3,j4⟩:=a' i (by omega)
   have b1:i<=j:=Nat.le_of_not_lt λc=>by
    have:=ih j c (by omega)
    have:=I.i j i c hl
    omega
   have b2:i<=j':=Nat.le_of_not_lt λc=>by
    have:=ih j' c (by omega)
    have:=I'.i j' i c (by omega)
    omega
   have c1:H' i<=H' j:=by
    rcases Nat.lt_or_ge i j with c | c
    ·exact Nat.le_of_lt (I'.i i j c j1)
    ·rw [show i=j by omega]; exact Nat.le_refl _
   have c2:H i<=H j':=by
    rcases Nat.lt_or_ge i j' with c | c
    ·exact Nat.le_of_lt (I.i i j' c j3)
    ·rw [show i=j' by omega]; exact Nat.le_refl _
   omega
 refine List.ext_getElem l λi h1 h2=>?_
 rw [<-by1 h1,<- by1 h2]
 refine cb2 (hR _ (aP9 h1 [])).1 (hR' _ (aP9 h2 [])).1 λk _=>?_
 rw [I.own hm hR (h' _ (aP9 h2 [])) k,a95 (rg hm) (f:=λj=>gm m (cf (R'.getD i []) (H j)) (cf (R.getD j []) k)) (aR6 hm _ _) h1 λj hj hn=>?_]
 ·rw [e (i + 1) i (by omega) h1,I'.u i i h2 h2,if_pos rfl,a51 (aV5 hm (hR _ (aP9 h1 [])).2 k)]
 ·rw [e (j + 1) j (by omega) hj,I'.u i j h2 (by omega),if_neg (λz:i=j=>hn z.symm),aR4 m _ (aP1 m hm)]
end L3
namespace L3
open PySem L2 Mf
theorem cb4 {m:Bool × Nat} (hm:m∈flds) {G:List (List Nat)} (hG:RT (mny m) (wof G) G) {f:Nat} (hf:f∈frp (ba3 m G) (wof G)):∀r∈G,dt m (wof G) (cf r) (cf (kro m (ba3 m G) (wof G) f))=0:=λr hr=>by
 obtain ⟨⟨H,I⟩,iR,il,sp⟩:=bn7 hm hG
 exact SpT.dt hm (λi hi=>bE9 hm iR I hf hi) ((sp _).mp (SpT.of hr))
end L3
namespace L3
open PySem L2 Mf
theorem ck0 {r:List Nat} {k v:Nat} (hk:k < r.length) (j:Nat):cf (r.set k v) j=if j=k then v else cf r j:=by
 unfold cf
 rw [List.getD_eq_getElem?_getD,List.getElem?_set,List.getD_eq_getElem?_getD]
 by_cases h:k=j
 ·subst h
  rw [if_pos rfl,if_pos rfl,if_pos hk]; rfl
 ·rw [if_neg h,if_neg (Ne.symm h)]
end L3
namespace L2
open PySem PySem.Spec PyProof.Rows
section
variable {X:Cx}
theorem bL1:∀{ns:List Int} {its:List Value},Vals (ns.map V.int) its->ns.length=its.length/\∀(i:Nat) (v:Value),its[i]?=some v->∃n t,ns[i]?=some n/\v=Value.int n t
 | [],_,r=>by cases r; exact ⟨rfl,λi v h=>by simp at h⟩
 | n :: ns,_,r=>by
  cases r with
  | cons a b =>
   obtain ⟨h1,h2⟩:=bL1 b
   obtain ⟨t,rfl⟩:=a
   refine ⟨by simp [h1],λi v h=>?_⟩
   cases i with
   | zero=>simp at h; exact ⟨n,t,rfl,h.symm⟩
   | succ i=>simpa using h2 i v (by simpa using h)
theorem bG9 (hc:X.calm=true):CallR X (.builtin "any") (λxs H Q=>∃(p:Addr) (ns:List Int),xs=[.ref p]/\SqL X.K H p (ns.map V.int)/\Q (.bl (ns.any (· != 0))) H):=by
 intro pins s σ H xs us Q I r h
 obtain ⟨p,ns,rfl,hS,q⟩:=h
 obtain ⟨u,rfl,ru⟩:=r.one
 cases ru
 obtain ⟨its,rv,pl,hz⟩:=I.list hS
 obtain ⟨hlen,hget⟩:=bL1 rv
 have hl:=pl.isList
 have hlt:p < s.heap.objs.size:=by obtain ⟨_,e,_⟩:=hl; exact Heap.lt_size e
 refine call_any_walk (wpAny_pyIter_list hl ?_)
 refine ⟨s.heap.objs.size,[s.heap.objs.size,p],[s.heap.objs.size],its.toArray.size,_,_,λi=>((ns.map (· != 0))[i]?).getD false,rfl,Walks.list (A:=X.A.in1) (I.ok.hd hc) _ p (Nat.ne_of_lt hlt) its.toArray,
  ⟨⟨_,Heap.get?_push_size _ rfl,rfl,rfl⟩,hl.push _⟩,λi v s' Q' E' hP hQ=>?_,λh' tk hk=>?_⟩
 ·obtain ⟨n,t,e,rfl⟩:=hget i v (by simpa using hP)
  simp only [List.getElem?_map,e,Option.map_some,Option.getD_some] at hQ
  exact PyProof.Rows.truthy_int hQ
 ·have e:((List.range its.toArray.size).any λi=>((ns.map (· != 0))[i]?).getD false)=(ns.map (· != 0)).any id:=by
   rw [List.size_toArray,<- hlen,<- List.length_map (f:=(· != 0)) (as:=ns)]; exact bT4 _
  rw [e,List.any_map]
  exact ⟨.bl _,H,I.kept (h':=h') (t':=tk) (bZ6 hk),rfl,q⟩
end
end L2
namespace L3
open PySem L2 PySem.Spec PyProof.Rows
section
variable {X:Cx}
noncomputable def b75:Rdc:=λds Q=>match ds with
 | [.lst _ xs]=>∃ns,xs=aR7 ns/\Q (.bl (ns.any (· != 0)))
 | _=>False
theorem cq7 (hc:X.calm=true):CallD X (.builtin "any") b75:=CallD.of (bG9 hc) λvs H Q zz=>by
 obtain ⟨B,F,σ,δ,ts,ds,Qd,c,s,q,k⟩:=zz
 unfold b75 at q
 split at q
 ·obtain ⟨v,rfl,s1⟩:=bi3 s
  obtain ⟨ns,rfl,q⟩:=q
  obtain ⟨p,ws,rfl,h,t⟩:=bl4 s1 c.ext rfl
  rw [bu3 t] at h
  exact ⟨p,ns,rfl,bh0 h,k _ _ _ q (Same.refl _) (c.pushS (.bl .nil) rfl)⟩
 ·exact q.elim
end
end L3
namespace L2
open PySem PySem.Spec PyProof.Rows
section
variable {X:Cx} {a:Expr} {ta:TE} {p p2 pos pos2:Pos}
noncomputable def tLR (ta:TE):TE:=λσ H Q=>ta σ H λv H1=>∃j:Nat,v=.int (j:Int)/\j<=1000/\∀l,H1 l=none->Q (.ref l) (upd H1 l (.lst ((List.range j).map λ(k:Nat)=>V.int (k:Int))))
theorem bC5 {n:Nat} {acc:Array Value} (h:ItemsOf (λ(i:Nat) (v:Value)=>∃t,v=Value.int ((0:Int) + (i:Int) * 1) t) acc n):Vals ((List.range n).map λ(k:Nat)=>V.int (k:Int)) acc.toList:=by
 have key:∀(l:List Value) (b:Nat),(∀(i:Nat) (v:Value),l[i]?=some v->∃t,v=Value.int ((b + i:Nat):Int) t)->Vals ((List.range' b l.length).map λ(k:Nat)=>V.int (k:Int)) l:=by
  intro l
  induction l with
  | nil=>exact λb _=>.nil
  | cons v l ih =>
   intro b hb
   rw [List.length_cons,List.range'_succ,List.map_cons]
   refine .cons ?_ (ih (b + 1) λi v hv=>?_)
   ·obtain ⟨t,rfl⟩:=hb 0 v rfl
    exact ⟨t,rfl⟩
   ·obtain ⟨t,e⟩:=hb (i + 1) v (by simpa using hv)
    exact ⟨t,by rw [e]; congr 1; omega⟩
 have hl:acc.toList.length=n:=by rw [Array.length_toList]; exact h.1
 rw [List.range_eq_range',<- hl]
 refine key acc.toList 0 λi v hv=>?_
 obtain ⟨t,e⟩:=h.2 i v (by simpa using hv)
 exact ⟨t,by rw [e]; congr 1; omega⟩
theorem br2 (hc:X.calm=true) (hg:Gl X "list") (hm:X.mg "list"=none) (hg2:Gl X "range") (hm2:X.mg "range"=none) (ha:PE X a ta)
  (hs:starEach [.Call (.Name "range" p2) [a] [] pos2] X.env=(false,eval (.Call (.Name "range" p2) [a] [] pos2) X.env) :: starEach [] X.env:=by rfl) (hpl:(backTo pos (starEach [] X.env)).any (·.1)=false:=by rfl)
  (hs2:starEach [a] X.env=(false,eval a X.env) :: starEach [] X.env:=by rfl) (hpl2:(backTo pos2 (starEach [] X.env)).any (·.1)=false:=by rfl) (hn0:starEach [] X.env=[]:=by rfl) :
  PE X (.Call (.Name "list" p) [.Call (.Name "range" p2) [a] [] pos2] [] pos) (tLR ta):=by
 intro pins s σ H Q I h
 refine wpAny_Call_Name_kw (ba4 I hg hm bl3 ?_ (by decide) (by decide))
 refine PyProof.Rows.callWith_type1 ?_ hs hpl
 rw [hs]
 show wpAny _ _ (spliced ((false,eval (.Call (.Name "range" p2) [a] [] pos2) X.env) :: backTo pos (starEach [] X.env))) _ _ s
 refine Calls.spliced_cons ?_
 refine wpAny_Call_Name_kw (ba4 I hg2 hm2 bV0 ?_ (by decide) (by decide))
 refine PyProof.Rows.callWith_type1 ?_ hs2 hpl2
 rw [hs2]
 show wpAny _ _ (spliced ((false,eval a X.env) :: backTo pos2 (starEach [] X.env))) _ _ s
 refine Calls.spliced_cons (thn (ha pins s σ H _ I h) λu s1 zz=>?_)
 obtain ⟨x,H1,I1,r1,q1⟩:=zz
 obtain ⟨j,rfl,hj,q⟩:=q1
 obtain ⟨t,rfl⟩:=r1
 rw [hn0]
 refine Calls.spliced_nil ?_
 refine call_range_1 ?_
 refine Calls.spliced_nil ?_
 have I2:Inv X pins σ H1 { s1 with heap:=s1.heap.push { cls:=.type "range",data:=.fields #[.int 0 s1.toks,.int j t,.int 1 (s1.toks + 1)] },toks:=s1.toks + 1 + 1 }:=I1.kept λb o e=>Heap.get?_push_of_some _ e
 refine call_list_range (n:=j) (I2.ok.hd hc) (IsRange.new ..) (small_one (by omega) (by omega) (by omega) (by omega)) (by rw [rangeSize_one]; split <;> omega) (by omega) λh' tk acc' c' kp e hacc=>?_
 have hv:=bC5 hacc
 exact ⟨.ref _,_,I2.laid (t':=tk) kp (by omega) (show ObjOk X.prog X.w _ h' _ (.lst _) from ⟨by rw [List.length_map,List.length_range]; have:=bh3; unfold sizeLine; omega,acc'.toList,c',hv,by simpa using e⟩),rfl,q _ (I2.hok.fresh (Nat.le_refl _))⟩
end
end L2
namespace L3
open PySem L2 PySem.Spec PyProof.Rows
section
variable {X:Cx} {a:Expr} {t:TEd} {p p2 pos pos2:Pos}
noncomputable def dLR (t:TEd):TEd:=λδ Q=>t δ λd δ1=>∃j:Nat,d=.int (j:Int)/\j<=1000/\Q (.lst true (aO8 (List.range j))) δ1
theorem bu4 (hc:X.calm=true) (hg:Gl X "list") (hm:X.mg "list"=none) (hg2:Gl X "range") (hm2:X.mg "range"=none) (ha:PE X a (lB t))
  (hs:starEach [.Call (.Name "range" p2) [a] [] pos2] X.env=(false,eval (.Call (.Name "range" p2) [a] [] pos2) X.env) :: starEach [] X.env:=by rfl) (hpl:(backTo pos (starEach [] X.env)).any (·.1)=false:=by rfl)
  (hs2:starEach [a] X.env=(false,eval a X.env) :: starEach [] X.env:=by rfl) (hpl2:(backTo pos2 (starEach [] X.env)).any (·.1)=false:=by rfl) (hn0:starEach [] X.env=[]:=by rfl) :
  PE X (.Call (.Name "list" p) [.Call (.Name "range" p2) [a] [] pos2] [] pos) (lE (dLR t)) :=
 aQ6 (br2 hc hg hm hg2 hm2 ha hs hpl hs2 hpl2 hn0) λσ H Q ⟨B,F,δ,ts,Qd,c,q,k⟩=>⟨B,F,δ,ts,_,c,q,λd δ1 v F1 H1 q1 f1 h1 c1 s1=>by
  obtain ⟨j,rfl,hj,hq⟩:=q1
  cases s1
  refine ⟨j,rfl,hj,λl hl=>?_⟩
  have sn:∀ns:List Nat,S F1 H1 (aO8 ns) (ns.map λ(k:Nat)=>V.int (k:Int)):=λns=>by
   induction ns with
   | nil=>exact .nil
   | cons n ns ih=>exact .int ih
  exact k _ δ1 _ F1 _ hq f1 (h1.trans (Same.upd hl)) (c1.newL hl (sn _) (aZ5 _))⟩
end
end L3
namespace L3
open PySem L2 PySem.Spec PyProof.Rows
section
variable {F H:Hp}
end
section
variable {X:Cx} {e:Expr} {t:TEd} {p2 pos:Pos}
end
end L3
namespace L3
open PySem L2 PySem.Spec PyProof.Rows
noncomputable def cx9 (A:List Addr) (H:Hp):Hp:=λa=>if a∈A then none else H a
section
variable {F H:Hp}
end
section
variable {P:Program} {w:World} {K:PySem.W.Frag} {mg:Str->Option Value} {base:Heap}
end
section
variable {X:Cx} {CX:CXT} {n i:Nat} {f:Addr} {fd:FuncData} {ps:List Str} {sp:SpD} {E:XK} {fn x:Str} {e:Expr} {te:TEd} {p p2 pos pos' pos2:Pos}
end
end L3
namespace L2
section
variable {α:Type} {P:List α->Prop}
theorem cq0 (h:P []):∀us:List α,us.length=0->P us:=by
 intro us hl; rcases us with _ | ⟨a,t⟩
 ·exact h
 ·cases hl
theorem aY7 (h:∀a,P [a]):∀us:List α,us.length=1->P us:=by
 intro us hl; rcases us with _ | ⟨a,t⟩
 ·cases hl
 ·exact cq0 (P:=λt=>P (a :: t)) (h a) t (Nat.succ.inj hl)
theorem aW3 (h:∀a b,P [a,b]):∀us:List α,us.length=2->P us:=by
 intro us hl; rcases us with _ | ⟨a,t⟩
 ·cases hl
 ·exact aY7 (P:=λt=>P (a :: t)) (h a) t (Nat.succ.inj hl)
theorem aY3 (h:∀a b c,P [a,b,c]):∀us:List α,us.length=3->P us:=by
 intro us hl; rcases us with _ | ⟨a,t⟩
 ·cases hl
 ·exact aW3 (P:=λt=>P (a :: t)) (h a) t (Nat.succ.inj hl)
theorem bp8 (h:∀a b c d,P [a,b,c,d]):∀us:List α,us.length=4->P us:=by
 intro us hl; rcases us with _ | ⟨a,t⟩
 ·cases hl
 ·exact aY3 (P:=λt=>P (a :: t)) (h a) t (Nat.succ.inj hl)
theorem cm6 (h:∀a b c d e,P [a,b,c,d,e]):∀us:List α,us.length=5->P us:=by
 intro us hl; rcases us with _ | ⟨a,t⟩
 ·cases hl
 ·exact bp8 (P:=λt=>P (a :: t)) (h a) t (Nat.succ.inj hl)
end
end L2
namespace L3
open PySem L2 PySem.Spec PyProof.Rows
section
variable {B:Bs} {F H:Hp} {σ:L2.St} {δ:Dl} {ts:List (D × V)}
theorem Cur.apart {j:Nat} {p q:Addr} {xs ys:List D} (c:Cur B F H σ δ ((.lst true xs,.ref q) :: ts)) (e:δ[j]?=some (some (.lst true ys))) (e2:σ[j]?=some (some (.ref p))):p≠q:=by
 obtain ⟨A,C,r,s,nd,fr⟩:=c.own
 obtain ⟨v,A',C',e1,h1,h2,pm⟩:=s.pick e
 rw [e2] at e1; cases e1
 intro z
 subst z
 have i1:p∈A:=by
  cases r with
  | own h f x r=>simp
 have i2:p∈C:=by
  refine pm.mem_iff.mpr ?_
  cases h1 with
  | own h f x r=>simp
 exact (nd_app.mp nd).2.2 p i1 i2
end
section
variable {X:Cx} {elt iter tg:Expr} {pos:Pos} {scope:Scope} {cl:List (Str × Addr)} {ti:TId} {te:TEd} {g:TGd}
end
end L3
namespace L2
open PySem PySem.Spec PyProof.Rows
section
variable {X:Cx}
end
end L2
namespace L3
open PySem L2 PySem.Spec PyProof.Rows
section
variable {X:Cx}
end
end L3
namespace L3
open PySem L2 Mf
theorem aZ9 {m:Bool × Nat} (hm:m∈flds) {a b:Nat} (ha:a < mny m) (hb:b < mny m):gm m a b=0 ↔ a=0\/b=0:=by
 constructor
 ·intro h
  by_cases a0:a=0
  ·exact .inl a0
  ·by_cases b0:b=0
   ·exact .inr b0
   ·exact absurd h (cv0 hm (by omega) ha (by omega) hb)
 ·rintro (rfl | rfl)
  ·exact aR4 m _ (aP1 m hm)
  ·exact aS7 m _ (aP1 m hm)
noncomputable def cr3 (l:List Nat) (z:Nat->Nat):Nat->List Nat
 | 0=>l
 | t + 1=>(cr3 l z t).eraseIdx (z t % (cr3 l z t).length)
noncomputable def drawn (l:List Nat) (z:Nat->Nat) (t:Nat):Nat:=(cr3 l z t).getD (z t % (cr3 l z t).length) 0
theorem cz9 {m:Bool × Nat} (hm:m∈flds) (x:Nat->Nat) (hx:∀j,x j < mny m):∀(n:Nat) (c:Nat->Nat),(∀j,c j < mny m)->(∀i j,i < n->j < n->x i=x j->i=j)->(∀i,i < n->sm (gp m) n (λj=>gm m (c j) (px m (x j) i))=0)->∀j,j < n->c j=0
 | 0,_,_,_,_,j,hj=>absurd hj (by omega)
 | n + 1,c,hc,hd,h,j,hj=>by
  have r:=rg hm
  have h0:=aP1 m hm
  have hlo:=lo1 hm
  have dn:∀j,gln m (x j) (x n) < mny m/\gp m (gln m (x j) (x n)) (x n)=x j:=λj=>(bb5 hm (hx j) (hx n)).2
  have key:∀i,i < n->sm (gp m) n (λj=>gm m (gm m (c j) (gln m (x j) (x n))) (px m (x j) i))=0:=λi hi=>by
   have h1:=h (i + 1) (by omega)
   have hz:=h i (by omega)
   have e:∀j,gm m (c j) (px m (x j) (i + 1))=gp m (gm m (gm m (c j) (gln m (x j) (x n))) (px m (x j) i)) (gm m (x n) (gm m (c j) (px m (x j) i))):=λj=>by
    show gm m (c j) (gm m (px m (x j) i) (x j))=_
    have e1:gm m (px m (x j) i) (x j)=gm m (px m (x j) i) (gp m (gln m (x j) (x n)) (x n)):=by rw [(dn j).2]
    rw [e1,bz0 h0,bz0 h0]
    congr 1
    ·rw [aR1 h0,aS9 m (px m (x j) i)]
    ·rw [aS9 m (px m (x j) i),<- aR1 h0,aS9 m (c j),aR1 h0]
   rw [aP4 λj _=>e j,a57 r,a52 r,hz,r.qz] at h1
   have ln:sm (gp m) n (λj=>gm m (gm m (c j) (gln m (x j) (x n))) (px m (x j) i)) < mny m:=ba2 r λ_ _=>aR6 hm _ _
   rw [sm,bm1,aS7 m _ h0,aR4 m _ h0,aW2 ln,aW2 ln] at h1
   exact h1
  have ih:=cz9 hm x hx n (λj=>gm m (c j) (gln m (x j) (x n))) (λ_=>aR6 hm _ _) (λi j hi hj=>hd i j (by omega) (by omega)) key
  have cz:∀j,j < n->c j=0:=λj hj=>by
   rcases (aZ9 hm (hc j) (dn j).1).mp (ih j hj) with z | z
   ·exact z
   ·have:=(dn j).2
    rw [z,bc1 (hx n)] at this
    exact absurd (hd n j (by omega) (by omega) this) (by omega)
  by_cases c0:j < n
  ·exact cz j c0
  ·have ej:j=n:=by omega
   subst ej
   have:=h 0 (by omega)
   rw [sm,aR8 r λi hi=>by rw [cz i hi,aR4 m _ h0]] at this
   rw [show px m (x j) 0=1 from rfl,aZ7 (hc j),bc1 (hc j)] at this
   exact this
theorem b65 {xs ys:List Nat} {i:Nat} {d:D} (h:(bc0 (aO8 xs) (aO8 ys))[i]?=some d):∃(hi:i < xs.length) (hj:i < ys.length),d=.tup [.int (xs[i]:Nat),.int (ys[i]:Nat)]:=by
 unfold bc0 at h
 rw [aQ0,aQ0,List.zipWith_map] at h
 have hl:=(List.getElem?_eq_some_iff.mp h).1
 rw [List.length_zipWith] at hl
 have hi:i < xs.length:=by omega
 have hj:i < ys.length:=by omega
 rw [List.getElem?_zipWith,List.getElem?_eq_getElem hi,List.getElem?_eq_getElem hj] at h
 exact ⟨hi,hj,(Option.some.inj h).symm⟩
theorem bW5 (xs ys:List Nat):(bc0 (aO8 xs) (aO8 ys)).length=min xs.length ys.length:=by unfold bc0; rw [List.length_zipWith,aR3,aR3]
end L3
namespace L3
open PySem L2 Mf
noncomputable def pst (m:Bool × Nat) (c:List Nat) (os:List (List Nat)):List (List Nat):=os.map λo =>
 (List.zipWith (λx y=>gln m x (gm m (gm m (o.getD (ldf c) 0) (gmi m (c.getD (ldf c) 0))) y)) o c).take (ldf c)++(List.zipWith (λx y=>gln m x (gm m (gm m (o.getD (ldf c) 0) (gmi m (c.getD (ldf c) 0))) y)) o c).drop (ldf c + 1)
noncomputable abbrev Cs:=List Nat × List (List Nat)
noncomputable def nul (c:List Nat):Bool:=c.all (· == 0)
noncomputable def kid (m:Bool × Nat) (w:Nat) (z:Cs × Nat):Cs:=(z.1.1++[w - z.1.2.length + z.2],pst m (z.1.2.getD z.2 []) (z.1.2.drop (z.2 + 1)))
noncomputable def bh9 (s:Cs):List (Cs × Nat):=(List.range s.2.length).map λi=>(s,i)
noncomputable def prs (l:List Cs):List (Cs × Nat):=l.flatMap bh9
noncomputable def bU7 (z:Cs × Nat):Bool:=nul (z.1.2.getD z.2 [])
noncomputable def fbs (m:Bool × Nat) (w:Nat):Nat->List Cs->Option (List Nat)
 | 0,_=>none
 | f + 1,l=>if l=[] then none else match (prs l).find? bU7 with
  | some z=>some (z.1.1++[w - z.1.2.length + z.2])
  | none=>fbs m w f ((prs l).map (kid m w))
noncomputable def Lin (m:Bool × Nat) (C:Nat->Nat->Nat) (ps:List Nat) (c:Nat->Nat) (k:Nat):Nat:=sm (gp m) ps.length λt=>gm m (c t) (C (ps.getD t 0) k)
noncomputable def Ind (m:Bool × Nat) (C:Nat->Nat->Nat) (ps:List Nat):Prop:=∀c:Nat->Nat,(∀t,c t < mny m)->(∀k,Lin m C ps c k=0)->∀t,t < ps.length->c t=0
structure Gs (m:Bool × Nat) (C:Nat->Nat->Nat) (w:Nat) (s:Cs):Prop where
 le:s.2.length<=w
 inc:s.1.Pairwise (· < ·)
 off:∀p∈s.1,p < w - s.2.length
 nx:∀j,(∀p∈s.1,p < j)->w - s.2.length<=j
 rt:∃h,RT (mny m) h s.2
 rel:∀a:Nat->Nat,(∀i,a i < mny m)->((∀k,sm (gp m) s.2.length (λi=>gm m (a i) (cf (s.2.getD i []) k))=0) ↔ ∃c:Nat->Nat,(∀t,c t < mny m)/\∀k,gp m (sm (gp m) s.2.length λi=>gm m (a i) (C (w - s.2.length + i) k)) (Lin m C s.1 c k)=0)
 ind:Ind m C s.1
section
variable {m:Bool × Nat} {C:Nat->Nat->Nat} {w:Nat}
theorem cl6 (hm:m∈flds) (C:Nat->Nat->Nat) (ps:List Nat) (c:Nat->Nat) (k:Nat):Lin m C ps c k < mny m:=ba2 (rg hm) λ_ _=>aR6 hm _ _
theorem be0 (hm:m∈flds) (C:Nat->Nat->Nat) (ps:List Nat) (j:Nat) (c:Nat->Nat) (k:Nat):Lin m C (ps++[j]) c k=gp m (Lin m C ps c k) (gm m (c ps.length) (C j k)):=by
 unfold Lin
 rw [List.length_append,List.length_singleton,sm]
 congr 1
 ·refine aP4 λt ht=>?_
  rw [List.getD_eq_getElem?_getD,List.getElem?_append_left ht,<- List.getD_eq_getElem?_getD]
 ·rw [List.getD_eq_getElem?_getD,List.getElem?_append_right (Nat.le_refl _),Nat.sub_self]; rfl
theorem bs9 {ps:List Nat} {c c':Nat->Nat} {k:Nat} (h:∀t,t < ps.length->c t=c' t):Lin m C ps c k=Lin m C ps c' k:=aP4 λt ht=>by rw [h t ht]
theorem bd5 (hm:m∈flds) {n i e:Nat} (hi:i < n) (a' X:Nat->Nat):sm (gp m) n (λj=>gm m (if j < i then 0 else if j=i then e else a' (j - i - 1)) (X j))=gp m (sm (gp m) (n - i - 1) λj=>gm m (a' j) (X (i + 1 + j))) (gm m e (X i)):=by
 have r:=rg hm
 have h0:=aP1 m hm
 obtain ⟨d,rfl⟩:∃d,n=(i + 1) + d:=⟨n - i - 1,by omega⟩
 rw [aZ2 r (i + 1) d λ_ _=>aR6 hm _ _,sm,aR8 r λj hj=>by rw [if_pos hj,aR4 m _ h0],if_neg (Nat.lt_irrefl _),if_pos rfl,r.z (aR6 hm _ _),a65]
 congr 1
 rw [show i + 1 + d - i - 1=d by omega]
 refine aP4 λj hj=>?_
 rw [if_neg (by omega),if_neg (by omega),show i + 1 + j - i - 1=j by omega]
theorem nul_iff {c:List Nat}:nul c=true ↔ ∀k,cf c k=0:=by
 unfold nul
 rw [List.all_eq_true]
 constructor
 ·intro h k
  by_cases hk:k < c.length
  ·unfold cf
   have:=h _ (aP9 hk 0)
   exact beq_iff_eq.mp this
  ·exact bf1 (by omega)
 ·intro h x hx
  obtain ⟨k,hk,rfl⟩:=List.getElem_of_mem hx
  have:=h k
  unfold cf at this
  rw [List.getD_eq_getElem?_getD,List.getElem?_eq_getElem hk] at this
  exact beq_iff_eq.mpr this
theorem bK1 {c:List Nat} (h:nul c=false):ldf c < c.length/\cf c (ldf c)≠0:=by
 have hx:∃x∈c,(x != 0)=true:=by
  refine Classical.byContradiction λz=>?_
  have:nul c=true:=by
   unfold nul
   rw [List.all_eq_true]
   intro x hx
   refine Classical.byContradiction λy=>z ⟨x,hx,?_⟩
   simpa using y
  rw [h] at this; cases this
 have hl:ldf c < c.length:=List.findIdx_lt_length_of_exists hx
 refine ⟨hl,?_⟩
 have h2:(c[ldf c] != 0)=true:=List.findIdx_getElem (xs:=c) (p:=(· != 0)) (w:=hl)
 unfold cf
 rw [List.getD_eq_getElem?_getD,List.getElem?_eq_getElem hl]
 simpa using h2
theorem cb3 (hm:m∈flds) {b:List Nat} {os:List (List Nat)} {h:Nat} (hb:b.length=h) (ab:AllLt (mny m) b) (hos:RT (mny m) h os) (nb:nul b=false) {a:Nat->Nat} (ha:∀i,a i < mny m) :
  (∀k,sm (gp m) os.length (λj=>gm m (a j) (cf ((pst m b os).getD j []) k))=0) ↔ ∃e,e < mny m/\∀k,gp m (sm (gp m) os.length λj=>gm m (a j) (cf (os.getD j []) k)) (gm m e (cf b k))=0:=by
 have r:=rg hm
 have h0:=aP1 m hm
 have hlo:=lo1 hm
 obtain ⟨hp,bp⟩:=bK1 nb
 have hbp:=aV5 hm ab (ldf b)
 obtain ⟨iv,iv1,iv2⟩:=cr8 hm (a:=1) (by omega) hbp bp
 have eiv:gmi m (b.getD (ldf b) 0)=iv:=bj4 hm iv1 iv2
 obtain ⟨D,hD⟩:∃D:Nat->List Nat,∀j,D j=List.zipWith (λx y=>gln m x (gm m (gm m ((os.getD j []).getD (ldf b) 0) iv) y)) (os.getD j []) b:=⟨_,λ_=>rfl⟩
 have Dadd:∀j,j < os.length->∀k,gp m (cf (D j) k) (gm m (gm m (cf (os.getD j []) (ldf b)) iv) (cf b k))=cf (os.getD j []) k:=λj hj k=>by
  rw [hD]
  exact bm9 hm (hos _ (aP9 hj [])).1 hb (hos _ (aP9 hj [])).2 k
 have Dlt:∀j,j < os.length->∀k,cf (D j) k < mny m:=λj hj k=>by
  rw [hD]
  exact bw2 hm (hos _ (aP9 hj [])).1 hb (hos _ (aP9 hj [])).2 _ k
 have Dp:∀j,j < os.length->cf (D j) (ldf b)=0:=λj hj=>by
  have l1:=aV5 hm (hos _ (aP9 hj [])).2 (ldf b)
  have:=Dadd j hj (ldf b)
  rw [aR1 h0,iv2,aZ7 l1] at this
  exact r.cn (Dlt j hj _) l1 this
 have Dlen:∀j,j < os.length->(D j).length=h:=λj hj=>by
  rw [hD,List.length_zipWith,(hos _ (aP9 hj [])).1,hb,Nat.min_self]
 have Pcf:∀j,j < os.length->∀k,cf ((pst m b os).getD j []) k=cf (D j) (if k < ldf b then k else k + 1):=λj hj k=>by
  have e1:(pst m b os).getD j []=(D j).take (ldf b)++(D j).drop (ldf b + 1):=by
   unfold pst
   rw [a90 _ hj [] [],eiv,hD]
  rw [e1]
  have lt:((D j).take (ldf b)).length=ldf b:=by rw [List.length_take,Dlen j hj]; omega
  unfold cf
  by_cases hk:k < ldf b
  ·rw [if_pos hk,List.getD_eq_getElem?_getD,List.getElem?_append_left (by omega),List.getElem?_take_of_lt hk,<- List.getD_eq_getElem?_getD]
  ·rw [if_neg hk,List.getD_eq_getElem?_getD,List.getElem?_append_right (by omega),lt,List.getElem?_drop,show ldf b + 1 + (k - ldf b)=k + 1 by omega,<- List.getD_eq_getElem?_getD]
 obtain ⟨F,hF⟩:∃F,F=sm (gp m) os.length λj=>gm m (a j) (gm m (cf (os.getD j []) (ldf b)) iv):=⟨_,rfl⟩
 have Flt:F < mny m:=by rw [hF]; exact ba2 r λ_ _=>aR6 hm _ _
 have sumB:∀k,(sm (gp m) os.length λj=>gm m (a j) (cf (os.getD j []) k))=gp m (sm (gp m) os.length λj=>gm m (a j) (cf (D j) k)) (gm m F (cf b k)):=λk=>by
  rw [aP4 (g:=λj=>gp m (gm m (a j) (cf (D j) k)) (gm m (cf b k) (gm m (a j) (gm m (cf (os.getD j []) (ldf b)) iv)))) λj hj=>?_,a57 r,a52 r,<- hF,aS9 m (cf b k)]
  rw [<-Dadd j hj k,bz0 h0]
  congr 1
  rw [<-aR1 h0,aS9 m _ (cf b k)]
 have cz5:(∀k,sm (gp m) os.length (λj=>gm m (a j) (cf ((pst m b os).getD j []) k))=0) ↔ ∀k,sm (gp m) os.length (λj=>gm m (a j) (cf (D j) k))=0:=by
  constructor
  ·intro h k
   by_cases e:k=ldf b
   ·exact aR8 r λj hj=>by rw [e,Dp j hj,aS7 m _ h0]
   ·by_cases c:k < ldf b
    ·rw [<-h k]
     exact aP4 λj hj=>by rw [Pcf j hj,if_pos c]
    ·rw [<-h (k - 1)]
     exact aP4 λj hj=>by rw [Pcf j hj,if_neg (by omega),show k - 1 + 1=k by omega]
  ·intro h k
   rw [aP4 λj hj=>by rw [Pcf j hj]]
   exact h _
 rw [cz5]
 constructor
 ·intro h
  obtain ⟨e,e1,e2⟩:=r.ng Flt
  refine ⟨e,e1,λk=>?_⟩
  rw [sumB k,h k,r.z (aR6 hm _ _),<- cb0 h0,e2,aR4 m _ h0]
 ·rintro ⟨e,e1,h⟩
  have key:∀k,gp m (sm (gp m) os.length λj=>gm m (a j) (cf (D j) k)) (gm m (gp m F e) (cf b k))=0:=λk=>by
   rw [cb0 h0,<- be5,<- sumB k]
   exact h k
  have fe:gp m F e=0:=by
   have:=key (ldf b)
   rw [aR8 r λj hj=>by rw [Dp j hj,aS7 m _ h0],r.z (aR6 hm _ _)] at this
   rcases (aZ9 hm (co2 hm Flt e1) hbp).mp this with z | z
   ·exact z
   ·exact absurd z bp
  intro k
  have:=key k
  rw [fe,aR4 m _ h0,aW2 (ba2 r λ_ _=>aR6 hm _ _)] at this
  exact this
theorem bN6 (m:Bool × Nat) (b:List Nat) (os:List (List Nat)):(pst m b os).length=os.length:=by unfold pst; rw [List.length_map]
theorem cn6 (hm:m∈flds) {b:List Nat} {os:List (List Nat)} {h:Nat} (hb:b.length=h) (hos:RT (mny m) h os) (nb:nul b=false):RT (mny m) (h - 1) (pst m b os):=λx hx=>by
 obtain ⟨o,ho,rfl⟩:=List.mem_map.mp hx
 obtain ⟨hp,_⟩:=bK1 nb
 obtain ⟨l1,l2⟩:=hos o ho
 refine ⟨by rw [List.length_append,List.length_take,List.length_drop,List.length_zipWith,l1,hb]; omega,λy hy=>?_⟩
 have:AllLt (mny m) (List.zipWith (λx y=>gln m x (gm m (gm m (o.getD (ldf b) 0) (gmi m (b.getD (ldf b) 0))) y)) o b):=bt8 λx hx y _=>(bb5 hm (l2 x hx) (aR6 hm _ y)).2.1
 rcases List.mem_append.mp hy with z | z
 ·exact this y (List.mem_of_mem_take z)
 ·exact this y (List.mem_of_mem_drop z)
theorem Gs.next (hm:m∈flds) {s:Cs} (G:Gs m C w s) {i:Nat} (hi:i < s.2.length) (nb:nul (s.2.getD i [])=false) (hC:∀j k,C j k < mny m):Gs m C w (kid m w (s,i)):=by
 have r:=rg hm
 have h0:=aP1 m hm
 have hlo:=lo1 hm
 have hle:=G.le
 obtain ⟨h,hrt⟩:=G.rt
 obtain ⟨bl,ba⟩:=hrt _ (aP9 hi [])
 have hdr:RT (mny m) h (s.2.drop (i + 1)):=λx hx=>hrt x (List.mem_of_mem_drop hx)
 have kl:(kid m w (s,i)).2.length=s.2.length - i - 1:=by
  show (pst m _ _).length=_
  rw [bN6,List.length_drop]
  show s.2.length - (i + 1)=_
  omega
 have dl:(s.2.drop (i + 1)).length=s.2.length - i - 1:=by rw [List.length_drop]; omega
 have ko:w - (kid m w (s,i)).2.length=w - s.2.length + i + 1:=by omega
 have dg:∀j,(s.2.drop (i + 1)).getD j []=s.2.getD (i + 1 + j) []:=λj=>by rw [List.getD_eq_getElem?_getD,List.getElem?_drop,<- List.getD_eq_getElem?_getD]
 refine ⟨by omega,?_,λp hp=>?_,λj hj=>?_,⟨h - 1,cn6 hm bl hdr nb⟩,λa ha=>?_,λc hc hz t ht=>?_⟩
 ·refine List.pairwise_append.mpr ⟨G.inc,List.pairwise_singleton _ _,λx hx y hy=>?_⟩
  rw [List.mem_singleton.mp hy]
  have:=G.off x hx
  show x < w - s.2.length + i
  omega
 ·rw [ko]
  rcases List.mem_append.mp hp with z | z
  ·have:=G.off p z; omega
  ·rw [List.mem_singleton.mp z]; exact Nat.lt_succ_self _
 ·rw [ko]
  have:=hj (w - s.2.length + i) (List.mem_append_right _ (List.mem_singleton.mpr rfl))
  omega
 ·have e1:(∀k,sm (gp m) (kid m w (s,i)).2.length (λj=>gm m (a j) (cf ((kid m w (s,i)).2.getD j []) k))=0) ↔ ∃e,e < mny m/\∀k,gp m (sm (gp m) (s.2.length - i - 1) λj=>gm m (a j) (cf (s.2.getD (i + 1 + j) []) k)) (gm m e (cf (s.2.getD i []) k))=0:=by
   have:=cb3 hm bl ba hdr nb ha
   rw [dl] at this
   rw [kl]
   refine this.trans ?_
   constructor
   ·rintro ⟨e,e1,e2⟩
    exact ⟨e,e1,λk=>by rw [<-e2 k,aP4 λj _=>by rw [<-dg j]]⟩
   ·rintro ⟨e,e1,e2⟩
    exact ⟨e,e1,λk=>by rw [<-e2 k,aP4 λj _=>by rw [dg j]]⟩
  rw [e1]
  have al:∀e,e < mny m->∀j,(if j < i then 0 else if j=i then e else a (j - i - 1)) < mny m:=λe he j=>by
   split
   ·omega
   ·split
    ·exact he
    ·exact ha _
  have colS:∀(c:Nat->Nat) (e k:Nat),gp m (sm (gp m) s.2.length λj=>gm m (if j < i then 0 else if j=i then e else a (j - i - 1)) (C (w - s.2.length + j) k)) (Lin m C s.1 c k)=gp m (sm (gp m) (s.2.length - i - 1) λj=>gm m (a j) (C (w - s.2.length + i + 1 + j) k)) (gp m (Lin m C s.1 c k) (gm m e (C (w - s.2.length + i) k))):=λc e k=>by
   rw [bd5 hm hi a (λj=>C (w - s.2.length + j) k),be5,a65 m (gm m e _)]
   congr 1
   exact aP4 λj _=>by rw [show w - s.2.length + (i + 1 + j)=w - s.2.length + i + 1 + j by omega]
  have ln:∀c k,Lin m C (kid m w (s,i)).1 c k=gp m (Lin m C s.1 c k) (gm m (c s.1.length) (C (w - s.2.length + i) k)):=λc k=>be0 hm C s.1 _ c k
  constructor
  ·rintro ⟨e,e1,e2⟩
   obtain ⟨c,c1,c2⟩:=(G.rel _ (al e e1)).mp λk=>by
    rw [bd5 hm hi a (λj=>cf (s.2.getD j []) k)]
    exact e2 k
   refine ⟨λt=>if t=s.1.length then e else c t,λt=>by
    show (if t=s.1.length then e else c t) < mny m
    split
    ·exact e1
    ·exact c1 t,λk=>?_⟩
   rw [ln,ko,kl,if_pos rfl,bs9 (c':=c) λt ht=>if_neg (Nat.ne_of_lt ht),<- colS c e k]
   exact c2 k
  ·rintro ⟨c,c1,c2⟩
   refine ⟨c s.1.length,c1 _,λk=>?_⟩
   have:=(G.rel _ (al _ (c1 s.1.length))).mpr ⟨c,c1,λk=>by
    rw [colS c _ k]
    have:=c2 k
    rw [ln,ko,kl] at this
    exact this⟩ k
   rw [bd5 hm hi a (λj=>cf (s.2.getD j []) k)] at this
   exact this
 ·have ln:∀k,gp m (Lin m C s.1 c k) (gm m (c s.1.length) (C (w - s.2.length + i) k))=0:=λk=>by
   rw [<-be0 hm C s.1 _ c k]
   exact hz k
  have e0:c s.1.length=0:=by
   refine Classical.byContradiction λz=>?_
   have al:∀j,(if j < i then 0 else if j=i then c s.1.length else (λ_=>0) (j - i - 1)) < mny m:=λj=>by
    split
    ·omega
    ·split
     ·exact hc _
     ·show 0 < _; omega
   have z0:∀(n:Nat) (X:Nat->Nat),sm (gp m) n (λj=>gm m ((λ_=>0) j) (X j))=0:=λn X=>aR8 r λ_ _=>aR4 m _ h0
   have:=(G.rel _ al).mpr ⟨c,hc,λk=>by
    rw [bd5 hm hi (λ_=>0) (λj=>C (w - s.2.length + j) k),z0,r.z (aR6 hm _ _),a65]
    exact ln k⟩
   have nn:nul (s.2.getD i [])=true:=nul_iff.mpr λk=>by
    have q:=this k
    rw [bd5 hm hi (λ_=>0) (λj=>cf (s.2.getD j []) k),z0,r.z (aR6 hm _ _)] at q
    rcases (aZ9 hm (hc _) (aV5 hm ba k)).mp q with y | y
    ·exact absurd y z
    ·exact y
   rw [nb] at nn; cases nn
  have hs:∀k,Lin m C s.1 c k=0:=λk=>by
   have:=ln k
   rw [e0,aR4 m _ h0,aW2 (cl6 hm C _ c k)] at this
   exact this
  have hl:(kid m w (s,i)).1.length=s.1.length + 1:=by show (s.1++[_]).length=_; rw [List.length_append]; rfl
  by_cases ct:t < s.1.length
  ·exact G.ind c hc hs t ct
  ·rw [show t=s.1.length by omega]; exact e0
theorem Gs.bound (hm:m∈flds) {s:Cs} (G:Gs m C w s) {i:Nat} (hi:i < s.2.length) (hC:∀j k,C j k < mny m):nul (s.2.getD i [])=true ↔ ∃c:Nat->Nat,(∀t,c t < mny m)/\c s.1.length=1/\∀k,Lin m C (s.1++[w - s.2.length + i]) c k=0:=by
 have r:=rg hm
 have h0:=aP1 m hm
 have hlo:=lo1 hm
 obtain ⟨h,hrt⟩:=G.rt
 obtain ⟨bl,ba⟩:=hrt _ (aP9 hi [])
 have al:∀j,(if j < i then 0 else if j=i then 1 else (λ_=>0) (j - i - 1)) < mny m:=λj=>by
  split
  ·omega
  ·split
   ·omega
   ·show 0 < _; omega
 have z0:∀(n:Nat) (X:Nat->Nat),sm (gp m) n (λj=>gm m ((λ_=>0) j) (X j))=0:=λn X=>aR8 r λ_ _=>aR4 m _ h0
 have e1:nul (s.2.getD i [])=true ↔ ∀k,sm (gp m) s.2.length (λj=>gm m (if j < i then 0 else if j=i then 1 else (λ_=>0) (j - i - 1)) (cf (s.2.getD j []) k))=0:=by
  rw [nul_iff]
  refine forall_congr' λk=>?_
  rw [bd5 hm hi (λ_=>0) (λj=>cf (s.2.getD j []) k),z0,r.z (aR6 hm _ _),a51 (aV5 hm ba k)]
 rw [e1,G.rel _ al]
 constructor
 ·rintro ⟨c,c1,c2⟩
  refine ⟨λt=>if t=s.1.length then 1 else c t,λt=>by
   show (if t=s.1.length then 1 else c t) < mny m
   split
   ·omega
   ·exact c1 t,if_pos rfl,λk=>?_⟩
  rw [be0 hm,if_pos rfl,bs9 (c':=c) λt ht=>if_neg (Nat.ne_of_lt ht),a65,<- c2 k,bd5 hm hi (λ_=>0) (λj=>C (w - s.2.length + j) k),z0,r.z (aR6 hm _ _)]
 ·rintro ⟨c,c1,c2,c3⟩
  refine ⟨c,c1,λk=>?_⟩
  have:=c3 k
  rw [be0 hm,c2] at this
  rw [bd5 hm hi (λ_=>0) (λj=>C (w - s.2.length + j) k),z0,r.z (aR6 hm _ _),a65]
  exact this
end
end L3
namespace L3
open PySem L2 Mf
noncomputable def lxl:List Nat->List Nat->Prop
 | a :: as,b :: bs=>a < b\/(a=b/\lxl as bs)
 | _,_=>False
theorem bN1:∀l:List Nat,¬ lxl l l
 | [],h=>h
 | a :: l,h=>h.elim (λz=>Nat.lt_irrefl _ z) λz=>bN1 l z.2
theorem bA6:∀a b:List Nat,lxl a b->¬ lxl b a
 | [],_,h,_=>h
 | _ :: _,[],h,_=>h
 | a :: as,b :: bs,h,h'=>by
  rcases h with h | ⟨rfl,h⟩
  ·rcases h' with h' | ⟨e,_⟩
   ·omega
   ·omega
  ·rcases h' with h' | ⟨_,h'⟩
   ·omega
   ·exact bA6 as bs h h'
theorem bM5:∀(a b:List Nat) (x y:List Nat),a.length=b.length->lxl a b->lxl (a++x) (b++y)
 | [],_,_,_,_,h=>h.elim
 | _ :: _,[],_,_,_,h=>h.elim
 | a :: as,b :: bs,x,y,hl,h=>by
  rcases h with h | ⟨e,h⟩
  ·exact .inl h
  ·exact .inr ⟨e,bM5 as bs x y (by simpa using hl) h⟩
theorem bA5:∀(a:List Nat) (x y:Nat),x < y->lxl (a++[x]) (a++[y])
 | [],_,_,h=>.inl h
 | _ :: as,x,y,h=>.inr ⟨rfl,bA5 as x y h⟩
noncomputable def Inc (w:Nat) (S:List Nat):Prop:=S.Pairwise (· < ·)/\∀x∈S,x < w
theorem bE8:∀(S:List Nat) (lo w:Nat),S.Pairwise (· < ·)->(∀x∈S,lo<=x/\x < w)->S.length<=w - lo
 | [],_,_,_,_=>Nat.zero_le _
 | a :: S,lo,w,hp,h=>by
  rw [List.pairwise_cons] at hp
  have ih:=bE8 S (a + 1) w hp.2 λx hx=>⟨hp.1 x hx,(h x (List.mem_cons_of_mem _ hx)).2⟩
  have ha:=h a (List.mem_cons_self ..)
  rw [List.length_cons]
  omega
theorem Inc.len {S:List Nat} {w:Nat} (h:Inc w S):S.length<=w:=bE8 S 0 w h.1 λx hx=>⟨Nat.zero_le _,h.2 x hx⟩
theorem Inc.take {S:List Nat} {w:Nat} (h:Inc w S) (k:Nat):Inc w (S.take k):=⟨h.1.sublist (List.take_sublist k S),λx hx=>h.2 x (List.mem_of_mem_take hx)⟩
noncomputable def img (w:Nat) (z:Cs × Nat):List Nat:=z.1.1++[w - z.1.2.length + z.2]
structure Lv (m:Bool × Nat) (C:Nat->Nat->Nat) (w k:Nat) (l:List Cs):Prop where
 gs:∀s∈l,Gs m C w s/\s.1.length=k
 all:∀S,Inc w S->S.length=k->∃s∈l,s.1=S
 ord:(l.map (·.1)).Pairwise lxl
theorem mem_prs {l:List Cs} {z:Cs × Nat}:z∈prs l ↔ z.1∈l/\z.2 < z.1.2.length:=by
 unfold prs
 rw [List.mem_flatMap]
 constructor
 ·rintro ⟨s,hs,hz⟩
  obtain ⟨i,hi,rfl⟩:=List.mem_map.mp hz
  exact ⟨hs,List.mem_range.mp hi⟩
 ·rintro ⟨h1,h2⟩
  exact ⟨z.1,h1,List.mem_map.mpr ⟨z.2,List.mem_range.mpr h2,rfl⟩⟩
section
variable {m:Bool × Nat} {C:Nat->Nat->Nat} {w:Nat}
theorem bu9 {k:Nat}:∀{l:List Cs},(∀s∈l,s.1.length=k)->(l.map (·.1)).Pairwise lxl->((prs l).map (img w)).Pairwise lxl
 | [],_,_=>List.Pairwise.nil
 | s :: l,hl,ho=>by
  rw [List.map_cons,List.pairwise_cons] at ho
  show (((bh9 s)++prs l).map (img w)).Pairwise lxl
  rw [List.map_append,List.pairwise_append]
  refine ⟨?_,bu9 (λs hs=>hl s (List.mem_cons_of_mem _ hs)) ho.2,λa ha b hb=>?_⟩
  ·unfold bh9
   rw [List.map_map]
   refine List.pairwise_map.mpr (List.pairwise_lt_range.imp λ{a b} hab=>?_)
   exact bA5 s.1 _ _ (show w - s.2.length + a < w - s.2.length + b by omega)
  ·obtain ⟨z,hz,rfl⟩:=List.mem_map.mp ha
   obtain ⟨i,_,rfl⟩:=List.mem_map.mp hz
   obtain ⟨y,hy,rfl⟩:=List.mem_map.mp hb
   obtain ⟨h1,_⟩:=mem_prs.mp hy
   exact bM5 _ _ _ _ (by rw [hl s (List.mem_cons_self ..),hl _ (List.mem_cons_of_mem _ h1)]) (ho.1 _ (List.mem_map.mpr ⟨_,h1,rfl⟩))
theorem Lv.meets (L:Lv m C w k l) {S:List Nat} (hS:Inc w S) (hk:S.length=k + 1):∃z∈prs l,img w z=S:=by
 have e:S=S.take k++[S.getD k 0]:=by
  have h1:S.drop k=[S.getD k 0]:=by
   rw [List.drop_eq_getElem_cons (by omega),List.drop_of_length_le (by omega),List.getD_eq_getElem?_getD,List.getElem?_eq_getElem (by omega)]; rfl
  conv=>lhs; rw [<-List.take_append_drop k S,h1]
 obtain ⟨s,hs,es⟩:=L.all _ (hS.take k) (by rw [List.length_take]; omega)
 obtain ⟨G,_⟩:=L.gs s hs
 have hj:∀p∈s.1,p < S.getD k 0:=λp hp=>by
  rw [es] at hp
  have:=hS.1
  rw [e,List.pairwise_append] at this
  exact this.2.2 p hp _ (List.mem_singleton.mpr rfl)
 have h1:=G.nx _ hj
 have h2:=hS.2 (S.getD k 0) (aP9 (by omega) 0)
 have h3:=G.le
 refine ⟨(s,S.getD k 0 - (w - s.2.length)),mem_prs.mpr ⟨hs,?_⟩,?_⟩
 ·show S.getD k 0 - (w - s.2.length) < s.2.length
  omega
 ·show s.1++[w - s.2.length + (S.getD k 0 - (w - s.2.length))]=S
  rw [show w - s.2.length + (S.getD k 0 - (w - s.2.length))=S.getD k 0 by omega,es]
  exact e.symm
theorem Lv.next (hm:m∈flds) (hC:∀j k,C j k < mny m) (L:Lv m C w k l) (hn:∀z∈prs l,bU7 z=false):Lv m C w (k + 1) ((prs l).map (kid m w)) where
 gs:=λs hs=>by
  obtain ⟨z,hz,rfl⟩:=List.mem_map.mp hs
  obtain ⟨h1,h2⟩:=mem_prs.mp hz
  obtain ⟨G,hl⟩:=L.gs _ h1
  refine ⟨G.next hm h2 (hn z hz) hC,?_⟩
  show (z.1.1++[_]).length=_
  rw [List.length_append,hl]; rfl
 all:=λS hS hk=>by
  obtain ⟨z,hz,e⟩:=L.meets hS hk
  exact ⟨kid m w z,List.mem_map.mpr ⟨z,hz,rfl⟩,e⟩
 ord:=by
  rw [List.map_map]
  exact bu9 (λs hs=>(L.gs s hs).2) L.ord
theorem bO7 (hm:m∈flds) (hC:∀j k,C j k < mny m):∀(f k:Nat) (l:List Cs),Lv m C w k l->w + 1<=f + k ->
  match fbs m w f l with
  | none=>∀S,Inc w S->k<=S.length->Ind m C S
  | some F=>Inc w F/\k < F.length/\(∃c:Nat->Nat,(∀t,c t < mny m)/\c (F.length - 1)=1/\∀j,Lin m C F c j=0)/\∀S,Inc w S->k<=S.length->S.length < F.length\/(S.length=F.length/\lxl S F)->Ind m C S
 | 0,k,l,L,hf=>λS hS hk=>absurd hS.len (by omega)
 | f + 1,k,l,L,hf=>by
  have here:∀S,Inc w S->S.length=k->Ind m C S:=λS hS hk=>by
   obtain ⟨s,hs,rfl⟩:=L.all S hS hk
   exact (L.gs s hs).1.ind
  rw [fbs]
  by_cases l0:l=[]
  ·rw [if_pos l0]
   subst l0
   intro S hS hk
   obtain ⟨s,hs,_⟩:=L.all (S.take k) (hS.take k) (by rw [List.length_take]; omega)
   cases hs
  ·rw [if_neg l0]
   cases e:(prs l).find? bU7 with
   | some z =>
    obtain ⟨hz,as,bs,eL,hno⟩:=List.find?_eq_some_iff_append.mp e
    obtain ⟨h1,h2⟩:=mem_prs.mp (List.mem_of_find?_eq_some e)
    obtain ⟨G,hl⟩:=L.gs _ h1
    have hle:=G.le
    have fl:(img w z).length=k + 1:=by show (z.1.1++[_]).length=_; rw [List.length_append,hl]; rfl
    refine ⟨⟨?_,λx hx=>?_⟩,by show k < (img w z).length; omega,?_,λS hS hk hc=>?_⟩
    ·refine List.pairwise_append.mpr ⟨G.inc,List.pairwise_singleton _ _,λx hx y hy=>?_⟩
     rw [List.mem_singleton.mp hy]
     have:=G.off x hx
     omega
    ·rcases List.mem_append.mp hx with q | q
     ·have:=G.off x q; omega
     ·rw [List.mem_singleton.mp q]; omega
    ·obtain ⟨c,c1,c2,c3⟩:=(G.bound hm h2 hC).mp hz
     refine ⟨c,c1,?_,c3⟩
     show c ((img w z).length - 1)=1
     rw [fl,Nat.add_sub_cancel,<- hl]
     exact c2
    ·by_cases ck:S.length=k
     ·exact here S hS ck
     have cl:S.length=k + 1/\lxl S (img w z):=by
      rcases hc with q | ⟨q1,q2⟩
      ·exact absurd (show S.length < (img w z).length from q) (by omega)
      ·exact ⟨(show S.length=(img w z).length from q1).trans fl,q2⟩
     obtain ⟨y,hy,ey⟩:=L.meets hS cl.1
     obtain ⟨y1,y2⟩:=mem_prs.mp hy
     obtain ⟨Gy,_⟩:=L.gs _ y1
     cases ny:bU7 y with
     | false =>
      have:=(Gy.next hm y2 ny hC).ind
      rwa [show (kid m w (y.1,y.2)).1=S from ey] at this
     | true =>
      exfalso
      have od:=bu9 (w:=w) (λs hs=>(L.gs s hs).2) L.ord
      rw [eL] at hy od
      rw [List.map_append,List.map_cons,List.pairwise_append] at od
      have od2:=(List.pairwise_cons.mp od.2.1).1
      rcases List.mem_append.mp hy with q | q
      ·have:=hno y q
       rw [ny] at this; simp at this
      ·rcases List.mem_cons.mp q with q | q
       ·rw [q] at ey
        rw [<-ey] at cl
        exact bN1 _ cl.2
       ·have:=od2 _ (List.mem_map.mpr ⟨y,q,rfl⟩)
        rw [ey] at this
        exact bA6 _ _ this cl.2
   | none =>
    have hn:∀z∈prs l,bU7 z=false:=λz hz=>by
     have:=List.find?_eq_none.mp e z hz
     simpa using this
    have ih:=bO7 hm hC f (k + 1) _ (L.next hm hC hn) (by omega)
    dsimp only
    split
    ·rename_i e2
     rw [e2] at ih
     intro S hS hk
     by_cases ck:S.length=k
     ·exact here S hS ck
     ·exact ih S hS (by omega)
    ·rename_i F e2
     rw [e2] at ih
     obtain ⟨i1,i2,i3,i4⟩:=ih
     refine ⟨i1,by omega,i3,λS hS hk hc=>?_⟩
     by_cases ck:S.length=k
     ·exact here S hS ck
     ·exact i4 S hS (by omega) hc
end
end L3
namespace L3
open PySem L2 Mf
noncomputable def a97 (T:List (List Nat)) (j k:Nat):Nat:=cf (T.getD k []) j
theorem bv7 {m:Bool × Nat} (hm:m∈flds) {w:Nat} {T:List (List Nat)} (hT:RT (mny m) w T) (j k:Nat):a97 T j k < mny m:=by
 unfold a97
 by_cases hk:k < T.length
 ·exact aV5 hm (hT _ (aP9 hk [])).2 j
 ·have e:T.getD k []=[]:=by rw [List.getD_eq_getElem?_getD,List.getElem?_eq_none (by omega)]; rfl
  rw [e]
  have:=lo1 hm
  show 0 < _
  omega
theorem Lv.start {m:Bool × Nat} (hm:m∈flds) {T:List (List Nat)} (hw:0 < wof T) (hT:RT (mny m) (wof T) T):Lv m (a97 T) (wof T) 0 [([],trn T)]:=by
 have r:=rg hm
 obtain ⟨t1,t2,t3⟩:=b54 (Nat.lt_trans Nat.zero_lt_one (lo1 hm)) hw hT
 refine ⟨λs hs=>?_,λS _ h=>⟨_,List.mem_singleton.mpr rfl,(List.length_eq_zero_iff.mp h).symm⟩,List.pairwise_singleton _ _⟩
 rw [List.mem_singleton.mp hs]
 refine ⟨⟨Nat.le_of_eq t1,List.Pairwise.nil,λp hp=>absurd hp (List.not_mem_nil),λj _=>by show wof T - (trn T).length<=j; omega,⟨_,t3⟩,λa ha=>?_,λc _ _ t ht=>absurd ht (by show ¬ t < 0; omega)⟩,rfl⟩
 have e:∀k,sm (gp m) (trn T).length (λi=>gm m (a i) (cf ((trn T).getD i []) k))=sm (gp m) (trn T).length λi=>gm m (a i) (a97 T (wof T - (trn T).length + i) k):=λk=>aP4 λi hi=>by
  rw [bZ8 (by omega),cl5,show wof T - (trn T).length + i=i by omega]; rfl
 have z:∀c k,Lin m (a97 T) [] c k=0:=λ_ _=>rfl
 constructor
 ·intro h
  refine ⟨λ_=>0,λ_=>by have:=lo1 hm; show 0 < _; omega,λk=>?_⟩
  rw [z,aW2 (ba2 r λ_ _=>aR6 hm _ _),<- e k]
  exact h k
 ·rintro ⟨c,_,h⟩ k
  have:=h k
  rw [z,aW2 (ba2 r λ_ _=>aR6 hm _ _),<- e k] at this
  exact this
noncomputable def fbN (m:Bool × Nat) (T:List (List Nat)):Option (List Nat):=fbs m (wof T) (wof T + 1) [([],trn T)]
section
variable {m:Bool × Nat} {C:Nat->Nat->Nat}
theorem bj0 (F:List Nat) (t0 t:Nat):(F.eraseIdx t0).getD t 0=if t < t0 then F.getD t 0 else F.getD (t + 1) 0:=by
 rw [List.getD_eq_getElem?_getD,List.getElem?_eraseIdx]
 split
 ·rw [<-List.getD_eq_getElem?_getD]
 ·rw [<-List.getD_eq_getElem?_getD]
theorem bJ6 (hm:m∈flds) {F:List Nat} {t0:Nat} (h:t0 < F.length) {x:Nat->Nat} (hx:x t0=0) (k:Nat):Lin m C (F.eraseIdx t0) (λt=>if t < t0 then x t else x (t + 1)) k=Lin m C F x k:=by
 have r:=rg hm
 unfold Lin
 obtain ⟨d,hd⟩:∃d,F.length=t0 + 1 + d:=⟨F.length - t0 - 1,by omega⟩
 rw [List.length_eraseIdx_of_lt h,hd,show t0 + 1 + d - 1=t0 + d by omega,aZ2 r t0 d λ_ _=>aR6 hm _ _,aZ2 r (t0 + 1) d λ_ _=>aR6 hm _ _,sm,hx,aR4 m _ (aP1 m hm),aW2 (ba2 r λ_ _=>aR6 hm _ _)]
 congr 1
 ·exact aP4 λt ht=>by rw [if_pos ht,bj0,if_pos ht]
 ·exact aP4 λt _=>by rw [if_neg (by omega),bj0,if_neg (by omega),show t0 + t + 1=t0 + 1 + t by omega]
theorem Inc.erase {w:Nat} {F:List Nat} (h:Inc w F) (t0:Nat):Inc w (F.eraseIdx t0):=⟨h.1.sublist (List.eraseIdx_sublist F t0),λx hx=>h.2 x (List.mem_of_mem_eraseIdx hx)⟩
theorem b68 (hm:m∈flds) {w:Nat} {F:List Nat} (hF:Inc w F) (hS:∀S,Inc w S->S.length < F.length->Ind m C S) {x:Nat->Nat} (hx:∀t,x t < mny m) (h:∀k,Lin m C F x k=0) {t1:Nat} (h1:t1 < F.length) (x1:x t1≠0):∀t,t < F.length->x t≠0:=λt0 h0 z=>by
 have l1:(F.eraseIdx t0).length=F.length - 1:=List.length_eraseIdx_of_lt h0
 have I:=hS _ (hF.erase t0) (by omega) (λt=>if t < t0 then x t else x (t + 1)) (λt=>by
  show (if t < t0 then x t else x (t + 1)) < mny m
  split
  ·exact hx _
  ·exact hx _) λk=>by rw [bJ6 hm h0 z]; exact h k
 by_cases c:t1 < t0
 ·have:=I t1 (by omega)
  rw [if_pos c] at this
  exact x1 this
 ·have ne:t1≠t0:=λq=>x1 (q ▸ z)
  have:=I (t1 - 1) (by omega)
  rw [if_neg (by omega),show t1 - 1 + 1=t1 by omega] at this
  exact x1 this
end
noncomputable def pck (T:List (List Nat)) (F:List Nat):List (List Nat):=T.map λr=>F.map λj=>r.getD j 0
theorem by6 {N w:Nat} {T:List (List Nat)} {F:List Nat} (h0:0 < N) (hT:RT N w T):RT N F.length (pck T F)/\(pck T F).length=T.length:=by
 refine ⟨λx hx=>?_,by unfold pck; rw [List.length_map]⟩
 obtain ⟨r,hr,rfl⟩:=List.mem_map.mp hx
 refine ⟨by rw [List.length_map],λy hy=>?_⟩
 obtain ⟨j,_,rfl⟩:=List.mem_map.mp hy
 exact (hT r hr).2.getD h0 j
theorem cl8 {T:List (List Nat)} {F:List Nat} {k t:Nat} (hk:k < T.length) (ht:t < F.length):cf ((pck T F).getD k []) t=a97 T (F.getD t 0) k:=by
 unfold pck a97 cf
 rw [a90 _ hk [] [],a90 _ ht 0 0]
theorem bI3 (m:Bool × Nat) {T:List (List Nat)} {F:List Nat} {k:Nat} (hk:k < T.length) (x:Nat->Nat):dt m F.length (cf ((pck T F).getD k [])) x=Lin m (a97 T) F x k:=by
 unfold dt Lin
 exact aP4 λt ht=>by rw [cl8 hk ht,aS9]
theorem cy4 {m:Bool × Nat} (hm:m∈flds) {w:Nat} {T:List (List Nat)} {F:List Nat} (hT:RT (mny m) w T) (hT0:T≠[]) (hF:Inc w F) (hS:∀S,Inc w S->S.length < F.length->Ind m (a97 T) S) {c:Nat->Nat} (c1:∀t,c t < mny m) (c2:c (F.length - 1)=1) (c3:∀k,Lin m (a97 T) F c k=0) (hF0:0 < F.length) :
  ∃f fs,frp (ba3 m (pck T F)) F.length=f :: fs/\(kro m (ba3 m (pck T F)) F.length f).length=F.length/\AllLt (mny m) (kro m (ba3 m (pck T F)) F.length f)/\(∀t,t < F.length->cf (kro m (ba3 m (pck T F)) F.length f) t≠0)/\∀k,Lin m (a97 T) F (cf (kro m (ba3 m (pck T F)) F.length f)) k=0:=by
 have hlo:=lo1 hm
 obtain ⟨p1,p2⟩:=by6 (F:=F) (by omega) hT
 have pn:pck T F≠[]:=λz=>hT0 (by unfold pck at z; exact List.map_eq_nil_iff.mp z)
 have eW:=bn0 p1 pn
 rw [<-eW] at p1
 obtain ⟨⟨H,I⟩,iR,il,sp⟩:=bn7 hm p1
 have dz:∀x:Nat->Nat,(∀k,Lin m (a97 T) F x k=0)->∀r∈pck T F,dt m F.length (cf r) x=0:=λx hx r hr=>by
  obtain ⟨k,hk,rfl⟩:=List.getElem_of_mem hr
  have:=bI3 m (T:=T) (F:=F) (k:=k) (by omega) x
  rw [List.getD_eq_getElem?_getD,List.getElem?_eq_getElem hk] at this
  rw [show dt m F.length (cf (pck T F)[k]) x=_ from this]
  exact hx k
 cases ef:frp (ba3 m (pck T F)) F.length with
 | nil =>
  exfalso
  have hz:∀i,i < (ba3 m (pck T F)).length->dt m (wof (pck T F)) (cf ((ba3 m (pck T F)).getD i [])) c=0:=λi hi=>by
   rw [eW]
   exact SpT.ann hm (n:=F.length) (y:=c) (dz c c3) ((sp _).mpr (SpT.of (aP9 hi [])))
  have:=RR.ker hm iR I c1 hz (k:=F.length - 1) (by omega)
  rw [eW,ef,c2] at this
  exact absurd this (by show ¬ (1=0); omega)
 | cons f fs =>
  have fm:f∈frp (ba3 m (pck T F)) (wof (pck T F)):=by rw [eW,ef]; exact List.mem_cons_self ..
  obtain ⟨k1,k2,k3,_⟩:=bp4 hm iR I fm
  rw [eW] at k1 k2 k3
  have fl:f < F.length:=by
   have:=List.mem_range.mp (List.mem_filter.mp fm).1
   omega
  have lz:∀k,Lin m (a97 T) F (cf (kro m (ba3 m (pck T F)) F.length f)) k=0:=λk=>by
   by_cases hk:k < T.length
   ·have:=cb4 hm p1 fm _ (aP9 (show k < (pck T F).length by omega) [])
    rw [eW,bI3 m hk] at this
    exact this
   ·refine aR8 (rg hm) λt _=>?_
    have e:a97 T (F.getD t 0) k=0:=by
     unfold a97
     rw [show T.getD k []=[] by rw [List.getD_eq_getElem?_getD,List.getElem?_eq_none (by omega)]; rfl]; rfl
    rw [e,aS7 m _ (aP1 m hm)]
  exact ⟨f,fs,rfl,k1,k2,b68 hm hF hS (aV5 hm k2) lz fl (by rw [k3]; omega),lz⟩
theorem bs4:∀(n lo w:Nat) (F:List Nat),F.Pairwise (· < ·)->(∀x∈F,lo<=x)->F.length=n->F=List.range' lo n\/lxl (List.range' lo n) F
 | 0,_,_,F,_,_,h=>.inl (List.length_eq_zero_iff.mp h)
 | n + 1,lo,w,F,hp,hl,h=>by
  cases F with
  | nil=>cases h
  | cons a F =>
   rw [List.pairwise_cons] at hp
   have ha:=hl a (List.mem_cons_self ..)
   rw [List.range'_succ]
   by_cases e:lo=a
   ·subst e
    rcases bs4 n (lo + 1) w F hp.2 (λx hx=>hp.1 x hx) (by simpa using h) with q | q
    ·exact .inl (by rw [q])
    ·exact .inr (.inr ⟨rfl,q⟩)
   ·exact .inr (.inl (by omega))
theorem bU2 {o:Bool} {G:List (List Nat)} {i:Nat} {d:D} (hd:(aP8 o G)[i]?=some d):∃hi:i < G.length,d=.lst o (aO8 G[i]):=by
 unfold aP8 at hd
 rw [List.getElem?_map] at hd
 by_cases hi:i < G.length
 ·rw [List.getElem?_eq_getElem hi] at hd
  exact ⟨hi,(Option.some.inj hd).symm⟩
 ·rw [List.getElem?_eq_none (by omega)] at hd; cases hd
end L3
namespace L3
open PySem L2 PySem.Spec PyProof.Rows
section
variable {B:Bs} {F H:Hp} {σ:L2.St} {δ:Dl} {ts:List (D × V)}
theorem Cur.item0 {p:Addr} {d:D} {xs:List D} {ws:List V} {z:V} (c:Cur B F H σ δ ((.lst true (d :: xs),.ref p) :: ts)) (e1:H p=some (.lst (z :: ws))):Cur B F H σ δ ((d,z) :: ts):=by
 refine Cur.pack (ps:=[(.lst true (d :: xs),.ref p)]) c (Same.refl _) λA1 r1 nd=>?_
 have r1:R F H [.lst true (d :: xs)] [.ref p] A1:=r1
 cases r1 with
 | @own _ wx _ Ax _ _ Bx hx fx rx rc =>
  cases rc
  rw [e1] at hx; cases hx
  obtain ⟨v,vs',B1,B2,e,rfl,h1,h2⟩:=R.uncons rx
  obtain ⟨rfl,rfl⟩:=List.cons.inj e
  rw [List.append_nil,List.nodup_cons] at nd
  exact ⟨B1,h1,(nd_app.mp nd.2).1,λa ha=>.inl (by simp [ha])⟩
end
section
variable {X:Cx} {a:Expr} {ta:TEd} {pos p2:Pos} {tk:Nat}
noncomputable def ch4 (ta:TEd):TEd:=λδ Q=>ta δ λx δ1=>∃d xs,x=.lst true (d :: xs)/\Q d δ1
theorem cv5 (ha:PE X a (lE ta)) (hs:bt7 (.Constant (.int 0) tk p2)):PE X (.Subscript a (.Constant (.int 0) tk p2) pos) (lE (ch4 ta)) :=
 aQ6 (ck4 ix_list ha bk1 hs) λσ H Q ⟨B,F,δ,ts,Qd,c,q,k⟩=>⟨B,F,δ,ts,_,c,q,λx δ1 v F1 H1 q1 f1 h1 c1=>by
  obtain ⟨d,xs,rfl,hq⟩:=q1
  obtain ⟨p,ws,rfl,e1,s1⟩:=a69 c1.top c1.ext
  obtain ⟨z,vs,rfl,_,_⟩:=S.uncons s1
  exact ⟨p,_,0,z,rfl,rfl,bh0 (.inl e1),(by unfold atI; rw [bA8 (Int.le_refl 0) (by show 0 < (z :: vs).length; simp)]; rfl),k _ δ1 z F1 H1 hq f1 h1 (c1.item0 e1)⟩⟩
end
end L3
namespace L3
open PySem L2 PySem.Spec PyProof.Rows
section
variable {X:Cx} {a b:Expr} {ta tb:TEd} {elts:List Expr} {x1:Nat} {tpos p pos:Pos}
noncomputable def bE2 (ta tb:TEd):TId:=λδ Q=>ta δ λd1 δ1=>tb δ1 λd2 δ2=>∃xs ys,isL d1=some xs/\d2=.lst true ys/\d1.pl=true/\Q true (bc0 xs (ys.map D.sh)) δ2
theorem cp5 (hg:Gl X "zip") (hm:X.mg "zip"=none) (ha:PE X a (lB ta)) (hb:PE X b (lE tb)) (hs:starEach [a,b] X.env=[(false,eval a X.env),(false,eval b X.env)]:=by rfl) (hs2:starEach [b] X.env=[(false,eval b X.env)]:=by rfl)
  (hs3:starEach [a,b] X.env=(false,eval a X.env) :: starEach [b] X.env:=by rfl) (hs4:starEach [b] X.env=(false,eval b X.env) :: starEach [] X.env:=by rfl) :
  PI X (.Tuple elts x1 tpos) (.Call (.Name "zip" p) [a,b] [] pos) (lI (bE2 ta tb)) :=
 a96 (b52 hg hm (aS1 ha (aS1 hb a02 hs4) hs3) hs hs2) λσ H Q ⟨B,F,δ,ts,Qd,c,q,k⟩=>⟨B,F,δ,ts,_,c,q,λd1 δ1 v1 F1 H1 q1 f1 h1 c1 s1=>⟨B,F1,δ1,ts,_,c1,q1,λd2 δ2 v2 F2 H2 q2 f2 h2 c2=>by
  obtain ⟨xs,ys,i1,rfl,hp,hq⟩:=q2
  obtain ⟨F3,f3,c3⟩:=c2.frzWith
  have tp:=c3.top
  have s1':=(s1.mono f2 h2).mono f3 (Same.refl _)
  have e2:=c3.ext
  have sn:=aW4 e2
  have pl2:(D.lst true ys).sh.pl=true:=by
   rw [aT6]
   cases tp with
   | @shr _ _ _ _ _ hp' r' _ =>
    have z:=r'.pl
    rw [bI4] at z
    rw [aW6,z]; rfl
  obtain ⟨p1,w1,rfl,r1,t1,u1⟩:=ba7 s1' e2 i1
  obtain ⟨p2,w2,rfl,r2,t2,u2⟩:=ba7 (xs:=ys.map D.sh) tp e2 (by rw [aT6]; rfl)
  refine ⟨p1,p2,rfl,⟨w1,.inl r1⟩,⟨w2,.inl r2⟩,k _ _ δ2 _ _ H2 hq (((f1.trans f2).trans f3).trans sn) (h1.trans h2) c3.pop.snap ?_ λz=>?_⟩
  ·rw [bt6]
   exact by2 r1 t1 r2 t2 (Full.refl _)
  ·obtain ⟨a1,a2,a3⟩:=u1 hp
   obtain ⟨b1,b2,b3⟩:=u2 pl2
   exact ⟨bH0 a1 b1,by2 (aT7 a2 sn) (a3.shared sn (Same.refl _)) (aT7 b2 sn) (b3.shared sn (Same.refl _)) aZ1⟩⟩⟩
end
end L3
namespace L3
open PySem L2 Mf
section
variable {m:Bool × Nat}
theorem ca8 (hm:m∈flds) {T:List (List Nat)} (hw:0 < wof T) (hT:RT (mny m) (wof T) T) (h:fbN m T=none):∀S,Inc (wof T) S->Ind m (a97 T) S:=by
 have:=bO7 hm (bv7 hm hT) (wof T + 1) 0 _ (Lv.start hm hw hT) (by omega)
 unfold fbN at h
 rw [h] at this
 exact λS hS=>this S hS (Nat.zero_le _)
theorem bg1 (hm:m∈flds) {T:List (List Nat)} (hw:0 < wof T) (hT:RT (mny m) (wof T) T) {F:List Nat} (h:fbN m T=some F):Inc (wof T) F/\0 < F.length/\(∃c:Nat->Nat,(∀t,c t < mny m)/\c (F.length - 1)=1/\∀j,Lin m (a97 T) F c j=0)/\∀S,Inc (wof T) S->S.length < F.length\/(S.length=F.length/\lxl S F)->Ind m (a97 T) S:=by
 have:=bO7 hm (bv7 hm hT) (wof T + 1) 0 _ (Lv.start hm hw hT) (by omega)
 unfold fbN at h
 rw [h] at this
 obtain ⟨a,b,c,d⟩:=this
 exact ⟨a,b,c,λS hS=>d S hS (Nat.zero_le _)⟩
theorem b59 (hm:m∈flds) {w:Nat}:∀(F s x:List Nat),F.length=s.length->F.Pairwise (· < ·)->(∀p∈F,p < w)->x.length=w->AllLt (mny m) x->AllLt (mny m) s->(∀p∈F,cf x p=0) ->
  ((F.zip s).foldl (λr z=>r.set z.1 z.2) x).length=w/\AllLt (mny m) ((F.zip s).foldl (λr z=>r.set z.1 z.2) x)/\(∀p,p ∉ F->cf ((F.zip s).foldl (λr z=>r.set z.1 z.2) x) p=cf x p)/\(∀t,t < F.length->cf ((F.zip s).foldl (λr z=>r.set z.1 z.2) x) (F.getD t 0)=cf s t) /\
  ∀r:Nat->Nat,dt m w r (cf ((F.zip s).foldl (λr z=>r.set z.1 z.2) x))=gp m (dt m w r (cf x)) (sm (gp m) F.length λt=>gm m (r (F.getD t 0)) (cf s t))
 | [],s,x,_,_,_,h1,h2,_,_=>⟨h1,h2,λ_ _=>rfl,λt ht=>(nomatch ht),λr=>(aW2 (cs2 hm w r _)).symm⟩
 | p :: F,[],x,hl,_,_,_,_,_,_=>nomatch hl
 | p :: F,v :: s,x,hl,hp,hw,h1,h2,h3,hz=>by
  rw [List.pairwise_cons] at hp
  have pw:=hw p (List.mem_cons_self ..)
  have hv:v < mny m:=h3 v (List.mem_cons_self ..)
  have cs:∀j,cf (x.set p v) j=if j=p then v else cf x j:=ck0 (by omega)
  obtain ⟨a1,a2,a3,a4,a5⟩:=b59 hm F s (x.set p v) (by simpa using hl) hp.2 (λq hq=>hw q (List.mem_cons_of_mem _ hq)) (by rw [List.length_set]; exact h1) (λy hy=>by
   rcases List.mem_or_eq_of_mem_set hy with h | h
   ·exact h2 y h
   ·rw [h]; exact hv) (λy hy=>h3 y (List.mem_cons_of_mem _ hy)) (λq hq=>by
   rw [cs,if_neg (by have:=hp.1 q hq; omega)]
   exact hz q (List.mem_cons_of_mem _ hq))
  have pF:p ∉ F:=λh=>Nat.lt_irrefl _ (hp.1 p h)
  refine ⟨a1,a2,λq hq=>?_,λt ht=>?_,λr=>?_⟩
  ·rw [List.mem_cons,not_or] at hq
   show cf ((F.zip s).foldl (λr z=>r.set z.1 z.2) (x.set p v)) q=_
   rw [a3 q hq.2,cs,if_neg hq.1]
  ·cases t with
   | zero =>
    show cf ((F.zip s).foldl (λr z=>r.set z.1 z.2) (x.set p v)) p=v
    rw [a3 p pF,cs,if_pos rfl]
   | succ t=>exact a4 t (by simpa using ht)
  ·show dt m w r (cf ((F.zip s).foldl (λr z=>r.set z.1 z.2) (x.set p v)))=_
   rw [a5 r]
   have e1:dt m w r (cf (x.set p v))=gp m (dt m w r (cf x)) (gm m (r p) v):=by
    have:cf (x.set p v)=λk=>gp m (cf x k) (if k=p then v else 0):=by
     funext k
     rw [cs]
     by_cases e:k=p
     ·rw [if_pos e,if_pos e,e,hz p (List.mem_cons_self ..),bc1 hv]
     ·rw [if_neg e,if_neg e,aW2 (aV5 hm h2 k)]
    rw [this,bG5 hm]
    congr 1
    have:=a95 (rg hm) (f:=λk=>gm m (r k) (if k=p then v else 0)) (j0:=p) (aR6 hm _ _) pw (λj _ hj=>by
     show gm m (r j) (if j=p then v else 0)=0
     rw [if_neg hj,aS7 m _ (aP1 m hm)])
    show sm (gp m) w (λk=>gm m (r k) (if k=p then v else 0))=_
    rw [this]
    show gm m (r p) (if p=p then v else 0)=_
    rw [if_pos rfl]
   rw [e1,List.length_cons,bW8 (rg hm) F.length λ_ _=>aR6 hm _ _,be5]
   rfl
noncomputable def krn (m:Bool × Nat) (T:List (List Nat)) (F:List Nat):List Nat:=kro m (ba3 m (pck T F)) F.length ((frp (ba3 m (pck T F)) F.length).headD 0)
noncomputable def lrS (m:Bool × Nat) (T:List (List Nat)) (F:List Nat):List Nat:=(krn m T F).map (gm m (gmi m ((krn m T F).getD 0 0)))
noncomputable def lrF (m:Bool × Nat) (T:List (List Nat)) (F:List Nat):List Nat:=(F.zip (lrS m T F)).foldl (λr z=>r.set z.1 z.2) (List.replicate (wof T) 0)
theorem b57 (hm:m∈flds) {T:List (List Nat)} (hw:0 < wof T) (hT:RT (mny m) (wof T) T) {F:List Nat} (h:fbN m T=some F):(∃f fs,frp (ba3 m (pck T F)) F.length=f :: fs)/\(krn m T F).length=F.length/\AllLt (mny m) (krn m T F)/\(∀t,t < F.length->cf (krn m T F) t≠0)/\∀k,Lin m (a97 T) F (cf (krn m T F)) k=0:=by
 obtain ⟨a1,a2,⟨c,c1,c2,c3⟩,a4⟩:=bg1 hm hw hT h
 have hT0:T≠[]:=λz=>by rw [z] at hw; exact absurd hw (by decide)
 obtain ⟨f,fs,e,l1,l2,l3,l4⟩:=cy4 hm hT hT0 a1 (λS hS hl=>a4 S hS (.inl hl)) c1 c2 c3 a2
 have ek:krn m T F=kro m (ba3 m (pck T F)) F.length f:=by unfold krn; rw [e]; rfl
 rw [ek]
 exact ⟨⟨f,fs,e⟩,l1,l2,l3,l4⟩
theorem bX8 (hm:m∈flds) {T:List (List Nat)} (hw:0 < wof T) (hT:RT (mny m) (wof T) T) {F:List Nat} (h:fbN m T=some F):(lrS m T F).length=F.length/\AllLt (mny m) (lrS m T F)/\cf (lrS m T F) 0=1/\(∀t,t < F.length->cf (lrS m T F) t≠0)/\∀k,Lin m (a97 T) F (cf (lrS m T F)) k=0:=by
 obtain ⟨_,k1,k2,k3,k4⟩:=b57 hm hw hT h
 obtain ⟨_,a2,_,_⟩:=bg1 hm hw hT h
 have k0:=k3 0 a2
 have kl:=aV5 hm k2 0
 obtain ⟨iv,i1,i2⟩:=cr8 hm (lo1 hm) kl k0
 have ei:gmi m ((krn m T F).getD 0 0)=iv:=bj4 hm i1 i2
 unfold lrS
 rw [ei]
 have ivn:iv≠0:=λz=>by rw [z,aR4 m _ (aP1 m hm)] at i2; cases i2
 refine ⟨by rw [List.length_map]; exact k1,λy hy=>by
  obtain ⟨z,_,rfl⟩:=List.mem_map.mp hy
  exact aR6 hm _ _,by rw [bz4 hm]; exact i2,λt ht=>?_,λk=>?_⟩
 ·rw [bz4 hm]
  intro z
  rcases (aZ9 hm i1 (aV5 hm k2 t)).mp z with z | z
  ·exact ivn z
  ·exact k3 t ht z
 ·have:Lin m (a97 T) F (cf ((krn m T F).map (gm m iv))) k=gm m iv (Lin m (a97 T) F (cf (krn m T F)) k):=by
   unfold Lin
   rw [<-a52 (rg hm)]
   refine aP4 λt _=>?_
   rw [bz4 hm,aR1 (aP1 m hm)]
  rw [this,k4,aS7 m _ (aP1 m hm)]
theorem cl0 (hm:m∈flds) {T:List (List Nat)} (hw:0 < wof T) (hT:RT (mny m) (wof T) T) {F:List Nat} (h:fbN m T=some F):(lrF m T F).length=wof T/\AllLt (mny m) (lrF m T F)/\(∀p,cf (lrF m T F) p≠0 ↔ p∈F)/\cf (lrF m T F) (F.getD 0 0)=1/\∀r∈T,gd m r (lrF m T F)=0:=by
 obtain ⟨s1,s2,s3,s4,s5⟩:=bX8 hm hw hT h
 obtain ⟨a1,a2,_,_⟩:=bg1 hm hw hT h
 have hlo:=lo1 hm
 obtain ⟨p1,p2,p3,p4,p5⟩:=b59 hm (w:=wof T) F (lrS m T F) (List.replicate (wof T) 0) s1.symm a1.1 a1.2 (List.length_replicate ..) (λy hy=>by rw [(List.mem_replicate.mp hy).2]; omega) s2 (λp _=>bJ7 _ _)
 refine ⟨p1,p2,λp=>⟨λhp=>?_,λhp=>?_⟩,?_,λr hr=>?_⟩
 ·by_cases c:p∈F
  ·exact c
  ·exact absurd ((p3 p c).trans (bJ7 _ _)) hp
 ·obtain ⟨t,ht,e⟩:=List.getElem_of_mem hp
  have:=p4 t ht
  rw [List.getD_eq_getElem?_getD,List.getElem?_eq_getElem ht] at this
  have e':(some F[t]).getD 0=p:=e
  rw [e'] at this
  show cf ((F.zip (lrS m T F)).foldl _ _) p≠0
  rw [this]
  exact s4 t ht
 ·exact (p4 0 a2).trans s3
 ·obtain ⟨k,hk,rfl⟩:=List.getElem_of_mem hr
  have hl:=(hT _ hr).1
  rw [cw9 m (by show _=(lrF m T F).length; rw [show (lrF m T F).length=wof T from p1]; exact hl),hl]
  have:=p5 (cf T[k])
  show dt m (wof T) (cf T[k]) (cf (lrF m T F))=0
  rw [show dt m (wof T) (cf T[k]) (cf (lrF m T F))=_ from this]
  have z1:dt m (wof T) (cf T[k]) (cf (List.replicate (wof T) 0))=0:=aR8 (rg hm) λj _=>by
   show gm m _ (cf (List.replicate (wof T) 0) j)=0
   rw [bJ7,aS7 m _ (aP1 m hm)]
  have z2:(sm (gp m) F.length λt=>gm m (cf T[k] (F.getD t 0)) (cf (lrS m T F) t))=0:=by
   refine Eq.trans ?_ (s5 k)
   unfold Lin
   refine aP4 λt _=>?_
   rw [aS9]
   unfold a97
   rw [by1 hk]
  rw [z1,z2]
  exact bc1 (by omega)
structure PwT (m:Bool × Nat) (R W:Nat) (x y:Nat->Nat) (T:List (List Nat)):Prop where
 rt:RT (mny m) W T
 l:T.length=R
 xl:∀j,x j < mny m
 xd:∀i j,i < W->j < W->x i=x j->i=j
 yl:∀j,y j < mny m
 y0:∀j,j < W->y j≠0
 at_:∀i,i < R->∃k,k < R/\∀j,j < W->a97 T j k=gm m (y j) (px m (x j) i)
theorem PwT.ind (hm:m∈flds) {R W:Nat} {x y:Nat->Nat} {T:List (List Nat)} (h:PwT m R W x y T) {S:List Nat} (hS:Inc W S) (hR:S.length<=R):Ind m (a97 T) S:=by
 intro c hc hz t ht
 have gS:∀t,t < S.length->S.getD t 0 < W:=λt ht=>hS.2 _ (aP9 ht 0)
 have:=cz9 hm (λt=>x (S.getD t 0)) (λ_=>h.xl _) S.length (λt=>gm m (c t) (y (S.getD t 0))) (λ_=>aR6 hm _ _) (λi j hi hj e=>by
  have e':=h.xd _ _ (gS i hi) (gS j hj) e
  rcases Nat.lt_trichotomy i j with q | q | q
  ·have:=List.pairwise_iff_getElem.mp hS.1 i j hi hj q
   rw [List.getD_eq_getElem?_getD,List.getD_eq_getElem?_getD,List.getElem?_eq_getElem hi,List.getElem?_eq_getElem hj] at e'
   have e2:S[i]=S[j]:=e'
   omega
  ·exact q
  ·have:=List.pairwise_iff_getElem.mp hS.1 j i hj hi q
   rw [List.getD_eq_getElem?_getD,List.getD_eq_getElem?_getD,List.getElem?_eq_getElem hi,List.getElem?_eq_getElem hj] at e'
   have e2:S[i]=S[j]:=e'
   omega) (λi hi=>by
  obtain ⟨k,_,hk⟩:=h.at_ i (by omega)
  refine Eq.trans (aP4 λt ht=>?_) (hz k)
  show gm m (gm m (c t) (y (S.getD t 0))) (px m (x (S.getD t 0)) i)=gm m (c t) (a97 T (S.getD t 0) k)
  rw [hk _ (gS t ht),aR1 (aP1 m hm)]) t ht
 rcases (aZ9 hm (hc t) (h.yl _)).mp this with z | z
 ·exact z
 ·exact absurd z (h.y0 _ (gS t ht))
theorem bp5 {n W:Nat} (h:n<=W):Inc W (List.range n):=⟨List.pairwise_lt_range,λx hx=>by have:=List.mem_range.mp hx; omega⟩
theorem bl1 (hm:m∈flds) {W:Nat} {T:List (List Nat)} (hT:RT (mny m) W T) {F:List Nat} (hF:T.length < F.length):¬ Ind m (a97 T) F:=λI=>by
 have hlo:=lo1 hm
 obtain ⟨p1,p2⟩:=by6 (F:=F) (by omega) hT
 obtain ⟨x,f,hf,hx,x1,hz⟩:=ck8 hm p1 (by omega)
 have:=I x hx (λk=>by
  by_cases hk:k < T.length
  ·rw [<-bI3 m hk]; exact hz k (by omega)
  ·refine aR8 (rg hm) λt _=>?_
   have e:a97 T (F.getD t 0) k=0:=by
    unfold a97
    rw [show T.getD k []=[] by rw [List.getD_eq_getElem?_getD,List.getElem?_eq_none (by omega)]; rfl]; rfl
   rw [e,aS7 m _ (aP1 m hm)]) f hf
 omega
theorem cf9 {C:Nat->Nat->Nat} {F:List Nat} (h0:0 < F.length) {c:Nat->Nat} (c1:∀t,c t < mny m) (c2:c (F.length - 1)=1) (c3:∀k,Lin m C F c k=0):¬ Ind m C F:=λI=>by
 have:=I c c1 c3 (F.length - 1) (by omega)
 omega
theorem PwT.first (hm:m∈flds) {R W:Nat} {x y:Nat->Nat} {T:List (List Nat)} (h:PwT m R W x y T) (hW:0 < W) (hw:wof T=W):fbN m T=if R < W then some (List.range (R + 1)) else none:=by
 subst hw
 cases e:fbN m T with
 | none =>
  have:=ca8 hm hW h.rt e
  by_cases c:R < wof T
  ·exact absurd (this _ (bp5 (n:=R + 1) c)) (bl1 hm h.rt (by rw [List.length_range,h.l]; omega))
  ·rw [if_neg c]
 | some F =>
  obtain ⟨a1,a2,⟨c,c1,c2,c3⟩,a4⟩:=bg1 hm hW h.rt e
  have ni:=cf9 a2 c1 c2 c3
  have hl:R < F.length:=Nat.lt_of_not_le λz=>ni (h.ind hm a1 z)
  have c:R < wof T:=Nat.lt_of_lt_of_le hl a1.len
  rw [if_pos c]
  have nr:=bl1 hm h.rt (F:=List.range (R + 1)) (by rw [List.length_range,h.l]; omega)
  have hr:=bp5 (n:=R + 1) c
  have lr:(List.range (R + 1)).length=R + 1:=List.length_range
  have l2:F.length=R + 1:=by
   rcases Nat.lt_or_ge (R + 1) F.length with q | q
   ·exact absurd (a4 _ hr (.inl (by omega))) nr
   ·omega
  rcases bs4 (R + 1) 0 (wof T) F a1.1 (λ_ _=>Nat.zero_le _) l2 with q | q
  ·rw [q,List.range_eq_range']
  ·rw [<-List.range_eq_range'] at q
   exact absurd (a4 _ hr (.inr ⟨by omega,q⟩)) nr
end
end L3
namespace HK29
open PySem.W (Frag codeHdIn nsIn fnOf codeIn keepIn findIn isFn specialIn takesIn mroIn mg_of mg_none_of CodeHd)
open PySem L2 L3 Mf
seal L2.PSs L2.PS L2.PE L2.PT L2.PA L2.PI L2.PG L2.PO L2.PW
local macro_rules | `(tactic| walk_at "l3")=>`(tactic| simp only [bC0,b90,ci2,dIf,dT,dOp,bY0,br7,dC,dPl,bu0,bw9,cc7,ch3,ci7,dCB,dIx,ixD,dP0,dP1,dOr,ci1,bD2,bC7,ci4,bg3,b87,bu5,ii,cg1,cg4,cf5,bD9,cg5,cg6,ci3,ch7,ci5,iI,iI0,ltD,leD,gtD,geD,isD,bu8,isNon,eqD,neD,gN,blD,ci6,cg3,dIo,dIv,dR1,dR2,ch2,cg8,bB5,cg9,bv4,bP5,aV4,bD5,bb7,Option.getD_some,Option.getD_none,Option.map_some,Option.map_none,cg0,a62,isL,ce2,bD0,ch5,bj2,bo8,ch6,slE,ci8,gN2,bH7,br3,bq0,List.map_cons,List.map_nil,List.cons_append,List.nil_append,List.length_cons,List.length_nil,List.replicate,List.getElem?_cons_zero,List.getElem?_cons_succ,List.set_cons_zero,List.set_cons_succ,Option.some.injEq,exists_eq_left',exists_eq_left,D.bl.injEq,D.int.injEq,D.lst.injEq,D.fz.injEq,D.str.injEq,D.tup.injEq,List.cons.injEq,and_true,true_and,List.all_cons,List.all_nil,Bool.and_true,Bool.true_and,br6,bI5,bq5,bt1,bL7,bq4,aW6,a75,bd4,bL5,br4,bq3,bO3,br8,aT6,a94,bq2,bG8,bp2,br5,aV3,bg0,Bool.not_false,Bool.not_true,Bool.false_and,Bool.or_true,Bool.true_or,Bool.false_or,Bool.or_false,aY8,aX0,aW5,aW7,aY9,aY1,aV0,aX7,a67,a98,aX2,a50,bb1,a78,bf5,bc2,bf7,aZ6,a85,if_true,Bool.false_eq_true,if_false,reduceIte,cp7,decide_eq_true_eq,aR3,aZ5,aW8,a58,a73,bp7,bk2,ci0,bg7,bB8,ca4,bw6,bB3,bC3,ch0,b75,dLR,aS5,a80,aV2,a68,ca6,ch4,bE2,sL,cx4,cx6,cb5,b78,aW9,aY4])
noncomputable def top (i:Nat):Stmt:=PySem.Challenge.pw_mendfield_k29_columns_of_powers.main.body.getD i (.Pass ⟨0,0,0,0⟩)
noncomputable abbrev ah8:Stmt:=top 38
theorem as5:FnScope ["_law_cell_here","_law_some","_law_primes"] ["_law_cell_here"] (aO3 ah8):=⟨rfl,rfl,rfl,by decide +kernel,rfl,by decide +kernel,by decide +kernel⟩
noncomputable abbrev aV8:Stmt:=top 26
theorem am6:FnScope ["a","product","found","power"] ["a","product"] (aO3 aV8):=⟨rfl,rfl,rfl,by decide +kernel,rfl,by decide +kernel,by decide +kernel⟩
noncomputable abbrev aU1:Stmt:=top 27
theorem ag3:FnScope ["many","product","step","found"] ["many","product"] (aO3 aU1):=⟨rfl,rfl,rfl,by decide +kernel,rfl,by decide +kernel,by decide +kernel⟩
noncomputable abbrev a00:Stmt:=top 28
theorem ax5:FnScope ["powers","logs","n","a"] ["powers"] (aO3 a00):=⟨rfl,rfl,rfl,by decide +kernel,rfl,by decide +kernel,by decide +kernel⟩
noncomputable abbrev ac2:Stmt:=aV9 (top 32) 8
theorem az2:FnScope ["self","n"] ["self","n"] (aO3 ac2):=⟨rfl,rfl,rfl,by decide +kernel,rfl,by decide +kernel,by decide +kernel⟩
noncomputable abbrev ag4:Stmt:=aV9 (top 32) 0
theorem aH3:FnScope ["self","many","product"] ["self","many","product"] (aO3 ag4):=⟨rfl,rfl,rfl,by decide +kernel,rfl,by decide +kernel,by decide +kernel⟩
noncomputable abbrev aQ9:Stmt:=top 31
theorem ax6:FnScope ["prime"] ["prime"] (aO3 aQ9):=⟨rfl,rfl,rfl,by decide +kernel,rfl,by decide +kernel,by decide +kernel⟩
noncomputable abbrev aa8:Stmt:=aV9 (top 34) 0
theorem aA1:FnScope ["self","prime"] ["self","prime"] (aO3 aa8):=⟨rfl,rfl,rfl,by decide +kernel,rfl,by decide +kernel,by decide +kernel⟩
noncomputable abbrev aT2:Stmt:=top 29
theorem aj3:FnScope ["powers","logs","many","rows","a"] ["powers","logs"] (aO3 aT2):=⟨rfl,rfl,rfl,by decide +kernel,rfl,by decide +kernel,by decide +kernel⟩
noncomputable abbrev aT3:Stmt:=top 23
theorem ae3:FnScope ["a","b","quotient","rest","shift"] ["a","b"] (aO3 aT3):=⟨rfl,rfl,rfl,by decide +kernel,rfl,by decide +kernel,by decide +kernel⟩
noncomputable abbrev aT5:Stmt:=top 24
theorem am7:FnScope ["a","half","b"] ["a"] (aO3 aT5):=⟨rfl,rfl,rfl,by decide +kernel,rfl,by decide +kernel,by decide +kernel⟩
noncomputable abbrev aR5:Stmt:=top 30
theorem aA2:FnScope ["bits"] ["bits"] (aO3 aR5):=⟨rfl,rfl,rfl,by decide +kernel,rfl,by decide +kernel,by decide +kernel⟩
noncomputable abbrev aU5:Stmt:=top 22
theorem al6:FnScope ["a","b","product","k"] ["a","b"] (aO3 aU5):=⟨rfl,rfl,rfl,by decide +kernel,rfl,by decide +kernel,by decide +kernel⟩
noncomputable abbrev ab2:Stmt:=aV9 (top 33) 0
theorem as6:FnScope ["self","bits","many"] ["self","bits"] (aO3 ab2):=⟨rfl,rfl,rfl,by decide +kernel,rfl,by decide +kernel,by decide +kernel⟩
noncomputable abbrev ag5:Stmt:=top 42
theorem aH4:FnScope ["_law_told_here"] ["_law_told_here"] (aO3 ag5):=⟨rfl,rfl,rfl,by decide +kernel,rfl,by decide +kernel,by decide +kernel⟩
noncomputable abbrev ah9:Stmt:=top 39
theorem aJ0:FnScope ["_law_told_here"] ["_law_told_here"] (aO3 ah9):=⟨rfl,rfl,rfl,by decide +kernel,rfl,by decide +kernel,by decide +kernel⟩
noncomputable abbrev ag6:Stmt:=top 41
theorem af4:FnScope ["_law_told_here","_law_a","_law_b","_law_total"] ["_law_told_here","_law_a","_law_b"] (aO3 ag6):=⟨rfl,rfl,rfl,by decide +kernel,rfl,by decide +kernel,by decide +kernel⟩
noncomputable abbrev ai0:Stmt:=top 36
theorem aJ1:FnScope ["_law_script","_law_k"] ["_law_script","_law_k"] (aO3 ai0):=⟨rfl,rfl,rfl,by decide +kernel,rfl,by decide +kernel,by decide +kernel⟩
noncomputable abbrev af5:Stmt:=top 46
theorem ac3:FnScope ["_law_told_here","_law_script","_law_rows","_law_wide","_law_cell_here","_law_many_here","_law_by","_law_points","_law_row","_law_table","_law_i"] ["_law_told_here","_law_script","_law_rows","_law_wide","_law_cell_here"] (aO3 af5):=⟨rfl,rfl,rfl,by decide +kernel,rfl,by decide +kernel,by decide +kernel⟩
noncomputable abbrev ai1:Stmt:=top 45
theorem aJ2:FnScope ["_law_table"] ["_law_table"] (aO3 ai1):=⟨rfl,rfl,rfl,by decide +kernel,rfl,by decide +kernel,by decide +kernel⟩
noncomputable abbrev aY0:Stmt:=top 2
theorem aL3:FnScope ["table"] ["table"] (aO3 aY0):=⟨rfl,rfl,rfl,by decide +kernel,rfl,by decide +kernel,by decide +kernel⟩
noncomputable abbrev a86:Stmt:=top 3
theorem aN1:FnScope ["table"] ["table"] (aO3 a86):=⟨rfl,rfl,rfl,by decide +kernel,rfl,by decide +kernel,by decide +kernel⟩
noncomputable abbrev aV6:Stmt:=top 13
theorem aJ3:FnScope ["column"] ["column"] (aO3 aV6):=⟨rfl,rfl,rfl,by decide +kernel,rfl,by decide +kernel,by decide +kernel⟩
noncomputable abbrev ag7:Stmt:=aV9 (top 32) 5
theorem aH5:FnScope ["self","a","b"] ["self","a","b"] (aO3 ag7):=⟨rfl,rfl,rfl,by decide +kernel,rfl,by decide +kernel,by decide +kernel⟩
noncomputable abbrev ab9:Stmt:=aV9 (top 33) 7
theorem am8:FnScope ["self","row","a","other","by_a"] ["self","row","a","other"] (aO3 ab9):=⟨rfl,rfl,rfl,by decide +kernel,rfl,by decide +kernel,by decide +kernel⟩
noncomputable abbrev ab3:Stmt:=aV9 (top 34) 7
theorem al0:FnScope ["self","row","a","other","prime"] ["self","row","a","other"] (aO3 ab3):=⟨rfl,rfl,rfl,by decide +kernel,rfl,by decide +kernel,by decide +kernel⟩
noncomputable abbrev ad3:Stmt:=aV9 (top 33) 3
theorem aC5:FnScope ["self","a","b"] ["self","a","b"] (aO3 ad3):=⟨rfl,rfl,rfl,by decide +kernel,rfl,by decide +kernel,by decide +kernel⟩
noncomputable abbrev ac4:Stmt:=aV9 (top 34) 3
theorem az3:FnScope ["self","a","b"] ["self","a","b"] (aO3 ac4):=⟨rfl,rfl,rfl,by decide +kernel,rfl,by decide +kernel,by decide +kernel⟩
noncomputable abbrev bk3:Stmt:=top 14
theorem sc_past:FnScope ["field","column","others","place","inverse","found","other","left"] ["field","column","others"] (aO3 bk3):=⟨rfl,rfl,rfl,by decide +kernel,rfl,by decide +kernel,by decide +kernel⟩
noncomputable abbrev aU0:Stmt:=top 15
theorem ac5:FnScope ["field","table","width","sets","larger","places","behind","number","column","bigger"] ["field","table"] (aO3 aU0):=⟨rfl,rfl,rfl,by decide +kernel,rfl,by decide +kernel,by decide +kernel⟩
noncomputable abbrev bd0:Stmt:=top 8
theorem bT8:FnScope ["rows"] ["rows"] (aO3 bd0):=⟨rfl,rfl,rfl,by decide +kernel,rfl,by decide +kernel,by decide +kernel⟩
noncomputable abbrev aT9:Stmt:=top 9
theorem ax2:FnScope ["rows","width","taken"] ["rows","width"] (aO3 aT9):=⟨rfl,rfl,rfl,by decide +kernel,rfl,by decide +kernel,by decide +kernel⟩
noncomputable abbrev ad4:Stmt:=aV9 (top 33) 2
theorem aC6:FnScope ["self","a","b"] ["self","a","b"] (aO3 ad4):=⟨rfl,rfl,rfl,by decide +kernel,rfl,by decide +kernel,by decide +kernel⟩
noncomputable abbrev ac6:Stmt:=aV9 (top 34) 2
theorem az4:FnScope ["self","a","b"] ["self","a","b"] (aO3 ac6):=⟨rfl,rfl,rfl,by decide +kernel,rfl,by decide +kernel,by decide +kernel⟩
noncomputable abbrev aR0:Stmt:=top 10
theorem ab7:FnScope ["field","rows","width","taken","found","free","x","lead","row"] ["field","rows","width"] (aO3 aR0):=⟨rfl,rfl,rfl,by decide +kernel,rfl,by decide +kernel,by decide +kernel⟩
noncomputable abbrev aU8:Stmt:=top 5
theorem ay4:FnScope ["rows","place","number","row"] ["rows","place"] (aO3 aU8):=⟨rfl,rfl,rfl,by decide +kernel,rfl,by decide +kernel,by decide +kernel⟩
noncomputable abbrev ad0:Stmt:=aV9 (top 33) 6
theorem ap8:FnScope ["self","a","row","by_a"] ["self","a","row"] (aO3 ad0):=⟨rfl,rfl,rfl,by decide +kernel,rfl,by decide +kernel,by decide +kernel⟩
noncomputable abbrev ac0:Stmt:=aV9 (top 34) 6
theorem am9:FnScope ["self","a","row","prime"] ["self","a","row"] (aO3 ac0):=⟨rfl,rfl,rfl,by decide +kernel,rfl,by decide +kernel,by decide +kernel⟩
noncomputable abbrev a06:Stmt:=top 6
theorem aM3:FnScope ["field","rows","lead_row","place"] ["field","rows","lead_row","place"] (aO3 a06):=⟨rfl,rfl,rfl,by decide +kernel,rfl,by decide +kernel,by decide +kernel⟩
noncomputable abbrev a01:Stmt:=top 7
theorem af6:FnScope ["field","table","done","left","place","number","lead_row"] ["field","table"] (aO3 a01):=⟨rfl,rfl,rfl,by decide +kernel,rfl,by decide +kernel,by decide +kernel⟩
noncomputable abbrev a89:Stmt:=top 11
theorem aN2:FnScope ["field","table"] ["field","table"] (aO3 a89):=⟨rfl,rfl,rfl,by decide +kernel,rfl,by decide +kernel,by decide +kernel⟩
noncomputable abbrev a88:Stmt:=top 4
theorem aN3:FnScope ["table","places"] ["table","places"] (aO3 a88):=⟨rfl,rfl,rfl,by decide +kernel,rfl,by decide +kernel,by decide +kernel⟩
noncomputable abbrev aT4:Stmt:=top 16
theorem ae4:FnScope ["field","table","places","signs","inverse","row","place","sign"] ["field","table"] (aO3 aT4):=⟨rfl,rfl,rfl,by decide +kernel,rfl,by decide +kernel,by decide +kernel⟩
noncomputable abbrev ag8:Stmt:=top 37
theorem aH6:FnScope ["_law_x"] ["_law_x"] (aO3 ag8):=⟨rfl,rfl,rfl,by decide +kernel,rfl,by decide +kernel,by decide +kernel⟩
noncomputable abbrev ae5:Stmt:=top 44
theorem aD7:FnScope ["_law_row","_law_wide","_law_many_here"] ["_law_row","_law_wide","_law_many_here"] (aO3 ae5):=⟨rfl,rfl,rfl,by decide +kernel,rfl,by decide +kernel,by decide +kernel⟩
noncomputable abbrev ai2:Stmt:=top 40
theorem aJ4:FnScope ["_law_told_here","_law_a","_law_b"] ["_law_told_here","_law_a","_law_b"] (aO3 ai2):=⟨rfl,rfl,rfl,by decide +kernel,rfl,by decide +kernel,by decide +kernel⟩
noncomputable abbrev ak3:Stmt:=top 43
theorem ap2:FnScope ["_law_told_here","_law_xs","_law_ys","_law_total","_law_x","_law_y"] ["_law_told_here","_law_xs","_law_ys"] (aO3 ak3):=⟨rfl,rfl,rfl,by decide +kernel,rfl,by decide +kernel,by decide +kernel⟩
noncomputable abbrev ag9:Stmt:=top 47
theorem ay5:FnScope ["_law_told_here","_law_table","_law_found","_law_row","_law_wide"] ["_law_told_here","_law_table","_law_found","_law_row"] (aO3 ag9):=⟨rfl,rfl,rfl,by decide +kernel,rfl,by decide +kernel,by decide +kernel⟩
noncomputable abbrev bn3:Stmt:=top 48
theorem sc_law:FnScope ["_law_script","_law_told_here","_law_field_here","_law_rows","_law_wide","_law_table","_law_handed","_law_found","_law_row","_law_due"] ["_law_script"] (aO3 bn3):=⟨rfl,rfl,rfl,by decide +kernel,rfl,by decide +kernel,by decide +kernel⟩
set_option genInjectivity false in
set_option genSizeOf false in
structure Adr where
 av4:Addr
 as7:FuncData
 f_powers_of:Addr
 fd_powers_of:FuncData
 f_step_powers:Addr
 fd_step_powers:FuncData
 f_logs_of:Addr
 fd_logs_of:FuncData
 ad7:Addr
 ai4:FuncData
 as8:Addr
 aq3:FuncData
 f_makes_prime_field:Addr
 fd_makes_prime_field:FuncData
 ak4:Addr
 af7:FuncData
 f_product_rows:Addr
 fd_product_rows:FuncData
 f_bits_divided:Addr
 fd_bits_divided:FuncData
 f_stands_alone:Addr
 fd_stands_alone:FuncData
 f_makes_bit_field:Addr
 fd_makes_bit_field:FuncData
 f_bits_times:Addr
 fd_bits_times:FuncData
 ao0:Addr
 ah2:FuncData
 as9:Addr
 aq4:FuncData
 av5:Addr
 at0:FuncData
 at1:Addr
 aq5:FuncData
 av6:Addr
 at2:FuncData
 aq6:Addr
 ap0:FuncData
 av7:Addr
 at3:FuncData
 f_width_of:Addr
 fd_width_of:FuncData
 f_turned:Addr
 fd_turned:FuncData
 f_is_nought:Addr
 fd_is_nought:FuncData
 ao1:Addr
 aq7:FuncData
 ai5:Addr
 ah3:FuncData
 ah0:Addr
 af9:FuncData
 am1:Addr
 ak5:FuncData
 aj4:Addr
 ai6:FuncData
 f_past:Addr
 fd_past:FuncData
 f_first_bound:Addr
 fd_first_bound:FuncData
 f_leads:Addr
 fd_leads:FuncData
 f_free_places:Addr
 fd_free_places:FuncData
 am2:Addr
 ak6:FuncData
 aj5:Addr
 ai7:FuncData
 f_kernel_of_reduced:Addr
 fd_kernel_of_reduced:FuncData
 f_first_with:Addr
 fd_first_with:FuncData
 ak7:Addr
 aj6:FuncData
 ai8:Addr
 ah4:FuncData
 f_cleared:Addr
 fd_cleared:FuncData
 f_reduced:Addr
 fd_reduced:FuncData
 f_kernel:Addr
 fd_kernel:FuncData
 f_picked:Addr
 fd_picked:FuncData
 f_lightest_row:Addr
 fd_lightest_row:FuncData
 at4:Addr
 aq8:FuncData
 ao2:Addr
 am3:FuncData
 av8:Addr
 at5:FuncData
 ax7:Addr
 av9:FuncData
 at6:Addr
 aq9:FuncData
 f_law:Addr
 fd_law:FuncData
 as1:Addr
 aa4:Addr
 av1:Addr
 aa6:Addr
 aa1:Addr
 aa9:Addr
 ah1:Addr
 aa0:Addr
structure Txt (K:Frag) (mg:Str->Option Value) (t:Adr):Prop where
 aD3:Fun K "_law_told" "_law_told" ah8 t.av4 t.as7
 aL4:mg "_law_told"=some (.ref t.av4)
 aL5:Binds K t.as7 ["_law_cell_here"] []
 F_powers_of:Fun K "powers_of" "powers_of" aV8 t.f_powers_of t.fd_powers_of
 g_powers_of:mg "powers_of"=some (.ref t.f_powers_of)
 b_powers_of:Binds K t.fd_powers_of ["a","product"] []
 F_step_powers:Fun K "step_powers" "step_powers" aU1 t.f_step_powers t.fd_step_powers
 g_step_powers:mg "step_powers"=some (.ref t.f_step_powers)
 b_step_powers:Binds K t.fd_step_powers ["many","product"] []
 F_logs_of:Fun K "logs_of" "logs_of" a00 t.f_logs_of t.fd_logs_of
 g_logs_of:mg "logs_of"=some (.ref t.f_logs_of)
 b_logs_of:Binds K t.fd_logs_of ["powers"] []
 aA3:Fun K "step_power" "Field.step_power" ac2 t.ad7 t.ai4
 aj7:Binds K t.ai4 ["self","n"] []
 aJ5:Fun K "__init__" "Field.__init__" ag4 t.as8 t.aq3
 aA4:Binds K t.aq3 ["self","many","product"] []
 F_makes_prime_field:Fun K "makes_prime_field" "makes_prime_field" aQ9 t.f_makes_prime_field t.fd_makes_prime_field
 g_makes_prime_field:mg "makes_prime_field"=some (.ref t.f_makes_prime_field)
 b_makes_prime_field:Binds K t.fd_makes_prime_field ["prime"] []
 aC7:Fun K "__init__" "PrimeField.__init__" aa8 t.ak4 t.af7
 aC8:Binds K t.af7 ["self","prime"] []
 F_product_rows:Fun K "product_rows" "product_rows" aT2 t.f_product_rows t.fd_product_rows
 g_product_rows:mg "product_rows"=some (.ref t.f_product_rows)
 b_product_rows:Binds K t.fd_product_rows ["powers","logs"] []
 F_bits_divided:Fun K "bits_divided" "bits_divided" aT3 t.f_bits_divided t.fd_bits_divided
 g_bits_divided:mg "bits_divided"=some (.ref t.f_bits_divided)
 b_bits_divided:Binds K t.fd_bits_divided ["a","b"] []
 F_stands_alone:Fun K "stands_alone" "stands_alone" aT5 t.f_stands_alone t.fd_stands_alone
 g_stands_alone:mg "stands_alone"=some (.ref t.f_stands_alone)
 b_stands_alone:Binds K t.fd_stands_alone ["a"] []
 F_makes_bit_field:Fun K "makes_bit_field" "makes_bit_field" aR5 t.f_makes_bit_field t.fd_makes_bit_field
 g_makes_bit_field:mg "makes_bit_field"=some (.ref t.f_makes_bit_field)
 b_makes_bit_field:Binds K t.fd_makes_bit_field ["bits"] []
 F_bits_times:Fun K "bits_times" "bits_times" aU5 t.f_bits_times t.fd_bits_times
 g_bits_times:mg "bits_times"=some (.ref t.f_bits_times)
 b_bits_times:Binds K t.fd_bits_times ["a","b"] []
 aF1:Fun K "__init__" "BitField.__init__" ab2 t.ao0 t.ah2
 aF2:Binds K t.ah2 ["self","bits"] []
 aA5:Fun K "_law_field" "_law_field" ag5 t.as9 t.aq4
 aJ6:mg "_law_field"=some (.ref t.as9)
 aJ7:Binds K t.aq4 ["_law_told_here"] []
 ap3:Fun K "_law_many" "_law_many" ah9 t.av5 t.at0
 aw0:mg "_law_many"=some (.ref t.av5)
 aw1:Binds K t.at0 ["_law_told_here"] []
 ao3:Fun K "_law_times" "_law_times" ag6 t.at1 t.aq5
 at7:mg "_law_times"=some (.ref t.at1)
 at8:Binds K t.aq5 ["_law_told_here","_law_a","_law_b"] []
 ai3:Fun K "_law_cell" "_law_cell" ai0 t.av6 t.at2
 al1:mg "_law_cell"=some (.ref t.av6)
 al2:Binds K t.at2 ["_law_script","_law_k"] []
 ay6:Fun K "_law_powers" "_law_powers" af5 t.aq6 t.ap0
 aH7:mg "_law_powers"=some (.ref t.aq6)
 aH8:Binds K t.ap0 ["_law_told_here","_law_script","_law_rows","_law_wide","_law_cell_here"] []
 aD4:Fun K "_law_copy" "_law_copy" ai1 t.av7 t.at3
 aL6:mg "_law_copy"=some (.ref t.av7)
 aL7:Binds K t.at3 ["_law_table"] []
 F_width_of:Fun K "width_of" "width_of" aY0 t.f_width_of t.fd_width_of
 g_width_of:mg "width_of"=some (.ref t.f_width_of)
 b_width_of:Binds K t.fd_width_of ["table"] []
 F_turned:Fun K "turned" "turned" a86 t.f_turned t.fd_turned
 g_turned:mg "turned"=some (.ref t.f_turned)
 b_turned:Binds K t.fd_turned ["table"] []
 F_is_nought:Fun K "is_nought" "is_nought" aV6 t.f_is_nought t.fd_is_nought
 g_is_nought:mg "is_nought"=some (.ref t.f_is_nought)
 b_is_nought:Binds K t.fd_is_nought ["column"] []
 aJ8:Fun K "over" "Field.over" ag7 t.ao1 t.aq7
 aA6:Binds K t.aq7 ["self","a","b"] []
 az5:Fun K "lessened" "BitField.lessened" ab9 t.ai5 t.ah3
 az6:Binds K t.ah3 ["self","row","a","other"] []
 ax3:Fun K "lessened" "PrimeField.lessened" ab3 t.ah0 t.af9
 ax4:Binds K t.af9 ["self","row","a","other"] []
 aD8:Fun K "times" "BitField.times" ad3 t.am1 t.ak5
 aD9:Binds K t.ak5 ["self","a","b"] []
 aA7:Fun K "times" "PrimeField.times" ac4 t.aj4 t.ai6
 aA8:Binds K t.ai6 ["self","a","b"] []
 F_past:Fun K "past" "past" bk3 t.f_past t.fd_past
 g_past:mg "past"=some (.ref t.f_past)
 b_past:Binds K t.fd_past ["field","column","others"] []
 F_first_bound:Fun K "first_bound" "first_bound" aU0 t.f_first_bound t.fd_first_bound
 g_first_bound:mg "first_bound"=some (.ref t.f_first_bound)
 b_first_bound:Binds K t.fd_first_bound ["field","table"] []
 F_leads:Fun K "leads" "leads" bd0 t.f_leads t.fd_leads
 g_leads:mg "leads"=some (.ref t.f_leads)
 b_leads:Binds K t.fd_leads ["rows"] []
 F_free_places:Fun K "free_places" "free_places" aT9 t.f_free_places t.fd_free_places
 g_free_places:mg "free_places"=some (.ref t.f_free_places)
 b_free_places:Binds K t.fd_free_places ["rows","width"] []
 aE0:Fun K "minus" "BitField.minus" ad4 t.am2 t.ak6
 aE1:Binds K t.ak6 ["self","a","b"] []
 aA9:Fun K "minus" "PrimeField.minus" ac6 t.aj5 t.ai7
 aB0:Binds K t.ai7 ["self","a","b"] []
 F_kernel_of_reduced:Fun K "kernel_of_reduced" "kernel_of_reduced" aR0 t.f_kernel_of_reduced t.fd_kernel_of_reduced
 g_kernel_of_reduced:mg "kernel_of_reduced"=some (.ref t.f_kernel_of_reduced)
 b_kernel_of_reduced:Binds K t.fd_kernel_of_reduced ["field","rows","width"] []
 F_first_with:Fun K "first_with" "first_with" aU8 t.f_first_with t.fd_first_with
 g_first_with:mg "first_with"=some (.ref t.f_first_with)
 b_first_with:Binds K t.fd_first_with ["rows","place"] []
 aC9:Fun K "scaled" "BitField.scaled" ad0 t.ak7 t.aj6
 aD0:Binds K t.aj6 ["self","a","row"] []
 az7:Fun K "scaled" "PrimeField.scaled" ac0 t.ai8 t.ah4
 az8:Binds K t.ah4 ["self","a","row"] []
 F_cleared:Fun K "cleared" "cleared" a06 t.f_cleared t.fd_cleared
 g_cleared:mg "cleared"=some (.ref t.f_cleared)
 b_cleared:Binds K t.fd_cleared ["field","rows","lead_row","place"] []
 F_reduced:Fun K "reduced" "reduced" a01 t.f_reduced t.fd_reduced
 g_reduced:mg "reduced"=some (.ref t.f_reduced)
 b_reduced:Binds K t.fd_reduced ["field","table"] []
 F_kernel:Fun K "kernel" "kernel" a89 t.f_kernel t.fd_kernel
 g_kernel:mg "kernel"=some (.ref t.f_kernel)
 b_kernel:Binds K t.fd_kernel ["field","table"] []
 F_picked:Fun K "picked" "picked" a88 t.f_picked t.fd_picked
 g_picked:mg "picked"=some (.ref t.f_picked)
 b_picked:Binds K t.fd_picked ["table","places"] []
 F_lightest_row:Fun K "lightest_row" "lightest_row" aT4 t.f_lightest_row t.fd_lightest_row
 g_lightest_row:mg "lightest_row"=some (.ref t.f_lightest_row)
 b_lightest_row:Binds K t.fd_lightest_row ["field","table"] []
 at9:Fun K "_law_whole" "_law_whole" ag8 t.at4 t.aq8
 aB1:mg "_law_whole"=some (.ref t.at4)
 aB2:Binds K t.aq8 ["_law_x"] []
 av2:Fun K "_law_row_kind" "_law_row_kind" ae5 t.ao2 t.am3
 aF3:mg "_law_row_kind"=some (.ref t.ao2)
 aF4:Binds K t.am3 ["_law_row","_law_wide","_law_many_here"] []
 aD5:Fun K "_law_plus" "_law_plus" ai2 t.av8 t.at5
 aL8:mg "_law_plus"=some (.ref t.av8)
 aL9:Binds K t.at5 ["_law_told_here","_law_a","_law_b"] []
 aF5:Fun K "_law_dot" "_law_dot" ak3 t.ax7 t.av9
 aM4:mg "_law_dot"=some (.ref t.ax7)
 aM5:Binds K t.av9 ["_law_told_here","_law_xs","_law_ys"] []
 aB3:Fun K "_law_light" "_law_light" ag9 t.at6 t.aq9
 aJ9:mg "_law_light"=some (.ref t.at6)
 aK0:Binds K t.aq9 ["_law_told_here","_law_table","_law_found","_law_row"] []
 F_law:Fun K "law" "law" bn3 t.f_law t.fd_law
 g_law:mg "law"=some (.ref t.f_law)
 b_law:Binds K t.fd_law ["_law_script"] []
 aB4:t.af7.code=.ref t.as1
 aB5:codeHdIn K t.as1 t.aa4=true
 aE2:t.ah2.code=.ref t.av1
 aE3:codeHdIn K t.av1 t.aa6=true
 aa3:Cls K t.aa1
 al3:Mk K t.aa1 t.ao0
 aO1:OCls K t.aa1
 ae8:NoAttr K t.aa1 "bits"
 ab4:NoAttr K t.aa1 "logs"
 ad5:NoAttr K t.aa1 "many"
 ab5:NoAttr K t.aa1 "powers"
 ag2:NoAttr K t.aa1 "prime"
 aa7:NoAttr K t.aa1 "products"
 ae9:NoAttr K t.aa1 "step"
 af0:NoAttr K t.aa1 "wide"
 ac8:Meth K t.aa1 "lessened" t.ai5
 ae6:Meth K t.aa1 "minus" t.am2
 af1:Meth K t.aa1 "over" t.ao1
 ad8:Meth K t.aa1 "scaled" t.ak7
 ab1:Meth K t.aa1 "step_power" t.ad7
 ae7:Meth K t.aa1 "times" t.am1
 aa2:Cls K t.aa0
 ah7:Mk K t.aa0 t.ak4
 aO0:OCls K t.aa0
 af8:NoAttr K t.aa0 "bits"
 ab6:NoAttr K t.aa0 "logs"
 ac7:NoAttr K t.aa0 "many"
 ab8:NoAttr K t.aa0 "powers"
 aa5:NoAttr K t.aa0 "prime"
 ad6:NoAttr K t.aa0 "products"
 ad9:NoAttr K t.aa0 "step"
 ae0:NoAttr K t.aa0 "wide"
 ac1:Meth K t.aa0 "lessened" t.ah0
 ad1:Meth K t.aa0 "minus" t.aj5
 ae1:Meth K t.aa0 "over" t.ao1
 ac9:Meth K t.aa0 "scaled" t.ai8
 ab0:Meth K t.aa0 "step_power" t.ad7
 ad2:Meth K t.aa0 "times" t.aj4
 ay7:CMeth K t.ah1 "__init__" t.as8
 n_all:mg "all"=none
 n_any:mg "any"=none
 n_bool:mg "bool"=none
 n_enumerate:mg "enumerate"=none
 n_int:mg "int"=none
 n_isinstance:mg "isinstance"=none
 n_len:mg "len"=none
 n_list:mg "list"=none
 n_min:mg "min"=none
 n_range:mg "range"=none
 n_zip:mg "zip"=none
 ao4:mg "BitField"=some (.ref t.aa1)
 ao5:mg "ByNought"=some (.ref t.aa9)
 as4:mg "Field"=some (.ref t.ah1)
 aj8:mg "PrimeField"=some (.ref t.aa0)
 aF6:XMk K mg "ByNought" t.aa9
 aO2:XCls K t.aa9
section
variable {P:Program} {w:World} {K:Frag} {mg:Str->Option Value} {base:Heap} {t:Adr}
noncomputable abbrev aK1:SpD:=λds Q=>∃c:Int,ds=[.int c]/\Q (aX8 (bq7 c))
theorem aK2 (T:Txt K mg t):FnOk P w K mg base CX0 1 t.av4 t.as7 ["_law_cell_here"] (lSp (aK1 )):=by
 refine aS4 T.aD3 as5 ?_ ?_
 ·intro ds Q h
  obtain ⟨c,rfl,q⟩:=h <;> rfl
 ·intro cdv A outer s H E hr
  refine ⟨_,(aO5 (aQ5 (i:=1) as5.nd rfl (Or.inl rfl) (b61 (ns:=[7,11,13,19,25,31,37,41,47,55,59,61,67,73,87,91,97,103,109,115,117]) (by decide +kernel)))
   (aO5 (aQ5 (i:=2) as5.nd rfl (Or.inl rfl) (b61 (ns:=[2,3,5,7,11,13,17,19,23,29,31,37,41,43,47,53,59,61]) (by decide +kernel)))
   (aO5 (bd8 (aU9 (bI1 (hu6 hr)) (aP0 (aS3 a04 (bv 0) (aP0 aP2))) (aP0 aP2) (aR2 _)) (aO7 (aQ4 (bG4 (aU3 bP4 (aU3 (ba9 (aZ0 (bv 1) (aP0 (aS3 a04 (aP0 (aS3 bl2 (bv 0) (aP0 aP2))) (aP0 aP2))) (λ_ _=>rfl))) aX6))))) aT1)
   (aO7 (aQ4 (bG4 (aU3 bP4 (aU3 (ba9 (aZ0 (bv 2) (aP0 (aS3 a04 (aP0 (aS3 bl2 (bv 0) (aP0 aP2))) (aP0 aP2))) (λ_ _=>rfl))) aX6)))))))),λds Q h=>?_⟩
  obtain ⟨c,rfl,q⟩:=h
  refine aO6 λU hU=>?_
  walk_at "l3"
  refine ⟨by decide,hU _ ?_⟩
  clear hU U
  refine aO6 λU hU=>?_
  walk_at "l3"
  refine ⟨by decide,hU _ ?_⟩
  clear hU U
  refine aO6 λU hU=>?_
  walk_at "l3"
  refine ⟨by decide,?_⟩
  have n1:=Int.emod_nonneg (c / 2) (show (21:Int)≠0 by decide)
  have n2:=Int.emod_lt_of_pos (c / 2) (show (0:Int) < 21 by decide)
  have n3:=Int.emod_nonneg (c / 2) (show (18:Int)≠0 by decide)
  have n4:=Int.emod_lt_of_pos (c / 2) (show (0:Int) < 18 by decide)
  split
  ·rename_i hc
   refine ⟨fdS (by decide) (by decide),by decide,_,aW1 n1 (by simpa using n2),rfl,by decide,?_⟩
   have e:aX8 (bq7 c)=.tup [.bl true,.int (([7,11,13,19,25,31,37,41,47,55,59,61,67,73,87,91,97,103,109,115,117]:List Int).getD (c / 2 % 21).toNat 0)]:=by
    unfold bq7 aX8
    rw [if_pos hc]
    have:∀k:Nat,((fbits.getD k 0:Nat):Int)=([7,11,13,19,25,31,37,41,47,55,59,61,67,73,87,91,97,103,109,115,117]:List Int).getD k 0:=λk=>by
     show _=(fbits.map (λ(n:Nat)=>(n:Int))).getD k ((0:Nat):Int)
     rw [List.getD_eq_getElem?_getD,List.getD_eq_getElem?_getD,List.getElem?_map]
     cases fbits[k]? <;> rfl
    rw [<-this]
   rw [<-e]; exact q
  ·rename_i hc
   refine hU _ ?_
   walk_at "l3"
   refine ⟨fdS (by decide) (by decide),by decide,_,aW1 n3 (by simpa using n4),rfl,by decide,?_⟩
   have e:aX8 (bq7 c)=.tup [.bl false,.int (([2,3,5,7,11,13,17,19,23,29,31,37,41,43,47,53,59,61]:List Int).getD (c / 2 % 18).toNat 0)]:=by
    unfold bq7 aX8
    rw [if_neg hc]
    have:∀k:Nat,((fprimes.getD k 0:Nat):Int)=([2,3,5,7,11,13,17,19,23,29,31,37,41,43,47,53,59,61]:List Int).getD k 0:=λk=>by
     show _=(fprimes.map (λ(n:Nat)=>(n:Int))).getD k ((0:Nat):Int)
     rw [List.getD_eq_getElem?_getD,List.getD_eq_getElem?_getD,List.getElem?_map]
     cases fprimes[k]? <;> rfl
    rw [<-this]
   rw [<-e]; exact q
noncomputable abbrev aK3 (L:Obj->Obj->Addr->Addr->LSp->Prop):SpD:=λds Q=>∃(a:Nat) (of oc:Obj) (c k:Addr) (g:Nat->Nat->Nat) (l:List Int),ds=[.int a,.clo (.lam of oc c k)]/\L of oc c k (lsp g)/\a < 64/\ce5 g a=some l/\Q (.lst true (aR7 l))
theorem aB6 (T:Txt K mg t):FnOk P w K mg base CX0 5 t.f_powers_of t.fd_powers_of ["a","product"] (lSp (aK3 (LamOk P w K mg base 4))):=by
 refine aS4 T.F_powers_of am6 ?_ ?_
 ·intro ds Q h
  obtain ⟨a,of,oc,c,k,g,l,rfl,hL,ha,hp,q⟩:=h <;> rfl
 ·intro cdv A outer s H E hr
  refine ⟨_,(aO5 (aQ5 (i:=2) am6.nd rfl (Or.inl rfl) (a09 (aU3 aP2 aX6)))
   (aO5 (aQ5 (i:=3) am6.nd rfl (Or.inl rfl) (ci9 (n:=4) (i:=1) rfl (by first | exact Or.inl rfl | exact Or.inr (Or.inl rfl)) (hr.mono (by decide)) (aO4 (aP0 aP2) (aO4 (bv 0) aP6))))
   (aO5 (bg5 PassesOwn.never (aU9 (bC4 (hu6 hr)) (bv 3) (aP0 aP2) (aR2 _))
    (aO5 (a77 (i:=2) rfl (by first | exact Or.inl rfl | exact Or.inr (Or.inl rfl)) (ba9 (bv 3)))
    (aO7 (aQ5 (i:=3) am6.nd rfl (Or.inl rfl) (ci9 (n:=4) (i:=1) rfl (by first | exact Or.inl rfl | exact Or.inr (Or.inl rfl)) (hr.mono (by decide)) (aO4 (bv 3) (aO4 (bv 0) aP6)))))))
   (aO7 (aQ4 (em 2)))))),λds Q h=>?_⟩
  obtain ⟨a,of,oc,c,k,g,l,rfl,hL,ha,hp,q⟩:=h
  refine aO6 λU hU=>?_
  walk_at "l3"
  refine ⟨by decide,hU _ ?_⟩
  clear hU U
  refine aO6 λU hU=>?_
  walk_at "l3"
  refine ⟨of,oc,c,k,lsp g,rfl,hL,1,a,⟨rfl,rfl⟩,1,a,rfl,rfl,by decide,ha,hU _ ?_⟩
  clear hU U
  refine aO6 λU hU=>?_
  walk_at "l3"
  refine ⟨λm δ=>∃(p:Nat) (acc:List Int),δ=[some (.int a),some (.clo (.lam of oc c k)),some (.lst true (aR7 acc)),some (.int p)]/\acc.length + m<=70/\goP g a m p acc=some l,⟨64,_,[1],rfl,by decide,hp⟩,?_⟩
  rintro m δ ⟨p,acc,rfl,hn,hg⟩
  walk_at "l3"
  cases m with
  | zero=>cases hg
  | succ m =>
   unfold goP at hg
   split at hg
   ·rename_i h1
    subst h1
    cases hg
    rw [if_neg (by simp)]
    refine hU _ ?_
    walk_at "l3"
    exact q
   ·rename_i h1
    rw [if_pos (by simp; omega)]
    split at hg
    ·rename_i h2
     clear hU
     refine aO6 λU hU=>?_
     walk_at "l3"
     refine ⟨⟨_,rfl⟩,by omega,hU _ ?_⟩
     clear hU
     walk_at "l3"
     exact ⟨of,oc,c,k,lsp g,rfl,hL,p,a,⟨rfl,rfl⟩,p,a,rfl,rfl,h2,ha,m,by omega,g p a,acc++[(p:Int)],⟨by rw [<-a50]; rfl,rfl⟩,by simp; omega,hg⟩
    ·cases hg
noncomputable abbrev aG5 (L:Obj->Obj->Addr->Addr->LSp->Prop):SpD:=λds Q=>∃(n:Nat) (of oc:Obj) (c k:Addr) (g:Nat->Nat->Nat) (l:List Int),ds=[.int n,.clo (.lam of oc c k)]/\L of oc c k (lsp g)/\bJ2 g n=some l/\Q (.lst true (aR7 l))
theorem aG6 (T:Txt K mg t):FnOk P w K mg base CX0 6 t.f_step_powers t.fd_step_powers ["many","product"] (lSp (aG5 (LamOk P w K mg base 4))):=by
 refine aS4 T.F_step_powers ag3 ?_ ?_
 ·intro ds Q h
  obtain ⟨n,of,oc,c,k,g,l,rfl,hL,hp,q⟩:=h <;> rfl
 ·intro cdv A outer s H E hr
  refine ⟨_,(aO5 (aQ5 (i:=2) ag3.nd rfl (Or.inl rfl) aP2)
   (aO5 (aQ5 (i:=3) ag3.nd rfl (Or.inl rfl) (aQ3 ((aB6 T).mono (by decide)) hr rfl T.g_powers_of T.F_powers_of.kp T.b_powers_of aQ7 (aO4 (bv 2) (aO4 (bv 1) aP6))))
   (aO5 (bg5 PassesOwn.never (aU9 cr5 (aP0 (aU4 (bl5) (by rfl) T.n_len ba5 (aO4 (bv 3) aP6))) (aP0 (aS3 bd7 (bv 0) (aP0 aP2))) (aR2 _))
    (aO5 (bT6 (i:=2) ag3.nd rfl (Or.inl rfl) (aP0 aP2) cn2)
    (aO7 (aQ5 (i:=3) ag3.nd rfl (Or.inl rfl) (aQ3 ((aB6 T).mono (by decide)) hr rfl T.g_powers_of T.F_powers_of.kp T.b_powers_of aQ7 (aO4 (bv 2) (aO4 (bv 1) aP6)))))))
   (aO7 (aQ4 (em 3)))))),λds Q h=>?_⟩
  obtain ⟨n,of,oc,c,k,g,l,rfl,hL,hp,q⟩:=h
  unfold bJ2 at hp
  split at hp
  ·rename_i l0 h0
   refine aO6 λU hU=>?_
   walk_at "l3"
   refine hU _ ?_
   clear hU U
   refine aO6 λU hU=>?_
   walk_at "l3"
   refine ⟨1,of,oc,c,k,g,l0,rfl,hL,by decide,h0,hU _ ?_⟩
   clear hU U
   refine aO6 λU hU=>?_
   walk_at "l3"
   refine ⟨λm δ=>∃(st:Nat) (l1:List Int),δ=[some (.int n),some (.clo (.lam of oc c k)),some (.int st),some (.lst true (aR7 l1))]/\st + m<=63/\goS g n m st l1=some l,⟨62,1,l0,rfl,by decide,hp⟩,?_⟩
   rintro m δ ⟨st,l1,rfl,hn,hg⟩
   walk_at "l3"
   cases m with
   | zero=>cases hg
   | succ m =>
    unfold goS at hg
    split at hg
    ·rename_i h1
     rw [if_pos (by omega)]
     split at hg
     ·rename_i l2 h2
      clear hU
      refine aO6 λU hU=>?_
      walk_at "l3"
      refine hU _ ?_
      clear hU
      walk_at "l3"
      exact ⟨st + 1,of,oc,c,k,g,l2,rfl,hL,by omega,h2,m,by omega,st + 1,l2,⟨rfl,rfl⟩,by omega,hg⟩
     ·cases hg
    ·rename_i h1
     rw [if_neg (by omega)]
     cases hg
     refine hU _ ?_
     walk_at "l3"
     exact q
  ·cases hp
noncomputable abbrev aM6:SpD:=λds Q=>∃(l:List Int),ds=[.lst false (aR7 l)]/\l.length<=64/\(∀x∈l,0<=x/\x.toNat<=l.length)/\Q (.lst true (aR7 (aX1 l)))
theorem aM7 (T:Txt K mg t):FnOk P w K mg base CX0 1 t.f_logs_of t.fd_logs_of ["powers"] (lSp (aM6 )):=by
 refine aS4 T.F_logs_of ax5 ?_ ?_
 ·intro ds Q h
  obtain ⟨l,rfl,hl,hx,q⟩:=h <;> rfl
 ·intro cdv A outer s H E hr
  refine ⟨_,(aO5 (aQ5 (i:=1) ax5.nd rfl (Or.inl rfl) (aS3 bd9 (aP0 (a09 (aU3 aP2 aX6))) (aP0 (aS3 aZ8 (aP0 (aU4 (bl5) (by rfl) T.n_len ba5 (aO4 (bv 0) aP6))) (aP0 aP2)))))
   (aO5 (bb6 PassesOwn.never rfl (aY2 rfl T.n_enumerate (aO4 (bv 0) aP6)) (a54 (i1:=2) (i2:=3) rfl ax5.nd rfl (Or.inl rfl) rfl (Or.inl rfl))
    (aO7 (bA1 (i:=1) rfl (by first | exact Or.inl rfl | exact Or.inr (Or.inl rfl)) (ba9 (bv 2)) (bv 3))))
   (aO7 (aQ4 (em 1))))),λds Q h=>?_⟩
  obtain ⟨l,rfl,hl,hx,q⟩:=h
  refine aO6 λU hU=>?_
  walk_at "l3"
  refine ⟨by decide,⟨by omega,by omega,by omega⟩,hU _ ?_⟩
  clear hU U
  refine aO6 λU hU=>?_
  walk_at "l3"
  refine dForB.mk (λi δ=>∃o1 o2,δ=[some (.lst false (aR7 l)),some (.lst true (aR7 (bn1 l i))),o1,o2]) ⟨none,none,?_⟩ ?_ ?_
  ·rw [show ((l.length:Int) + 1).toNat=l.length + 1 by omega]; rfl
  ·rintro i d δ hd ⟨o1,o2,rfl⟩
   obtain ⟨hi,rfl⟩:∃h:i < l.length,d=.tup [.int i,.int l[i]]:=by
    unfold a74 aR7 at hd
    rw [List.getElem?_mapIdx,List.getElem?_map] at hd
    by_cases hi:i < l.length
    ·rw [List.getElem?_eq_getElem hi] at hd
     simp at hd
     exact ⟨hi,hd.symm⟩
    ·rw [List.getElem?_eq_none (by omega)] at hd; simp at hd
   have hx1:=hx l[i] (List.getElem_mem _)
   walk_at "l3"
   refine ⟨_,(l[i]).toNat,rfl,?_,_,_,?_,rfl,rfl⟩
   ·unfold ixN
    rw [aX7,a70,if_pos hx1.1,if_pos (by omega)]
   ·unfold aR7
    rw [<-List.map_set]
    congr 1
    show _=(bn1 l i).set (l.getD i 0).toNat (i:Int)
    rw [List.getD_eq_getElem?_getD,List.getElem?_eq_getElem hi]; rfl
  ·rintro δ ⟨o1,o2,rfl⟩
   refine hU _ ?_
   simp only [bC0,b90,ci2,dIf,dT,dOp,bY0,br7,dC,dPl,bu0,bw9,cc7,ch3,ci7,dCB,dIx,ixD,dP0,dP1,dOr,ci1,bD2,bC7,ci4,bg3,b87,bu5,ii,cg1,cg4,cf5,bD9,cg5,cg6,ci3,ch7,ci5,iI,iI0,ltD,leD,gtD,geD,isD,bu8,isNon,eqD,neD,gN,blD,ci6,cg3,dIo,dIv,dR1,dR2,ch2,cg8,bB5,cg9,bv4,bP5,aV4,bD5,bb7,Option.getD_some,Option.getD_none,Option.map_some,Option.map_none,cg0,a62,isL,ce2,bD0,ch5,bj2,bo8,ch6,slE,ci8,gN2,bH7,br3,bq0,List.map_cons,List.map_nil,List.cons_append,List.nil_append,List.length_cons,List.length_nil,List.replicate,List.getElem?_cons_zero,List.getElem?_cons_succ,List.set_cons_zero,List.set_cons_succ,Option.some.injEq,exists_eq_left',exists_eq_left,D.bl.injEq,D.int.injEq,D.lst.injEq,D.fz.injEq,D.str.injEq,D.tup.injEq,List.cons.injEq,and_true,true_and,List.all_cons,List.all_nil,Bool.and_true,Bool.true_and,br6,bI5,bq5,bt1,bL7,bq4,aW6,a75,bd4,bL5,br4,bq3,bO3,br8,aT6,a94,bq2,bG8,bp2,br5,aV3,bg0,Bool.not_false,Bool.not_true,Bool.false_and,Bool.or_true,Bool.true_or,Bool.false_or,Bool.or_false,aY8,aX0,aW5,aW7,aY9,aY1,aV0,aX7,a67,a98,aX2,a50,bb1,a78,bf5,bc2,bf7,aZ6,a85,if_true,Bool.false_eq_true,if_false,reduceIte,cp7,decide_eq_true_eq,aR3,aZ5,aW8,a58,a73,bp7,bk2,ci0,bg7,bB8,ca4,bw6,bB3,bC3,ch0,b75,dLR,aS5,a80,aV2,a68,ca6,ch4,bE2,a03]
   exact q
noncomputable abbrev ai9 (K:Frag):SpD:=λds Q=>∃(C:Addr) (ns:List Str) (xs:List D) (n:Int) (many:Nat) (l:List Int) (r:Int),ds=[.obj C ns xs,.int n]/\Cls K C/\NoAttr K C "powers"/\NoAttr K C "many"/\(ns.zip xs).lookup ("powers":Str)=some (.lst false (aR7 l))/\(ns.zip xs).lookup ("many":Str)=some (.int many)/\2<=many/\l[(n % ((many:Int) - 1)).toNat]?=some r/\Q (.int r)
theorem aj0 (T:Txt K mg t):FnOk P w K mg base CX0 1 t.ad7 t.ai4 ["self","n"] (lSp (ai9 K)):=by
 refine aS4 T.aA3 az2 ?_ ?_
 ·intro ds Q h
  obtain ⟨C,ns,xs,n,many,l,r,rfl,hC,h1,h2,h3,h4,h5,h6,q⟩:=h <;> rfl
 ·intro cdv A outer s H E hr
  refine ⟨_,(aO7 (aQ4 (ba9 (aZ0 (a61 (K:=K) (bv 0)) (aP0 (aS3 a04 (bv 1) (aP0 (aS3 bd7 (a61 (K:=K) (bv 0)) (aP0 aP2))))) (λ_ _=>rfl))))),λds Q h=>?_⟩
  obtain ⟨C,ns,xs,n,many,l,r,rfl,hC,h1,h2,h3,h4,h5,h6,q⟩:=h
  walk_at "l3"
  refine ⟨C,ns,xs,_,rfl,hC,h1,h3,C,ns,xs,_,rfl,hC,h2,h4,?_⟩
  refine ⟨by omega,_,a76 (d:=.int r) (Int.emod_nonneg _ (by omega)) ?_,rfl,q⟩
  unfold aR7
  rw [List.getElem?_map,h6]; rfl
noncomputable abbrev aH9 (P:Program) (w:World) (K:Frag) (mg:Str->Option Value) (base:Heap) (fs:Addr):Sp:=λvs H Q _=>∃(x dx f C:Addr) (b:Str) (n0:Int) (many:Nat) (of oc:Obj) (c k:Addr) (g:Nat->Nat->Nat) (l:List Int) (st:Int),
 vs=[.ref x,.int many,.ref f]/\H x=some (.ins C dx [(b,.int n0)])/\(∀n∈(["many","wide","powers","logs","step","step_power"]:List Str),b≠n)/\FieldCls K C fs/\LamAt H f of oc c k/\LamOk P w K mg base 4 of oc c k (lsp g)/\FOk g many l st /\
 ∀H' p1 p2,SameX x H H'->H' x=some (.ins C dx ((aX5 b).zip (bV9 n0 many p1 p2 st)))->LI H' p1 l->LI H' p2 (aX1 l)->p1≠p2->H p1=none->H p2=none->Q .non H'
theorem ay8 (T:Txt K mg t):FnOk P w K mg base CX0 7 t.as8 t.aq3 ["self","many","product"] (aH9 P w K mg base t.ad7):=by
 refine T.aJ5.ok aH3 (λvs H Q E h=>?_) λcdv A outer s H vs Q E hr h=>?_
 ·obtain ⟨x,dx,f,C,b,n0,many,of,oc,c,k,g,l,st,rfl,_⟩:=h; rfl
 obtain ⟨x,dx,f,C,b,n0,many,of,oc,c,k,g,l,st,rfl,hx,hb,hC,hlam,hL,hF,q⟩:=h
 refine ⟨_,aV1 (bd2 (pv 0) (pv 1) rfl) (aV1 (bd2 (pv 0) (bL8 bF5 (bh8 (pv 1)) bk1) rfl)
  (aV1 (bd2 (pv 0) (ba1 ((aG6 T).mono (by decide)) hr rfl T.g_step_powers T.F_step_powers.kp T.b_step_powers .nil aQ7 (aS1 (pv 1) (aS1 (pv 2) a02))) rfl)
  (aV1 (bd2 (pv 0) (ba1 ((aM7 T).mono (by decide)) hr rfl T.g_logs_of T.F_logs_of.kp T.b_logs_of .nil aQ7 (aS1 (by3 (pv 0) rfl) a02)) rfl)
  (bc5 (bd2 (pv 0) (b98 (pv 0) hC.cls hC.sp ((aj0 T).mono (by decide)) hr T.aj7 .nil aQ7 (aS1 bk1 a02)) rfl))))),?_⟩
 have nb:∀n∈(["many","wide","powers","logs","step","step_power"]:List Str),b≠n:=hb
 refine ⟨.int many,rfl,.ref x,rfl,x,C,dx,_,rfl,hx,hC.cls,hC.many,Nat.lt_of_le_of_lt (Nat.le_refl 1) (by decide),?_⟩
 rw [a87 (by simpa using nb "many" (by simp))]
 generalize e1:upd H x (HO.ins C dx ([(b,V.int n0)]++[(("many":Str),V.int many)]))=H1
 have hx1:H1 x=some (.ins C dx [(b,V.int n0),(("many":Str),V.int many)]):=by rw [<-e1,aP7]; rfl
 have s1:SameX x H H1:=by rw [<-e1]; exact SameX.upd (C:=C) (dx:=dx) hx rfl
 have l1:LamAt H1 f of oc c k:=by rw [<-e1]; exact hlam.updX hx
 have n1:∀p,H1 p=none->H p=none:=λp h=>bq1 hx (by rw [e1]; exact h)
 refine ⟨_,rfl,rfl,_,rfl,rfl,_,_,rfl,rfl,.ref x,rfl,x,C,dx,_,rfl,hx1,hC.cls,hC.wide,Nat.lt_of_le_of_lt (Nat.le_refl 2) (by decide),?_⟩
 rw [a87 (by simp; exact ⟨nb "wide" (by simp),by decide⟩),Int.natAbs_natCast]
 generalize e2:upd H1 x (HO.ins C dx ([(b,V.int n0),(("many":Str),V.int many)]++[(("wide":Str),V.int ((bl many:Nat) - 1))]))=H2
 have hx2:H2 x=some (.ins C dx [(b,V.int n0),(("many":Str),V.int many),(("wide":Str),V.int ((bl many:Nat) - 1))]):=by rw [<-e2,aP7]; rfl
 have s2:SameX x H H2:=by rw [<-e2]; exact s1.trans (SameX.upd (C:=C) (dx:=dx) hx1 rfl)
 have l2:LamAt H2 f of oc c k:=by rw [<-e2]; exact l1.updX hx1
 have n2:∀p,H2 p=none->H p=none:=λp h=>n1 p (bq1 hx1 (by rw [e2]; exact h))
 refine ⟨_,rfl,_,rfl,H2,[.int many,.clo (.lam of oc c k)],λd=>d=.lst true (aR7 l),Same.refl _,.int (.clo l2 .nil),⟨many,of,oc,c,k,g,l,rfl,hL,hF.step,rfl⟩,λd v F' H3 A' hd hs hf he h3 r nd fr=>?_⟩
 subst hd
 obtain ⟨p1,rfl,hp1,np1⟩:=bN5 r fr
 have hx3:=hs.get _ _ hx2
 have s3:=s2.trans (hs.x (x:=x))
 refine ⟨.ref x,rfl,x,C,dx,_,rfl,hx3,hC.cls,hC.powers,Nat.lt_of_le_of_lt (Nat.le_refl 3) (by decide),?_⟩
 rw [a87 (by simp; exact ⟨nb "powers" (by simp),by decide,by decide⟩)]
 generalize e4:upd H3 x (HO.ins C dx ([(b,V.int n0),(("many":Str),V.int many),(("wide":Str),V.int ((bl many:Nat) - 1))]++[(("powers":Str),V.ref p1)]))=H4
 have hx4:H4 x=some (.ins C dx [(b,V.int n0),(("many":Str),V.int many),(("wide":Str),V.int ((bl many:Nat) - 1)),(("powers":Str),V.ref p1)]):=by rw [<-e4,aP7]; rfl
 have s4:SameX x H H4:=by rw [<-e4]; exact s3.trans (SameX.upd (C:=C) (dx:=dx) hx3 rfl)
 have p4:LI H4 p1 l:=by rw [<-e4]; exact hp1.upd hx3 (λws z=>by cases z)
 have n4:∀p,H4 p=none->H p=none:=λp h=>n2 p (hs.free (bq1 hx3 (by rw [e4]; exact h)))
 refine ⟨.ref x,rfl,x,C,dx,_,.ref p1,rfl,hx4,hC.cls,hC.powers,by rw [be6 (nb "powers" (by simp))]; rfl,H4,[.lst false (aR7 l)],λd=>d=.lst true (aR7 (aX1 l)),Same.refl _,.shr p4 (a71 l) .nil,⟨l,rfl,by have:=hF.len; have:=hF.hi; omega,hF.ins,rfl⟩,λd v F' H5 A' hd hs5 hf he h3 r nd fr=>?_⟩
 subst hd
 obtain ⟨p2,rfl,hp2,np2⟩:=bN5 r fr
 have hx5:=hs5.get _ _ hx4
 have s5:=s4.trans (hs5.x (x:=x))
 have ne12:p1≠p2:=λz=>by rw [<-z] at np2; unfold LI at p4; rw [np2] at p4; cases p4
 refine ⟨.ref x,rfl,x,C,dx,_,rfl,hx5,hC.cls,hC.logs,Nat.lt_of_le_of_lt (Nat.le_refl 4) (by decide),?_⟩
 rw [a87 (by simp; exact ⟨nb "logs" (by simp),by decide,by decide,by decide⟩)]
 generalize e6:upd H5 x (HO.ins C dx ([(b,V.int n0),(("many":Str),V.int many),(("wide":Str),V.int ((bl many:Nat) - 1)),(("powers":Str),V.ref p1)]++[(("logs":Str),V.ref p2)]))=H6
 have hx6:H6 x=some (.ins C dx (([b,"many","wide","powers","logs"]:List Str).zip [V.int n0,V.int many,V.int ((bl many:Nat) - 1),V.ref p1,V.ref p2])):=by rw [<-e6,aP7]; rfl
 have s6:SameX x H H6:=by rw [<-e6]; exact s5.trans (SameX.upd (C:=C) (dx:=dx) hx5 rfl)
 have p6:LI H6 p1 l:=by rw [<-e6]; exact (p4.same hs5).upd hx5 (λws z=>by cases z)
 have q6:LI H6 p2 (aX1 l):=by rw [<-e6]; exact hp2.upd hx5 (λws z=>by cases z)
 refine ⟨.ref x,rfl,x,dx,_,rfl,hx6,by show List.lookup ("step_power":Str) ((b,V.int n0) :: _)=none; rw [be6 (nb "step_power" (by simp))]; rfl,H6,[.obj C [b,"many","wide","powers","logs"] [.int n0,.int many,.int ((bl many:Nat) - 1),.lst false (aR7 l),.lst false (aR7 (aX1 l))],.int 1],λd=>d=.int st,Same.refl _,
  .obj hx6 rfl (.int (.int (.int (.shr p6 (a71 l) (.shr q6 (a71 _) .nil))))) (.int .nil),⟨C,_,_,1,many,l,st,rfl,hC.cls,hC.powers,hC.many,by show List.lookup ("powers":Str) ((b,D.int n0) :: _)=_; rw [be6 (nb "powers" (by simp))]; rfl,by show List.lookup ("many":Str) ((b,D.int n0) :: _)=_; rw [be6 (nb "many" (by simp))]; rfl,hF.lo,hF.st,rfl⟩,λd v F' H7 A' hd hs7 hf he h3 r nd fr=>?_⟩
 subst hd
 cases r
 have hx7:=hs7.get _ _ hx6
 refine ⟨.ref x,rfl,x,C,dx,_,rfl,hx7,hC.cls,hC.step,Nat.lt_of_le_of_lt (Nat.le_refl 5) (by decide),?_⟩
 rw [a87 (by simp; exact ⟨nb "step" (by simp),by decide,by decide,by decide,by decide⟩)]
 refine q _ p1 p2 ((s6.trans (hs7.x (x:=x))).trans (SameX.upd (C:=C) (dx:=dx) hx7 rfl)) (by rw [aP7]; rfl) ((p6.same hs7).upd hx7 (λws z=>by cases z)) ((q6.same hs7).upd hx7 (λws z=>by cases z)) ne12 (n2 p1 np1) (n4 p2 np2)
noncomputable abbrev ax8:SpD:=λds Q=>∃a:Int,ds=[.int a]/\Q (.bl (decide (2<=a) && decide (a<=61) && (List.range (a.toNat - 2)).all λi=>a % (2 + (i:Int)) != 0))
theorem ax9 (T:Txt K mg t):FnOk P w K mg base CX0 1 t.f_makes_prime_field t.fd_makes_prime_field ["prime"] (lSp (ax8 )):=by
 refine aS4 T.F_makes_prime_field ax6 ?_ ?_
 ·intro ds Q h
  obtain ⟨a,rfl,q⟩:=h <;> rfl
 ·intro cdv A outer s H E hr
  refine ⟨_,(aO7 (aQ4 (bD7 (aP0 (bw7 cr0 cr0 (aP0 aP2) (bv 0) (aP0 aP2))) (bi8 (aU4 (bU4 rfl) (by rfl) T.n_all bz6 (aO4 (aP0 (aS2 [("prime",0)] ["d"] rfl (be1 rfl T.n_range (aO4 (aP0 aP2) (aO4 (bv 0) aP6))) (λ_ _ _ _=>(aS6 (i:=1) (show (["prime","d"]:List Str).Nodup by decide +kernel) rfl (Or.inl (lookup_relabel_local rfl)) (by decide) (Or.inr (lookup_relabel_local rfl)))) (λ_ _ _ _=>aU7) (λ_ _ _ _=>(bK4 (bC4 (hu6 hr)) (aP0 (aS3 a04 (bv 0) (bv 1))) (aP0 aP2) (aR2 _))) rfl ⟨rfl,trivial⟩ (λ_=>by repeat' (first | exact trivial | refine ⟨.inl rfl,?_⟩ | refine ⟨.inr (.inl rfl),?_⟩ | refine ⟨.inr (.inr ⟨_,rfl⟩),?_⟩)) (λ_=>⟨⟨rfl,.inl rfl,.inl rfl,_,rfl,rfl⟩,trivial⟩) rfl (by decide +kernel))) aP6)))))),λds Q h=>?_⟩
  obtain ⟨a,rfl,q⟩:=h
  walk_at "l3"
  split
  ·rename_i h1
   split
   ·rename_i h2
    refine ⟨2,a,⟨rfl,rfl⟩,⟨by decide,by decide,by omega,by omega⟩,?_⟩
    have e0:(a - 2).toNat=a.toNat - 2:=by omega
    rw [e0]
    refine aR9 (List.range (a.toNat - 2)) (λ(k:Nat)=>D.int (2 + (k:Int))) (λ(k:Nat)=>D.bl (a % (2 + (k:Int)) != 0)) (by rw [a05]) (λx y h=>by injection h with h; omega) (λk hk=>?_) (.inr λ_ _=>rfl) (by rw [List.length_range,sL]; omega) ?_
    ·walk_at "l3"
     refine ⟨by omega,?_⟩
     by_cases z:a % (2 + (k:Int))=0 <;> simp [z]
    ·refine ⟨(List.range (a.toNat - 2)).map λ(k:Nat)=>a % (2 + (k:Int)) != 0,?_,?_⟩
     ·unfold bls; rw [List.map_map]; rfl
     ·have e:(decide (2<=a) && decide (a<=61) && (List.range (a.toNat - 2)).all λi=>a % (2 + (i:Int)) != 0)=((List.range (a.toNat - 2)).map λ(k:Nat)=>a % (2 + (k:Int)) != 0).all id:=by
       simp [h1,h2,List.all_map]
      rw [<-e]; exact q
   ·rename_i h2
    have e:(decide (2<=a) && decide (a<=61) && (List.range (a.toNat - 2)).all λi=>a % (2 + (i:Int)) != 0)=false:=by simp [h2]
    rw [e] at q; exact q
  ·rename_i h1
   have e:(decide (2<=a) && decide (a<=61) && (List.range (a.toNat - 2)).all λi=>a % (2 + (i:Int)) != 0)=false:=by simp [h1]
   rw [e] at q; exact q
noncomputable abbrev aG7:List D->List Str->List D->Prop:=λds ns xs=>∃p:Nat,ds=[.int p]/\p∈fprimes/\ns=aX5 "prime"/\xs=[.int p,.int p,.int ((bl p:Nat) - 1),.lst true (aR7 (fl (false,p))),.lst true (aR7 (aX1 (fl (false,p)))),.int (fst (false,p))]
theorem aB7 (T:Txt K mg t) (hB:Bm mg base):FnOk P w K mg base CX0 8 t.ak4 t.af7 ["self","prime"] (b92 [t.aa4,t.aa6] t.aa0 aG7):=by
 refine bJ9 T.aC7 T.aB4 aA1 (λvs H Q E h=>?_) λA outer s H vs Q E hr h=>?_
 ·obtain ⟨x,dx,vs',ds,ns,xs,rfl,_,_,r,⟨p,rfl,_⟩,_⟩:=h
  have:=r.length
  simp at this
  simp [this]
 obtain ⟨x,dx,vs',ds,ns,xs,rfl,tb,hx,r,⟨p,rfl,hp,rfl,rfl⟩,q⟩:=h
 obtain rfl:vs'=[.int p]:=by
  cases r with
  | int r=>cases r; rfl
 have hm:(false,p)∈flds:=List.mem_append_right _ (List.mem_map_of_mem hp)
 have hF:=fok hm
 refine ⟨_,aV1 (cb9 (bF7 (bK3 (ba1 ((ax9 T).mono (by decide)) hr rfl T.g_makes_prime_field T.F_makes_prime_field.kp T.b_makes_prime_field .nil aQ7 (aS1 (pv 1) a02)))) (bc5 bx5) bv3)
  (aV1 (bd2 (pv 0) (pv 1) rfl)
  (bc5 (bg6 (bE7 (E:=E0) (i:=1) T.ay7 ((ay8 T).mono (by decide)) hr T.aA4 rfl T.as4 rfl rfl rfl rfl (aS1 (pv 0) (aS1 (pv 1) (aS1 (b08 rfl rfl T.aB5 hB) a02))))))),?_⟩
 refine ⟨_,rfl,H,[.int p],λd=>d=.bl true,Same.refl _,.int .nil,⟨p,rfl,by rw [bV5 p hp]⟩,λd v F' H1 A1 hd hs1 hf he h3 r nd fr=>?_⟩
 subst hd
 cases r
 refine ⟨true,rfl,?_⟩
 refine bT5 ?_
 have hx1:=hs1.get _ _ hx
 refine ⟨.int p,rfl,.ref x,rfl,x,t.aa0,dx,_,rfl,hx1,T.aa2,T.aa5,by decide,?_⟩
 generalize e2:upd H1 x (HO.ins t.aa0 dx (bj5 "prime" (.int p) []))=H2
 have hx2:H2 x=some (.ins t.aa0 dx [(("prime":Str),.int p)]):=by rw [<-e2,aP7]; rfl
 have s2:SameX x H H2:=by rw [<-e2]; exact (hs1.x (x:=x)).trans (SameX.upd (C:=x) (dx:=dx) hx1 rfl)
 have n2:∀p,H2 p=none->H p=none:=λp h=>hs1.free (bq1 hx1 (by rw [e2]; exact h))
 obtain ⟨ps,hP⟩:=tb t.aa4 (by simp)
 obtain ⟨more,hP2⟩:=s2.tb _ ps hP
 refine ⟨.ref x,rfl,.int p,rfl,⟨_,hP2⟩,λf k qn pm ctv H3 nf hf3 hk kf hs3 hl3=>?_⟩
 refine ⟨f,_,_,.int p,hf3,rfl,rfl,λoc u hoc hu nc ncf=>?_⟩
 obtain ⟨tm,rfl⟩:∃tm,u=Value.int p tm:=hu
 have hx3:=hs3.get _ _ hx2
 refine ⟨x,dx,f,t.aa0,"prime",p,p,_,oc,_,k,gm (false,p),fl (false,p),fst (false,p),rfl,bb9 hx3 (λz=>by rw [z,nf] at hx2; cases hx2) nc,by decide,⟨T.aa2,T.ac7,T.ae0,T.ab8,T.ab6,T.ad9,T.ab0⟩,bA2 ncf nc hk kf,?_,hF,λH' p1 p2 sx hx' hl1 hl2 ne np1 np2=>?_⟩
 ·refine b07 (n:=3) ⟨rfl,rfl,rfl,by decide,rfl,rfl,by decide,by decide,rfl⟩ hoc (λu1 u2=>rfl) λq f A outer s H E hr=>?_
  refine ⟨_,aS3 a04 (aP0 (aS3 bd9 (bv 0) (bv 1))) (bv 2),λi j Qd h=>?_⟩
  obtain ⟨a,b,rfl,rfl,ha,hb,hq⟩:=h
  walk_at "l3"
  have hp0:2<=p:=hF.lo
  refine ⟨CMul.ok (.inr ⟨by omega,by omega⟩),by omega,?_⟩
  have e:((gm (false,p) a b:Nat):Int)=(a:Int) * b % p:=by
   show ((a * b % p:Nat):Int)=_
   rw [Int.natCast_emod,Int.natCast_mul]
  rw [<-e]; exact hq
 ·have gf:H' f=some (.ext (cloφ _ oc _ f)):=sx.get f _ (λz=>by rw [z] at nf; rw [nf] at hx2; cases hx2) (by rw [aP5 ncf.symm,aP7]) rfl
  have gc:=sx.get _ _ (aQ1 hx3 nc).symm aP7 rfl
  refine ⟨gf,gc,?_⟩
  refine q _ (bV9 p p p1 p2 (fst (false,p))) [p1,p2] (s2.trans (bo6 hs3 nf nc sx)) ?_ rfl ?_ (by simp [ne]) (λa ha=>?_)
  ·rw [aX3 (λz=>by rw [z,gf] at hx'; cases hx') (λz=>by rw [z,gc] at hx'; cases hx')]; exact hx'
  ·exact .int (.int (.int (.own (hl1.rem gf gc) rfl (a71 _) (.own (hl2.rem gf gc) rfl (a71 _) (.int .nil)))))
  ·simp at ha
   rcases ha with rfl | rfl
   ·exact n2 _ (bb2 hs3 np1)
   ·exact n2 _ (bb2 hs3 np2)
noncomputable abbrev aF7:SpD:=λds Q=>∃(l g:List Int),ds=[.lst false (aR7 l),.lst false (aR7 g)]/\1<=l.length/\l.length<=63/\g.length=l.length + 1/\(∀x∈g,0<=x)/\Q (.lst true (bd1 l g))
theorem aF8 (T:Txt K mg t):FnOk P w K mg base CX0 1 t.f_product_rows t.fd_product_rows ["powers","logs"] (lSp (aF7 )):=by
 refine aS4 T.F_product_rows aj3 ?_ ?_
 ·intro ds Q h
  obtain ⟨l,g,rfl,h1,h2,h3,h4,q⟩:=h <;> rfl
 ·intro cdv A outer s H E hr
  refine ⟨_,(aO5 (aQ5 (i:=2) aj3.nd rfl (Or.inr rfl) (aS3 aZ8 (aP0 (aU4 (bl5) (by rfl) T.n_len ba5 (aO4 (bv 0) aP6))) (aP0 aP2)))
   (aO5 (aQ5 (i:=3) aj3.nd rfl (Or.inl rfl) (a09 (aU3 (aS3 bd9 (aP0 (a09 (aU3 aP2 aX6))) (bv 2)) aX6)))
   (aO5 (bb6 PassesOwn.never rfl (be1 rfl T.n_range (aO4 (aP0 aP2) (aO4 (bv 2) aP6))) (aS6 (i:=4) aj3.nd rfl (Or.inr rfl))
    (aO7 (a77 (i:=3) rfl (by first | exact Or.inl rfl | exact Or.inr (Or.inl rfl)) (aS3 aZ8 (aP0 (a09 (aU3 aP2 aX6))) (aP0 (aS2 [("powers",0),("many",2),("logs",1),("a",4)] ["b"] rfl (be1 rfl T.n_range (aO4 (aP0 aP2) (aO4 (bv 2) aP6))) (λ_ _ _ _=>(aS6 (i:=4) (show (["powers","many","logs","a","b"]:List Str).Nodup by decide +kernel) rfl (Or.inl (lookup_relabel_local rfl)) (by decide) (Or.inr (lookup_relabel_local rfl)))) (λ_ _ _ _=>aU7) (λ_ _ _ _=>(ba9 (aZ0 (bv 0) (aP0 (aS3 a04 (aP0 (aS3 aZ8 (aZ0 (bv 2) (bv 3) (λ_ _=>rfl)) (aZ0 (bv 2) (bv 4) (λ_ _=>rfl)))) (aP0 (aS3 bd7 (bv 1) (aP0 aP2))))) (λ_ _=>rfl)))) rfl ⟨rfl,⟨rfl,⟨rfl,⟨rfl,trivial⟩⟩⟩⟩ (λ_=>by repeat' (first | exact trivial | refine ⟨.inl rfl,?_⟩ | refine ⟨.inr (.inl rfl),?_⟩ | refine ⟨.inr (.inr ⟨_,rfl⟩),?_⟩)) (λ_=>⟨⟨rfl,.inl rfl,.inl rfl,_,rfl,rfl⟩,⟨⟨rfl,.inl rfl,.inl rfl,_,rfl,rfl⟩,⟨⟨rfl,.inl rfl,.inl rfl,_,rfl,rfl⟩,⟨⟨rfl,.inl rfl,.inl rfl,_,rfl,rfl⟩,trivial⟩⟩⟩⟩) rfl (by decide +kernel)))))))
   (aO7 (aQ4 (em 3)))))),λds Q h=>?_⟩
  obtain ⟨l,g,rfl,h1,h2,h3,h4,q⟩:=h
  refine aO6 λU hU=>?_
  walk_at "l3"
  refine hU _ ?_
  clear hU U
  refine aO6 λU hU=>?_
  walk_at "l3"
  refine ⟨by decide,⟨by omega,by omega,by omega⟩,by decide,hU _ ?_⟩
  clear hU U
  refine aO6 λU hU=>?_
  walk_at "l3"
  refine ⟨1,(l.length:Int) + 1,⟨rfl,rfl⟩,⟨by decide,by decide,by omega,by omega⟩,?_⟩
  have en:((l.length:Int) + 1 - 1).toNat=l.length:=by omega
  rw [en]
  refine dForB.mk (λi δ=>∃o,δ=[some (.lst false (aR7 l)),some (.lst false (aR7 g)),some (.int ((l.length:Int) + 1)),some (.lst true (bj9 l g (i + 1))),o]) ⟨none,?_⟩ ?_ ?_
  ·rw [show ((l.length:Int) + 1).toNat=l.length + 1 by omega]; rfl
  ·rintro i d δ hd ⟨o,rfl⟩
   obtain ⟨hi,rfl⟩:i < l.length/\d=.int (1 + (i:Int)):=by
    rw [List.getElem?_map] at hd
    by_cases hi:i < l.length
    ·rw [List.getElem?_range hi] at hd
     exact ⟨hi,(Option.some.inj hd).symm⟩
    ·rw [List.getElem?_eq_none (by simpa using hi)] at hd; cases hd
   walk_at "l3"
   refine ⟨⟨_,rfl⟩,by decide,1,(l.length:Int) + 1,⟨rfl,rfl⟩,⟨by decide,by decide,by omega,by omega⟩,?_⟩
   rw [en]
   refine aR9 (List.range l.length) (λ(k:Nat)=>D.int (1 + (k:Int))) (λ(k:Nat)=>D.int (l.getD ((g.getD (i + 1) 0 + g.getD (k + 1) 0) % (l.length:Int)).toNat 0)) (by rw [a05]) (λx y h=>by injection h with h; omega) (λk hk=>?_) (.inr λ_ _=>rfl) (by rw [List.length_range,sL]; omega) ?_
   ·have hk':=List.mem_range.mp hk
    walk_at "l3"
    have e1:(1 + (i:Int)).toNat=i + 1:=by omega
    have e2:(1 + (k:Int)).toNat=k + 1:=by omega
    have e3:(l.length:Int) + 1 - 1=l.length:=by omega
    have n0:=Int.emod_nonneg (g.getD (i + 1) 0 + g.getD (k + 1) 0) (show (l.length:Int)≠0 by omega)
    have n1:=Int.emod_lt_of_pos (g.getD (i + 1) 0 + g.getD (k + 1) 0) (show (0:Int) < l.length by omega)
    refine ⟨_,aW1 (by omega) (by omega),_,aW1 (by omega) (by omega),?_⟩
    rw [e1,e2,e3]
    exact ⟨by omega,_,aW1 n0 n1,rfl,rfl⟩
   ·walk_at "l3"
    refine ⟨⟨by simp; omega,by rw [List.all_map,List.all_eq_true]; intro x _; rfl⟩,by simp [bj9]; omega,_,?_,rfl⟩
    unfold bj9
    rw [List.range_succ (n:=i + 1),List.map_append]
    congr 1
    show _=[D.lst true (aR7 (bp6 l g (i + 1)))]
    unfold bp6
    rw [if_neg (by omega)]
    unfold aR7
    rw [List.map_cons,List.map_map]; rfl
  ·rintro δ ⟨o,rfl⟩
   refine hU _ ?_
   simp only [bC0,b90,ci2,dIf,dT,dOp,bY0,br7,dC,dPl,bu0,bw9,cc7,ch3,ci7,dCB,dIx,ixD,dP0,dP1,dOr,ci1,bD2,bC7,ci4,bg3,b87,bu5,ii,cg1,cg4,cf5,bD9,cg5,cg6,ci3,ch7,ci5,iI,iI0,ltD,leD,gtD,geD,isD,bu8,isNon,eqD,neD,gN,blD,ci6,cg3,dIo,dIv,dR1,dR2,ch2,cg8,bB5,cg9,bv4,bP5,aV4,bD5,bb7,Option.getD_some,Option.getD_none,Option.map_some,Option.map_none,cg0,a62,isL,ce2,bD0,ch5,bj2,bo8,ch6,slE,ci8,gN2,bH7,br3,bq0,List.map_cons,List.map_nil,List.cons_append,List.nil_append,List.length_cons,List.length_nil,List.replicate,List.getElem?_cons_zero,List.getElem?_cons_succ,List.set_cons_zero,List.set_cons_succ,Option.some.injEq,exists_eq_left',exists_eq_left,D.bl.injEq,D.int.injEq,D.lst.injEq,D.fz.injEq,D.str.injEq,D.tup.injEq,List.cons.injEq,and_true,true_and,List.all_cons,List.all_nil,Bool.and_true,Bool.true_and,br6,bI5,bq5,bt1,bL7,bq4,aW6,a75,bd4,bL5,br4,bq3,bO3,br8,aT6,a94,bq2,bG8,bp2,br5,aV3,bg0,Bool.not_false,Bool.not_true,Bool.false_and,Bool.or_true,Bool.true_or,Bool.false_or,Bool.or_false,aY8,aX0,aW5,aW7,aY9,aY1,aV0,aX7,a67,a98,aX2,a50,bb1,a78,bf5,bc2,bf7,aZ6,a85,if_true,Bool.false_eq_true,if_false,reduceIte,cp7,decide_eq_true_eq,aR3,aZ5,aW8,a58,a73,bp7,bk2,ci0,bg7,bB8,ca4,bw6,bB3,bC3,ch0,b75,dLR,aS5,a80,aV2,a68,ca6,ch4,bE2,List.length_map,List.length_range]
   exact q
noncomputable abbrev aF9 (t:Adr):SpX:=λds Q Ex=>∃a b:Nat,ds=[.int a,.int b]/\bl a<=1000000/\bl b<=1000000/\(b=0->Ex t.aa9)/\(b≠0->∀q r:Nat,a=cl q b ^^^ r->bl r < bl b->Q (.tup [.int q,.int r]))
theorem av3 (T:Txt K mg t):FnOk P w K mg base (CX1 P w) 1 t.f_bits_divided t.fd_bits_divided ["a","b"] (cm4 (aF9 t )):=by
 refine b51 T.F_bits_divided ae3 ?_ ?_
 ·intro ds Q Ex h
  obtain ⟨a,b,rfl,ha,hb,qx,q⟩:=h <;> rfl
 ·intro cdv A outer s H E hr
  refine ⟨_,(aO5 (bd8 (aU9 (bI1 (hu6 hr)) (bv 1) (aP0 aP2) (aR2 _)) (aO7 (bO1 T.aF6 rfl (by rfl) (aO4 (aP0 cp2) aP6))) aT1)
   (aO5 (aQ5 (i:=2) ae3.nd rfl (Or.inl rfl) aP2)
   (aO5 (aQ5 (i:=3) ae3.nd rfl (Or.inl rfl) (em 0))
   (aO5 (cy5 (bg5 PassesOwn.never (aU9 cy9 (aP0 (aX9 (bv 3))) (aP0 (aX9 (bv 1))) (aR2 _))
    (aO5 (aQ5 (i:=4) ae3.nd rfl (Or.inl rfl) (aS3 bd7 (aP0 (aX9 (bv 3))) (aP0 (aX9 (bv 1)))))
    (aO5 (bT6 (i:=2) ae3.nd rfl (Or.inl rfl) (aP0 (aS3 bD6 (aP0 aP2) (bv 4))) bI9)
    (aO7 (bT6 (i:=3) ae3.nd rfl (Or.inl rfl) (aP0 (aS3 bD6 (bv 1) (bv 4))) bI9))))))
   (aO7 (aQ4 (bG4 (aU3 (em 2) (aU3 (em 3) aX6))))))))),λds Q Ex h=>?_⟩
  obtain ⟨a,b,rfl,ha,hb,qx,q⟩:=h
  refine aO6 λU hU=>?_
  walk_at "l3"
  split
  ·rename_i h0
   exact ⟨by decide,qx (by omega)⟩
  ·rename_i h0
   have b0:b≠0:=by omega
   refine hU _ ?_
   clear hU U
   refine aO6 λU hU=>?_
   walk_at "l3"
   refine hU _ ?_
   clear hU U
   refine aO6 λU hU=>?_
   walk_at "l3"
   refine hU _ ?_
   clear hU U
   refine aO6 λU hU=>?_
   walk_at "l3"
   refine ⟨λm δ=>∃(x r:Nat) (o sh:Option D),δ=[o,some (.int b),some (.int (x:Nat)),some (.int (r:Nat)),sh]/\a=cl x b ^^^ r/\bl r<=bl a/\m=bl r,
    ⟨bl a,0,a,_,none,rfl,by rw [a72,Nat.zero_xor],Nat.le_refl _,rfl⟩,?_⟩
   rintro m δ ⟨x,r,o,sh,rfl,inv,hra,rfl⟩
   simp only [bC0,b90,ci2,dIf,dT,dOp,bY0,br7,dC,dPl,bu0,bw9,cc7,ch3,ci7,dCB,dIx,ixD,dP0,dP1,dOr,ci1,bD2,bC7,ci4,bg3,b87,bu5,ii,cg1,cg4,cf5,bD9,cg5,cg6,ci3,ch7,ci5,iI,iI0,ltD,leD,gtD,geD,isD,bu8,isNon,eqD,neD,gN,blD,ci6,cg3,dIo,dIv,dR1,dR2,ch2,cg8,bB5,cg9,bv4,bP5,aV4,bD5,bb7,Option.getD_some,Option.getD_none,Option.map_some,Option.map_none,cg0,a62,isL,ce2,bD0,ch5,bj2,bo8,ch6,slE,ci8,gN2,bH7,br3,bq0,List.map_cons,List.map_nil,List.cons_append,List.nil_append,List.length_cons,List.length_nil,List.replicate,List.getElem?_cons_zero,List.getElem?_cons_succ,List.set_cons_zero,List.set_cons_succ,Option.some.injEq,exists_eq_left',exists_eq_left,D.bl.injEq,D.int.injEq,D.lst.injEq,D.fz.injEq,D.str.injEq,D.tup.injEq,List.cons.injEq,and_true,true_and,List.all_cons,List.all_nil,Bool.and_true,Bool.true_and,br6,bI5,bq5,bt1,bL7,bq4,aW6,a75,bd4,bL5,br4,bq3,bO3,br8,aT6,a94,bq2,bG8,bp2,br5,aV3,bg0,Bool.not_false,Bool.not_true,Bool.false_and,Bool.or_true,Bool.true_or,Bool.false_or,Bool.or_false,aY8,aX0,aW5,aW7,aY9,aY1,aV0,aX7,a67,a98,aX2,a50,bb1,a78,bf5,bc2,bf7,aZ6,a85,if_true,Bool.false_eq_true,if_false,reduceIte,cp7,decide_eq_true_eq,aR3,aZ5,aW8,a58,a73,bp7,bk2,ci0,bg7,bB8,ca4,bw6,bB3,bC3,ch0,b75,dLR,aS5,a80,aV2,a68,ca6,ch4,bE2,Int.natAbs_natCast]
   split
   ·rename_i hc
    have hle:bl b<=bl r:=by omega
    have cx9:=by5 b0 hle
    have es:(((bl r:Nat):Int) - ((bl b:Nat):Int))=((bl r - bl b:Nat):Int):=by omega
    clear hU
    refine aO6 λU hU=>?_
    walk_at "l3"
    simp only [Int.natAbs_natCast,es]
    refine hU _ ?_
    clear hU
    refine aO6 λU hU=>?_
    walk_at "l3"
    have o1:bl (1:Int).natAbs=1:=by decide
    refine ⟨⟨by omega,by omega⟩,hU _ ?_⟩
    clear hU
    simp only [bC0,b90,ci2,dIf,dT,dOp,bY0,br7,dC,dPl,bu0,bw9,cc7,ch3,ci7,dCB,dIx,ixD,dP0,dP1,dOr,ci1,bD2,bC7,ci4,bg3,b87,bu5,ii,cg1,cg4,cf5,bD9,cg5,cg6,ci3,ch7,ci5,iI,iI0,ltD,leD,gtD,geD,isD,bu8,isNon,eqD,neD,gN,blD,ci6,cg3,dIo,dIv,dR1,dR2,ch2,cg8,bB5,cg9,bv4,bP5,aV4,bD5,bb7,Option.getD_some,Option.getD_none,Option.map_some,Option.map_none,cg0,a62,isL,ce2,bD0,ch5,bj2,bo8,ch6,slE,ci8,gN2,bH7,br3,bq0,List.map_cons,List.map_nil,List.cons_append,List.nil_append,List.length_cons,List.length_nil,List.replicate,List.getElem?_cons_zero,List.getElem?_cons_succ,List.set_cons_zero,List.set_cons_succ,Option.some.injEq,exists_eq_left',exists_eq_left,D.bl.injEq,D.int.injEq,D.lst.injEq,D.fz.injEq,D.str.injEq,D.tup.injEq,List.cons.injEq,and_true,true_and,List.all_cons,List.all_nil,Bool.and_true,Bool.true_and,br6,bI5,bq5,bt1,bL7,bq4,aW6,a75,bd4,bL5,br4,bq3,bO3,br8,aT6,a94,bq2,bG8,bp2,br5,aV3,bg0,Bool.not_false,Bool.not_true,Bool.false_and,Bool.or_true,Bool.true_or,Bool.false_or,Bool.or_false,aY8,aX0,aW5,aW7,aY9,aY1,aV0,aX7,a67,a98,aX2,a50,bb1,a78,bf5,bc2,bf7,aZ6,a85,if_true,Bool.false_eq_true,if_false,reduceIte,cp7,decide_eq_true_eq,aR3,aZ5,aW8,a58,a73,bp7,bk2,ci0,bg7,bB8,ca4,bw6,bB3,bC3,ch0,b75,dLR,aS5,a80,aV2,a68,ca6,ch4,bE2,Int.natAbs_natCast]
    refine ⟨⟨by omega,by rw [Int.natAbs_natCast]; omega⟩,_,cx9,x ^^^ 2 ^ (bl r - bl b),r ^^^ b <<< (bl r - bl b),o,_,⟨rfl,?_,?_,rfl⟩,bX4 inv,by omega,rfl⟩
    ·rw [show (1:Int)=((1:Nat):Int) from rfl,bc7,aU6,Nat.one_shiftLeft]
    ·rw [bc7,aU6]
   ·rename_i hc
    refine hU _ ?_
    walk_at "l3"
    refine ⟨by decide,q b0 x r inv (by omega)⟩
noncomputable abbrev aG0:SpD:=λds Q=>∃a:Nat,ds=[.int a]/\bl a<=60/\Q (.bl (al a))
theorem aG1 (T:Txt K mg t):FnOk P w K mg base CX0 2 t.f_stands_alone t.fd_stands_alone ["a"] (lSp (aG0 )):=by
 refine aS4 T.F_stands_alone am7 ?_ ?_
 ·intro ds Q h
  obtain ⟨a,rfl,ha,q⟩:=h <;> rfl
 ·intro cdv A outer s H E hr
  refine ⟨_,(aO5 (bd8 (aU9 cr5 (bv 0) (aP0 aP2) (aR2 _)) (aO7 (aQ4 bP4)) aT1)
   (aO5 (aQ5 (i:=1) am7.nd rfl (Or.inl rfl) (aS3 bl2 (aP0 (aS3 bd7 (aP0 (aX9 (bv 0))) (aP0 aP2))) (aP0 aP2)))
   (aO5 (bb6 PassesOwn.never rfl (be1 rfl T.n_range (aO4 (aP0 aP2) (aO4 (aP0 (aS3 bD6 (aP0 aP2) (aP0 (aS3 aZ8 (bv 1) (aP0 aP2))))) aP6))) (aS6 (i:=2) am7.nd rfl (Or.inl rfl))
    (aO7 (bd8 (aU9 (bI1 (hu6 hr)) (aZ0 (aP0 (aQ3 (bu2 ((av3 T).mono (by decide))) hr rfl T.g_bits_divided T.F_bits_divided.kp T.b_bits_divided b79 (aO4 (bv 0) (aO4 (bv 2) aP6)))) (aP0 aP2) (λ_ _=>rfl)) (aP0 aP2) (aR2 _)) (aO7 (aQ4 bP4)) aT1)))
   (aO7 (aQ4 bP4))))),λds Q h=>?_⟩
  obtain ⟨a,rfl,ha,q⟩:=h
  refine aO6 λU hU=>?_
  walk_at "l3"
  split
  ·rename_i h2
   rw [bU8 (by omega)] at q; exact q
  ·rename_i h2
   have h2:2<=a:=by omega
   have hp:=aX4 (show a≠0 by omega)
   refine hU _ ?_
   clear hU U
   refine aO6 λU hU=>?_
   walk_at "l3"
   simp only [Int.natAbs_natCast]
   refine ⟨fdS (by omega) (by omega),hU _ ?_⟩
   clear hU U
   have eh:((((bl a:Nat):Int) - 1) / 2 + 1)=(((bl a - 1) / 2 + 1:Nat):Int):=by omega
   have e1:(1:Int) * 2 ^ ((((bl a:Nat):Int) - 1) / 2 + 1).toNat=((2 ^ ((bl a - 1) / 2 + 1):Nat):Int):=by
    rw [eh,show (1:Int)=((1:Nat):Int) from rfl,bc7,Nat.one_shiftLeft]
   have big:2 ^ ((bl a - 1) / 2 + 1)<=2 ^ 40:=Nat.pow_le_pow_right (by decide) (by omega)
   have o1:bl (1:Int).natAbs=1:=by decide
   refine aO6 λU hU=>?_
   walk_at "l3"
   rw [e1]
   have bigI:((2 ^ ((bl a - 1) / 2 + 1):Nat):Int)<=2 ^ 40:=by exact_mod_cast big
   have nn:(0:Int)<=((2 ^ ((bl a - 1) / 2 + 1):Nat):Int):=Int.natCast_nonneg _
   refine ⟨⟨by omega,by omega⟩,_,_,⟨rfl,rfl⟩,⟨by decide,by decide,by omega,by omega⟩,?_⟩
   have en:(((2 ^ ((bl a - 1) / 2 + 1):Nat):Int) - 2).toNat=2 ^ ((bl a - 1) / 2 + 1) - 2:=by omega
   rw [en]
   refine dForB.mk (λi δ=>(∃o1 o2,δ=[some (.int a),o1,o2])/\∀j,j < i->md a (2 + j)≠0) ⟨⟨_,_,rfl⟩,λj hj=>absurd hj (by omega)⟩ ?_ ?_
   ·rintro i d δ hd ⟨⟨o1,o2,rfl⟩,inv⟩
    obtain ⟨hi,rfl⟩:i < 2 ^ ((bl a - 1) / 2 + 1) - 2/\d=.int (2 + (i:Int)):=by
     rw [List.getElem?_map] at hd
     by_cases hi:i < 2 ^ ((bl a - 1) / 2 + 1) - 2
     ·rw [List.getElem?_range hi] at hd
      exact ⟨hi,(Option.some.inj hd).symm⟩
     ·rw [List.getElem?_eq_none (by simpa using hi)] at hd; cases hd
    have bi:bl (2 + i)<=60:=by
     have:=(bR0 h2 (show 2 + i < 2 ^ ((bl a - 1) / 2 + 1) by omega)).2
     omega
    walk_at "l3"
    refine ⟨a,2 + i,by rw [show ((2 + i:Nat):Int)=2 + (i:Int) by omega],by omega,by omega,by omega,λ_ x r e l=>?_⟩
    have em:md a (2 + i)=r:=bK2 e l
    refine ⟨.int r,rfl,rfl,?_⟩
    rw [aZ6]
    split
    ·rename_i hz
     have r0:r=0:=by have:=of_decide_eq_true hz; omega
     rw [bR5 hi (em.trans r0)] at q
     exact q
    ·rename_i hz
     refine ⟨⟨_,_,rfl,rfl⟩,λj hj=>?_⟩
     by_cases ej:j=i
     ·rw [ej,em]
      intro r0
      exact hz (decide_eq_true (by omega))
     ·exact inv j (by omega)
   ·rintro δ ⟨⟨o1,o2,rfl⟩,inv⟩
    rw [List.length_map,List.length_range] at inv
    rw [cf7 h2 inv] at q
    refine hU _ ?_
    walk_at "l3"
    exact q
noncomputable abbrev aB8:SpD:=λds Q=>∃a:Int,ds=[.int a]/\Q (.bl (decide (4<=a) && decide (a<=127) && al a.toNat))
theorem aB9 (T:Txt K mg t):FnOk P w K mg base CX0 3 t.f_makes_bit_field t.fd_makes_bit_field ["bits"] (lSp (aB8 )):=by
 refine aS4 T.F_makes_bit_field aA2 ?_ ?_
 ·intro ds Q h
  obtain ⟨a,rfl,q⟩:=h <;> rfl
 ·intro cdv A outer s H E hr
  refine ⟨_,(aO7 (aQ4 (bD7 (aP0 (bw7 cr0 cr0 (aP0 aP2) (bv 0) (aP0 aP2))) (bi8 (aQ3 ((aG1 T).mono (by decide)) hr rfl T.g_stands_alone T.F_stands_alone.kp T.b_stands_alone aQ7 (aO4 (bv 0) aP6)))))),λds Q h=>?_⟩
  obtain ⟨a,rfl,q⟩:=h
  walk_at "l3"
  split
  ·rename_i h1
   split
   ·rename_i h2
    refine ⟨a.toNat,by rw [Int.toNat_of_nonneg (by omega)],?_,?_⟩
    ·have:bl a.toNat<=bl 127:=bv6 (by omega)
     exact Nat.le_trans this (by decide)
    ·have e:(decide (4<=a) && decide (a<=127) && al a.toNat)=al a.toNat:=by simp [h1,h2]
     rw [e] at q; exact q
   ·rename_i h2
    have e:(decide (4<=a) && decide (a<=127) && al a.toNat)=false:=by simp [h2]
    rw [e] at q; exact q
  ·rename_i h1
   have e:(decide (4<=a) && decide (a<=127) && al a.toNat)=false:=by simp [h1]
   rw [e] at q; exact q
noncomputable abbrev aI0:SpD:=λds Q=>∃a b:Nat,ds=[.int a,.int b]/\bl a<=1000/\bl b<=1000/\Q (.int (cl a b:Nat))
theorem aI1 (T:Txt K mg t):FnOk P w K mg base CX0 1 t.f_bits_times t.fd_bits_times ["a","b"] (lSp (aI0 )):=by
 refine aS4 T.F_bits_times al6 ?_ ?_
 ·intro ds Q h
  obtain ⟨a,b,rfl,ha,hb,q⟩:=h <;> rfl
 ·intro cdv A outer s H E hr
  refine ⟨_,(aO5 (aQ5 (i:=2) al6.nd rfl (Or.inl rfl) aP2)
   (aO5 (bb6 PassesOwn.never rfl (aZ3 rfl T.n_range (aO4 (aP0 (aX9 (bv 1))) aP6)) (aS6 (i:=3) al6.nd rfl (Or.inl rfl))
    (aO7 (bd8 (aU9 (bI1 (hu6 hr)) (aP0 (aS3 ck7 (aP0 (aS3 cm8 (bv 1) (bv 3))) (aP0 aP2))) (aP0 aP2) (aR2 _)) (aO7 (bT6 (i:=2) al6.nd rfl (Or.inl rfl) (aP0 (aS3 bD6 (bv 0) (bv 3))) bI9)) aT1)))
   (aO7 (aQ4 (em 2))))),λds Q h=>?_⟩
  obtain ⟨a,b,rfl,ha,hb,q⟩:=h
  refine aO6 λU hU=>?_
  walk_at "l3"
  refine hU _ ?_
  clear hU U
  refine aO6 λU hU=>?_
  walk_at "l3"
  simp only [Int.natAbs_natCast]
  refine ⟨⟨by omega,by omega⟩,bF6 (λi δ=>∃o,δ=[some (.int a),some (.int b),some (.int (Mf.P a b i:Nat)),o]) ⟨none,rfl⟩ ?_ ?_⟩
  ·rintro i δ hi ⟨o,rfl⟩
   walk_at "l3"
   refine ⟨by omega,?_⟩
   have hb1:(Builtin.bitAnd ((b:Int) / 2 ^ ((i:Int)).toNat) 1=1) ↔ b.testBit i=true:=by
    have h:=cb7 b i
    rw [Int.zero_add] at h
    rw [<-h,dI]
   split
   ·rename_i hc
    have h:=bS8 (a:=a) (hb1.mp hc)
    rw [Int.zero_add] at h
    exact ⟨⟨by omega,by rw [Int.natAbs_natCast]; omega⟩,_,h,rfl⟩
   ·rename_i hc
    exact ⟨_,by rw [bE5 (λz=>hc (hb1.mpr z))],rfl⟩
  ·rintro δ ⟨o,rfl⟩
   refine hU _ ?_
   walk_at "l3"
   exact q
noncomputable abbrev aK4:List D->List Str->List D->Prop:=λds ns xs=>∃p:Nat,ds=[.int p]/\p∈fbits/\ns=aX5 "bits"++[("products":Str)]/\xs=[.int p,.int (mny (true,p)),.int ((bl (mny (true,p)):Nat) - 1),.lst true (aR7 (fl (true,p))),.lst true (aR7 (aX1 (fl (true,p)))),.int (fst (true,p)),.lst true (bd1 (fl (true,p)) (aX1 (fl (true,p))))]
theorem aE4 (T:Txt K mg t) (hB:Bm mg base):FnOk P w K mg base CX0 8 t.ao0 t.ah2 ["self","bits"] (b92 [t.aa4,t.aa6] t.aa1 aK4):=by
 refine bJ9 T.aF1 T.aE2 as6 (λvs H Q E h=>?_) λA outer s H vs Q E hr h=>?_
 ·obtain ⟨x,dx,vs',ds,ns,xs,rfl,_,_,r,⟨p,rfl,_⟩,_⟩:=h
  have:=r.length
  simp at this
  simp [this]
 obtain ⟨x,dx,vs',ds,ns,xs,rfl,tb,hx,r,⟨p,rfl,hp,rfl,rfl⟩,q⟩:=h
 obtain rfl:vs'=[.int p]:=by
  cases r with
  | int r=>cases r; rfl
 have hm:(true,p)∈flds:=List.mem_append_left _ (List.mem_map_of_mem hp)
 have hF:=fok hm
 refine ⟨_,aV1 (cb9 (bF7 (bK3 (ba1 ((aB9 T).mono (by decide)) hr rfl T.g_makes_bit_field T.F_makes_bit_field.kp T.b_makes_bit_field .nil aQ7 (aS1 (pv 1) a02)))) (bc5 bx5) bv3)
  (aV1 (bd2 (pv 0) (pv 1) rfl)
  (aV1 (bZ7 (i:=2) as6.nd rfl (Or.inl rfl) (bL8 bN0 bk1 (bL8 bF5 (bh8 (pv 1)) bk1)))
  (aV1 (bg6 (bE7 (E:=E0) (i:=1) T.ay7 ((ay8 T).mono (by decide)) hr T.aA4 rfl T.as4 rfl rfl rfl rfl (aS1 (pv 0) (aS1 (pv 2) (aS1 (b08 rfl rfl T.aE3 hB) a02)))))
  (bc5 (bd2 (pv 0) (ba1 ((aF8 T).mono (by decide)) hr rfl T.g_product_rows T.F_product_rows.kp T.b_product_rows .nil aQ7 (aS1 (by3 (pv 0) rfl) (aS1 (by3 (pv 0) rfl) a02))) rfl))))),?_⟩
 refine ⟨_,rfl,H,[.int p],λd=>d=.bl true,Same.refl _,.int .nil,⟨p,rfl,by rw [ce0 p hp]⟩,λd v F' H1 A1 hd hs1 hf he h3 r nd fr=>?_⟩
 subst hd
 cases r
 refine ⟨true,rfl,?_⟩
 refine bT5 ?_
 have hx1:=hs1.get _ _ hx
 refine ⟨.int p,rfl,.ref x,rfl,x,t.aa1,dx,_,rfl,hx1,T.aa3,T.ae8,by decide,?_⟩
 generalize e2:upd H1 x (HO.ins t.aa1 dx (bj5 "bits" (.int p) []))=H2
 have hx2:H2 x=some (.ins t.aa1 dx [(("bits":Str),.int p)]):=by rw [<-e2,aP7]; rfl
 have s2:SameX x H H2:=by rw [<-e2]; exact (hs1.x (x:=x)).trans (SameX.upd (C:=x) (dx:=dx) hx1 rfl)
 have n2:∀p,H2 p=none->H p=none:=λp h=>hs1.free (bq1 hx1 (by rw [e2]; exact h))
 obtain ⟨ps,hP⟩:=tb t.aa6 (by simp)
 obtain ⟨more,hP2⟩:=s2.tb _ ps hP
 have bp:bl p<=7:=bx7 p hp
 have bp1:1<=bl p:=bt3 p hp
 refine ⟨.int p,rfl,rfl,p,rfl,rfl,_,_,rfl,rfl,_,_,rfl,rfl,?_,?_⟩
 ·have o1:bl (1:Int).natAbs=1:=by decide
  rw [Int.natAbs_natCast]
  exact ⟨by omega,by omega⟩
 have em:(1:Int) * 2 ^ (((bl ((p:Int)).natAbs:Nat):Int) - 1).toNat=((mny (true,p):Nat):Int):=by
  rw [Int.natAbs_natCast,show (((bl p:Nat):Int) - 1)=((bl p - 1:Nat):Int) by omega,show (1:Int)=((1:Nat):Int) from rfl,bc7,Nat.one_shiftLeft]; rfl
 show bW2 2 (.int ((1:Int) * 2 ^ (((bl ((p:Int)).natAbs:Nat):Int) - 1).toNat)) _ _ _
 rw [em]
 refine ⟨.ref x,rfl,.int (mny (true,p)),rfl,⟨_,hP2⟩,λf k qn pm ctv H3 nf hf3 hk kf hs3 hl3=>?_⟩
 refine ⟨f,_,_,.int p,hf3,rfl,rfl,λoc u hoc hu nc ncf=>?_⟩
 obtain ⟨tm,rfl⟩:∃tm,u=Value.int p tm:=hu
 have hx3:=hs3.get _ _ hx2
 refine ⟨x,dx,f,t.aa1,"bits",p,mny (true,p),_,oc,_,k,gm (true,p),fl (true,p),fst (true,p),rfl,bb9 hx3 (λz=>by rw [z,nf] at hx2; cases hx2) nc,by decide,⟨T.aa3,T.ad5,T.af0,T.ab5,T.ab4,T.ae9,T.ab1⟩,bA2 ncf nc hk kf,?_,hF,λH' p1 p2 sx hx' hl1 hl2 ne np1 np2=>?_⟩
 ·refine b07 (n:=3) ⟨rfl,rfl,rfl,by decide,rfl,rfl,by decide,by decide,rfl⟩ hoc (λu1 u2=>rfl) λq f A outer s H E hr=>?_
  refine ⟨_,ba9 (aZ0 (aP0 (aQ3 (bu2 ((av3 T).mono (by decide))) hr rfl T.g_bits_divided T.F_bits_divided.kp T.b_bits_divided b79 (aO4 (aP0 (aQ3 ((aI1 T).mono (by decide)) hr rfl T.g_bits_times T.F_bits_times.kp T.b_bits_times aQ7 (aO4 (bv 0) (aO4 (bv 1) aP6)))) (aO4 (bv 2) aP6)))) (aP0 aP2) (λ_ _=>rfl)),λi j Qd h=>?_⟩
  obtain ⟨a,b,rfl,rfl,ha,hb,hq⟩:=h
  walk_at "l3"
  have b1:bl a<=6:=by
   have:bl a<=bl 63:=bv6 (by omega)
   exact Nat.le_trans this (by decide)
  have b2:bl b<=6:=by
   have:bl b<=bl 63:=bv6 (by omega)
   exact Nat.le_trans this (by decide)
  have p0:p≠0:=by
   intro z
   rw [z] at bp1
   exact absurd bp1 (by decide)
  refine ⟨a,b,rfl,by omega,by omega,cl a b,p,rfl,Nat.le_trans (bS0 a b) (by omega),by omega,λz=>p0 z,λ_ x r e l=>⟨by simp [D.pl],.int r,rfl,rfl,r,rfl,?_⟩⟩
  have er:gm (true,p) a b=r:=bK2 e l
  rw [<-er]; exact hq
 ·have gf:H' f=some (.ext (cloφ _ oc _ f)):=sx.get f _ (λz=>by rw [z] at nf; rw [nf] at hx2; cases hx2) (by rw [aP5 ncf.symm,aP7]) rfl
  have gc:=sx.get _ _ (aQ1 hx3 nc).symm aP7 rfl
  refine ⟨gf,gc,?_⟩
  have s4:=s2.trans (bo6 hs3 nf nc sx)
  have f1:=n2 _ (bb2 hs3 np1)
  have f2:=n2 _ (bb2 hs3 np2)
  have l1:=hl1.rem gf gc
  have l2:=hl2.rem gf gc
  have hx4:rem H' f (s.heap.objs.size + 1) x=some (.ins t.aa1 dx ((aX5 "bits").zip (bV9 p (mny (true,p)) p1 p2 (fst (true,p))))):=by
   rw [aX3 (λz=>by rw [z,gf] at hx'; cases hx') (λz=>by rw [z,gc] at hx'; cases hx')]; exact hx'
  generalize rem H' f (s.heap.objs.size + 1)=H4 at s4 l1 l2 hx4
  refine ⟨.ref x,rfl,x,t.aa1,dx,_,.ref p1,rfl,hx4,T.aa3,T.ab5,rfl,.ref x,rfl,x,t.aa1,dx,_,.ref p2,rfl,hx4,T.aa3,T.ab4,rfl,H4,[.lst false (aR7 (fl (true,p))),.lst false (aR7 (aX1 (fl (true,p))))],λd=>d=.lst true (bd1 (fl (true,p)) (aX1 (fl (true,p)))),Same.refl _,.shr l1 (a71 _) (.shr l2 (a71 _) .nil),
   ⟨_,_,rfl,by have:=hF.len; have:=hF.lo; omega,by have:=hF.len; have:=hF.hi; omega,a70 _ _,bN3 _ _,rfl⟩,λd v F' H5 A' hd hs5 hf he h3 r nd fr=>?_⟩
  subst hd
  obtain ⟨p3,rfl⟩:∃p3,v=.ref p3:=by cases r; exact ⟨_,rfl⟩
  have hx5:=hs5.get _ _ hx4
  have nA:∀{a ws},H4 a=some (.lst ws)->a ∉ A':=λ{a ws} e z=>by rw [fr a z] at e; cases e
  refine ⟨.ref x,rfl,x,t.aa1,dx,_,rfl,hx5,T.aa3,T.aa7,Nat.lt_of_le_of_lt (Nat.le_refl 6) (by decide),?_⟩
  refine q _ (bV9 p (mny (true,p)) p1 p2 (fst (true,p))++[.ref p3]) (p1 :: p2 :: A') ((s4.trans (hs5.x (x:=x))).trans (SameX.upd (C:=x) (dx:=dx) hx5 rfl)) (by rw [aP7]; rfl) rfl ?_ ?_ ?_
  ·exact .int (.int (.int (.own ((l1.same hs5).upd hx5 (λws z=>by cases z)) rfl (a71 _) (.own ((l2.same hs5).upd hx5 (λws z=>by cases z)) rfl (a71 _) (.int ((r.thaw (by simp [aV3,bz2]) (Same.of λb o e=>by cases e)).updX hx5 (by simp [aV3,bz2])))))))
  ·exact List.nodup_cons.mpr ⟨by simp [ne]; exact nA l1,List.nodup_cons.mpr ⟨nA l2,nd⟩⟩
  ·intro a ha
   rcases List.mem_cons.mp ha with rfl | ha
   ·exact f1
   ·rcases List.mem_cons.mp ha with rfl | ha
    ·exact f2
    ·exact s4.free (by rw [hx4]; simp) (fr a ha)
noncomputable abbrev aI2 (cb cp:Addr):SpD:=λds Q=>∃m:Bool × Nat,ds=[aX8 m]/\m∈flds/\Q (fD cb cp m)
theorem aI3 (T:Txt K mg t) (hB:Bm mg base):FnOk P w K mg base CX0 10 t.as9 t.aq4 ["_law_told_here"] (cp0 [t.aa4,t.aa6] (lSp (aI2 t.aa1 t.aa0))):=by
 refine bX9 T.aA5 aH4 ?_ ?_
 ·intro ds Q h
  obtain ⟨m,rfl,hm,q⟩:=h <;> rfl
 ·intro cdv A outer s H E hT hr
  refine ⟨_,(aO5 (bd8 (bn2 (aZ0 (bv 0) (aP0 aP2) (λ_ _=>rfl))) (aO7 (aQ4 (bY9 hT T.al3 ((aE4 T hB).mono (by decide)) hr rfl T.ao4 T.aF2 aQ7 (aO4 (aZ0 (bv 0) (aP0 aP2) (λ_ _=>rfl)) aP6)))) aT1)
   (aO7 (aQ4 (bY9 hT T.ah7 ((aB7 T hB).mono (by decide)) hr rfl T.aj8 T.aC8 aQ7 (aO4 (aZ0 (bv 0) (aP0 aP2) (λ_ _=>rfl)) aP6))))),λds Q h=>?_⟩
  obtain ⟨m,rfl,hm,q⟩:=h
  unfold aX8 at *
  refine aO6 λU hU=>?_
  walk_at "l3"
  obtain ⟨b,n⟩:=m
  cases b with
  | true =>
   refine ⟨_,rfl,true,rfl,?_⟩
   rw [if_pos rfl]
   refine ⟨_,rfl,_,_,⟨n,rfl,a63 hm,rfl,rfl⟩,?_⟩
   rw [cj9]; exact q
  | false =>
   refine ⟨_,rfl,false,rfl,?_⟩
   rw [if_neg (by decide)]
   refine hU _ ?_
   walk_at "l3"
   refine ⟨_,rfl,_,_,⟨n,rfl,bw3 hm,rfl,rfl⟩,?_⟩
   rw [bS9]; exact q
noncomputable abbrev aK5:SpD:=λds Q=>∃m:Bool × Nat,ds=[aX8 m]/\bl m.2<=1000/\1<=bl m.2/\Q (.int (mny m:Nat))
theorem au0 (T:Txt K mg t):FnOk P w K mg base CX0 1 t.av5 t.at0 ["_law_told_here"] (lSp (aK5 )):=by
 refine aS4 T.ap3 aJ0 ?_ ?_
 ·intro ds Q h
  obtain ⟨m,rfl,h1,h2,q⟩:=h <;> rfl
 ·intro cdv A outer s H E hr
  refine ⟨_,(aO5 (bd8 (bn2 (aZ0 (bv 0) (aP0 aP2) (λ_ _=>rfl))) (aO7 (aQ4 (aS3 bD6 (aP0 aP2) (aP0 (aS3 bd7 (aP0 (aX9 (aZ0 (bv 0) (aP0 aP2) (λ_ _=>rfl)))) (aP0 aP2)))))) aT1)
   (aO7 (aQ4 (ba9 (aZ0 (bv 0) (aP0 aP2) (λ_ _=>rfl)))))),λds Q h=>?_⟩
  obtain ⟨m,rfl,h1,h2,q⟩:=h
  unfold aX8 at *
  refine aO6 λU hU=>?_
  walk_at "l3"
  obtain ⟨b,n⟩:=m
  cases b with
  | true =>
   refine ⟨_,rfl,true,rfl,?_⟩
   rw [if_pos rfl]
   refine ⟨_,rfl,?_⟩
   have o1:bl (1:Int).natAbs=1:=by decide
   have e:(1:Int) * 2 ^ (((bl ((n:Int)).natAbs:Nat):Int) - 1).toNat=((mny (true,n):Nat):Int):=by
    have h2':1<=bl n:=h2
    rw [Int.natAbs_natCast,show (((bl n:Nat):Int) - 1)=((bl n - 1:Nat):Int) by omega,show (1:Int)=((1:Nat):Int) from rfl,bc7,Nat.one_shiftLeft]; rfl
   refine ⟨?_,by rw [e]; exact q⟩
   rw [Int.natAbs_natCast]
   have h1':bl n<=1000:=h1
   have h2':1<=bl n:=h2
   exact ⟨by omega,by omega⟩
  | false =>
   refine ⟨_,rfl,false,rfl,?_⟩
   rw [if_neg (by decide)]
   refine hU _ ?_
   walk_at "l3"
   exact ⟨_,rfl,rfl,q⟩
noncomputable abbrev aI4:SpD:=λds Q=>∃(m:Bool × Nat) (a b:Nat),ds=[aX8 m,.int a,.int b]/\m∈flds/\a < mny m/\b < mny m/\Q (.int (gm m a b:Nat))
theorem ar0 (T:Txt K mg t):FnOk P w K mg base CX0 1 t.at1 t.aq5 ["_law_told_here","_law_a","_law_b"] (lSp (aI4 )):=by
 refine aS4 T.ao3 af4 ?_ ?_
 ·intro ds Q h
  obtain ⟨m,a,b,rfl,hm,ha,hb,q⟩:=h <;> rfl
 ·intro cdv A outer s H E hr
  refine ⟨_,(aO5 (bd8 (bM8 (bn2 (aZ0 (bv 0) (aP0 aP2) (λ_ _=>rfl)))) (aO7 (aQ4 (aS3 a04 (aP0 (aS3 bd9 (bv 1) (bv 2))) (aZ0 (bv 0) (aP0 aP2) (λ_ _=>rfl))))) aT1)
   (aO5 (aQ5 (i:=3) af4.nd rfl (Or.inl rfl) aP2)
   (aO5 (bg5 PassesOwn.never (aU9 cA2 (bv 2) (aP0 aP2) (aR2 _))
    (aO5 (bd8 (aU9 (bI1 (hu6 hr)) (aP0 (aS3 ck7 (bv 2) (aP0 aP2))) (aP0 aP2) (aR2 _)) (aO7 (aQ5 (i:=3) af4.nd rfl (Or.inl rfl) (aS3 bM9 (bv 3) (bv 1)))) aT1)
    (aO5 (aQ5 (i:=1) af4.nd rfl (Or.inl rfl) (aS3 bD6 (bv 1) (aP0 aP2)))
    (aO5 (bd8 (aU9 (bI1 (hu6 hr)) (aP0 (aX9 (bv 1))) (aP0 (aX9 (aZ0 (bv 0) (aP0 aP2) (λ_ _=>rfl)))) (aR2 _)) (aO7 (aQ5 (i:=1) af4.nd rfl (Or.inl rfl) (aS3 bM9 (bv 1) (aZ0 (bv 0) (aP0 aP2) (λ_ _=>rfl))))) aT1)
    (aO7 (aQ5 (i:=2) af4.nd rfl (Or.inl rfl) (aS3 cm8 (bv 2) (aP0 aP2))))))))
   (aO7 (aQ4 (em 3)))))),λds Q h=>?_⟩
  obtain ⟨m,a,b,rfl,hm,ha,hb,q⟩:=h
  unfold aX8 at *
  obtain ⟨k,n⟩:=m
  refine aO6 λU hU=>?_
  walk_at "l3"
  have hF:=fok hm
  cases k with
  | false =>
   refine ⟨_,rfl,false,rfl,?_⟩
   have l64:n<=64:=hF.hi
   have l2:2<=n:=hF.lo
   have ha':a < n:=ha
   have hb':b < n:=hb
   rw [if_pos (by decide)]
   refine ⟨CMul.ok (.inr ⟨by omega,by omega⟩),_,rfl,by omega,?_⟩
   have e:((gm (false,n) a b:Nat):Int)=(a:Int) * b % n:=by
    show ((a * b % n:Nat):Int)=_
    rw [Int.natCast_emod,Int.natCast_mul]
   rw [<-e]; exact q
  | true =>
   refine ⟨_,rfl,true,rfl,?_⟩
   rw [if_neg (by decide)]
   have hp:=a63 hm
   have bp:=bx7 n hp
   have bp1:=bt3 n hp
   have p0:n≠0:=λz=>by rw [z,a08] at bp1; omega
   have hx0:bl a < bl n:=by
    have:=bl_le_iff.mpr (show a < 2 ^ (bl n - 1) from ha)
    omega
   have hy0:bl b < bl n:=by
    have:=bl_le_iff.mpr (show b < 2 ^ (bl n - 1) from hb)
    omega
   refine hU _ ?_
   clear hU U
   refine aO6 λU hU=>?_
   walk_at "l3"
   refine hU _ ?_
   clear hU U
   refine aO6 λU hU=>?_
   walk_at "l3"
   refine ⟨λm δ=>∃(x y z:Nat),δ=[some (.tup [.bl true,.int n]),some (.int (x:Nat)),some (.int (y:Nat)),some (.int (z:Nat))]/\z ^^^ md (cl x y) n=gm (true,n) a b/\bl x < bl n/\bl y < bl n/\m=bl y,
    ⟨bl b,a,b,0,rfl,by rw [Nat.zero_xor]; rfl,hx0,hy0,rfl⟩,?_⟩
   rintro m δ ⟨x,y,z,rfl,inv,hx,hy,rfl⟩
   walk_at "l3"
   split
   ·rename_i hy1
    have hp2:=aX4 (show y≠0 by omega)
    have hy2:bl (y / 2)=bl y - 1:=cc4 y
    have e1:((x:Int) * 2 ^ (1:Int).toNat)=((2 * x:Nat):Int):=by
     show (x:Int) * (2:Int) ^ 1=_
     omega
    have e2:((y:Int) / 2 ^ (1:Int).toNat)=((y / 2:Nat):Int):=by
     show (y:Int) / (2:Int) ^ 1=_
     omega
    have a1:Builtin.bitAnd (y:Int) 1=((y % 2:Nat):Int):=by
     rw [show (1:Int)=((1:Nat):Int) from rfl,bi9,Nat.and_one_is_mod]
    have tm:=b99 (y:=y) p0 hx
    have tb:=cf2 p0 hx
    clear hU
    refine aO6 λU hU=>?_
    walk_at "l3"
    have fin:∀z':Nat,z'=z ^^^ (if y % 2=1 then x else 0)->U [some (.tup [.bl true,.int n]),some (.int x),some (.int y),some (.int z')]:=by
     intro z' hz
     have inv':z' ^^^ md (cl (if bl (2 * x)=bl n then 2 * x ^^^ n else 2 * x) (y / 2)) n=gm (true,n) a b:=by
      rw [hz,Nat.xor_assoc,<- tm]; exact inv
     refine hU _ ?_
     clear hU
     refine aO6 λU hU=>?_
     walk_at "l3"
     refine ⟨⟨by decide,by simp only [Int.natAbs_natCast]; omega⟩,hU _ ?_⟩
     clear hU
     rw [e1]
     refine aO6 λU hU=>?_
     walk_at "l3"
     have last:∀x':Nat,x'=(if bl (2 * x)=bl n then 2 * x ^^^ n else 2 * x)->U [some (.tup [.bl true,.int n]),some (.int (x':Nat)),some (.int y),some (.int z')]:=by
      intro x' hx'
      refine hU _ ?_
      walk_at "l3"
      exact ⟨by decide,bl (y / 2),by omega,x',y / 2,z',⟨rfl,e2,rfl⟩,by rw [hx']; exact inv',by rw [hx']; exact tb,by omega,rfl⟩
     refine ⟨_,rfl,?_⟩
     show (if (((bl (((2 * x:Nat):Int)).natAbs:Nat):Int)=((bl ((n:Int)).natAbs:Nat):Int)) then _ else _)
     rw [Int.natAbs_natCast,Int.natAbs_natCast]
     split
     ·rename_i hc
      refine ⟨_,rfl,?_⟩
      have g:=last (2 * x ^^^ n) (by rw [if_pos (by omega)])
      rw [<-aU6] at g
      exact g
     ·rename_i hc
      exact last (2 * x) (by rw [if_neg (by omega)])
    rw [a1]
    split
    ·rename_i hb1
     have odd:y % 2=1:=by omega
     have g:=fin (z ^^^ x) (by rw [if_pos odd])
     rw [<-aU6] at g
     exact g
    ·rename_i hb1
     exact fin z (by rw [if_neg (by omega),Nat.xor_zero])
   ·rename_i hy1
    have hy:y=0:=by omega
    subst hy
    rw [ca2,bb0 (by rw [a08]; exact aX4 p0),Nat.xor_zero] at inv
    subst inv
    refine hU _ ?_
    walk_at "l3"
    exact q
noncomputable def cel (ns:List Int) (k:Int):Int:=if k < ns.length then ns.getD k.toNat 0 else (k * k * 48271 + ns.length * 7919) % 65537
noncomputable abbrev aK6:SpD:=λds Q=>∃(ns:List Int) (k:Int),ds=[.fz (aR7 ns),.int k]/\0<=k/\k<=1000000/\Q (.int (cel ns k))
theorem aj9 (T:Txt K mg t):FnOk P w K mg base CX0 1 t.av6 t.at2 ["_law_script","_law_k"] (lSp (aK6 )):=by
 refine aS4 T.ai3 aJ1 ?_ ?_
 ·intro ds Q h
  obtain ⟨ns,k,rfl,hk,hk2,q⟩:=h <;> rfl
 ·intro cdv A outer s H E hr
  refine ⟨_,(aO5 (bd8 (aU9 cr5 (bv 1) (aP0 (aU4 (bl5) (by rfl) T.n_len ba5 (aO4 (bv 0) aP6))) (aR2 _)) (aO7 (aQ4 (ba9 (aZ0 (bv 0) (bv 1) (λ_ _=>rfl))))) aT1)
   (aO7 (aQ4 (aS3 a04 (aP0 (aS3 aZ8 (aP0 (aS3 bd9 (aP0 (aS3 bd9 (bv 1) (bv 1))) (aP0 aP2))) (aP0 (aS3 bd9 (aP0 (aU4 (bl5) (by rfl) T.n_len ba5 (aO4 (bv 0) aP6))) (aP0 aP2))))) (aP0 aP2))))),λds Q h=>?_⟩
  obtain ⟨ns,k,rfl,hk,hk2,q⟩:=h
  unfold cel at q
  refine aO6 λU hU=>?_
  walk_at "l3"
  split
  ·rename_i h
   rw [if_pos h] at q
   exact ⟨_,aW1 hk h,rfl,q⟩
  ·rename_i h
   rw [if_neg h] at q
   refine hU _ ?_
   walk_at "l3"
   exact ⟨CMul.ok (.inl ⟨by omega,by omega⟩),CMul.ok (.inr ⟨by decide,by decide⟩),CMul.ok (.inr ⟨by decide,by decide⟩),by decide,q⟩
noncomputable def pwX (m:Bool × Nat) (c:Int) (b k:Nat):Nat:=gm m b ((c / 64 + (k:Int)) % (mny m:Int)).toNat
noncomputable def pwY (m:Bool × Nat) (ns:List Int) (k:Nat):Nat:=(1 + cel ns (15 + (k:Int)) % ((mny m:Int) - 1)).toNat
noncomputable def pwR (m:Bool × Nat) (c:Int) (b:Nat) (ns:List Int) (W i:Nat):List Nat:=(List.range W).map λj=>gm m (pwY m ns j) (px m (pwX m c b j) i)
theorem bc6 {M:Int} (h:0 < M) (a:Int):0<=a % M/\a % M < M:=⟨Int.emod_nonneg a (by omega),Int.emod_lt_of_pos a h⟩
theorem b95 {m:Bool × Nat} (hm:m∈flds) {c:Int} {b:Nat} (b1:1<=b) (b2:b < mny m) {i j:Nat} (hi:i < mny m) (hj:j < mny m) (h:pwX m c b i=pwX m c b j):i=j:=by
 have hlo:=lo1 hm
 obtain ⟨v,v1,v2⟩:=cr8 hm hlo b2 (by omega)
 have g1:=bc6 (show (0:Int) < mny m by omega) (c / 64 + (i:Int))
 have g2:=bc6 (show (0:Int) < mny m by omega) (c / 64 + (j:Int))
 have e:=congrArg (gm m v) h
 unfold pwX at e
 rw [<-aR1 (aP1 m hm),<- aR1 (aP1 m hm),v2,a51 (by omega),a51 (by omega)] at e
 have e2:(c / 64 + (i:Int)) % (mny m:Int)=(c / 64 + (j:Int)) % (mny m:Int):=by omega
 have e3:=Int.emod_eq_emod_iff_emod_sub_eq_zero.mp e2
 have e4:=Int.eq_zero_of_dvd_of_natAbs_lt_natAbs (Int.dvd_of_emod_eq_zero e3) (by omega)
 omega
theorem bA3 {m:Bool × Nat} (hm:m∈flds) (ns:List Int) (k:Nat):1<=pwY m ns k/\pwY m ns k < mny m/\(pwY m ns k:Int)=1 + cel ns (15 + (k:Int)) % ((mny m:Int) - 1):=by
 have hlo:=lo1 hm
 have g:=bc6 (show (0:Int) < (mny m:Int) - 1 by omega) (cel ns (15 + (k:Int)))
 unfold pwY
 omega
theorem bO2 (m:Bool × Nat) (c:Int) (b:Nat) (ns:List Int) (W i:Nat):(pwR m c b ns W i).length=W:=by unfold pwR; rw [List.length_map,List.length_range]
theorem b01 {m:Bool × Nat} (hm:m∈flds) (c:Int) (b:Nat) (ns:List Int) (W i:Nat):AllLt (mny m) (pwR m c b ns W i):=λx hx=>by
 obtain ⟨j,_,rfl⟩:=List.mem_map.mp hx
 exact aR6 hm _ _
theorem bX0 {m:Bool × Nat} (hm:m∈flds) (c:Int) (b:Nat) (ns:List Int) (W i:Nat):List.zipWith (gm m) (pwR m c b ns W i) ((List.range W).map (pwX m c b))=pwR m c b ns W (i + 1):=by
 unfold pwR
 rw [List.zipWith_map,List.zipWith_self]
 refine List.map_congr_left λj _=>?_
 rw [aR1 (aP1 m hm)]; rfl
theorem bZ2 {m:Bool × Nat} (hm:m∈flds) {c:Int} {b:Nat} (b1:1<=b) (b2:b < mny m) (ns:List Int) {R W:Nat} (hW:W<=mny m) {T:List (List Nat)} (hl:T.length=R) (hT:∀r∈T,∃i,r=pwR m c b ns W i) (hat:∀i,i < R->∃k,k < R/\T.getD k []=pwR m c b ns W i):PwT m R W (pwX m c b) (pwY m ns) T where
 rt:=λr hr=>by
  obtain ⟨i,rfl⟩:=hT r hr
  exact ⟨bO2 ..,b01 hm _ _ _ _ _⟩
 l:=hl
 xl:=λj=>aR6 hm _ _
 xd:=λi j hi hj h=>b95 hm b1 b2 (by omega) (by omega) h
 yl:=λj=>(bA3 hm ns j).2.1
 y0:=λj _=>by have:=(bA3 hm ns j).1; omega
 at_:=λi hi=>by
  obtain ⟨k,hk,e⟩:=hat i hi
  refine ⟨k,hk,λj hj=>?_⟩
  unfold a97
  rw [e]
  exact bI6 _ hj
noncomputable abbrev aG8:SpD:=λds Q=>∃(m:Bool × Nat) (ns:List Int) (R W:Nat) (c:Int),ds=[aX8 m,.fz (aR7 ns),.int R,.int W,.int c]/\m∈flds/\R<=6/\W<=6/\W<=mny m/\∀(T:List (List Nat)) (x y:Nat->Nat),PwT m R W x y T->Q (.lst true (aP8 false T))
theorem aG9 (T:Txt K mg t):FnOk P w K mg base CX0 2 t.aq6 t.ap0 ["_law_told_here","_law_script","_law_rows","_law_wide","_law_cell_here"] (lSp (aG8 )):=by
 refine aS4 T.ay6 ac3 ?_ ?_
 ·intro ds Q h
  obtain ⟨m,ns,R,W,c,rfl,hm,hR,hW,hWm,q⟩:=h <;> rfl
 ·intro cdv A outer s H E hr
  refine ⟨_,(aO5 (aQ5 (i:=5) ac3.nd rfl (Or.inr rfl) (aQ3 ((au0 T).mono (by decide)) hr rfl T.aw0 T.ap3.kp T.aw1 aQ7 (aO4 (bv 0) aP6)))
   (aO5 (aQ5 (i:=6) ac3.nd rfl (Or.inr rfl) (aS3 aZ8 (aP0 aP2) (aP0 (aS3 a04 (bv 4) (aP0 (aS3 bd7 (bv 5) (aP0 aP2)))))))
   (aO5 (bv5 (i:=7) ac3.nd rfl (Or.inl rfl) [("_law_told_here",0),("_law_by",6),("_law_many_here",5),("_law_cell_here",4)] ["_law_k"] rfl (aZ3 rfl T.n_range (aO4 (bv 3) aP6)) (λ_ _ _ _=>(aS6 (i:=4) (show (["_law_told_here","_law_by","_law_many_here","_law_cell_here","_law_k"]:List Str).Nodup by decide +kernel) rfl (Or.inl (lookup_relabel_local rfl)) (by decide) (Or.inr (lookup_relabel_local rfl)))) (λ_ _ _ _=>aU7) (λ_ _ _ _=>(aQ3 ((ar0 T).mono (by decide)) hr rfl T.at7 T.ao3.kp T.at8 aQ7 (aO4 (bv 0) (aO4 (bv 1) (aO4 (aP0 (aS3 a04 (aP0 (aS3 aZ8 (aP0 (aS3 bl2 (bv 3) (aP0 aP2))) (bv 4))) (bv 2))) aP6))))) rfl ⟨rfl,⟨rfl,⟨rfl,⟨rfl,trivial⟩⟩⟩⟩ (λ_=>by repeat' (first | exact trivial | refine ⟨.inl rfl,?_⟩ | refine ⟨.inr (.inl rfl),?_⟩ | refine ⟨.inr (.inr ⟨_,rfl⟩),?_⟩)) (λ_=>⟨⟨rfl,.inl rfl,.inl rfl,_,rfl,rfl⟩,⟨⟨rfl,.inl rfl,.inl rfl,_,rfl,rfl⟩,⟨⟨rfl,.inl rfl,.inl rfl,_,rfl,rfl⟩,⟨⟨rfl,.inl rfl,.inl rfl,_,rfl,rfl⟩,trivial⟩⟩⟩⟩) rfl (by decide +kernel))
   (aO5 (bv5 (i:=8) ac3.nd rfl (Or.inl rfl) [("_law_script",1),("_law_many_here",5)] ["_law_k"] rfl (aZ3 rfl T.n_range (aO4 (bv 3) aP6)) (λ_ _ _ _=>(aS6 (i:=2) (show (["_law_script","_law_many_here","_law_k"]:List Str).Nodup by decide +kernel) rfl (Or.inl (lookup_relabel_local rfl)) (by decide) (Or.inr (lookup_relabel_local rfl)))) (λ_ _ _ _=>aU7) (λ_ _ _ _=>(aS3 aZ8 (aP0 aP2) (aP0 (aS3 a04 (aP0 (aQ3 ((aj9 T).mono (by decide)) hr rfl T.al1 T.ai3.kp T.al2 aQ7 (aO4 (bv 0) (aO4 (aP0 (aS3 aZ8 (aP0 aP2) (bv 2))) aP6)))) (aP0 (aS3 bd7 (bv 1) (aP0 aP2))))))) rfl ⟨rfl,⟨rfl,trivial⟩⟩ (λ_=>by repeat' (first | exact trivial | refine ⟨.inl rfl,?_⟩ | refine ⟨.inr (.inl rfl),?_⟩ | refine ⟨.inr (.inr ⟨_,rfl⟩),?_⟩)) (λ_=>⟨⟨rfl,.inl rfl,.inl rfl,_,rfl,rfl⟩,⟨⟨rfl,.inl rfl,.inl rfl,_,rfl,rfl⟩,trivial⟩⟩) rfl (by decide +kernel))
   (aO5 (aQ5 (i:=9) ac3.nd rfl (Or.inl rfl) (a09 aX6))
   (aO5 (bb6 PassesOwn.never rfl (aZ3 rfl T.n_range (aO4 (bv 2) aP6)) (aS6 (i:=10) ac3.nd rfl (Or.inl rfl))
    (bq8 8 (aO5 (a77 (i:=9) rfl (by first | exact Or.inl rfl | exact Or.inr (Or.inl rfl)) (ba9 (bv 8)))
    (aO7 (bv5 (i:=8) ac3.nd rfl (Or.inl rfl) [("_law_told_here",0)] ["_law_x","_law_y"] rfl (bL6 rfl T.n_zip (aO4 (bv 8) (aO4 (bv 7) aP6))) (λ_ _ _ _=>(a54 (i1:=1) (i2:=2) rfl (show (["_law_told_here","_law_x","_law_y"]:List Str).Nodup by decide +kernel) rfl (Or.inl (lookup_relabel_local rfl)) rfl (Or.inl (lookup_relabel_local rfl)) (by decide) (by decide) (Or.inr (lookup_relabel_local rfl)) (Or.inr (lookup_relabel_local rfl)))) (λ_ _ _ _=>aU7) (λ_ _ _ _=>(aQ3 ((ar0 T).mono (by decide)) hr rfl T.at7 T.ao3.kp T.at8 aQ7 (aO4 (bv 0) (aO4 (bv 1) (aO4 (bv 2) aP6))))) rfl ⟨rfl,trivial⟩ (λ_=>by repeat' (first | exact trivial | refine ⟨.inl rfl,?_⟩ | refine ⟨.inr (.inl rfl),?_⟩ | refine ⟨.inr (.inr ⟨_,rfl⟩),?_⟩)) (λ_=>⟨⟨rfl,.inl rfl,.inl rfl,_,rfl,rfl⟩,trivial⟩) rfl (by decide +kernel))))))
   (aO5 (bd8 (aU9 (bI1 (hu6 hr)) (aP0 (aS3 a04 (aP0 (aS3 bl2 (bv 4) (aP0 aP2))) (aP0 aP2))) (aP0 aP2) (aR2 _)) (aO7 (bO0 (i:=9) rfl (by first | exact Or.inl rfl | exact Or.inr (Or.inl rfl)))) aT1)
   (aO7 (aQ4 (em 9)))))))))),λds Q h=>?_⟩
  obtain ⟨m,ns,R,W,c,rfl,hm,hR,hW,hWm,q⟩:=h
  have hlo:=(fok hm).lo
  have hbl:=bv1 m hm
  have hM:=(fok hm).hi
  refine aO6 λU hU=>?_
  walk_at "l3"
  refine ⟨m,rfl,by omega,by omega,hU _ ?_⟩
  clear hU U
  obtain ⟨b,hb⟩:∃b:Nat,1 + c % ((mny m:Int) - 1)=(b:Int):=⟨(1 + c % ((mny m:Int) - 1)).toNat,by have:=bc6 (show (0:Int) < (mny m:Int) - 1 by omega) c; omega⟩
  obtain ⟨b1,b2⟩:1<=b/\b < mny m:=by have:=bc6 (show (0:Int) < (mny m:Int) - 1 by omega) c; omega
  refine aO6 λU hU=>?_
  walk_at "l3"
  rw [hb]
  refine ⟨by omega,hU _ ?_⟩
  clear hU U
  refine aO6 λU hU=>?_
  walk_at "l3"
  refine ⟨⟨by omega,by omega⟩,aR9 (List.range W) (λ(i:Nat)=>D.int (i:Int)) (λk=>D.int ((pwX m c b k:Nat):Int)) (ba8 _ rfl) aY5 (λk hk=>?_) (.inr λ_ _=>rfl) (by rw [List.length_range,sL]; omega) ?_⟩
  ·have g1:=bc6 (show (0:Int) < mny m by omega) (c / 64 + (k:Int))
   walk_at "l3"
   refine ⟨fdS (by decide) (by decide),by omega,m,b,((c / 64 + (k:Int)) % (mny m:Int)).toNat,by rw [Int.toNat_of_nonneg g1.1],hm,b2,by omega,rfl⟩
  rw [show ((List.range W).map λk=>D.int ((pwX m c b k:Nat):Int))=aO8 ((List.range W).map (pwX m c b)) by rw [aQ0,List.map_map]; rfl]
  refine hU _ ?_
  clear hU U
  refine aO6 λU hU=>?_
  walk_at "l3"
  refine ⟨⟨by omega,by omega⟩,aR9 (List.range W) (λ(i:Nat)=>D.int (i:Int)) (λk=>D.int ((pwY m ns k:Nat):Int)) (ba8 _ rfl) aY5 (λk hk=>?_) (.inr λ_ _=>rfl) (by rw [List.length_range,sL]; omega) ?_⟩
  ·have:=List.mem_range.mp hk
   walk_at "l3"
   exact ⟨ns,_,rfl,by omega,by omega,by omega,(bA3 hm ns k).2.2.symm⟩
  rw [show ((List.range W).map λk=>D.int ((pwY m ns k:Nat):Int))=aO8 (pwR m c b ns W 0) by
   rw [aQ0]
   unfold pwR
   rw [List.map_map]
   refine List.map_congr_left λj _=>?_
   show _=D.int ((gm m (pwY m ns j) 1:Nat):Int)
   rw [aZ7 (bA3 hm ns j).2.1]]
  refine hU _ ?_
  clear hU U
  refine aO6 λU hU=>?_
  walk_at "l3"
  refine ⟨by decide,hU _ ?_⟩
  clear hU U
  refine aO6 λU hU=>?_
  walk_at "l3"
  refine ⟨⟨by omega,by omega⟩,?_⟩
  refine dForB.mk (λi δ=>∃o10,δ=[some (aX8 m),some (D.fz (aR7 ns)),some (D.int R),some (D.int W),some (D.int c),some (D.int (mny m)),some (D.int b),some (D.lst true (aO8 ((List.range W).map (pwX m c b)))),some (D.lst true (aO8 (pwR m c b ns W i))),some (D.lst true (aP8 false ((List.range i).map (pwR m c b ns W)))),o10]) ⟨_,rfl⟩ ?_ ?_
  ·rintro i d δ hd ⟨o10,rfl⟩
   obtain ⟨hi,rfl⟩:=bR6 hd
   clear hd hU
   have pl:=bO2 m c b ns W i
   simp only [gN,List.set_cons_succ,List.set_cons_zero]
   refine ⟨_,rfl,?_⟩
   rw [bc9]
   simp only [List.set_cons_succ,List.set_cons_zero]
   refine aO6 λU hU=>?_
   walk_at "l3"
   rw [show aP8 false ((List.range i).map (pwR m c b ns W))++[D.lst false (aO8 (pwR m c b ns W i))]=aP8 false ((List.range (i + 1)).map (pwR m c b ns W)) by
    rw [List.range_succ,List.map_append]; exact a64 false _ [pwR m c b ns W i]]
   refine ⟨⟨_,rfl⟩,by rw [List.length_map,List.length_range]; omega,hU _ ?_⟩
   clear hU
   walk_at "l3"
   refine ⟨_,_,rfl,rfl,bf9 (gm m) (λx hx y hy=>?_) (by omega) ?_⟩
   ·walk_at "l3"
    obtain ⟨j,_,rfl⟩:=List.mem_map.mp hy
    exact ⟨m,x,_,rfl,hm,b01 hm _ _ _ _ _ x hx,aR6 hm _ _,rfl⟩
   rw [bX0 hm]
   exact ⟨_,rfl⟩
  ·rintro δ ⟨o10,rfl⟩
   refine hU _ ?_
   clear hU U
   rw [List.length_map,List.length_range,Int.toNat_natCast]
   refine aO6 λU hU=>?_
   walk_at "l3"
   refine ⟨fdS (by decide) (by decide),?_⟩
   have tm:∀r∈(List.range R).map (pwR m c b ns W),∃i,r=pwR m c b ns W i:=λr hr'=>by
    obtain ⟨i,_,rfl⟩:=List.mem_map.mp hr'
    exact ⟨i,rfl⟩
   have tl:((List.range R).map (pwR m c b ns W)).length=R:=by rw [List.length_map,List.length_range]
   have ta:∀i,i < R->((List.range R).map (pwR m c b ns W))[i]?=some (pwR m c b ns W i):=λi hi=>by
    rw [List.getElem?_map,List.getElem?_range hi]; rfl
   by_cases hc:c / 4096 % 2=1
   ·rw [if_pos hc]
    refine ⟨by decide,hU _ ?_⟩
    walk_at "l3"
    rw [show (aP8 false ((List.range R).map (pwR m c b ns W))).reverse=aP8 false ((List.range R).map (pwR m c b ns W)).reverse by unfold aP8; rw [List.map_reverse]]
    refine q _ _ _ (bZ2 hm b1 b2 ns hWm (by rw [List.length_reverse,tl]) (λr hr'=>tm r (List.mem_reverse.mp hr')) λi hi=>⟨R - 1 - i,by omega,?_⟩)
    rw [List.getD_eq_getElem?_getD,List.getElem?_reverse (by omega),tl,show R - 1 - (R - 1 - i)=i by omega,ta i hi]; rfl
   ·rw [if_neg hc]
    refine ⟨by decide,hU _ ?_⟩
    walk_at "l3"
    refine q _ _ _ (bZ2 hm b1 b2 ns hWm tl tm λi hi=>⟨i,hi,?_⟩)
    rw [List.getD_eq_getElem?_getD,ta i hi]; rfl
noncomputable abbrev aK7:SpD:=λds Q=>∃T:List (List Nat),ds=[.lst false (aP8 false T)]/\T.length<=1000/\Q (.lst true (aP8 true T))
theorem aK8 (T:Txt K mg t):FnOk P w K mg base CX0 1 t.av7 t.at3 ["_law_table"] (lSp (aK7 )):=by
 refine aS4 T.aD4 aJ2 ?_ ?_
 ·intro ds Q h
  obtain ⟨G,rfl,hG,q⟩:=h <;> rfl
 ·intro cdv A outer s H E hr
  refine ⟨_,(aO7 (aQ4 (aS2 [] ["_law_row"] rfl (a53 (bv 0)) (λ_ _ _ _=>(aS6 (i:=0) (show (["_law_row"]:List Str).Nodup by decide +kernel) rfl (Or.inl (lookup_relabel_local rfl)) (by decide) (Or.inr (lookup_relabel_local rfl)))) (λ_ _ _ _=>aU7) (λ_ _ _ _=>(bS4 (cp6) (by rfl) T.n_list bl3 (aO4 (bv 0) aP6))) rfl trivial (λ_=>by repeat' (first | exact trivial | refine ⟨.inl rfl,?_⟩ | refine ⟨.inr (.inl rfl),?_⟩ | refine ⟨.inr (.inr ⟨_,rfl⟩),?_⟩)) (λ_=>trivial) rfl (by decide +kernel)))),λds Q h=>?_⟩
  obtain ⟨G,rfl,hG,q⟩:=h
  walk_at "l3"
  refine aR9 G (λr=>D.lst false (aO8 r)) (λr=>D.lst true (aO8 r)) (by rw [aS5]; rfl) (λa b h=>a83 a b h) (λr hr'=>?_) (.inr λr _=>a56 r) (by rw [sL]; omega) q
  walk_at "l3"
noncomputable abbrev aM0:SpD:=λds Q=>∃T:List (List Nat),ds=[.lst false (aP8 false T)]/\T.length<=1000/\(∀r∈T,r.length<=1000)/\Q (.int (wof T:Nat))
theorem al4 (T:Txt K mg t):FnOk P w K mg base CX0 1 t.f_width_of t.fd_width_of ["table"] (lSp (aM0 )):=by
 refine aS4 T.F_width_of aL3 ?_ ?_
 ·intro ds Q h
  obtain ⟨G,rfl,hG,hr,q⟩:=h <;> rfl
 ·intro cdv A outer s H E hr
  refine ⟨_,(aO7 (aQ4 (cC5 (aU9 (bC4 (hu6 hr)) (bv 0) (aP0 (a09 aX6)) (aR2 _)) (aU4 (bl5) (by rfl) T.n_len ba5 (aO4 (aZ0 (bv 0) (aP0 aP2) (λ_ _=>rfl)) aP6)) aP2))),λds Q h=>?_⟩
  obtain ⟨G,rfl,hG,hr,q⟩:=h
  walk_at "l3"
  refine ⟨by decide,⟨bl8 4 _ _ _,rfl⟩,?_⟩
  rw [show (D.lst true ([]:List D))=D.lst true (aP8 true []) from rfl,bO6]
  cases G with
  | nil=>rw [if_neg (by simp)]; exact q
  | cons r G =>
   rw [if_pos (by simp)]
   refine ⟨.lst false (aO8 r),be3 false (T:=r :: G) (i:=0) (Nat.succ_pos _),?_⟩
   show Q (D.int ((aO8 r).length:Nat))
   rw [aR3]; exact q
noncomputable abbrev aN4:SpD:=λds Q=>∃T:List (List Nat),ds=[.lst false (aP8 false T)]/\T.length<=1000/\(∀r∈T,r.length=wof T)/\wof T<=1000/\Q (.lst true (aP8 true (trn T)))
theorem aN5 (T:Txt K mg t):FnOk P w K mg base CX0 2 t.f_turned t.fd_turned ["table"] (lSp (aN4 )):=by
 refine aS4 T.F_turned aN1 ?_ ?_
 ·intro ds Q h
  obtain ⟨G,rfl,hG,hr,hw,q⟩:=h <;> rfl
 ·intro cdv A outer s H E hr
  refine ⟨_,(aO7 (aQ4 (aS2 [("table",0)] ["j"] rfl (aZ3 rfl T.n_range (aO4 (aP0 (aQ3 ((al4 T).mono (by decide)) hr rfl T.g_width_of T.F_width_of.kp T.b_width_of aQ7 (aO4 (bv 0) aP6))) aP6)) (λ_ _ _ _=>(aS6 (i:=1) (show (["table","j"]:List Str).Nodup by decide +kernel) rfl (Or.inr rfl) (by decide) (Or.inl rfl))) (λ_ _ _ _=>aU7) (by exact λ_ _ _ _=>(aS2 [("j",1)] ["row"] rfl (a53 (bv 0)) (λ_ _ _ _=>(aS6 (i:=1) (show (["j","row"]:List Str).Nodup by decide +kernel) rfl (Or.inl (lookup_relabel_local rfl)) (by decide) (Or.inr (lookup_relabel_local rfl)))) (λ_ _ _ _=>aU7) (λ_ _ _ _=>(ba9 (aZ0 (bv 1) (bv 0) (λ_ _=>rfl)))) rfl ⟨rfl,trivial⟩ (λ_=>by repeat' (first | exact trivial | refine ⟨.inl rfl,?_⟩ | refine ⟨.inr (.inl rfl),?_⟩ | refine ⟨.inr (.inr ⟨_,rfl⟩),?_⟩)) (λ_=>⟨⟨rfl,.inl rfl,.inl rfl,_,rfl,rfl⟩,trivial⟩) rfl (by decide +kernel))) rfl ⟨rfl,trivial⟩ (λ_=>by repeat' (first | exact trivial | refine ⟨.inl rfl,?_⟩ | refine ⟨.inr (.inl rfl),?_⟩ | refine ⟨.inr (.inr ⟨_,rfl⟩),?_⟩)) (λ_=>⟨⟨rfl,.inl rfl,.inl rfl,_,rfl,rfl⟩,trivial⟩) rfl (by decide +kernel)))),λds Q h=>?_⟩
  obtain ⟨G,rfl,hG,hr,hw,q⟩:=h
  walk_at "l3"
  refine ⟨G,rfl,hG,λr hr'=>by rw [hr r hr']; exact hw,?_⟩
  dsimp only
  refine ⟨_,rfl,⟨by omega,by omega⟩,?_⟩
  refine aR9 (List.range (wof G)) (λ(i:Nat)=>D.int (i:Int)) (λj=>D.lst true (aO8 (G.map λr=>r.getD j 0))) (ba8 _ rfl) aY5 (λj hj=>?_) (.inr λj _=>a56 _) (by rw [List.length_range,sL]; omega) ?_
  ·have hj:=List.mem_range.mp hj
   walk_at "l3"
   refine aR9 G (λr=>D.lst false (aO8 r)) (λr=>D.int ((r.getD j 0:Nat):Int)) (by rw [aS5]; rfl) (λa b h=>a83 a b h) (λr hr'=>?_) (.inr λr _=>rfl) (by rw [sL]; omega) ?_
   ·walk_at "l3"
    have hl:=hr r hr'
    exact ⟨.int (r.getD j 0:Nat),by rw [aT0 (by omega) (by omega),Int.toNat_natCast],rfl,rfl⟩
   ·rw [aQ0,List.map_map]; rfl
  ·unfold trn aP8 at q
   rw [List.map_map] at q
   exact q
noncomputable abbrev aK9:SpD:=λds Q=>∃c:List Nat,ds=[.lst false (aO8 c)]/\c.length<=1000/\Q (.bl (nul c))
theorem aL0 (T:Txt K mg t):FnOk P w K mg base CX0 1 t.f_is_nought t.fd_is_nought ["column"] (lSp (aK9 )):=by
 refine aS4 T.F_is_nought aJ3 ?_ ?_
 ·intro ds Q h
  obtain ⟨c,rfl,hc,q⟩:=h <;> rfl
 ·intro cdv A outer s H E hr
  refine ⟨_,(aO7 (aQ4 (aU4 (bU4 rfl) (by rfl) T.n_all bz6 (aO4 (aP0 (aS2 [] ["x"] rfl (a53 (bv 0)) (λ_ _ _ _=>(aS6 (i:=0) (show (["x"]:List Str).Nodup by decide +kernel) rfl (Or.inl (lookup_relabel_local rfl)) (by decide) (Or.inr (lookup_relabel_local rfl)))) (λ_ _ _ _=>aU7) (λ_ _ _ _=>(bK4 (bI1 (hu6 hr)) (bv 0) (aP0 aP2) (aR2 _))) rfl trivial (λ_=>by repeat' (first | exact trivial | refine ⟨.inl rfl,?_⟩ | refine ⟨.inr (.inl rfl),?_⟩ | refine ⟨.inr (.inr ⟨_,rfl⟩),?_⟩)) (λ_=>trivial) rfl (by decide +kernel))) aP6)))),λds Q h=>?_⟩
  obtain ⟨c,rfl,hc,q⟩:=h
  walk_at "l3"
  refine aR9 c (λ(i:Nat)=>D.int (i:Int)) (λ(x:Nat)=>D.bl (x == 0)) (a81 _) aY5 (λx hx=>?_) (.inr λ_ _=>rfl) (by rw [sL]; omega) ?_
  ·walk_at "l3"
   congr 1
   exact propext (by omega)
  dsimp only
  refine ⟨c.map (· == 0),by unfold bls; rw [List.map_map]; rfl,?_⟩
  rw [List.all_map]
  exact q
noncomputable abbrev ay9 (t:Adr) (P:Program) (w:World) (K:Frag) (mg:Str->Option Value) (base:Heap):SpX:=λds Q Ex=>∃(m:Bool × Nat) (a b:Nat),ds=[fD t.aa1 t.aa0 m,.int a,.int b]/\m∈flds/\a < mny m/\b < mny m/\(b=0->Ex t.aa9)/\(b≠0->∀r:Nat,r < mny m->gm m r b=a->Q (.int (r:Nat)))
theorem az0 (T:Txt K mg t):FnOk P w K mg base (CX1 P w) 2 t.ao1 t.aq7 ["self","a","b"] (cm4 (ay9 t P w K mg base)):=by
 refine b51 T.aJ8 aH5 ?_ ?_
 ·intro ds Q Ex h
  obtain ⟨m,a,b,rfl,hm,ha,hb,qx,q⟩:=h <;> rfl
 ·intro cdv A outer s H E hr
  refine ⟨_,(aO5 (bd8 (aU9 (bI1 (hu6 hr)) (bv 2) (aP0 aP2) (aR2 _)) (aO7 (bO1 T.aF6 rfl (by rfl) (aO4 (aP0 cp2) aP6))) aT1)
   (aO5 (bd8 (aU9 (bI1 (hu6 hr)) (bv 1) (aP0 aP2) (aR2 _)) (aO7 (aQ4 aP2)) aT1)
   (aO7 (aQ4 (ba0 (P:=P) (w:=w) (K:=K) (mg:=mg) (base:=base) (n:=1) (bv 0) (hr.mono (by decide)) (aO4 (aP0 (aS3 bd7 (aZ0 (a61 (K:=K) (bv 0)) (bv 1) (λ_ _=>rfl)) (aZ0 (a61 (K:=K) (bv 0)) (bv 2) (λ_ _=>rfl)))) aP6)))))),λds Q Ex h=>?_⟩
  obtain ⟨m,a,b,rfl,hm,ha,hb,qx,q⟩:=h
  refine aO6 λU hU=>?_
  walk_at "l3"
  split
  ·rename_i h0
   exact ⟨by decide,qx (by omega)⟩
  ·rename_i h0
   have b0:b≠0:=by omega
   refine hU _ ?_
   clear hU U
   refine aO6 λU hU=>?_
   walk_at "l3"
   split
   ·rename_i h1
    have a0:a=0:=by omega
    subst a0
    exact q b0 0 ha (aR4 m b (aP1 m hm))
   ·rename_i h1
    have a0:a≠0:=by omega
    refine hU _ ?_
    clear hU U
    have hF:=fok hm
    obtain ⟨r,e,hr1,hr2⟩:=bi7 hm (show 1<=a by omega) ha (show 1<=b by omega) hb
    have qr:=q b0 r hr1 hr2
    obtain ⟨k,n⟩:=m
    cases k with
    | true =>
     walk_at "l3"
     have ll:(aX1 (fl (true,n))).length=mny (true,n):=(a70 _ _).trans hF.len
     have n0:=Int.emod_nonneg (lg (true,n) a - lg (true,n) b) (show (mny (true,n):Int) - 1≠0 by have:=hF.lo; omega)
     have n1:=Int.emod_lt_of_pos (lg (true,n) a - lg (true,n) b) (show (0:Int) < (mny (true,n):Int) - 1 by have:=hF.lo; omega)
     refine ⟨_,_,_,ai9 K,rfl,⟨T.aa3,_,_,_,T.ab1,aj0 T,T.aj7⟩,by decide,_,_,_,_,rfl,T.aa3,T.ab4,rfl,_,aW1 (by omega) (by rw [ll]; omega),_,_,_,_,rfl,T.aa3,T.ab4,rfl,_,aW1 (by omega) (by rw [ll]; omega),?_⟩
     refine ⟨_,_,_,_,mny (true,n),fl (true,n),r,rfl,T.aa3,T.ab5,T.ad5,rfl,rfl,hF.lo,?_,qr⟩
     have hk:((lg (true,n) a - lg (true,n) b) % ((mny (true,n):Int) - 1)).toNat < (fl (true,n)).length:=by have:=hF.len; omega
     show (fl (true,n))[((lg (true,n) a - lg (true,n) b) % ((mny (true,n):Int) - 1)).toNat]?=some (r:Int)
     rw [<-e]
     unfold pw
     rw [List.getD_eq_getElem?_getD,List.getElem?_eq_getElem hk]; rfl
    | false =>
     walk_at "l3"
     have ll:(aX1 (fl (false,n))).length=mny (false,n):=(a70 _ _).trans hF.len
     have n0:=Int.emod_nonneg (lg (false,n) a - lg (false,n) b) (show (mny (false,n):Int) - 1≠0 by have:=hF.lo; omega)
     have n1:=Int.emod_lt_of_pos (lg (false,n) a - lg (false,n) b) (show (0:Int) < (mny (false,n):Int) - 1 by have:=hF.lo; omega)
     refine ⟨_,_,_,ai9 K,rfl,⟨T.aa2,_,_,_,T.ab0,aj0 T,T.aj7⟩,by decide,_,_,_,_,rfl,T.aa2,T.ab6,rfl,_,aW1 (by omega) (by rw [ll]; omega),_,_,_,_,rfl,T.aa2,T.ab6,rfl,_,aW1 (by omega) (by rw [ll]; omega),?_⟩
     refine ⟨_,_,_,_,mny (false,n),fl (false,n),r,rfl,T.aa2,T.ab8,T.ac7,rfl,rfl,hF.lo,?_,qr⟩
     have hk:((lg (false,n) a - lg (false,n) b) % ((mny (false,n):Int) - 1)).toNat < (fl (false,n)).length:=by have:=hF.len; omega
     show (fl (false,n))[((lg (false,n) a - lg (false,n) b) % ((mny (false,n):Int) - 1)).toNat]?=some (r:Int)
     rw [<-e]
     unfold pw
     rw [List.getD_eq_getElem?_getD,List.getElem?_eq_getElem hk]; rfl
theorem bf8 (T:Txt K mg t) (m:Bool × Nat):MethX P w K mg base 2 "over" (if m.1 then t.aa1 else t.aa0) (ay9 t P w K mg base):=by
 obtain ⟨k,n⟩:=m
 cases k with
 | true=>exact ⟨T.aa3,_,_,_,T.af1,az0 T,T.aA6⟩
 | false=>exact ⟨T.aa2,_,_,_,T.ae1,az0 T,T.aA6⟩
noncomputable abbrev ao6 (K:Frag):SpD:=λds Q=>∃(C:Addr) (p a:Nat) (xs ys:List Nat),ds=[cl4 C p,.lst false (aO8 xs),.int a,.lst false (aO8 ys)]/\Cls K C/\NoAttr K C "products"/\p∈fbits/\a < mny (true,p)/\(∀y∈ys,y < mny (true,p))/\xs.length<=1000/\Q (.lst true (aO8 (List.zipWith (λx y=>gln (true,p) x (gm (true,p) a y)) xs ys)))
theorem ay0 (T:Txt K mg t):FnOk P w K mg base CX0 1 t.ai5 t.ah3 ["self","row","a","other"] (lSp (ao6 K)):=by
 refine aS4 T.az5 am8 ?_ ?_
 ·intro ds Q h
  obtain ⟨C,p,a,xs,ys,rfl,hC,hn,hp,ha,hy,hl,q⟩:=h <;> rfl
 ·intro cdv A outer s H E hr
  refine ⟨_,(aO5 (aQ5 (i:=4) am8.nd rfl (Or.inr rfl) (ba9 (aZ0 (a61 (K:=K) (bv 0)) (bv 2) (λ_ _=>rfl))))
   (aO7 (aQ4 (aS2 [("by_a",4)] ["x","y"] rfl (bL6 rfl T.n_zip (aO4 (bv 1) (aO4 (bv 3) aP6))) (λ_ _ _ _=>(a54 (i1:=1) (i2:=2) rfl (show (["by_a","x","y"]:List Str).Nodup by decide +kernel) rfl (Or.inl (lookup_relabel_local rfl)) rfl (Or.inl (lookup_relabel_local rfl)) (by decide) (by decide) (Or.inr (lookup_relabel_local rfl)) (Or.inr (lookup_relabel_local rfl)))) (λ_ _ _ _=>aU7) (λ_ _ _ _=>(aS3 bM9 (bv 1) (aZ0 (bv 0) (bv 2) (λ_ _=>rfl)))) rfl ⟨rfl,trivial⟩ (λ_=>by repeat' (first | exact trivial | refine ⟨.inl rfl,?_⟩ | refine ⟨.inr (.inl rfl),?_⟩ | refine ⟨.inr (.inr ⟨_,rfl⟩),?_⟩)) (λ_=>⟨⟨rfl,.inl rfl,.inl rfl,_,rfl,rfl⟩,trivial⟩) rfl (by decide +kernel))))),λds Q h=>?_⟩
  obtain ⟨C,p,a,xs,ys,rfl,hC,hn,hp,ha,hy,hl,q⟩:=h
  refine aO6 λU hU=>?_
  walk_at "l3"
  refine ⟨C,_,_,_,rfl,hC,hn,rfl,_,bh7 hp ha,?_⟩
  refine ⟨by rw [aW6,a67]; rfl,hU _ ?_⟩
  clear hU U
  walk_at "l3"
  refine ⟨_,_,rfl,rfl,bf9 (λx y=>gln (true,p) x (gm (true,p) a y)) (λx hx y hy2=>?_) (by omega) q⟩
  walk_at "l3"
  refine ⟨_,bw5 hp ha (hy y hy2),?_⟩
  show Builtin.bitXor (x:Int) ((gm (true,p) a y:Nat):Int)=_
  rw [aU6]; rfl
noncomputable abbrev al5 (K:Frag):SpD:=λds Q=>∃(C:Addr) (p a:Nat) (xs ys:List Nat),ds=[bk7 C p,.lst false (aO8 xs),.int a,.lst false (aO8 ys)]/\Cls K C/\NoAttr K C "prime"/\0 < p/\a < 64/\(∀y∈ys,y < 64)/\xs.length<=1000/\Q (.lst true (aO8 (List.zipWith (λx y=>gln (false,p) x (gm (false,p) a y)) xs ys)))
theorem aw2 (T:Txt K mg t):FnOk P w K mg base CX0 1 t.ah0 t.af9 ["self","row","a","other"] (lSp (al5 K)):=by
 refine aS4 T.ax3 al0 ?_ ?_
 ·intro ds Q h
  obtain ⟨C,p,a,xs,ys,rfl,hC,hn,hp,ha,hy,hl,q⟩:=h <;> rfl
 ·intro cdv A outer s H E hr
  refine ⟨_,(aO5 (aQ5 (i:=4) al0.nd rfl (Or.inr rfl) (ba9 (a61 (K:=K) (bv 0))))
   (aO7 (aQ4 (aS2 [("prime",4),("a",2)] ["x","y"] rfl (bL6 rfl T.n_zip (aO4 (bv 1) (aO4 (bv 3) aP6))) (λ_ _ _ _=>(a54 (i1:=2) (i2:=3) rfl (show (["prime","a","x","y"]:List Str).Nodup by decide +kernel) rfl (Or.inl (lookup_relabel_local rfl)) rfl (Or.inl (lookup_relabel_local rfl)) (by decide) (by decide) (Or.inr (lookup_relabel_local rfl)) (Or.inr (lookup_relabel_local rfl)))) (λ_ _ _ _=>aU7) (λ_ _ _ _=>(aS3 a04 (aP0 (aS3 bd7 (bv 2) (aP0 (aS3 bd9 (bv 1) (bv 3))))) (bv 0))) rfl ⟨rfl,⟨rfl,trivial⟩⟩ (λ_=>by repeat' (first | exact trivial | refine ⟨.inl rfl,?_⟩ | refine ⟨.inr (.inl rfl),?_⟩ | refine ⟨.inr (.inr ⟨_,rfl⟩),?_⟩)) (λ_=>⟨⟨rfl,.inl rfl,.inl rfl,_,rfl,rfl⟩,⟨⟨rfl,.inl rfl,.inl rfl,_,rfl,rfl⟩,trivial⟩⟩) rfl (by decide +kernel))))),λds Q h=>?_⟩
  obtain ⟨C,p,a,xs,ys,rfl,hC,hn,hp,ha,hy,hl,q⟩:=h
  refine aO6 λU hU=>?_
  walk_at "l3"
  refine ⟨C,_,_,.int p,rfl,hC,hn,rfl,rfl,hU _ ?_⟩
  clear hU U
  walk_at "l3"
  refine ⟨_,_,rfl,rfl,bf9 (λx y=>gln (false,p) x (gm (false,p) a y)) (λx hx y hy2=>?_) (by omega) q⟩
  have h2:=hy y hy2
  walk_at "l3"
  refine ⟨CMul.ok (.inr ⟨by omega,by omega⟩),by omega,?_⟩
  have e:((x:Int) - ((a * y % p:Nat):Int)) % (p:Int)=((x:Int) - (a:Int) * y) % p:=by
   rw [Int.natCast_emod,Int.natCast_mul,Int.sub_emod,Int.emod_emod,<- Int.sub_emod]
  show _=(((((x:Int) - ((a * y % p:Nat):Int)) % (p:Int)).toNat:Nat):Int)
  rw [e,Int.toNat_of_nonneg (Int.emod_nonneg _ (by omega))]
theorem bk8 (T:Txt K mg t) {m:Bool × Nat} (hm:m∈flds):∃C ns zs sp,fD t.aa1 t.aa0 m=.obj C ns zs/\MethOk P w K mg base 1 "lessened" C sp/\("lessened":Str) ∉ ns/\∀(xs ys:List Nat) (a:Nat) (Q:D->Prop),a < mny m->(∀y∈ys,y < mny m)->xs.length<=1000->Q (.lst true (aO8 (List.zipWith (λx y=>gln m x (gm m a y)) xs ys)))->sp [.obj C ns zs,.lst false (aO8 xs),.int a,.lst false (aO8 ys)] Q:=by
 have hF:=fok hm
 obtain ⟨k,n⟩:=m
 cases k with
 | true=>exact ⟨_,_,_,ao6 K,rfl,⟨T.aa3,_,_,_,T.ac8,ay0 T,T.az6⟩,by decide,λxs ys a Q ha hy hl q=>⟨_,n,a,xs,ys,rfl,T.aa3,T.aa7,a63 hm,ha,hy,hl,q⟩⟩
 | false =>
  have l64:n<=64:=hF.hi
  have l2:2<=n:=hF.lo
  exact ⟨_,_,_,al5 K,rfl,⟨T.aa2,_,_,_,T.ac1,aw2 T,T.ax4⟩,by decide,λxs ys a Q ha hy hl q=>⟨_,n,a,xs,ys,rfl,T.aa2,T.aa5,by omega,Nat.lt_of_lt_of_le (show a < n from ha) l64,λy h=>Nat.lt_of_lt_of_le (show y < n from hy y h) l64,hl,q⟩⟩
noncomputable abbrev as2 (K:Frag):SpD:=λds Q=>∃(C:Addr) (p a b:Nat),ds=[cl4 C p,.int a,.int b]/\Cls K C/\NoAttr K C "products"/\p∈fbits/\a < mny (true,p)/\b < mny (true,p)/\Q (.int (gm (true,p) a b:Nat))
theorem aD1 (T:Txt K mg t):FnOk P w K mg base CX0 1 t.am1 t.ak5 ["self","a","b"] (lSp (as2 K)):=by
 refine aS4 T.aD8 aC5 ?_ ?_
 ·intro ds Q h
  obtain ⟨C,p,a,b,rfl,hC,hn,hp,ha,hb,q⟩:=h <;> rfl
 ·intro cdv A outer s H E hr
  refine ⟨_,(aO7 (aQ4 (ba9 (aZ0 (aZ0 (a61 (K:=K) (bv 0)) (bv 1) (λ_ _=>rfl)) (bv 2) (λ_ _=>rfl))))),λds Q h=>?_⟩
  obtain ⟨C,p,a,b,rfl,hC,hn,hp,ha,hb,q⟩:=h
  walk_at "l3"
  refine ⟨C,_,_,_,rfl,hC,hn,rfl,?_⟩
  exact ⟨_,bh7 hp ha,_,bw5 hp ha hb,rfl,q⟩
noncomputable abbrev ao8 (K:Frag):SpD:=λds Q=>∃(C:Addr) (p:Nat) (a b:Int),ds=[bk7 C p,.int a,.int b]/\Cls K C/\NoAttr K C "prime"/\0 < p/\IntMulOk a b/\Q (.int (a * b % p))
theorem az9 (T:Txt K mg t):FnOk P w K mg base CX0 1 t.aj4 t.ai6 ["self","a","b"] (lSp (ao8 K)):=by
 refine aS4 T.aA7 az3 ?_ ?_
 ·intro ds Q h
  obtain ⟨C,p,a,b,rfl,hC,hn,hp,hm,q⟩:=h <;> rfl
 ·intro cdv A outer s H E hr
  refine ⟨_,(aO7 (aQ4 (aS3 a04 (aP0 (aS3 bd9 (bv 1) (bv 2))) (a61 (K:=K) (bv 0))))),λds Q h=>?_⟩
  obtain ⟨C,p,a,b,rfl,hC,hn,hp,hm,q⟩:=h
  walk_at "l3"
  exact ⟨hm,C,_,_,.int p,rfl,hC,hn,rfl,by omega,q⟩
theorem b91 (T:Txt K mg t) {m:Bool × Nat} (hm:m∈flds):∃C ns xs sp,fD t.aa1 t.aa0 m=.obj C ns xs/\MethOk P w K mg base 1 "times" C sp/\("times":Str) ∉ ns/\∀(a b:Nat) (Q:D->Prop),a < mny m->b < mny m->Q (.int (gm m a b:Nat))->sp [.obj C ns xs,.int a,.int b] Q:=by
 have hF:=fok hm
 obtain ⟨k,n⟩:=m
 cases k with
 | true=>exact ⟨_,_,_,as2 K,rfl,⟨T.aa3,_,_,_,T.ae7,aD1 T,T.aD9⟩,by decide,λa b Q ha hb q=>⟨_,n,a,b,rfl,T.aa3,T.aa7,a63 hm,ha,hb,q⟩⟩
 | false =>
  have l64:n<=64:=hF.hi
  refine ⟨_,_,_,ao8 K,rfl,⟨T.aa2,_,_,_,T.ad2,az9 T,T.aA8⟩,by decide,λa b Q ha hb q=>?_⟩
  have ha':a < n:=ha
  have hb':b < n:=hb
  refine ⟨_,n,a,b,rfl,T.aa2,T.aa5,by omega,CMul.ok (.inr ⟨by omega,by omega⟩),?_⟩
  have e:((gm (false,n) a b:Nat):Int)=(a:Int) * b % n:=by
   show ((a * b % n:Nat):Int)=_
   rw [Int.natCast_emod,Int.natCast_mul]
  rw [<-e]; exact q
noncomputable abbrev b74 (t:Adr) (P:Program) (w:World) (K:Frag) (mg:Str->Option Value) (base:Heap):SpD:=λds Q=>∃(m:Bool × Nat) (c:List Nat) (os:List (List Nat)),ds=[fD t.aa1 t.aa0 m,.lst false (aO8 c),.lst false (aP8 false os)]/\m∈flds/\nul c=false/\c.length<=64/\AllLt (mny m) c/\RT (mny m) c.length os/\os.length<=1000/\Q (.lst true (aP8 true (pst m c os)))
theorem b70 (T:Txt K mg t):FnOk P w K mg base CX0 3 t.f_past t.fd_past ["field","column","others"] (lSp (b74 t P w K mg base)):=by
 refine aS4 T.F_past sc_past ?_ ?_
 ·intro ds Q h
  obtain ⟨m,c,os,rfl,hm,hn,hc,hac,hos,hol,q⟩:=h <;> rfl
 ·intro cdv A outer s H E hr
  refine ⟨_,(aO5 (aQ5 (i:=3) sc_past.nd rfl (Or.inl rfl) (ba9 (aZ0 (aP0 (aS2 [] ["k","x"] rfl (aY2 rfl T.n_enumerate (aO4 (bv 1) aP6)) (λ_ _ _ _=>(a54 (i1:=0) (i2:=1) rfl (show (["k","x"]:List Str).Nodup by decide +kernel) rfl (Or.inl (lookup_relabel_local rfl)) rfl (Or.inl (lookup_relabel_local rfl)) (by decide) (by decide) (Or.inr (lookup_relabel_local rfl)) (Or.inr (lookup_relabel_local rfl)))) (λ_ _ _ _=>(bz1 (aU9 (bC4 (hu6 hr)) (bv 1) (aP0 aP2) (aR2 _)))) (λ_ _ _ _=>(ba9 (bv 0))) rfl trivial (λ_=>by repeat' (first | exact trivial | refine ⟨.inl rfl,?_⟩ | refine ⟨.inr (.inl rfl),?_⟩ | refine ⟨.inr (.inr ⟨_,rfl⟩),?_⟩)) (λ_=>trivial) rfl (by decide +kernel))) (aP0 aP2) (λ_ _=>rfl))))
   (aO5 (aQ5 (i:=4) sc_past.nd rfl (Or.inl rfl) (bl7 (P:=P) (w:=w) (K:=K) (mg:=mg) (base:=base) (n:=2) (bv 0) (hr.mono (by decide)) (aO4 (aP0 aP2) (aO4 (aZ0 (bv 1) (bv 3) (λ_ _=>rfl)) aP6))))
   (aO5 (aQ5 (i:=5) sc_past.nd rfl (Or.inl rfl) (a09 aX6))
   (aO5 (bb6 PassesOwn.never rfl (b73 (ba9 (bv 2))) (aS6 (i:=6) sc_past.nd rfl (Or.inl rfl))
    (aO5 (aQ5 (i:=7) sc_past.nd rfl (Or.inl rfl) (ba0 (P:=P) (w:=w) (K:=K) (mg:=mg) (base:=base) (n:=1) (bv 0) (hr.mono (by decide)) (aO4 (bv 6) (aO4 (aP0 (ba0 (P:=P) (w:=w) (K:=K) (mg:=mg) (base:=base) (n:=1) (bv 0) (hr.mono (by decide)) (aO4 (aZ0 (bv 6) (bv 3) (λ_ _=>rfl)) (aO4 (bv 4) aP6)))) (aO4 (bv 1) aP6)))))
    (aO7 (a77 (i:=5) rfl (by first | exact Or.inl rfl | exact Or.inr (Or.inl rfl)) (aS3 aZ8 (aP0 (ba6 (bv 7) bs1 (bs8 (bv 3)))) (aP0 (ba6 (bv 7) (bs8 (aP0 (aS3 aZ8 (bv 3) (aP0 aP2)))) bs1)))))))
   (aO7 (aQ4 (em 5))))))),λds Q h=>?_⟩
  obtain ⟨m,c,os,rfl,hm,hn,hc,hac,hos,hol,q⟩:=h
  have hlo:=(fok hm).lo
  obtain ⟨pl,pn⟩:=bK1 hn
  have cp:=hac.getD (show 0 < mny m by omega) (ldf c)
  have cx:∃x∈c,x≠0:=⟨_,aP9 pl 0,pn⟩
  refine aO6 λU hU=>?_
  walk_at "l3"
  refine bn5 (List.range c.length) (λ(i:Nat)=>D.tup [.int (i:Int),.int ((c.getD i 0:Nat):Int)]) (λ(i:Nat)=>D.int (i:Int)) (λi=>c.getD i 0 != 0) (bx1 c) (λa b h=>by injection h with h; simp at h; omega) (λi hi=>?_) (.inr λ_ _ _=>rfl) (by rw [List.length_range,sL]; omega) ?_
  ·walk_at "l3"
   refine ⟨?_,λ_=>trivial⟩
   by_cases h0:c.getD i 0=0
   ·rw [h0]; rfl
   ·rw [decide_eq_false (by omega),bne_iff_ne.mpr h0]; rfl
  dsimp only
  refine ⟨.int (ldf c:Nat),L3.atI_nat (k:=0) (by rw [List.getElem?_map,bq6 cx]; rfl),rfl,hU _ ?_⟩
  clear hU U
  refine aO6 λU hU=>?_
  walk_at "l3"
  refine ⟨_,_,_,_,bd6 _ _ m,bf8 T m,cc3 m _ (by decide),.int (c.getD (ldf c) 0:Nat),by rw [aT0 (by omega) (by omega),Int.toNat_natCast],m,1,c.getD (ldf c) 0,by rw [bd6]; rfl,hm,hlo,cp,λz=>absurd z pn,λ_ iv hiv eiv=>?_⟩
  have ei:gmi m (c.getD (ldf c) 0)=iv:=bj4 hm hiv eiv
  refine ⟨rfl,hU _ ?_⟩
  clear hU U
  refine aO6 λU hU=>?_
  walk_at "l3"
  refine ⟨by decide,hU _ ?_⟩
  clear hU U
  refine aO6 λU hU=>?_
  walk_at "l3"
  refine dForB.mk (λi δ=>∃o6 o7,δ=[some (fD t.aa1 t.aa0 m),some (D.lst false (aO8 c)),some (D.lst false (aP8 false os)),some (D.int (ldf c)),some (D.int iv),some (D.lst true (aP8 true (pst m c (os.take i)))),o6,o7]) ⟨_,_,rfl⟩ ?_ ?_
  ·rintro i d δ hd ⟨o6,o7,rfl⟩
   obtain ⟨hi,rfl⟩:=bU2 hd
   clear hd hU
   obtain ⟨ol,oa⟩:=hos _ (List.getElem_mem hi)
   have op:=oa.getD (show 0 < mny m by omega) (ldf c)
   obtain ⟨C,ns,xs,sp,e1,e2,e3,e4⟩:=bk8 (P:=P) (w:=w) (base:=base) T hm
   refine aO6 λU hU=>?_
   walk_at "l3"
   obtain ⟨C1,n1,x1,sp1,g1,g2,g3,g4⟩:=b91 (P:=P) (w:=w) (base:=base) T hm
   refine ⟨C,ns,xs,sp,e1,e2,e3,C1,n1,x1,sp1,g1,g2,g3,.int (os[i].getD (ldf c) 0:Nat),by rw [aT0 (by omega) (by omega),Int.toNat_natCast],g4 _ iv _ op hiv ⟨rfl,e4 os[i] c (gm m (os[i].getD (ldf c) 0) iv) _ (aR6 hm _ _) hac (by omega) ⟨rfl,hU _ ?_⟩⟩⟩
   clear hU
   have ep:pst m c (os.take (i + 1))=pst m c (os.take i)++[(List.zipWith (λx y=>gln m x (gm m (gm m (os[i].getD (ldf c) 0) iv) y)) os[i] c).take (ldf c)++(List.zipWith (λx y=>gln m x (gm m (gm m (os[i].getD (ldf c) 0) iv) y)) os[i] c).drop (ldf c + 1)]:=by
    unfold pst
    rw [List.take_add_one,List.getElem?_eq_getElem hi,Option.toList_some,List.map_append,List.map_cons,List.map_nil,ei]
   rw [ep]
   have ll:(List.zipWith (λx y=>gln m x (gm m (gm m (os[i].getD (ldf c) 0) iv) y)) os[i] c).length<=64:=by rw [List.length_zipWith]; omega
   generalize List.zipWith (λx y=>gln m x (gm m (gm m (os[i].getD (ldf c) 0) iv) y)) os[i] c=lf at ll ⊢
   have pl2:(pst m c (os.take i)).length<=1000:=by rw [bN6,List.length_take]; omega
   walk_at "l3"
   rw [bh1,show ((ldf c:Int) + 1)=((ldf c + 1:Nat):Int) by omega,bo2]
   exact ⟨⟨_,rfl⟩,by rw [List.length_take,List.length_drop]; omega,by omega,_,_,a64 true _ [lf.take (ldf c)++lf.drop (ldf c + 1)],rfl,rfl⟩
  ·rintro δ ⟨o6,o7,rfl⟩
   refine hU _ ?_
   walk_at "l3"
   rw [List.take_length]
   exact q
noncomputable def bi0 (o:Bool) (l:List Cs):List D:=l.map λs=>.tup [.lst o (aO8 s.1),.lst o (aP8 o s.2)]
theorem bN2 (o:Bool) (l:List Cs):(bi0 o l).map D.sh=bi0 false l:=by
 unfold bi0
 rw [List.map_map]
 refine List.map_congr_left λs _=>?_
 show (D.tup [.lst o (aO8 s.1),.lst o (aP8 o s.2)]).sh=_
 rw [a94,List.map_cons,List.map_cons,List.map_nil,bc9,aT6,aS5]
theorem cf1 (l:List Cs):(bi0 false l).all D.pl=true:=by
 rw [List.all_eq_true]
 intro d hd
 obtain ⟨s,_,rfl⟩:=List.mem_map.mp hd
 show (D.tup [.lst false (aO8 s.1),.lst false (aP8 false s.2)]).pl=true
 rw [a75,List.all_cons,List.all_cons,aW6,aW6,aZ5,a80]; rfl
theorem bV1 (o:Bool) (a b:List Cs):bi0 o a++bi0 o b=bi0 o (a++b):=by unfold bi0; rw [List.map_append]
theorem b89 {o:Bool} {l:List Cs} {i:Nat} {d:D} (hd:(bi0 o l)[i]?=some d):∃hi:i < l.length,d=.tup [.lst o (aO8 l[i].1),.lst o (aP8 o l[i].2)]:=by
 unfold bi0 at hd
 rw [List.getElem?_map] at hd
 by_cases hi:i < l.length
 ·rw [List.getElem?_eq_getElem hi] at hd
  exact ⟨hi,(Option.some.inj hd).symm⟩
 ·rw [List.getElem?_eq_none (by omega)] at hd; cases hd
theorem bS3 (o:Bool) (l:List Cs):eqK 6 (.lst o (bi0 o l))=true:=by
 show (bi0 o l).all (eqK 5)=true
 rw [List.all_eq_true]
 intro d hd
 obtain ⟨s,_,rfl⟩:=List.mem_map.mp hd
 show ([D.lst o (aO8 s.1),.lst o (aP8 o s.2)]).all (eqK 4)=true
 rw [List.all_cons,List.all_cons,aW9 3 o s.1,bl8 2 o o s.2]; rfl
theorem bO9 {m:Bool × Nat} {c:List Nat} {os:List (List Nat)} {N:Nat} (h:∀o∈os,o.length<=N):∀x∈pst m c os,x.length<=N:=λx hx=>by
 obtain ⟨o,ho,rfl⟩:=List.mem_map.mp hx
 have:=h o ho
 rw [List.length_append,List.length_take,List.length_drop,List.length_zipWith]
 omega
theorem bw4 {W:Nat}:∀{l:List Cs},(∀s∈l,s.2.length<=W)->(prs l).length<=l.length * W
 | [],_=>Nat.zero_le _
 | s :: l,h=>by
  have ih:=bw4 (λs hs=>h s (List.mem_cons_of_mem _ hs))
  have h1:=h s (List.mem_cons_self ..)
  show (bh9 s++prs l).length<=_
  rw [List.length_append,show (bh9 s).length=s.2.length by unfold bh9; rw [List.length_map,List.length_range],List.length_cons,Nat.succ_mul]
  omega
noncomputable def b00:Option (List Nat)->D
 | some l=>.lst true (aO8 l)
 | none=>.non
noncomputable abbrev aH0 (t:Adr) (P:Program) (w:World) (K:Frag) (mg:Str->Option Value) (base:Heap):SpD:=λds Q=>∃(m:Bool × Nat) (G:List (List Nat)),ds=[fD t.aa1 t.aa0 m,.lst false (aP8 false G)]/\m∈flds/\G.length<=64/\RT (mny m) (wof G) G/\0 < wof G/\wof G<=6/\Q (b00 (fbN m G))
theorem ap1 (T:Txt K mg t):FnOk P w K mg base CX0 4 t.f_first_bound t.fd_first_bound ["field","table"] (lSp (aH0 t P w K mg base)):=by
 refine aS4 T.F_first_bound ac5 ?_ ?_
 ·intro ds Q h
  obtain ⟨m,G,rfl,hm,hG,hR,hw0,hw,q⟩:=h <;> rfl
 ·intro cdv A outer s H E hr
  refine ⟨_,(aO5 (aQ5 (i:=2) ac5.nd rfl (Or.inl rfl) (aQ3 ((al4 T).mono (by decide)) hr rfl T.g_width_of T.F_width_of.kp T.b_width_of aQ7 (aO4 (bv 1) aP6)))
   (aO5 (aQ5 (i:=3) ac5.nd rfl (Or.inl rfl) (a09 (aU3 (bG4 (aU3 (a09 aX6) (aU3 (aQ3 ((aN5 T).mono (by decide)) hr rfl T.g_turned T.F_turned.kp T.b_turned aQ7 (aO4 (bv 1) aP6)) aX6))) aX6)))
   (aO5 (bg5 PassesOwn.never (aU9 (bC4 (hu6 hr)) (bv 3) (aP0 (a09 aX6)) (aR2 _))
    (aO5 (aQ5 (i:=4) ac5.nd rfl (Or.inl rfl) (a09 aX6))
    (bq8 3 (aO5 (bb6 PassesOwn.never rfl (b73 (ba9 (bv 3))) (a54 (i1:=5) (i2:=6) rfl ac5.nd rfl (Or.inl rfl) rfl (Or.inl rfl))
     (aO7 (bb6 PassesOwn.never rfl (aY2 rfl T.n_enumerate (aO4 (bv 6) aP6)) (a54 (i1:=7) (i2:=8) rfl ac5.nd rfl (Or.inl rfl) rfl (Or.inl rfl))
      (aO5 (aQ5 (i:=9) ac5.nd rfl (Or.inl rfl) (aS3 aZ8 (bv 5) (aP0 (a09 (aU3 (aS3 aZ8 (aP0 (aS3 bd7 (bv 2) (aP0 (aU4 (bl5) (by rfl) T.n_len ba5 (aO4 (bv 6) aP6))))) (bv 7)) aX6)))))
      (aO5 (bd8 (bn2 (aP0 (aQ3 ((aL0 T).mono (by decide)) hr rfl T.g_is_nought T.F_is_nought.kp T.b_is_nought aQ7 (aO4 (bv 8) aP6)))) (aO7 (aQ4 (em 9))) aT1)
      (aO7 (a77 (i:=4) rfl (by first | exact Or.inl rfl | exact Or.inr (Or.inl rfl)) (bG4 (aU3 (em 9) (aU3 (aQ3 ((b70 T).mono (by decide)) hr rfl T.g_past T.F_past.kp T.b_past aQ7 (aO4 (bv 0) (aO4 (bv 8) (aO4 (aP0 (ba6 (bv 6) (bs8 (aP0 (aS3 aZ8 (bv 7) (aP0 aP2)))) bs1)) aP6)))) aX6))))))))))
    (aO7 (aQ5 (i:=3) ac5.nd rfl (Or.inl rfl) (em 4)))))))
   (aO7 (aQ4 bu6))))),λds Q h=>?_⟩
  obtain ⟨m,G,rfl,hm,hG,hR,hw0,hw,q⟩:=h
  have hlo:=(fok hm).lo
  refine aO6 λU hU=>?_
  walk_at "l3"
  refine ⟨G,rfl,by omega,λr hr'=>by rw [(hR r hr').1]; omega,hU _ ?_⟩
  clear hU U
  refine aO6 λU hU=>?_
  walk_at "l3"
  refine ⟨by decide,G,rfl,by omega,λr hr'=>(hR r hr').1,by omega,by decide,by decide,hU _ ?_⟩
  clear hU U
  have Ls:=Lv.start hm hw0 hR
  refine aO6 λU hU=>?_
  walk_at "l3"
  refine ⟨λn δ=>∃(l:List Cs) (k:Nat) (o4 o5 o6 o7 o8 o9:Option D),δ=[some (fD t.aa1 t.aa0 m),some (D.lst false (aP8 false G)),some (D.int (wof G)),some (D.lst true (bi0 true l)),o4,o5,o6,o7,o8,o9]/\Lv m (a97 G) (wof G) k l/\k + n=wof G + 1/\fbs m (wof G) n l=fbN m G/\l.length<=6 ^ k/\∀s∈l,∀r∈s.2,r.length<=64,⟨wof G + 1,[([],trn G)],0,_,_,_,_,_,_,rfl,Ls,by omega,rfl,Nat.le_refl _,λs hs r hr'=>?_⟩,?_⟩
  ·rw [List.mem_singleton.mp hs] at hr'
   have:=((b54 (by omega) hw0 hR).2.2 r hr').1
   omega
  rintro n δ ⟨l,k,o4,o5,o6,o7,o8,o9,rfl,L,hk,hfb,hll,h64⟩
  walk_at "l3"
  refine ⟨by decide,⟨bS3 true l,rfl⟩,?_⟩
  by_cases l0:l=[]
  ·subst l0
   rw [show deq (D.lst true (bi0 true [])) (D.lst true [])=true from rfl,if_neg (by decide)]
   refine hU _ ?_
   walk_at "l3"
   have e0:fbN m G=none:=by
    rw [<-hfb]
    cases n with
    | zero=>rfl
    | succ n=>rfl
   rw [e0] at q
   exact q
  have d0:deq (D.lst true (bi0 true l)) (D.lst true [])=false:=by
   cases l with
   | nil=>exact absurd rfl l0
   | cons s l=>rfl
  rw [d0,if_pos (by decide)]
  have incw:∀s∈l,Inc (wof G) s.1/\s.2.length<=6:=λs hs=>by
   have g:=(L.gs s hs).1
   have gl:=g.le
   exact ⟨⟨g.inc,λx hx=>by have:=g.off x hx; omega⟩,by omega⟩
  obtain ⟨n,rfl⟩:∃n',n=n' + 1:=by
   cases n with
   | succ n=>exact ⟨n,rfl⟩
   | zero =>
    exfalso
    cases l with
    | nil=>exact l0 rfl
    | cons s l =>
     have h1:=(incw s (List.mem_cons_self ..)).1.len
     have h2:=(L.gs s (List.mem_cons_self ..)).2
     omega
  clear hU
  have k6:6 ^ k * 6<=279936:=by
   have:6 ^ (k + 1)<=6 ^ 7:=Nat.pow_le_pow_right (by decide) (by omega)
   rw [Nat.pow_succ] at this
   exact this
  have plen:∀a,(prs (l.take a)).length<=279936:=λa=>by
   have h1:=bw4 (W:=6) (l:=l.take a) λs hs=>(incw s (List.mem_of_mem_take hs)).2
   have h2:(l.take a).length<=6 ^ k:=by rw [List.length_take]; omega
   have:=Nat.mul_le_mul_right 6 h2
   omega
  refine aO6 λU hU=>?_
  walk_at "l3"
  refine ⟨by decide,hU _ ?_⟩
  clear hU
  refine ⟨_,rfl,?_⟩
  rw [aT6,bN2]
  simp only [List.set_cons_succ,List.set_cons_zero]
  refine aO6 λU hU=>?_
  walk_at "l3"
  refine ⟨cf1 l,?_⟩
  rw [bN2]
  refine dForB.mk (λa δ=>(∀z∈prs (l.take a),bU7 z=false)/\∃o5 o6 o7 o8 o9,δ=[some (fD t.aa1 t.aa0 m),some (D.lst false (aP8 false G)),some (D.int (wof G)),some (D.lst false (bi0 false l)),some (D.lst true (bi0 true ((prs (l.take a)).map (kid m (wof G))))),o5,o6,o7,o8,o9]) ⟨λz hz=>absurd hz List.not_mem_nil,_,_,_,_,_,rfl⟩ ?_ ?_
  ·rintro a d δ hd ⟨hno,o5,o6,o7,o8,o9,rfl⟩
   obtain ⟨ha,rfl⟩:=b89 hd
   clear hd hU
   have hs:=List.getElem_mem ha
   obtain ⟨gs,gk⟩:=L.gs _ hs
   obtain ⟨hh,grt⟩:=gs.rt
   have g6:=(incw _ hs).2
   have et:prs (l.take (a + 1))=prs (l.take a)++bh9 l[a]:=by
    unfold prs
    rw [List.take_add_one,List.getElem?_eq_getElem ha,Option.toList_some,List.flatMap_append,List.flatMap_cons,List.flatMap_nil,List.append_nil]
   rw [et]
   have pl1:=plen (a + 1)
   rw [et,List.length_append] at pl1
   generalize hS:l[a]=s0 at hs gs gk grt g6 et pl1 ⊢
   have l1:(bh9 s0).length=s0.2.length:=by unfold bh9; rw [List.length_map,List.length_range]
   walk_at "l3"
   refine dForB.mk (λi δ=>(∀z∈(bh9 s0).take i,bU7 z=false)/\∃o7 o8 o9,δ=[some (fD t.aa1 t.aa0 m),some (D.lst false (aP8 false G)),some (D.int (wof G)),some (D.lst false (bi0 false l)),some (D.lst true (bi0 true ((prs (l.take a)++(bh9 s0).take i).map (kid m (wof G))))),some (D.lst false (aO8 s0.1)),some (D.lst false (aP8 false s0.2)),o7,o8,o9]) ⟨λz hz=>absurd hz List.not_mem_nil,_,_,_,by rw [List.take_zero,List.append_nil]⟩ ?_ ?_
   ·rintro i d δ hd ⟨hno2,o7,o8,o9,rfl⟩
    obtain ⟨hi,rfl⟩:=bz8 hd
    clear hd
    obtain ⟨cl,ca⟩:=grt _ (List.getElem_mem hi)
    have gc:s0.2.getD i []=s0.2[i]:=by rw [List.getD_eq_getElem?_getD,List.getElem?_eq_getElem hi]; rfl
    have gle:=gs.le
    have ei:(bh9 s0).take (i + 1)=(bh9 s0).take i++[(s0,i)]:=by
     rw [List.take_add_one]
     congr 1
     unfold bh9
     rw [List.getElem?_map,List.getElem?_range hi]; rfl
    have hh6:hh<=64:=by have:=h64 _ hs _ (List.getElem_mem hi); omega
    have il1:=(incw _ hs).1.len
    simp only [gN2,List.set_cons_succ,List.set_cons_zero]
    refine aO6 λU hU=>?_
    walk_at "l3"
    have eb:aO8 s0.1++[D.int ((wof G:Int) - (s0.2.length:Int) + (i:Int))]=aO8 (img (wof G) (s0,i)):=by
     unfold img
     rw [aQ0,aQ0,List.map_append]
     show _=_++[D.int ((wof G - s0.2.length + i:Nat):Int)]
     rw [show (wof G:Int) - (s0.2.length:Int) + (i:Int)=((wof G - s0.2.length + i:Nat):Int) by omega]
    rw [eb]
    refine ⟨by decide,by omega,hU _ ?_⟩
    clear hU
    refine aO6 λU hU=>?_
    walk_at "l3"
    refine ⟨s0.2[i],rfl,by omega,nul s0.2[i],rfl,?_⟩
    cases hz:nul s0.2[i] with
    | true =>
     rw [if_pos rfl]
     have ef:fbN m G=some (img (wof G) (s0,i)):=by
      rw [<-hfb,fbs,if_neg l0]
      have:(prs l).find? bU7=some (s0,i):=by
       refine List.find?_eq_some_iff_append.mpr ⟨by show nul (s0.2.getD i [])=true; rw [gc]; exact hz,prs (l.take a)++(bh9 s0).take i,(bh9 s0).drop (i + 1)++prs (l.drop (a + 1)),?_,λz hz'=>?_⟩
       ·have e1:prs l=prs (l.take (a + 1))++prs (l.drop (a + 1)):=by
         conv=>lhs; rw [<-List.take_append_drop (a + 1) l]
         unfold prs
         rw [List.flatMap_append]
        have e2:bh9 s0=(bh9 s0).take i++(s0,i) :: (bh9 s0).drop (i + 1):=by
         conv=>lhs; rw [<-List.take_append_drop (i + 1) (bh9 s0),ei,List.append_assoc]
         rfl
        rw [e1,et]
        conv=>lhs; rw [e2]
        simp only [List.append_assoc,List.cons_append]
       ·have:=(List.mem_append.mp hz').elim (hno z) (hno2 z)
        rw [this]; rfl
      rw [this]; rfl
     rw [ef] at q
     exact q
    | false =>
     rw [if_neg (by decide)]
     refine hU _ ?_
     clear hU
     walk_at "l3"
     rw [show ((i:Int) + 1)=((i + 1:Nat):Int) by omega,bo2,ei]
     refine ⟨⟨_,rfl⟩,m,s0.2[i],s0.2.drop (i + 1),rfl,hm,hz,by omega,ca,λr hr'=>by rw [cl]; exact grt r (List.mem_of_mem_drop hr'),by rw [List.length_drop]; omega,by rw [aV3,a79]; rfl,by decide,?_,λz hz'=>?_,_,_,_,?_,rfl,rfl,rfl⟩
     ·unfold bi0
      rw [List.length_map,List.length_map,List.length_append,List.length_take]
      omega
     ·rcases List.mem_append.mp hz' with y | y
      ·exact hno2 z y
      ·rw [List.mem_singleton.mp y]
       show nul (s0.2.getD i [])=false
       rw [gc]; exact hz
     ·rw [<-List.append_assoc,List.map_append (l₁:=prs (l.take a)++(bh9 s0).take i),<- bV1]
      congr 1
      show _=[D.tup [.lst true (aO8 (kid m (wof G) (s0,i)).1),.lst true (aP8 true (kid m (wof G) (s0,i)).2)]]
      show _=[D.tup [.lst true (aO8 (img (wof G) (s0,i))),.lst true (aP8 true (pst m (s0.2.getD i []) (s0.2.drop (i + 1))))]]
      rw [gc]
   ·rintro δ ⟨hno2,o7,o8,o9,rfl⟩
    rw [show (a74 (aP8 false s0.2)).length=(bh9 s0).length by rw [a03,aV2,l1],List.take_length] at hno2 ⊢
    exact ⟨λz hz=>(List.mem_append.mp hz).elim (hno z) (hno2 z),_,_,_,_,_,rfl⟩
  ·rintro δ ⟨hno,o5,o6,o7,o8,o9,rfl⟩
   refine hU _ ?_
   clear hU
   rw [show (bi0 false l).length=l.length by unfold bi0; rw [List.length_map],List.take_length] at hno ⊢
   walk_at "l3"
   have hf:(prs l).find? bU7=none:=List.find?_eq_none.mpr λz hz=>by rw [hno z hz]; decide
   refine ⟨n,by omega,_,k + 1,_,_,_,_,_,_,⟨rfl,rfl,rfl,rfl,rfl,rfl,rfl⟩,L.next hm (bv7 hm hR) hno,by omega,?_,?_,λs hs r hr'=>?_⟩
   ·rw [<-hfb,fbs,if_neg l0,hf]
   ·rw [List.length_map,Nat.pow_succ]
    have:=bw4 (W:=6) λs hs=>(incw s hs).2
    exact Nat.le_trans this (Nat.mul_le_mul_right 6 hll)
   ·obtain ⟨z,hz,rfl⟩:=List.mem_map.mp hs
    exact bO9 (λo ho=>h64 _ (mem_prs.mp hz).1 o (List.mem_of_mem_drop ho)) r hr'
noncomputable abbrev bV7:SpD:=λds Q=>∃T:List (List Nat),ds=[.lst false (aP8 false T)]/\T.length<=1000/\(∀r∈T,r.length<=1000/\∃x∈r,x≠0)/\Q (.lst true (aO8 (T.map ldf)))
theorem bx6 (T:Txt K mg t):FnOk P w K mg base CX0 1 t.f_leads t.fd_leads ["rows"] (lSp (bV7 )):=by
 refine aS4 T.F_leads bT8 ?_ ?_
 ·intro ds Q h
  obtain ⟨G,rfl,hG,hr,q⟩:=h <;> rfl
 ·intro cdv A outer s H E hr
  refine ⟨_,(aO7 (aQ4 (aS2 [] ["row"] rfl (a53 (bv 0)) (λ_ _ _ _=>(aS6 (i:=0) (show (["row"]:List Str).Nodup by decide +kernel) rfl (Or.inl (lookup_relabel_local rfl)) (by decide) (Or.inr (lookup_relabel_local rfl)))) (λ_ _ _ _=>aU7) (λ_ _ _ _=>(ba9 (aZ0 (aP0 (aS2 [] ["place","x"] rfl (aY2 rfl T.n_enumerate (aO4 (bv 0) aP6)) (λ_ _ _ _=>(a54 (i1:=0) (i2:=1) rfl (show (["place","x"]:List Str).Nodup by decide +kernel) rfl (Or.inl (lookup_relabel_local rfl)) rfl (Or.inl (lookup_relabel_local rfl)) (by decide) (by decide) (Or.inr (lookup_relabel_local rfl)) (Or.inr (lookup_relabel_local rfl)))) (λ_ _ _ _=>(bz1 (aU9 (bC4 (hu6 hr)) (bv 1) (aP0 aP2) (aR2 _)))) (λ_ _ _ _=>(ba9 (bv 0))) rfl trivial (λ_=>by repeat' (first | exact trivial | refine ⟨.inl rfl,?_⟩ | refine ⟨.inr (.inl rfl),?_⟩ | refine ⟨.inr (.inr ⟨_,rfl⟩),?_⟩)) (λ_=>trivial) rfl (by decide +kernel))) (aP0 aP2) (λ_ _=>rfl)))) rfl trivial (λ_=>by repeat' (first | exact trivial | refine ⟨.inl rfl,?_⟩ | refine ⟨.inr (.inl rfl),?_⟩ | refine ⟨.inr (.inr ⟨_,rfl⟩),?_⟩)) (λ_=>trivial) rfl (by decide +kernel)))),λds Q h=>?_⟩
  obtain ⟨G,rfl,hG,hr,q⟩:=h
  walk_at "l3"
  refine aR9 G (λr=>D.lst false (aO8 r)) (λr=>D.int (ldf r:Nat)) (by rw [aS5]; rfl) (λa b h=>a83 a b h) (λr hr'=>?_) (.inr λr _=>rfl) (by rw [sL]; omega) ?_
  ·obtain ⟨h1,x,hx,h3⟩:=hr r hr'
   walk_at "l3"
   refine bn5 (List.range r.length) (λ(i:Nat)=>D.tup [.int (i:Int),.int ((r.getD i 0:Nat):Int)]) (λ(i:Nat)=>D.int (i:Int)) (λi=>r.getD i 0 != 0) (bx1 r) (λa b h=>by injection h with h; simp at h; omega) (λi hi=>?_) (.inr λ_ _ _=>rfl) (by rw [List.length_range,sL]; omega) ?_
   ·walk_at "l3"
    refine ⟨?_,λ_=>trivial⟩
    by_cases h0:r.getD i 0=0
    ·rw [h0]; rfl
    ·rw [decide_eq_false (by omega),bne_iff_ne.mpr h0]; rfl
   ·refine ⟨.int (ldf r:Nat),L3.atI_nat (k:=0) ?_,rfl,rfl⟩
    rw [List.getElem?_map,bq6 ⟨x,hx,h3⟩]; rfl
  ·rw [aQ0,List.map_map] at q
   exact q
noncomputable abbrev aH1:SpD:=λds Q=>∃(T:List (List Nat)) (w:Nat),ds=[.lst false (aP8 false T),.int w]/\T.length<=1000/\w<=1000/\(∀r∈T,r.length<=1000/\∃x∈r,x≠0)/\Q (.lst true (aO8 (frp T w)))
theorem aH2 (T:Txt K mg t):FnOk P w K mg base CX0 2 t.f_free_places t.fd_free_places ["rows","width"] (lSp (aH1 )):=by
 refine aS4 T.F_free_places ax2 ?_ ?_
 ·intro ds Q h
  obtain ⟨G,w,rfl,hG,hw,hr,q⟩:=h <;> rfl
 ·intro cdv A outer s H E hr
  refine ⟨_,(aO5 (aQ5 (i:=2) ax2.nd rfl (Or.inr rfl) (aQ3 ((bx6 T).mono (by decide)) hr rfl T.g_leads T.F_leads.kp T.b_leads aQ7 (aO4 (bv 0) aP6)))
   (aO7 (aQ4 (aS2 [("taken",2)] ["place"] rfl (aZ3 rfl T.n_range (aO4 (bv 1) aP6)) (λ_ _ _ _=>(aS6 (i:=1) (show (["taken","place"]:List Str).Nodup by decide +kernel) rfl (Or.inl (lookup_relabel_local rfl)) (by decide) (Or.inr (lookup_relabel_local rfl)))) (λ_ _ _ _=>(bz1 (aU9 co1 (bv 1) (bv 0) (by with_unfolding_all rfl)))) (λ_ _ _ _=>(ba9 (bv 1))) rfl ⟨rfl,trivial⟩ (λ_=>by repeat' (first | exact trivial | refine ⟨.inl rfl,?_⟩ | refine ⟨.inr (.inl rfl),?_⟩ | refine ⟨.inr (.inr ⟨_,rfl⟩),?_⟩)) (λ_=>⟨⟨rfl,.inl rfl,.inl rfl,_,rfl,rfl⟩,trivial⟩) rfl (by decide +kernel))))),λds Q h=>?_⟩
  obtain ⟨G,w,rfl,hG,hw,hr,q⟩:=h
  refine aO6 λU hU=>?_
  walk_at "l3"
  refine ⟨G,rfl,hG,hr,?_⟩
  refine hU _ ?_
  clear hU U
  walk_at "l3"
  refine ⟨⟨by omega,by omega⟩,bn5 (List.range w) (λ(i:Nat)=>D.int (i:Int)) (λ(i:Nat)=>D.int (i:Int)) (λj=>!(G.map ldf).contains j) (ba8 _ rfl) aY5 (λj hj=>?_) (.inr λ_ _ _=>rfl) (by rw [List.length_range,sL]; omega) ?_⟩
  ·walk_at "l3"
   exact ⟨_,rfl,by rw [bS6],λ_=>trivial⟩
  ·rw [aQ0] at q
   exact q
noncomputable abbrev as3:SpD:=λds Q=>∃(d:D) (a b:Nat),ds=[d,.int a,.int b]/\Q (.int (a ^^^ b:Nat))
theorem aD2 (T:Txt K mg t):FnOk P w K mg base CX0 1 t.am2 t.ak6 ["self","a","b"] (lSp (as3 )):=by
 refine aS4 T.aE0 aC6 ?_ ?_
 ·intro ds Q h
  obtain ⟨d,a,b,rfl,q⟩:=h <;> rfl
 ·intro cdv A outer s H E hr
  refine ⟨_,(aO7 (aQ4 (aS3 bM9 (bv 1) (bv 2)))),λds Q h=>?_⟩
  obtain ⟨d,a,b,rfl,q⟩:=h
  walk_at "l3"
  rw [aU6]; exact q
noncomputable abbrev ao9 (K:Frag):SpD:=λds Q=>∃(C:Addr) (p:Nat) (a b:Int),ds=[bk7 C p,.int a,.int b]/\Cls K C/\NoAttr K C "prime"/\0 < p/\Q (.int ((a - b) % p))
theorem aA0 (T:Txt K mg t):FnOk P w K mg base CX0 1 t.aj5 t.ai7 ["self","a","b"] (lSp (ao9 K)):=by
 refine aS4 T.aA9 az4 ?_ ?_
 ·intro ds Q h
  obtain ⟨C,p,a,b,rfl,hC,hn,hp,q⟩:=h <;> rfl
 ·intro cdv A outer s H E hr
  refine ⟨_,(aO7 (aQ4 (aS3 a04 (aP0 (aS3 bd7 (bv 1) (bv 2))) (a61 (K:=K) (bv 0))))),λds Q h=>?_⟩
  obtain ⟨C,p,a,b,rfl,hC,hn,hp,q⟩:=h
  walk_at "l3"
  refine ⟨C,_,_,.int p,rfl,hC,hn,rfl,?_⟩
  exact ⟨by omega,q⟩
theorem ca7 (T:Txt K mg t) {m:Bool × Nat} (h0:0 < m.2):∃C ns xs sp,fD t.aa1 t.aa0 m=.obj C ns xs/\MethOk P w K mg base 1 "minus" C sp/\("minus":Str) ∉ ns/\∀(a b:Nat) (Q:D->Prop),Q (.int (gl m a b))->sp [.obj C ns xs,.int a,.int b] Q:=by
 obtain ⟨k,n⟩:=m
 cases k with
 | true=>exact ⟨_,_,_,as3,rfl,⟨T.aa3,_,_,_,T.ae6,aD2 T,T.aE1⟩,by decide,λa b Q q=>⟨_,a,b,rfl,q⟩⟩
 | false=>exact ⟨_,_,_,ao9 K,rfl,⟨T.aa2,_,_,_,T.ad1,aA0 T,T.aB0⟩,by decide,λa b Q q=>⟨_,n,a,b,rfl,T.aa2,T.aa5,h0,q⟩⟩
noncomputable abbrev ay1 (cb cp:Addr):SpD:=λds Q=>∃(m:Bool × Nat) (T:List (List Nat)) (w:Nat),ds=[fD cb cp m,.lst false (aP8 false T),.int w]/\m∈flds/\T.length<=1000/\w<=1000/\RT (mny m) w T/\(∀r∈T,∃x∈r,x≠0)/\Q (.lst true (aP8 true (cr9 m T w)))
theorem ay2 (T:Txt K mg t):FnOk P w K mg base CX0 3 t.f_kernel_of_reduced t.fd_kernel_of_reduced ["field","rows","width"] (lSp (ay1 t.aa1 t.aa0)):=by
 refine aS4 T.F_kernel_of_reduced ab7 ?_ ?_
 ·intro ds Q h
  obtain ⟨m,G,wi,rfl,hm,hG,hw,hR,hr,q⟩:=h <;> rfl
 ·intro cdv A outer s H E hr
  refine ⟨_,(aO5 (aQ5 (i:=3) ab7.nd rfl (Or.inl rfl) (aQ3 ((bx6 T).mono (by decide)) hr rfl T.g_leads T.F_leads.kp T.b_leads aQ7 (aO4 (bv 1) aP6)))
   (aO5 (aQ5 (i:=4) ab7.nd rfl (Or.inl rfl) (a09 aX6))
   (bq8 3 (aO5 (bb6 PassesOwn.never rfl (b73 (aQ3 ((aH2 T).mono (by decide)) hr rfl T.g_free_places T.F_free_places.kp T.b_free_places aQ7 (aO4 (bv 1) (aO4 (bv 2) aP6)))) (aS6 (i:=5) ab7.nd rfl (Or.inl rfl))
    (aO5 (aQ5 (i:=6) ab7.nd rfl (Or.inl rfl) (aS3 bd9 (aP0 (a09 (aU3 aP2 aX6))) (bv 2)))
    (aO5 (bA1 (i:=6) rfl (by first | exact Or.inl rfl | exact Or.inr (Or.inl rfl)) aP2 (bv 5))
    (aO5 (bb6 PassesOwn.never rfl (bL6 rfl T.n_zip (aO4 (bv 3) (aO4 (bv 1) aP6))) (a54 (i1:=7) (i2:=8) rfl ab7.nd rfl (Or.inl rfl) rfl (Or.inl rfl))
     (aO7 (bA1 (i:=6) rfl (by first | exact Or.inl rfl | exact Or.inr (Or.inl rfl)) (ba0 (P:=P) (w:=w) (K:=K) (mg:=mg) (base:=base) (n:=1) (bv 0) (hr.mono (by decide)) (aO4 (aP0 aP2) (aO4 (aZ0 (bv 8) (bv 5) (λ_ _=>rfl)) aP6))) (bv 7))))
    (aO7 (a77 (i:=4) rfl (by first | exact Or.inl rfl | exact Or.inr (Or.inl rfl)) (em 6)))))))
   (aO7 (aQ4 (em 4))))))),λds Q h=>?_⟩
  obtain ⟨m,G,wi,rfl,hm,hG,hw,hR,hr,q⟩:=h
  have m0:=aP1 m hm
  have hlo:=(fok hm).lo
  refine aO6 λU hU=>?_
  walk_at "l3"
  refine ⟨G,rfl,hG,λr hr'=>⟨by rw [(hR r hr').1]; exact hw,hr r hr'⟩,hU _ ?_⟩
  clear hU U
  refine aO6 λU hU=>?_
  walk_at "l3"
  refine ⟨by decide,hU _ ?_⟩
  clear hU U
  refine ⟨_,rfl,?_⟩
  rw [bc9]
  simp only [List.set_cons_succ,List.set_cons_zero]
  refine aO6 λU hU=>?_
  walk_at "l3"
  refine ⟨G,wi,rfl,hG,hw,λr hr'=>⟨by rw [(hR r hr').1]; exact hw,hr r hr'⟩,?_⟩
  refine ⟨_,rfl,?_⟩
  have hfp:∀j∈frp G wi,j < wi:=λj hj=>List.mem_range.mp (List.mem_filter.mp hj).1
  have lfp:(frp G wi).length<=wi:=by
   have:=List.length_filter_le (λj=>!(G.map ldf).contains j) (List.range wi)
   rw [List.length_range] at this
   exact this
  rw [aW8]
  refine dForB.mk (λi δ=>∃o1 o2 o3 o4,δ=[some (fD t.aa1 t.aa0 m),some (D.lst false (aP8 false G)),some (D.int wi),some (D.lst false (aO8 (G.map ldf))),some (D.lst true (aP8 true (((frp G wi).take i).map (kro m G wi)))),o1,o2,o3,o4]) ⟨_,_,_,_,rfl⟩ ?_ ?_
  ·rintro i d δ hd ⟨o1,o2,o3,o4,rfl⟩
   rw [aQ0,List.getElem?_map] at hd
   obtain ⟨f,hf,rfl⟩:=Option.map_eq_some_iff.mp hd
   have hfw:=hfp f (List.mem_of_getElem? hf)
   clear hd
   refine aO6 λU hU=>?_
   walk_at "l3"
   have er:aR7 (List.replicate wi 0)=aO8 (List.replicate wi 0):=by
    rw [aQ0,List.map_replicate]; unfold aR7; rw [List.map_replicate]; rfl
   rw [Int.toNat_natCast,er]
   refine ⟨by decide,⟨by omega,by omega,by omega⟩,hU _ ?_⟩
   clear hU
   refine aO6 λU hU=>?_
   walk_at "l3"
   refine ⟨_,f,rfl,?_,?_⟩
   ·rw [bA8 (by omega) (by rw [aR3,List.length_replicate]; omega)]; rfl
   rw [show (aO8 (List.replicate wi 0)).set f (D.int 1)=aO8 ((List.replicate wi 0).set f 1) from bf4 _ _ 1]
   refine hU _ ?_
   clear hU
   refine aO6 λU hU=>?_
   walk_at "l3"
   refine ⟨_,_,rfl,rfl,?_⟩
   refine dForB.mk (λk δ=>∃o3 o4,δ=[some (fD t.aa1 t.aa0 m),some (D.lst false (aP8 false G)),some (D.int wi),some (D.lst false (aO8 (G.map ldf))),some (D.lst true (aP8 true (((frp G wi).take i).map (kro m G wi)))),some (D.int f),some (D.lst true (aO8 ((((G.map ldf).zip G).take k).foldl (λx z=>x.set z.1 (gln m 0 (z.2.getD f 0))) ((List.replicate wi 0).set f 1)))),o3,o4]) ⟨_,_,rfl⟩ ?_ ?_
   ·rintro k d δ hd ⟨o3,o4,rfl⟩
    obtain ⟨hk,rfl⟩:=cb8 hd
    clear hd
    obtain ⟨lw,la⟩:=hR _ (List.getElem_mem hk)
    have xl:=a07 (λz:Nat × List Nat=>z.1) (λz=>gln m 0 (z.2.getD f 0)) (((G.map ldf).zip G).take k) ((List.replicate wi 0).set f 1)
    rw [List.length_set,List.length_replicate] at xl
    obtain ⟨C,ns,xs,sp,e1,e2,e3,e4⟩:=ca7 (P:=P) (w:=w) (base:=base) T m0
    have hld:ldf G[k] < wi:=by
     rw [<-lw]
     obtain ⟨x,hx,h0⟩:=hr _ (List.getElem_mem hk)
     exact List.findIdx_lt_length_of_exists ⟨x,hx,by simpa using h0⟩
    have ga:=bb5 hm (a:=0) (b:=G[k].getD f 0) (by omega) (la.getD (by omega) f)
    walk_at "l3"
    refine ⟨C,ns,xs,sp,e1,e2,e3,.int (G[k].getD f 0:Nat),by rw [aT0 (by omega) (by omega),Int.toNat_natCast],e4 0 (G[k].getD f 0) _ ⟨rfl,_,ldf G[k],rfl,?_,_,_,?_,rfl,rfl⟩⟩
    ·rw [bA8 (by omega) (by rw [aR3,xl]; omega)]; rfl
    ·rw [ga.1,bf4,List.take_add_one,List.foldl_append]
     have ez:((G.map ldf).zip G)[k]?=some (ldf G[k],G[k]):=by
      rw [List.zip,List.getElem?_zipWith,List.getElem?_map,List.getElem?_eq_getElem hk]; rfl
     rw [ez]; rfl
   ·rintro δ ⟨o3,o4,rfl⟩
    refine hU _ ?_
    walk_at "l3"
    refine ⟨⟨_,rfl⟩,by rw [List.length_map,List.length_take]; omega,_,_,_,_,?_,rfl,rfl,rfl,rfl⟩
    rw [show ((G.map ldf).zip G).take (bc0 (aO8 (G.map ldf)) (aP8 false G)).length=(G.map ldf).zip G from List.take_of_length_le (by unfold bc0; rw [List.length_zip,List.length_zipWith,aR3,aV2]; exact Nat.le_refl _),List.take_add_one,hf,List.map_append]
    exact a64 true _ [kro m G wi f]
  ·rintro δ ⟨o1,o2,o3,o4,rfl⟩
   refine hU _ ?_
   walk_at "l3"
   rw [List.take_length]
   exact q
noncomputable abbrev aI5:SpD:=λds Q=>∃(T:List (List Nat)) (j:Nat),ds=[.lst false (aP8 false T),.int j]/\T.length<=1000/\(∀r∈T,j < r.length)/\Q (match fwi T j with | some i=>.int (i:Nat) | none=>.non)
theorem aI6 (T:Txt K mg t):FnOk P w K mg base CX0 1 t.f_first_with t.fd_first_with ["rows","place"] (lSp (aI5 )):=by
 refine aS4 T.F_first_with ay4 ?_ ?_
 ·intro ds Q h
  obtain ⟨G,j,rfl,hG,hr,q⟩:=h <;> rfl
 ·intro cdv A outer s H E hr
  refine ⟨_,(aO5 (bb6 PassesOwn.never rfl (aY2 rfl T.n_enumerate (aO4 (bv 0) aP6)) (a54 (i1:=2) (i2:=3) rfl ay4.nd rfl (Or.inl rfl) rfl (Or.inl rfl))
    (aO7 (bd8 (aU9 (bC4 (hu6 hr)) (aZ0 (bv 3) (bv 1) (λ_ _=>rfl)) (aP0 aP2) (aR2 _)) (aO7 (aQ4 (em 2))) aT1)))
   (aO7 (aQ4 bu6))),λds Q h=>?_⟩
  obtain ⟨G,j,rfl,hG,hr,q⟩:=h
  refine aO6 λU hU=>?_
  walk_at "l3"
  refine dForB.mk (λi δ=>∃o1 o2,δ=[some (D.lst false (aP8 false G)),some (D.int j),o1,o2]/\∀k,k < i->(G.getD k []).getD j 0=0) ⟨_,_,rfl,λk hk=>absurd hk (Nat.not_lt_zero k)⟩ ?_ ?_
  ·rintro i d δ hd ⟨o1,o2,rfl,hz⟩
   obtain ⟨hi,rfl⟩:=bz8 hd
   have hj:=hr _ (List.getElem_mem hi)
   have eg:G.getD i []=G[i]:=by rw [List.getD_eq_getElem?_getD,List.getElem?_eq_getElem hi]; rfl
   walk_at "l3"
   refine ⟨.int (G[i].getD j 0:Nat),by rw [aT0 (by omega) (by omega),Int.toNat_natCast],rfl,?_⟩
   rw [aZ6]
   by_cases h0:G[i].getD j 0=0
   ·rw [if_neg (by rw [h0]; decide)]
    refine ⟨_,_,⟨rfl,rfl⟩,λk hk=>?_⟩
    by_cases e:k=i
    ·rw [e,eg]; exact h0
    ·exact hz k (by omega)
   ·rw [if_pos (by rw [decide_eq_false (by omega)]; rfl)]
    have ef:fwi G j=some i:=by
     unfold fwi
     rw [List.findIdx?_eq_some_iff_getElem]
     refine ⟨hi,by simpa using h0,λk hk=>?_⟩
     have:=hz k hk
     rw [List.getD_eq_getElem?_getD (l:=G),List.getElem?_eq_getElem (by omega)] at this
     simpa using this
    rw [ef] at q
    exact q
  ·rintro δ ⟨o1,o2,rfl,hz⟩
   refine hU _ ?_
   walk_at "l3"
   have ef:fwi G j=none:=by
    unfold fwi
    rw [List.findIdx?_eq_none_iff]
    intro r hr'
    obtain ⟨i,hi,rfl⟩:=List.getElem_of_mem hr'
    have:=hz i (by rw [a03,aV2]; exact hi)
    rw [List.getD_eq_getElem?_getD (l:=G),List.getElem?_eq_getElem hi] at this
    simpa using this
   rw [ef] at q
   exact q
noncomputable abbrev ap9 (K:Frag):SpD:=λds Q=>∃(C:Addr) (p a:Nat) (xs:List Nat),ds=[cl4 C p,.int a,.lst false (aO8 xs)]/\Cls K C/\NoAttr K C "products"/\p∈fbits/\a < mny (true,p)/\(∀y∈xs,y < mny (true,p))/\xs.length<=1000/\Q (.lst true (aO8 (xs.map (gm (true,p) a))))
theorem aC0 (T:Txt K mg t):FnOk P w K mg base CX0 1 t.ak7 t.aj6 ["self","a","row"] (lSp (ap9 K)):=by
 refine aS4 T.aC9 ap8 ?_ ?_
 ·intro ds Q h
  obtain ⟨C,p,a,xs,rfl,hC,hn,hp,ha,hy,hl,q⟩:=h <;> rfl
 ·intro cdv A outer s H E hr
  refine ⟨_,(aO5 (aQ5 (i:=3) ap8.nd rfl (Or.inr rfl) (ba9 (aZ0 (a61 (K:=K) (bv 0)) (bv 1) (λ_ _=>rfl))))
   (aO7 (aQ4 (aS2 [("by_a",3)] ["x"] rfl (a53 (bv 2)) (λ_ _ _ _=>(aS6 (i:=1) (show (["by_a","x"]:List Str).Nodup by decide +kernel) rfl (Or.inl (lookup_relabel_local rfl)) (by decide) (Or.inr (lookup_relabel_local rfl)))) (λ_ _ _ _=>aU7) (λ_ _ _ _=>(ba9 (aZ0 (bv 0) (bv 1) (λ_ _=>rfl)))) rfl ⟨rfl,trivial⟩ (λ_=>by repeat' (first | exact trivial | refine ⟨.inl rfl,?_⟩ | refine ⟨.inr (.inl rfl),?_⟩ | refine ⟨.inr (.inr ⟨_,rfl⟩),?_⟩)) (λ_=>⟨⟨rfl,.inl rfl,.inl rfl,_,rfl,rfl⟩,trivial⟩) rfl (by decide +kernel))))),λds Q h=>?_⟩
  obtain ⟨C,p,a,xs,rfl,hC,hn,hp,ha,hy,hl,q⟩:=h
  refine aO6 λU hU=>?_
  walk_at "l3"
  refine ⟨C,_,_,_,rfl,hC,hn,rfl,_,bh7 hp ha,?_⟩
  refine ⟨by rw [aW6,a67]; rfl,hU _ ?_⟩
  clear hU U
  walk_at "l3"
  refine aR9 xs (λ(i:Nat)=>D.int (i:Int)) (λx=>D.int ((gm (true,p) a x:Nat):Int)) (a81 xs) aY5 (λx hx=>?_) (.inr λ_ _=>rfl) (by rw [sL]; omega) ?_
  ·walk_at "l3"
   exact ⟨_,bw5 hp ha (hy x hx),rfl,rfl⟩
  ·rw [aQ0,List.map_map] at q
   exact q
noncomputable abbrev ao7 (K:Frag):SpD:=λds Q=>∃(C:Addr) (p a:Nat) (xs:List Nat),ds=[bk7 C p,.int a,.lst false (aO8 xs)]/\Cls K C/\NoAttr K C "prime"/\0 < p/\a < 64/\(∀y∈xs,y < 64)/\xs.length<=1000/\Q (.lst true (aO8 (xs.map (gm (false,p) a))))
theorem ay3 (T:Txt K mg t):FnOk P w K mg base CX0 1 t.ai8 t.ah4 ["self","a","row"] (lSp (ao7 K)):=by
 refine aS4 T.az7 am9 ?_ ?_
 ·intro ds Q h
  obtain ⟨C,p,a,xs,rfl,hC,hn,hp,ha,hy,hl,q⟩:=h <;> rfl
 ·intro cdv A outer s H E hr
  refine ⟨_,(aO5 (aQ5 (i:=3) am9.nd rfl (Or.inr rfl) (ba9 (a61 (K:=K) (bv 0))))
   (aO7 (aQ4 (aS2 [("prime",3),("a",1)] ["x"] rfl (a53 (bv 2)) (λ_ _ _ _=>(aS6 (i:=2) (show (["prime","a","x"]:List Str).Nodup by decide +kernel) rfl (Or.inl (lookup_relabel_local rfl)) (by decide) (Or.inr (lookup_relabel_local rfl)))) (λ_ _ _ _=>aU7) (λ_ _ _ _=>(aS3 a04 (aP0 (aS3 bd9 (bv 1) (bv 2))) (bv 0))) rfl ⟨rfl,⟨rfl,trivial⟩⟩ (λ_=>by repeat' (first | exact trivial | refine ⟨.inl rfl,?_⟩ | refine ⟨.inr (.inl rfl),?_⟩ | refine ⟨.inr (.inr ⟨_,rfl⟩),?_⟩)) (λ_=>⟨⟨rfl,.inl rfl,.inl rfl,_,rfl,rfl⟩,⟨⟨rfl,.inl rfl,.inl rfl,_,rfl,rfl⟩,trivial⟩⟩) rfl (by decide +kernel))))),λds Q h=>?_⟩
  obtain ⟨C,p,a,xs,rfl,hC,hn,hp,ha,hy,hl,q⟩:=h
  refine aO6 λU hU=>?_
  walk_at "l3"
  refine ⟨C,_,_,.int p,rfl,hC,hn,rfl,rfl,hU _ ?_⟩
  clear hU U
  walk_at "l3"
  refine aR9 xs (λ(i:Nat)=>D.int (i:Int)) (λx=>D.int ((gm (false,p) a x:Nat):Int)) (a81 xs) aY5 (λx hx=>?_) (.inr λ_ _=>rfl) (by rw [sL]; omega) ?_
  ·have h2:=hy x hx
   walk_at "l3"
   refine ⟨CMul.ok (.inr ⟨by omega,by omega⟩),by omega,?_⟩
   show _=((a * x % p:Nat):Int)
   rw [Int.natCast_emod,Int.natCast_mul]
  ·rw [aQ0,List.map_map] at q
   exact q
theorem bB0 (T:Txt K mg t) {m:Bool × Nat} (hm:m∈flds):∃C ns zs sp,fD t.aa1 t.aa0 m=.obj C ns zs/\MethOk P w K mg base 1 "scaled" C sp/\("scaled":Str) ∉ ns/\∀(xs:List Nat) (a:Nat) (Q:D->Prop),a < mny m->(∀y∈xs,y < mny m)->xs.length<=1000->Q (.lst true (aO8 (xs.map (gm m a))))->sp [.obj C ns zs,.int a,.lst false (aO8 xs)] Q:=by
 have hF:=fok hm
 obtain ⟨k,n⟩:=m
 cases k with
 | true=>exact ⟨_,_,_,ap9 K,rfl,⟨T.aa3,_,_,_,T.ad8,aC0 T,T.aD0⟩,by decide,λxs a Q ha hy hl q=>⟨_,n,a,xs,rfl,T.aa3,T.aa7,a63 hm,ha,hy,hl,q⟩⟩
 | false =>
  have l64:n<=64:=hF.hi
  have l2:2<=n:=hF.lo
  exact ⟨_,_,_,ao7 K,rfl,⟨T.aa2,_,_,_,T.ac9,ay3 T,T.az8⟩,by decide,λxs a Q ha hy hl q=>⟨_,n,a,xs,rfl,T.aa2,T.aa5,by omega,Nat.lt_of_lt_of_le (show a < n from ha) l64,λy h=>Nat.lt_of_lt_of_le (show y < n from hy y h) l64,hl,q⟩⟩
noncomputable abbrev aM8 (cb cp:Addr):SpD:=λds Q=>∃(m:Bool × Nat) (T:List (List Nat)) (l:List Nat) (j:Nat),ds=[fD cb cp m,.lst false (aP8 false T),.lst false (aO8 l),.int j]/\m∈flds/\T.length<=1000/\AllLt (mny m) l/\(∀r∈T,j < r.length/\r.length<=1000/\AllLt (mny m) r)/\Q (.lst true (aP8 true (T.map λr=>List.zipWith (λx y=>gln m x (gm m (r.getD j 0) y)) r l)))
theorem aG2 (T:Txt K mg t):FnOk P w K mg base CX0 2 t.f_cleared t.fd_cleared ["field","rows","lead_row","place"] (lSp (aM8 t.aa1 t.aa0)):=by
 refine aS4 T.F_cleared aM3 ?_ ?_
 ·intro ds Q h
  obtain ⟨m,G,l,j,rfl,hm,hG,hl,hr,q⟩:=h <;> rfl
 ·intro cdv A outer s H E hr
  refine ⟨_,(aO7 (aQ4 (aS2 [("lead_row",2),("field",0),("place",3)] ["row"] rfl (a53 (bv 1)) (λ_ _ _ _=>(aS6 (i:=3) (show (["lead_row","field","place","row"]:List Str).Nodup by decide +kernel) rfl (Or.inl (lookup_relabel_local rfl)) (by decide) (Or.inr (lookup_relabel_local rfl)))) (λ_ _ _ _=>aU7) (λ_ _ _ _=>(ba0 (P:=P) (w:=w) (K:=K) (mg:=mg) (base:=base) (n:=1) (bv 1) (hr.mono (by decide)) (aO4 (bv 3) (aO4 (aZ0 (bv 3) (bv 2) (λ_ _=>rfl)) (aO4 (bv 0) aP6))))) rfl ⟨rfl,⟨rfl,⟨rfl,trivial⟩⟩⟩ (λ_=>by repeat' (first | exact trivial | refine ⟨.inl rfl,?_⟩ | refine ⟨.inr (.inl rfl),?_⟩ | refine ⟨.inr (.inr ⟨_,rfl⟩),?_⟩)) (λ_=>⟨⟨rfl,.inl rfl,.inl rfl,_,rfl,rfl⟩,⟨⟨rfl,.inl rfl,.inl rfl,_,rfl,rfl⟩,⟨⟨rfl,.inl rfl,.inl rfl,_,rfl,rfl⟩,trivial⟩⟩⟩) rfl (by decide +kernel)))),λds Q h=>?_⟩
  obtain ⟨m,G,l,j,rfl,hm,hG,hl,hr,q⟩:=h
  walk_at "l3"
  refine aR9 G (λr=>D.lst false (aO8 r)) (λr=>D.lst true (aO8 (List.zipWith (λx y=>gln m x (gm m (r.getD j 0) y)) r l))) (by rw [aS5]; rfl) (λa b h=>a83 a b h) (λr hr'=>?_) (.inr λr _=>a56 _) (by rw [sL]; omega) ?_
  ·obtain ⟨h1,h2,h3⟩:=hr r hr'
   obtain ⟨C,ns,zs,sp,e1,e2,e3,e4⟩:=bk8 (P:=P) (w:=w) (base:=base) T hm
   walk_at "l3"
   refine ⟨C,ns,zs,sp,e1,e2,e3,.int (r.getD j 0:Nat),by rw [aT0 (by omega) (by omega),Int.toNat_natCast],e4 _ _ _ _ (h3.getD (by have:=(fok hm).lo; omega) j) hl h2 ⟨rfl,rfl⟩⟩
  ·rw [aP8,List.map_map] at q
   exact q
noncomputable abbrev aM9 (t:Adr) (P:Program) (w:World) (K:Frag) (mg:Str->Option Value) (base:Heap):SpD:=λds Q=>∃(m:Bool × Nat) (G:List (List Nat)),ds=[fD t.aa1 t.aa0 m,.lst false (aP8 false G)]/\m∈flds/\G.length<=900/\RT (mny m) (wof G) G/\wof G<=900/\Q (.lst true (aP8 true (ba3 m G)))
theorem aN0 (T:Txt K mg t):FnOk P w K mg base CX0 3 t.f_reduced t.fd_reduced ["field","table"] (lSp (aM9 t P w K mg base)):=by
 refine aS4 T.F_reduced af6 ?_ ?_
 ·intro ds Q h
  obtain ⟨m,G,rfl,hm,hG,hR,hw,q⟩:=h <;> rfl
 ·intro cdv A outer s H E hr
  refine ⟨_,(aO5 (aQ5 (i:=2) af6.nd rfl (Or.inl rfl) (a09 aX6))
   (aO5 (aQ5 (i:=3) af6.nd rfl (Or.inl rfl) (ba9 (bv 1)))
   (aO5 (bb6 PassesOwn.never rfl (aZ3 rfl T.n_range (aO4 (aP0 (aQ3 ((al4 T).mono (by decide)) hr rfl T.g_width_of T.F_width_of.kp T.b_width_of aQ7 (aO4 (bv 1) aP6))) aP6)) (aS6 (i:=4) af6.nd rfl (Or.inl rfl))
    (bq8 3 (aO5 (aQ5 (i:=5) af6.nd rfl (Or.inl rfl) (aQ3 ((aI6 T).mono (by decide)) hr rfl T.g_first_with T.F_first_with.kp T.b_first_with aQ7 (aO4 (bv 3) (aO4 (bv 4) aP6))))
    (aO7 (bd8 (aU9 cq6 (bv 5) (aP0 bu6) (aR2 _)) (aO5 (aQ5 (i:=6) af6.nd rfl (Or.inl rfl) (ba0 (P:=P) (w:=w) (K:=K) (mg:=mg) (base:=base) (n:=1) (bv 0) (hr.mono (by decide)) (aO4 (aP0 (bl7 (P:=P) (w:=w) (K:=K) (mg:=mg) (base:=base) (n:=2) (bv 0) (hr.mono (by decide)) (aO4 (aP0 aP2) (aO4 (aZ0 (aZ0 (bv 3) (bv 5) (λ_ _=>rfl)) (bv 4) (λ_ _=>rfl)) aP6)))) (aO4 (aZ0 (bv 3) (bv 5) (λ_ _=>rfl)) aP6))))
     (aO5 (aQ5 (i:=3) af6.nd rfl (Or.inl rfl) (aQ3 ((aG2 T).mono (by decide)) hr rfl T.g_cleared T.F_cleared.kp T.b_cleared aQ7 (aO4 (bv 0) (aO4 (aP0 (aS3 aZ8 (aP0 (ba6 (bv 3) bs1 (bs8 (bv 5)))) (aP0 (ba6 (bv 3) (bs8 (aP0 (aS3 aZ8 (bv 5) (aP0 aP2)))) bs1)))) (aO4 (bv 6) (aO4 (bv 4) aP6))))))
     (aO7 (aQ5 (i:=2) af6.nd rfl (Or.inl rfl) (cj6 (aQ3 ((aG2 T).mono (by decide)) hr rfl T.g_cleared T.F_cleared.kp T.b_cleared aQ7 (aO4 (bv 0) (aO4 (bv 2) (aO4 (bv 6) (aO4 (bv 4) aP6))))) (a09 (aU3 (em 6) aX6))))))) aT1)))))
   (aO7 (aQ4 (em 2)))))),λds Q h=>?_⟩
  obtain ⟨m,G,rfl,hm,hG,hR,hw,q⟩:=h
  have hlo:=(fok hm).lo
  refine aO6 λU hU=>?_
  walk_at "l3"
  refine ⟨by decide,hU _ ?_⟩
  clear hU U
  refine aO6 λU hU=>?_
  walk_at "l3"
  refine hU _ ?_
  clear hU U
  refine aO6 λU hU=>?_
  walk_at "l3"
  refine ⟨G,rfl,by omega,λr hr'=>?_,?_⟩
  ·rw [(hR r hr').1]; omega
  refine ⟨_,rfl,⟨by omega,by omega⟩,?_⟩
  refine bF6 (λk δ=>∃(o:Bool) (o1 o2 o3:Option D),δ=[some (fD t.aa1 t.aa0 m),some (D.lst false (aP8 false G)),some (D.lst true (aP8 true (bA0 m G k).1)),some (D.lst o (aP8 o (bA0 m G k).2)),o1,o2,o3]) ⟨false,none,none,none,rfl⟩ ?_ ?_
  ·rintro k δ hk ⟨o,o1,o2,o3,rfl⟩
   have I:=bg4 hm hR k
   rw [bh6]
   generalize bA0 m G k=s at I ⊢
   simp only [gN,cg0,List.set_cons_succ,List.set_cons_zero,List.getElem?_cons_succ,List.getElem?_cons_zero,Option.some.injEq,exists_eq_left',aT6,aS5]
   clear hU
   have il:=I.l
   refine aO6 λU hU=>?_
   walk_at "l3"
   refine ⟨s.2,k,rfl,by omega,λr hr'=>by rw [(I.b r hr').1]; omega,?_⟩
   cases e:fwi s.2 k with
   | none =>
    rw [show a91 m s k=s by unfold a91; rw [e]] at hU
    refine hU _ ?_
    walk_at "l3"
    exact ⟨false,_,_,_,⟨rfl,rfl⟩,rfl,rfl,rfl⟩
   | some i =>
    obtain ⟨hi,h1,h2⟩:=be2 e
    have er:a91 m s k=(clr m s.1 (ldr m s.2 i k) k++[ldr m s.2 i k],clr m (s.2.take i++s.2.drop (i + 1)) (ldr m s.2 i k) k):=by unfold a91; rw [e]
    rw [er] at hU
    refine hU _ ?_
    clear hU
    walk_at "l3"
    obtain ⟨C,ns,xs,sp,e1,e2,e3,e4⟩:=bB0 (P:=P) (w:=w) (base:=base) T hm
    refine aO6 λU hU=>?_
    walk_at "l3"
    obtain ⟨lw,lr⟩:=I.b _ (List.getElem_mem hi)
    have bk:=lr.getD (show 0 < mny m by omega) k
    refine ⟨C,ns,xs,sp,e1,e2,e3,_,_,_,_,bd6 _ _ m,bf8 T m,cc3 m _ (by decide),.lst false (aO8 s.2[i]),be3 false hi,?_⟩
    dsimp only
    refine ⟨.int (s.2[i].getD k 0:Nat),by rw [aT0 (by omega) (by omega),Int.toNat_natCast],m,1,s.2[i].getD k 0,by rw [bd6]; rfl,hm,hlo,bk,λz=>absurd z h1,λ_ f hf hfo=>⟨rfl,.lst false (aO8 s.2[i]),be3 false hi,?_⟩⟩
    have ef:gmi m (s.2[i].getD k 0)=f:=bj4 hm hf hfo
    rw [bc9]
    refine e4 _ _ _ hf lr (by omega) ⟨by rw [a56,Bool.or_true],hU _ ?_⟩
    have el:s.2[i].map (gm m f)=ldr m s.2 i k:=by unfold ldr; rw [h2,ef]
    rw [el]
    have ll:(ldr m s.2 i k).length=wof G:=by rw [<-el,List.length_map]; exact lw
    have la:AllLt (mny m) (ldr m s.2 i k):=λx hx=>by
     rw [<-el] at hx
     obtain ⟨y,_,rfl⟩:=List.mem_map.mp hx
     exact aR6 hm _ _
    generalize ldr m s.2 i k=ld at ll la ⊢
    clear hU
    refine aO6 λU hU=>?_
    walk_at "l3"
    have hB2:∀r∈s.2.take i++s.2.drop (i + 1),r.length=wof G/\AllLt (mny m) r:=λr hr'=>by
     rcases List.mem_append.mp hr' with h | h
     ·exact I.b r (List.mem_of_mem_take h)
     ·exact I.b r (List.mem_of_mem_drop h)
    have tfr:∀X:List (List Nat),(D.lst true (aP8 true X)).fr=true:=λX=>by rw [aV3,a79]; rfl
    rw [bh1,show ((i:Int) + 1)=((i + 1:Nat):Int) by omega,bo2,a64,aS5]
    refine ⟨by rw [List.length_take,List.length_drop]; omega,m,_,ld,k,rfl,hm,by rw [List.length_append,List.length_take,List.length_drop]; omega,la,λr hr'=>⟨by rw [(hB2 r hr').1]; exact hk,by rw [(hB2 r hr').1]; omega,(hB2 r hr').2⟩,tfr _,hU _ ?_⟩
    clear hU
    walk_at "l3"
    refine ⟨m,s.1,ld,k,rfl,hm,by omega,la,λr hr'=>⟨by rw [(I.a r hr').1]; exact hk,by rw [(I.a r hr').1]; omega,(I.a r hr').2⟩,tfr _,by decide,_,_,rfl,rfl,?_,true,_,_,_,a64 true _ [ld],⟨rfl,rfl⟩,rfl,rfl,rfl⟩
    rw [aV2,List.length_map]
    show s.1.length + 1<=_
    omega
  ·rintro δ ⟨o,o1,o2,o3,rfl⟩
   refine hU _ ?_
   walk_at "l3"
   exact q
noncomputable abbrev aN6 (t:Adr) (P:Program) (w:World) (K:Frag) (mg:Str->Option Value) (base:Heap):SpD:=λds Q=>∃(m:Bool × Nat) (G:List (List Nat)),ds=[fD t.aa1 t.aa0 m,.lst false (aP8 false G)]/\m∈flds/\G.length<=900/\RT (mny m) (wof G) G/\wof G<=900/\(∀r∈ba3 m G,∃x∈r,x≠0)/\Q (.lst true (aP8 true (cr9 m (ba3 m G) (wof G))))
theorem aN7 (T:Txt K mg t):FnOk P w K mg base CX0 4 t.f_kernel t.fd_kernel ["field","table"] (lSp (aN6 t P w K mg base)):=by
 refine aS4 T.F_kernel aN2 ?_ ?_
 ·intro ds Q h
  obtain ⟨m,G,rfl,hm,hG,hR,hw,hn,q⟩:=h <;> rfl
 ·intro cdv A outer s H E hr
  refine ⟨_,(aO7 (aQ4 (aQ3 ((ay2 T).mono (by decide)) hr rfl T.g_kernel_of_reduced T.F_kernel_of_reduced.kp T.b_kernel_of_reduced aQ7 (aO4 (bv 0) (aO4 (aP0 (aQ3 ((aN0 T).mono (by decide)) hr rfl T.g_reduced T.F_reduced.kp T.b_reduced aQ7 (aO4 (bv 0) (aO4 (bv 1) aP6)))) (aO4 (aP0 (aQ3 ((al4 T).mono (by decide)) hr rfl T.g_width_of T.F_width_of.kp T.b_width_of aQ7 (aO4 (bv 1) aP6))) aP6)))))),λds Q h=>?_⟩
  obtain ⟨m,G,rfl,hm,hG,hR,hw,hn,q⟩:=h
  walk_at "l3"
  refine ⟨m,G,rfl,hm,hG,hR,hw,?_⟩
  have I:=bg4 hm hR (wof G)
  refine ⟨G,rfl,by omega,λr hr'=>by rw [(hR r hr').1]; omega,m,ba3 m G,wof G,by rw [aT6,aS5,bd4],hm,?_,by omega,I.a,hn,?_,q⟩
  ·show (bA0 m G (wof G)).1.length<=1000
   have:=I.l
   omega
  ·rw [show ∀X:List (List Nat),(D.lst true (aP8 true X)).fr=true from λX=>by rw [aV3,a79]; rfl,Bool.or_true]
noncomputable abbrev aN8:SpD:=λds Q=>∃(G:List (List Nat)) (F:List Nat) (N w:Nat),ds=[.lst false (aP8 false G),.lst false (aO8 F)]/\RT N w G/\(∀j∈F,j < w)/\G.length<=1000/\F.length<=1000/\Q (.lst true (aP8 true (pck G F)))
theorem aN9 (T:Txt K mg t):FnOk P w K mg base CX0 1 t.f_picked t.fd_picked ["table","places"] (lSp (aN8 )):=by
 refine aS4 T.F_picked aN3 ?_ ?_
 ·intro ds Q h
  obtain ⟨G,F,N,wi,rfl,hR,hF,hG,hFl,q⟩:=h <;> rfl
 ·intro cdv A outer s H E hr
  refine ⟨_,(aO7 (aQ4 (aS2 [("places",1)] ["row"] rfl (a53 (bv 0)) (λ_ _ _ _=>(aS6 (i:=1) (show (["places","row"]:List Str).Nodup by decide +kernel) rfl (Or.inr rfl) (by decide) (Or.inl rfl))) (λ_ _ _ _=>aU7) (by exact λ_ _ _ _=>(aS2 [("row",1)] ["j"] rfl (a53 (bv 0)) (λ_ _ _ _=>(aS6 (i:=1) (show (["row","j"]:List Str).Nodup by decide +kernel) rfl (Or.inl (lookup_relabel_local rfl)) (by decide) (Or.inr (lookup_relabel_local rfl)))) (λ_ _ _ _=>aU7) (λ_ _ _ _=>(ba9 (aZ0 (bv 0) (bv 1) (λ_ _=>rfl)))) rfl ⟨rfl,trivial⟩ (λ_=>by repeat' (first | exact trivial | refine ⟨.inl rfl,?_⟩ | refine ⟨.inr (.inl rfl),?_⟩ | refine ⟨.inr (.inr ⟨_,rfl⟩),?_⟩)) (λ_=>⟨⟨rfl,.inl rfl,.inl rfl,_,rfl,rfl⟩,trivial⟩) rfl (by decide +kernel))) rfl ⟨rfl,trivial⟩ (λ_=>by repeat' (first | exact trivial | refine ⟨.inl rfl,?_⟩ | refine ⟨.inr (.inl rfl),?_⟩ | refine ⟨.inr (.inr ⟨_,rfl⟩),?_⟩)) (λ_=>⟨⟨rfl,.inl rfl,.inl rfl,_,rfl,rfl⟩,trivial⟩) rfl (by decide +kernel)))),λds Q h=>?_⟩
  obtain ⟨G,F,N,wi,rfl,hR,hF,hG,hFl,q⟩:=h
  walk_at "l3"
  refine aR9 G (λr=>D.lst false (aO8 r)) (λr=>D.lst true (aO8 (F.map λj=>r.getD j 0))) (by rw [aS5]; rfl) (λa b h=>a83 a b h) (λr hr'=>?_) (.inr λr _=>a56 _) (by rw [sL]; omega) ?_
  ·have hl:=(hR r hr').1
   walk_at "l3"
   refine aR9 F (λ(i:Nat)=>D.int (i:Int)) (λ(j:Nat)=>D.int ((r.getD j 0:Nat):Int)) (a81 _) aY5 (λj hj=>?_) (.inr λ_ _=>rfl) (by rw [sL]; omega) ?_
   ·have:=hF j hj
    walk_at "l3"
    exact ⟨.int (r.getD j 0:Nat),by rw [aT0 (by omega) (by omega),Int.toNat_natCast],rfl,rfl⟩
   ·rw [aQ0,List.map_map]; rfl
  ·unfold pck aP8 at q
   rw [List.map_map] at q
   exact q
noncomputable abbrev aG3 (t:Adr) (P:Program) (w:World) (K:Frag) (mg:Str->Option Value) (base:Heap):SpD:=λds Q=>∃(m:Bool × Nat) (G:List (List Nat)),ds=[fD t.aa1 t.aa0 m,.lst false (aP8 false G)]/\m∈flds/\G.length<=64/\RT (mny m) (wof G) G/\0 < wof G/\wof G<=6/\Q (b00 ((fbN m G).map (lrF m G)))
theorem aG4 (T:Txt K mg t):FnOk P w K mg base CX0 5 t.f_lightest_row t.fd_lightest_row ["field","table"] (lSp (aG3 t P w K mg base)):=by
 refine aS4 T.F_lightest_row ae4 ?_ ?_
 ·intro ds Q h
  obtain ⟨m,G,rfl,hm,hG,hR,hw0,hw,q⟩:=h <;> rfl
 ·intro cdv A outer s H E hr
  refine ⟨_,(aO5 (aQ5 (i:=2) ae4.nd rfl (Or.inl rfl) (aQ3 ((ap1 T).mono (by decide)) hr rfl T.g_first_bound T.F_first_bound.kp T.b_first_bound aQ7 (aO4 (bv 0) (aO4 (bv 1) aP6))))
   (aO5 (bd8 (aU9 cw3 (bv 2) (aP0 bu6) (aR2 _)) (aO7 (aQ4 bu6)) aT1)
   (aO5 (aQ5 (i:=3) ae4.nd rfl (Or.inl rfl) (cv5 (aQ3 ((aN7 T).mono (by decide)) hr rfl T.g_kernel T.F_kernel.kp T.b_kernel aQ7 (aO4 (bv 0) (aO4 (aP0 (aQ3 ((aN9 T).mono (by decide)) hr rfl T.g_picked T.F_picked.kp T.b_picked aQ7 (aO4 (bv 1) (aO4 (bv 2) aP6)))) aP6))) (λ_ _=>rfl)))
   (aO5 (aQ5 (i:=4) ae4.nd rfl (Or.inl rfl) (bl7 (P:=P) (w:=w) (K:=K) (mg:=mg) (base:=base) (n:=2) (bv 0) (hr.mono (by decide)) (aO4 (aP0 aP2) (aO4 (aZ0 (bv 3) (aP0 aP2) (λ_ _=>rfl)) aP6))))
   (aO5 (aQ5 (i:=5) ae4.nd rfl (Or.inl rfl) (aS3 bd9 (aP0 (a09 (aU3 aP2 aX6))) (aP0 (aQ3 ((al4 T).mono (by decide)) hr rfl T.g_width_of T.F_width_of.kp T.b_width_of aQ7 (aO4 (bv 1) aP6)))))
   (bq8 2 (aO5 (bb6 PassesOwn.never rfl (cp5 rfl T.n_zip (bv 2) (ba0 (P:=P) (w:=w) (K:=K) (mg:=mg) (base:=base) (n:=1) (bv 0) (hr.mono (by decide)) (aO4 (bv 4) (aO4 (bv 3) aP6)))) (a54 (i1:=6) (i2:=7) rfl ae4.nd rfl (Or.inl rfl) rfl (Or.inl rfl))
    (aO7 (bA1 (i:=5) rfl (by first | exact Or.inl rfl | exact Or.inr (Or.inl rfl)) (ba9 (bv 7)) (bv 6))))
   (aO7 (aQ4 (em 5)))))))))),λds Q h=>?_⟩
  obtain ⟨m,G,rfl,hm,hG,hR,hw0,hw,q⟩:=h
  have hlo:=(fok hm).lo
  refine aO6 λU hU=>?_
  walk_at "l3"
  refine ⟨m,G,rfl,hm,hG,hR,hw0,hw,hU _ ?_⟩
  clear hU U
  cases e:fbN m G with
  | none =>
   rw [e] at q
   dsimp only [b00]
   refine aO6 λU hU=>?_
   walk_at "l3"
   exact q
  | some F =>
   rw [e] at q
   obtain ⟨⟨f,fs,ef⟩,k1,k2,k3,_⟩:=b57 hm hw0 hR e
   obtain ⟨s1,s2,_,_,_⟩:=bX8 hm hw0 hR e
   obtain ⟨a1,a2,_,_⟩:=bg1 hm hw0 hR e
   have fl:=a1.len
   have hG0:G≠[]:=λz=>by rw [z] at hw0; exact absurd hw0 (by decide)
   have p1:=(by6 (F:=F) (show 0 < mny m by omega) hR).1
   have p2:=(by6 (F:=F) (show 0 < mny m by omega) hR).2
   have eW:=bn0 p1 (λz=>hG0 (by unfold pck at z; exact List.map_eq_nil_iff.mp z))
   rw [<-eW] at p1
   obtain ⟨⟨Hd,I⟩,iR,il,sp⟩:=bn7 hm p1
   have ek:cr9 m (ba3 m (pck G F)) (wof (pck G F))=krn m G F :: fs.map (kro m (ba3 m (pck G F)) F.length):=by
    unfold cr9 krn
    rw [eW,ef]; rfl
   have hn:∀r∈ba3 m (pck G F),∃x∈r,x≠0:=λr hr'=>by
    obtain ⟨i,hi,rfl⟩:=List.getElem_of_mem hr'
    have:=(I.ldp hm iR hi).2
    rw [by1 hi] at this
    exact this
   dsimp only [b00]
   refine aO6 λU hU=>?_
   walk_at "l3"
   refine hU _ ?_
   clear hU U
   refine aO6 λU hU=>?_
   walk_at "l3"
   refine ⟨G,F,mny m,wof G,rfl,hR,a1.2,by omega,by omega,?_⟩
   refine ⟨by rw [aV3,a79]; rfl,m,pck G F,by rw [aT6,aS5],hm,by omega,p1,by omega,hn,?_⟩
   rw [ek]
   refine ⟨by rw [aV3,a79,Bool.and_true,Bool.or_true],_,_,rfl,hU _ ?_⟩
   clear hU U
   have kl:=aV5 hm k2 0
   refine aO6 λU hU=>?_
   walk_at "l3"
   refine ⟨_,_,_,_,bd6 _ _ m,bf8 T m,cc3 m _ (by decide),.int ((krn m G F).getD 0 0:Nat),by rw [aT0 (by omega) (by omega)]; rfl,m,1,(krn m G F).getD 0 0,by rw [bd6]; rfl,hm,hlo,kl,λz=>absurd z (k3 0 a2),λ_ iv hiv eiv=>?_⟩
   have ei:gmi m ((krn m G F).getD 0 0)=iv:=bj4 hm hiv eiv
   refine ⟨rfl,hU _ ?_⟩
   clear hU U
   refine aO6 λU hU=>?_
   walk_at "l3"
   have er:(List.replicate (wof G) [D.int 0]).flatten=aO8 (List.replicate (wof G) 0):=by
    rw [List.flatten_replicate_singleton,aQ0,List.map_replicate]; rfl
   refine ⟨by decide,G,rfl,by omega,λr hr'=>by rw [(hR r hr').1]; omega,?_⟩
   dsimp only
   rw [Int.toNat_natCast,er]
   refine ⟨⟨by omega,by omega,?_,rfl⟩,hU _ ?_⟩
   ·show 1 * _<=_; omega
   clear hU U
   refine ⟨_,rfl,?_⟩
   rw [bc9]
   simp only [List.set_cons_succ,List.set_cons_zero]
   obtain ⟨C,ns,xs,sp,e1,e2,e3,e4⟩:=bB0 (P:=P) (w:=w) (base:=base) T hm
   have el:(krn m G F).map (gm m iv)=lrS m G F:=by unfold lrS; rw [ei]
   refine aO6 λU hU=>?_
   walk_at "l3"
   refine ⟨C,ns,xs,sp,e1,e2,e3,e4 (krn m G F) iv _ hiv k2 (by omega) ⟨a56 _,?_⟩⟩
   rw [el]
   refine ⟨_,_,rfl,rfl,?_⟩
   rw [aW8]
   refine dForB.mk (λi δ=>∃o6 o7,δ=[some (fD t.aa1 t.aa0 m),some (D.lst false (aP8 false G)),some (D.lst false (aO8 F)),some (D.lst true (aO8 (krn m G F))),some (D.int iv),some (D.lst true (aO8 (((F.zip (lrS m G F)).take i).foldl (λr z=>r.set z.1 z.2) (List.replicate (wof G) 0)))),o6,o7]) ⟨_,_,rfl⟩ ?_ ?_
   ·rintro i d δ hd ⟨o6,o7,rfl⟩
    obtain ⟨hi,hj,rfl⟩:=b65 hd
    clear hd hU
    have xl:=a07 (λz:Nat × Nat=>z.1) (λz=>z.2) ((F.zip (lrS m G F)).take i) (List.replicate (wof G) 0)
    rw [List.length_replicate] at xl
    have hp:=a1.2 _ (List.getElem_mem hi)
    walk_at "l3"
    refine ⟨_,F[i],rfl,?_,_,_,?_,rfl,rfl⟩
    ·rw [bA8 (by omega) (by rw [aR3,xl]; omega)]; rfl
    ·rw [bf4,List.take_add_one,List.foldl_append]
     have ez:(F.zip (lrS m G F))[i]?=some (F[i],(lrS m G F)[i]):=by
      rw [List.zip,List.getElem?_zipWith,List.getElem?_eq_getElem hi,List.getElem?_eq_getElem hj]
     rw [ez]; rfl
   ·rintro δ ⟨o6,o7,rfl⟩
    refine hU _ ?_
    walk_at "l3"
    rw [show (F.zip (lrS m G F)).take (bc0 (aO8 F) (aO8 (lrS m G F))).length=F.zip (lrS m G F) from List.take_of_length_le (by rw [bW5,List.length_zip]; exact Nat.le_refl _)]
    exact q
noncomputable abbrev aI7:SpD:=λds Q=>∃i:Int,ds=[.int i]/\Q (.bl true)
theorem az1 (T:Txt K mg t):FnOk P w K mg base CX0 1 t.at4 t.aq8 ["_law_x"] (lSp (aI7 )):=by
 refine aS4 T.at9 aH6 ?_ ?_
 ·intro ds Q h
  obtain ⟨i,rfl,q⟩:=h <;> rfl
 ·intro cdv A outer s H E hr
  refine ⟨_,(aO7 (aQ4 (bD7 (aP0 (bS2 (by rfl) T.n_isinstance (by rfl) T.n_int cj3 (bv 0))) (bi8 (ck5 (aP0 (bS2 (by rfl) T.n_isinstance (by rfl) T.n_bool b96 (bv 0)))))))),λds Q h=>?_⟩
  obtain ⟨i,rfl,q⟩:=h
  walk_at "l3"
  exact q
noncomputable abbrev aE5:SpD:=λds Q=>∃(l:List Nat) (w n:Nat),ds=[.lst false (aO8 l),.int w,.int n]/\l.length=w/\w<=1000/\AllLt n l/\Q (.bl true)
theorem aE6 (T:Txt K mg t):FnOk P w K mg base CX0 2 t.ao2 t.am3 ["_law_row","_law_wide","_law_many_here"] (lSp (aE5 )):=by
 refine aS4 T.av2 aD7 ?_ ?_
 ·intro ds Q h
  obtain ⟨l,w,n,rfl,hl,hw,ha,q⟩:=h <;> rfl
 ·intro cdv A outer s H E hr
  refine ⟨_,(aO5 (bd8 (PW.pt (cr7 (bM8 (bn2 (aP0 (bS2 (by rfl) T.n_isinstance (by rfl) T.n_list bl3 (bv 0))))) (bK9 (aU9 (bC4 (hu6 hr)) (aP0 (aU4 (bl5) (by rfl) T.n_len ba5 (aO4 (bv 0) aP6))) (bv 1) (aR2 _))))) (aO7 (aQ4 bP4)) aT1)
   (aO7 (aQ4 (aU4 (bU4 rfl) (by rfl) T.n_all bz6 (aO4 (aP0 (aS2 [("_law_many_here",2)] ["_law_x"] rfl (a53 (bv 0)) (λ_ _ _ _=>(aS6 (i:=1) (show (["_law_many_here","_law_x"]:List Str).Nodup by decide +kernel) rfl (Or.inl (lookup_relabel_local rfl)) (by decide) (Or.inr (lookup_relabel_local rfl)))) (λ_ _ _ _=>aU7) (λ_ _ _ _=>(bD7 (aP0 (aQ3 ((az1 T).mono (by decide)) hr rfl T.aB1 T.at9.kp T.aB2 aQ7 (aO4 (bv 1) aP6))) (bi8 (bw7 cr0 cr5 (aP0 aP2) (bv 1) (bv 0))))) rfl ⟨rfl,trivial⟩ (λ_=>by repeat' (first | exact trivial | refine ⟨.inl rfl,?_⟩ | refine ⟨.inr (.inl rfl),?_⟩ | refine ⟨.inr (.inr ⟨_,rfl⟩),?_⟩)) (λ_=>⟨⟨rfl,.inl rfl,.inl rfl,_,rfl,rfl⟩,trivial⟩) rfl (by decide +kernel))) aP6))))),λds Q h=>?_⟩
  obtain ⟨l,w,n,rfl,hl,hw,ha,q⟩:=h
  refine aO6 λU hU=>?_
  walk_at "l3"
  rw [if_neg (by rw [hl]; simp)]
  refine hU _ ?_
  clear hU U
  walk_at "l3"
  refine aR9 l (λ(i:Nat)=>D.int (i:Int)) (λ_=>D.bl true) (a81 l) aY5 (λi hi=>?_) (.inr λ_ _=>rfl) (by rw [sL]; omega) ?_
  ·walk_at "l3"
   have:=ha i hi
   refine ⟨i,rfl,true,rfl,?_⟩
   rw [if_pos rfl,if_pos (by omega)]
   omega
  ·refine ⟨l.map λ_=>true,by unfold bls; rw [List.map_map]; rfl,?_⟩
   have e:(l.map λ_=>true).all id=true:=by simp
   rw [e]; exact q
noncomputable abbrev aL1:SpD:=λds Q=>∃(m:Bool × Nat) (a b:Nat),ds=[aX8 m,.int a,.int b]/\0 < m.2/\Q (.int (gp m a b:Nat))
theorem aL2 (T:Txt K mg t):FnOk P w K mg base CX0 1 t.av8 t.at5 ["_law_told_here","_law_a","_law_b"] (lSp (aL1 )):=by
 refine aS4 T.aD5 aJ4 ?_ ?_
 ·intro ds Q h
  obtain ⟨m,a,b,rfl,h0,q⟩:=h <;> rfl
 ·intro cdv A outer s H E hr
  refine ⟨_,(aO5 (bd8 (bn2 (aZ0 (bv 0) (aP0 aP2) (λ_ _=>rfl))) (aO7 (aQ4 (aS3 bM9 (bv 1) (bv 2)))) aT1)
   (aO7 (aQ4 (aS3 a04 (aP0 (aS3 aZ8 (bv 1) (bv 2))) (aZ0 (bv 0) (aP0 aP2) (λ_ _=>rfl)))))),λds Q h=>?_⟩
  obtain ⟨m,a,b,rfl,h0,q⟩:=h
  unfold aX8 at *
  obtain ⟨k,n⟩:=m
  refine aO6 λU hU=>?_
  walk_at "l3"
  cases k with
  | true =>
   refine ⟨_,rfl,true,rfl,?_⟩
   rw [if_pos rfl,aU6]
   exact q
  | false =>
   refine ⟨_,rfl,false,rfl,?_⟩
   rw [if_neg (by decide)]
   refine hU _ ?_
   walk_at "l3"
   refine ⟨_,rfl,?_⟩
   refine ⟨by omega,?_⟩
   have e:((gp (false,n) a b:Nat):Int)=((a:Int) + b) % n:=by
    show (((a + b) % n:Nat):Int)=_
    rw [Int.natCast_emod,Int.natCast_add]
   rw [<-e]; exact q
noncomputable abbrev aM1:SpD:=λds Q=>∃(m:Bool × Nat) (xs ys:List Nat),ds=[aX8 m,.lst false (aO8 xs),.lst false (aO8 ys)]/\m∈flds/\xs.length=ys.length/\xs.length<=64/\(∀x∈xs,x < mny m)/\(∀y∈ys,y < mny m)/\Q (.int (gd m xs ys:Nat))
theorem aM2 (T:Txt K mg t):FnOk P w K mg base CX0 2 t.ax7 t.av9 ["_law_told_here","_law_xs","_law_ys"] (lSp (aM1 )):=by
 refine aS4 T.aF5 ap2 ?_ ?_
 ·intro ds Q h
  obtain ⟨m,xs,ys,rfl,hm,hl,h64,hx,hy,q⟩:=h <;> rfl
 ·intro cdv A outer s H E hr
  refine ⟨_,(aO5 (aQ5 (i:=3) ap2.nd rfl (Or.inl rfl) aP2)
   (aO5 (bb6 PassesOwn.never rfl (bL6 rfl T.n_zip (aO4 (bv 1) (aO4 (bv 2) aP6))) (a54 (i1:=4) (i2:=5) rfl ap2.nd rfl (Or.inl rfl) rfl (Or.inl rfl))
    (aO7 (aQ5 (i:=3) ap2.nd rfl (Or.inl rfl) (aQ3 ((aL2 T).mono (by decide)) hr rfl T.aL8 T.aD5.kp T.aL9 aQ7 (aO4 (bv 0) (aO4 (bv 3) (aO4 (aP0 (aQ3 ((ar0 T).mono (by decide)) hr rfl T.at7 T.ao3.kp T.at8 aQ7 (aO4 (bv 0) (aO4 (bv 4) (aO4 (bv 5) aP6))))) aP6)))))))
   (aO7 (aQ4 (em 3))))),λds Q h=>?_⟩
  obtain ⟨m,xs,ys,rfl,hm,hl,h64,hx,hy,q⟩:=h
  refine aO6 λU hU=>?_
  walk_at "l3"
  refine hU _ ?_
  clear hU U
  refine aO6 λU hU=>?_
  walk_at "l3"
  refine ⟨_,_,rfl,rfl,?_⟩
  refine dForB.mk (λi δ=>∃o1 o2,δ=[some (aX8 m),some (.lst false (aO8 xs)),some (.lst false (aO8 ys)),some (.int (((List.zipWith (gm m) xs ys).take i).foldl (gp m) 0:Nat)),o1,o2]) ⟨none,none,rfl⟩ ?_ ?_
  ·rintro i d δ hd ⟨o1,o2,rfl⟩
   obtain ⟨hi,hj,rfl⟩:∃(hi:i < xs.length) (hj:i < ys.length),d=.tup [.int (xs[i]:Nat),.int (ys[i]:Nat)]:=by
    unfold bc0 at hd
    rw [aQ0,aQ0,List.zipWith_map] at hd
    by_cases hi:i < xs.length
    ·have hj:i < ys.length:=by omega
     rw [List.getElem?_zipWith,List.getElem?_eq_getElem hi,List.getElem?_eq_getElem hj] at hd
     exact ⟨hi,hj,(Option.some.inj hd).symm⟩
    ·rw [List.getElem?_eq_none (by simp; omega)] at hd; cases hd
   have hx1:=hx xs[i] (List.getElem_mem _)
   have hy1:=hy ys[i] (List.getElem_mem _)
   walk_at "l3"
   have hF:=fok hm
   have t1:(aX8 m).sh=aX8 m:=rfl
   have t2:(aX8 m).pl=true:=rfl
   have m0:0 < m.2:=aP1 m hm
   refine ⟨m,xs[i],ys[i],rfl,hm,hx1,hy1,m,_,gm m xs[i] ys[i],rfl,m0,by simp [D.pl],_,_,?_,rfl,rfl⟩
   rw [List.take_succ,List.foldl_append,List.getElem?_zipWith,List.getElem?_eq_getElem hi,List.getElem?_eq_getElem hj]; rfl
  ·rintro δ ⟨o1,o2,rfl⟩
   refine hU _ ?_
   walk_at "l3"
   have e:(bc0 (aO8 xs) (aO8 ys)).length=xs.length:=by unfold bc0; rw [List.length_zipWith,aR3,aR3]; omega
   rw [e,List.take_of_length_le (by rw [List.length_zipWith]; omega)]
   exact q
noncomputable abbrev aI8:SpD:=λds Q=>∃(m:Bool × Nat) (G:List (List Nat)) (F l:List Nat),ds=[aX8 m,.lst false (aP8 false G),.lst false (aO8 F),.lst false (aO8 l)]/\m∈flds/\0 < G.length/\G.length<=64/\wof G<=64/\RT (mny m) (wof G) G/\l.length=wof G/\AllLt (mny m) l/\((List.range (wof G)).filter λp=>l.getD p 0 != 0)=F/\0 < F.length/\l.getD (F.getD 0 0) 0=1/\(∀r∈G,gd m r l=0)/\Q (.bl true)
theorem aI9 (T:Txt K mg t):FnOk P w K mg base CX0 3 t.at6 t.aq9 ["_law_told_here","_law_table","_law_found","_law_row"] (lSp (aI8 )):=by
 refine aS4 T.aB3 ay5 ?_ ?_
 ·intro ds Q h
  obtain ⟨m,G,F,l,rfl,hm,hG0,hG,hw,hR,hl,hal,hF,hF0,h1,hd,q⟩:=h <;> rfl
 ·intro cdv A outer s H E hr
  refine ⟨_,(aO5 (aQ5 (i:=4) ay5.nd rfl (Or.inl rfl) (aU4 (bl5) (by rfl) T.n_len ba5 (aO4 (aZ0 (bv 1) (aP0 aP2) (λ_ _=>rfl)) aP6)))
   (aO5 (bd8 (bM8 (bn2 (aP0 (aQ3 ((aE6 T).mono (by decide)) hr rfl T.aF3 T.av2.kp T.aF4 aQ7 (aO4 (bv 3) (aO4 (bv 4) (aO4 (aP0 (aQ3 ((au0 T).mono (by decide)) hr rfl T.aw0 T.ap3.kp T.aw1 aQ7 (aO4 (bv 0) aP6))) aP6))))))) (aO7 (aQ4 bP4)) aT1)
   (aO5 (bd8 (PW.pt (cr7 (aU9 (bC4 (hu6 hr)) (aP0 (aS2 [("_law_row",3)] ["_law_k"] rfl (aZ3 rfl T.n_range (aO4 (bv 4) aP6)) (λ_ _ _ _=>(aS6 (i:=1) (show (["_law_row","_law_k"]:List Str).Nodup by decide +kernel) rfl (Or.inl (lookup_relabel_local rfl)) (by decide) (Or.inr (lookup_relabel_local rfl)))) (λ_ _ _ _=>(bz1 (aU9 (bC4 (hu6 hr)) (aZ0 (bv 0) (bv 1) (λ_ _=>rfl)) (aP0 aP2) (aR2 _)))) (λ_ _ _ _=>(ba9 (bv 1))) rfl ⟨rfl,trivial⟩ (λ_=>by repeat' (first | exact trivial | refine ⟨.inl rfl,?_⟩ | refine ⟨.inr (.inl rfl),?_⟩ | refine ⟨.inr (.inr ⟨_,rfl⟩),?_⟩)) (λ_=>⟨⟨rfl,.inl rfl,.inl rfl,_,rfl,rfl⟩,trivial⟩) rfl (by decide +kernel))) (bv 2) (aR2 _)) (bK9 (aU9 (bC4 (hu6 hr)) (aZ0 (bv 3) (aZ0 (bv 2) (aP0 aP2) (λ_ _=>rfl)) (λ_ _=>rfl)) (aP0 aP2) (aR2 _))))) (aO7 (aQ4 bP4)) aT1)
   (aO7 (aQ4 (ck5 (aP0 (aU4 (cq7 rfl) (by rfl) T.n_any cn9 (aO4 (aP0 (aS2 [("_law_told_here",0),("_law_row",3)] ["_law_line"] rfl (a53 (bv 1)) (λ_ _ _ _=>(aS6 (i:=2) (show (["_law_told_here","_law_row","_law_line"]:List Str).Nodup by decide +kernel) rfl (Or.inl (lookup_relabel_local rfl)) (by decide) (Or.inr (lookup_relabel_local rfl)))) (λ_ _ _ _=>aU7) (λ_ _ _ _=>(aQ3 ((aM2 T).mono (by decide)) hr rfl T.aM4 T.aF5.kp T.aM5 aQ7 (aO4 (bv 0) (aO4 (bv 2) (aO4 (bv 1) aP6))))) rfl ⟨rfl,⟨rfl,trivial⟩⟩ (λ_=>by repeat' (first | exact trivial | refine ⟨.inl rfl,?_⟩ | refine ⟨.inr (.inl rfl),?_⟩ | refine ⟨.inr (.inr ⟨_,rfl⟩),?_⟩)) (λ_=>⟨⟨rfl,.inl rfl,.inl rfl,_,rfl,rfl⟩,⟨⟨rfl,.inl rfl,.inl rfl,_,rfl,rfl⟩,trivial⟩⟩) rfl (by decide +kernel))) aP6))))))))),λds Q h=>?_⟩
  obtain ⟨m,G,F,l,rfl,hm,hG0,hG,hw,hR,hl,hal,hF,hF0,h1,hd,q⟩:=h
  have hlo:=(fok hm).lo
  have hbl:=bv1 m hm
  refine aO6 λU hU=>?_
  walk_at "l3"
  refine ⟨.lst false (aO8 G[0]),be3 false hG0,?_⟩
  dsimp only
  rw [aR3,(hR _ (List.getElem_mem hG0)).1]
  refine hU _ ?_
  clear hU U
  refine aO6 λU hU=>?_
  walk_at "l3"
  refine ⟨m,rfl,by omega,by omega,l,wof G,mny m,rfl,hl,by omega,hal,?_⟩
  refine ⟨rfl,true,rfl,hU _ ?_⟩
  clear hU U
  refine aO6 λU hU=>?_
  walk_at "l3"
  refine ⟨⟨by omega,by omega⟩,bn5 (List.range (wof G)) (λ(i:Nat)=>D.int (i:Int)) (λ(i:Nat)=>D.int (i:Int)) (λp=>l.getD p 0 != 0) (ba8 _ rfl) aY5 (λj hj=>?_) (.inr λ_ _ _=>rfl) (by rw [List.length_range,sL]; omega) ?_⟩
  ·have:=List.mem_range.mp hj
   walk_at "l3"
   refine ⟨.int (l.getD j 0:Nat),by rw [aT0 (by omega) (by omega),Int.toNat_natCast],rfl,?_,λ_=>trivial⟩
   rw [aZ6]
   by_cases h0:l.getD j 0=0
   ·rw [h0]; rfl
   ·rw [decide_eq_false (by omega),bne_iff_ne.mpr h0]; rfl
  rw [hF,<- aQ0]
  dsimp only [List.getElem?_cons_succ,List.getElem?_cons_zero]
  have fm:F.getD 0 0 < wof G:=by
   have:=aP9 hF0 0
   rw [<-hF] at this ⊢
   exact List.mem_range.mp (List.mem_filter.mp this).1
  rw [aY4,decide_eq_true rfl,if_neg (by decide)]
  refine ⟨⟨aW9 5 _ _,aW9 5 _ _⟩,.int (F.getD 0 0:Nat),by rw [aT0 (by omega) (by omega)]; rfl,?_⟩
  dsimp only
  refine ⟨.int 1,by rw [aT0 (by omega) (by omega),Int.toNat_natCast,h1]; rfl,rfl,?_⟩
  rw [aZ6,decide_eq_true rfl,if_neg (by decide)]
  refine hU _ ?_
  clear hU U
  walk_at "l3"
  refine aR9 G (λr=>D.lst false (aO8 r)) (λr=>D.int ((gd m r l:Nat):Int)) (by rw [aS5]; rfl) (λa b h=>a83 a b h) (λr hr'=>?_) (.inr λr _=>rfl) (by rw [sL]; omega) ?_
  ·have hl2:=(hR r hr').1
   walk_at "l3"
   exact ⟨m,r,l,rfl,hm,by omega,by omega,(hR r hr').2,hal,rfl⟩
  refine ⟨G.map λr=>((gd m r l:Nat):Int),by unfold aR7; rw [List.map_map]; rfl,?_⟩
  rw [show (G.map λr=>((gd m r l:Nat):Int)).any (λx=>x != 0)=false by
   rw [List.any_eq_false]
   intro x hx
   obtain ⟨r,hr',rfl⟩:=List.mem_map.mp hx
   rw [hd r hr']; decide]
  exact q
theorem cq3 (T:Txt K mg t) (hB:Bm mg base):FnOk P w K mg base CX0 11 t.f_law t.fd_law ["_law_script"] (cp0 [t.aa4,t.aa6] (lSp (bX7 ))):=by
 refine bX9 T.F_law sc_law ?_ ?_
 ·intro ds Q h
  obtain ⟨ns,rfl,hl,q⟩:=h <;> rfl
 ·intro cdv A outer s H E hT hr
  refine ⟨_,(aO5 (aQ5 (i:=1) sc_law.nd rfl (Or.inl rfl) (aQ3 ((aK2 T).mono (by decide)) hr rfl T.aL4 T.aD3.kp T.aL5 aQ7 (aO4 (aP0 (aQ3 ((aj9 T).mono (by decide)) hr rfl T.al1 T.ai3.kp T.al2 aQ7 (aO4 (bv 0) (aO4 (aP0 aP2) aP6)))) aP6)))
   (aO5 (aQ5 (i:=2) sc_law.nd rfl (Or.inl rfl) (ce4 hT ((aI3 T hB).mono (by decide)) hr rfl T.aJ6 T.aA5.kp T.aJ7 aQ7 (aO4 (bv 1) aP6)))
   (aO5 (aQ5 (i:=3) sc_law.nd rfl (Or.inl rfl) (aS3 aZ8 (aP0 aP2) (aP0 (aS3 a04 (aP0 (aQ3 ((aj9 T).mono (by decide)) hr rfl T.al1 T.ai3.kp T.al2 aQ7 (aO4 (bv 0) (aO4 (aP0 aP2) aP6)))) (aP0 aP2)))))
   (aO5 (aQ5 (i:=4) sc_law.nd rfl (Or.inl rfl) (aU4 (cy3 rfl) (by rfl) T.n_min cq4 (aO4 (aP0 (aQ3 ((au0 T).mono (by decide)) hr rfl T.aw0 T.ap3.kp T.aw1 aQ7 (aO4 (bv 1) aP6))) (aO4 (aP0 (aS3 aZ8 (aP0 aP2) (aP0 (aS3 a04 (aP0 (aS3 bl2 (aP0 (aQ3 ((aj9 T).mono (by decide)) hr rfl T.al1 T.ai3.kp T.al2 aQ7 (aO4 (bv 0) (aO4 (aP0 aP2) aP6)))) (aP0 aP2))) (aP0 aP2))))) aP6))))
   (aO5 (aQ5 (i:=5) sc_law.nd rfl (Or.inl rfl) (aQ3 ((aG9 T).mono (by decide)) hr rfl T.aH7 T.ay6.kp T.aH8 aQ7 (aO4 (bv 1) (aO4 (bv 0) (aO4 (bv 3) (aO4 (bv 4) (aO4 (aP0 (aQ3 ((aj9 T).mono (by decide)) hr rfl T.al1 T.ai3.kp T.al2 aQ7 (aO4 (bv 0) (aO4 (aP0 aP2) aP6)))) aP6)))))))
   (aO5 (aQ5 (i:=6) sc_law.nd rfl (Or.inl rfl) (aQ3 ((aK8 T).mono (by decide)) hr rfl T.aL6 T.aD4.kp T.aL7 aQ7 (aO4 (bv 5) aP6)))
   (aO5 (aQ5 (i:=7) sc_law.nd rfl (Or.inl rfl) (aQ3 ((ap1 T).mono (by decide)) hr rfl T.g_first_bound T.F_first_bound.kp T.b_first_bound aQ7 (aO4 (bv 2) (aO4 (bv 6) aP6))))
   (aO5 (aQ5 (i:=8) sc_law.nd rfl (Or.inl rfl) (aQ3 ((aG4 T).mono (by decide)) hr rfl T.g_lightest_row T.F_lightest_row.kp T.b_lightest_row aQ7 (aO4 (bv 2) (aO4 (bv 6) aP6))))
   (aO5 (bd8 (aU9 (bC4 (hu6 hr)) (bv 6) (bv 5) (aR2 _)) (aO7 (aQ4 bP4)) aT1)
   (aO5 (bd8 (aU9 cy9 (bv 3) (bv 4) (aR2 _)) (aO7 (aQ4 (bD7 (aP0 (bK4 cw3 (bv 7) (aP0 bu6) (aR2 _))) (bi8 (bK4 cw3 (bv 8) (aP0 bu6) (aR2 _)))))) aT1)
   (aO5 (aQ5 (i:=9) sc_law.nd rfl (Or.inl rfl) (bu4 rfl (by rfl) T.n_list (by rfl) T.n_range (aP0 (aS3 aZ8 (bv 3) (aP0 aP2)))))
   (aO5 (bd8 (PW.pt (cr7 (bM8 (bn2 (aP0 (bS2 (by rfl) T.n_isinstance (by rfl) T.n_list bl3 (bv 7))))) (cr7 (bM8 (bn2 (aP0 (aU4 (bU4 rfl) (by rfl) T.n_all bz6 (aO4 (aP0 (aS2 [] ["_law_x"] rfl (a53 (bv 7)) (λ_ _ _ _=>(aS6 (i:=0) (show (["_law_x"]:List Str).Nodup by decide +kernel) rfl (Or.inl (lookup_relabel_local rfl)) (by decide) (Or.inr (lookup_relabel_local rfl)))) (λ_ _ _ _=>aU7) (λ_ _ _ _=>(aQ3 ((az1 T).mono (by decide)) hr rfl T.aB1 T.at9.kp T.aB2 aQ7 (aO4 (bv 0) aP6))) rfl trivial (λ_=>by repeat' (first | exact trivial | refine ⟨.inl rfl,?_⟩ | refine ⟨.inr (.inl rfl),?_⟩ | refine ⟨.inr (.inr ⟨_,rfl⟩),?_⟩)) (λ_=>trivial) rfl (by decide +kernel))) aP6))))) (bK9 (aU9 (bC4 (hu6 hr)) (bv 7) (bv 9) (aR2 _)))))) (aO7 (aQ4 bP4)) aT1)
   (aO5 (cv2 (i:=7) rfl (by first | exact Or.inl rfl | exact Or.inr (Or.inl rfl)))
   (aO7 (aQ4 (bD7 (aP0 (bK4 (bI1 (hu6 hr)) (aP0 (aQ3 ((ap1 T).mono (by decide)) hr rfl T.g_first_bound T.F_first_bound.kp T.b_first_bound aQ7 (aO4 (bv 2) (aO4 (bv 6) aP6)))) (bv 9) (aR2 _))) (bi8 (aQ3 ((aI9 T).mono (by decide)) hr rfl T.aJ9 T.aB3.kp T.aK0 aQ7 (aO4 (bv 1) (aO4 (bv 5) (aO4 (bv 9) (aO4 (bv 8) aP6)))))))))))))))))))))),λds Q h=>?_⟩
  obtain ⟨ns,rfl,hl,q⟩:=h
  refine aO6 λU hU=>?_
  walk_at "l3"
  refine ⟨ns,0,rfl,by decide,by decide,_,rfl,rfl,hU _ ?_⟩
  clear hU U
  generalize hmm:bq7 (cel ns 0)=m
  have hm:m∈flds:=by rw [<-hmm]; exact bW9 _
  have hF:=fok hm
  have hlo:=hF.lo
  have hhi:=hF.hi
  have hbl:=bv1 m hm
  have modn:∀(z:Int) (k:Nat),0 < k->∃r:Nat,z % (k:Int)=r/\r < k:=λz k hk=>by
   have n0:=Int.emod_nonneg z (show (k:Int)≠0 by omega)
   have n1:=Int.emod_lt_of_pos z (show (0:Int) < (k:Int) by omega)
   exact ⟨(z % (k:Int)).toNat,by omega,by omega⟩
  refine aO6 λU hU=>?_
  walk_at "l3"
  refine ⟨m,rfl,hm,hU _ ?_⟩
  clear hU U
  refine aO6 λU hU=>?_
  walk_at "l3"
  refine ⟨ns,1,rfl,by decide,by decide,by decide,?_⟩
  obtain ⟨r,er,hr1,hr6⟩:∃k:Nat,1 + cel ns 1 % 6=k/\1<=k/\k<=6:=⟨(1 + cel ns 1 % 6).toNat,by omega,by omega,by omega⟩
  rw [er]
  refine hU _ ?_
  clear hU U
  refine aO6 λU hU=>?_
  walk_at "l3"
  refine ⟨m,rfl,by omega,by omega,ns,1,rfl,by decide,by decide,fdS (by decide) (by decide),by decide,?_⟩
  obtain ⟨wi,ew,w1,w6,wm⟩:∃k:Nat,(if 1 + cel ns 1 / 6 % 6 < (mny m:Int) then 1 + cel ns 1 / 6 % 6 else (mny m:Int))=k/\1<=k/\k<=6/\k<=mny m:=by
   by_cases c:1 + cel ns 1 / 6 % 6 < (mny m:Int)
   ·rw [if_pos c]; exact ⟨(1 + cel ns 1 / 6 % 6).toNat,by omega,by omega,by omega,by omega⟩
   ·rw [if_neg c]; exact ⟨mny m,rfl,by omega,by omega,by omega⟩
  dsimp only
  rw [ew]
  refine hU _ ?_
  clear hU U
  refine aO6 λU hU=>?_
  walk_at "l3"
  refine ⟨ns,2,rfl,by decide,by decide,m,ns,r,wi,cel ns 2,rfl,hm,hr6,w6,wm,λG x y hP=>?_⟩
  have hG0:G≠[]:=λz=>by have:=hP.l; rw [z] at this; exact absurd this (by show ¬ (0=r); omega)
  have eW:=bn0 hP.rt hG0
  have hR:=hP.rt
  rw [<-eW] at hR
  have gl:=hP.l
  have ef:=hP.first hm w1 eW
  have lok:=@cl0 m hm G (by omega) hR
  refine ⟨rfl,hU _ ?_⟩
  clear hU U
  have tfr:∀X:List (List Nat),(D.lst true (aP8 true X)).fr=true:=λX=>by rw [aV3,a79]; rfl
  have ofr:∀X:Option (List Nat),(b00 X).fr=true:=λX=>by
   cases X with
   | none=>rfl
   | some l=>exact a56 l
  refine aO6 λU hU=>?_
  walk_at "l3"
  refine ⟨G,rfl,by omega,tfr _,hU _ ?_⟩
  clear hU U
  refine aO6 λU hU=>?_
  walk_at "l3"
  refine ⟨m,G,rfl,hm,by omega,hR,by omega,by omega,ofr _,hU _ ?_⟩
  clear hU U
  refine aO6 λU hU=>?_
  walk_at "l3"
  refine ⟨m,G,rfl,hm,by omega,hR,by omega,by omega,ofr _,hU _ ?_⟩
  clear hU U
  refine aO6 λU hU=>?_
  walk_at "l3"
  rw [bO6,decide_eq_true rfl,if_neg (by decide)]
  refine ⟨⟨bl8 4 _ _ _,bl8 4 _ _ _⟩,hU _ ?_⟩
  clear hU U
  rw [ef]
  by_cases hc:r < wi
  ·rw [if_pos hc]
   rw [if_pos hc] at ef
   obtain ⟨l1,l2,l3,l4,l5⟩:=lok ef
   dsimp only [Option.map_some,b00]
   refine aO6 λU hU=>?_
   walk_at "l3"
   rw [if_neg (by omega)]
   refine hU _ ?_
   clear hU U
   refine aO6 λU hU=>?_
   walk_at "l3"
   refine ⟨r + 1,by omega,by omega,hU _ ?_⟩
   clear hU U
   refine aO6 λU hU=>?_
   walk_at "l3"
   refine aR9 (List.range (r + 1)) (λ(i:Nat)=>D.int (i:Int)) (λ_=>D.bl true) (a81 _) aY5 (λk hk=>?_) (.inr λ_ _=>rfl) (by rw [List.length_range,sL]; omega) ?_
   ·walk_at "l3"
    exact ⟨_,rfl,rfl⟩
   refine ⟨(List.range (r + 1)).map λ_=>true,by unfold bls; rw [List.map_map]; rfl,?_⟩
   rw [show ((List.range (r + 1)).map λ_=>true).all id=true by rw [List.all_map,List.all_eq_true]; intros; rfl,if_neg (by decide)]
   dsimp only [List.getElem?_cons_succ,List.getElem?_cons_zero]
   rw [aY4,decide_eq_true rfl,if_neg (by decide)]
   refine ⟨⟨aW9 5 _ _,aW9 5 _ _⟩,hU _ ?_⟩
   clear hU U
   refine aO6 λU hU=>?_
   walk_at "l3"
   refine ⟨λz=>?_,hU _ ?_⟩
   ·have:=congrArg List.length z
    rw [aR3,List.length_range] at this
    cases this
   clear hU U
   generalize (aO8 (List.range (r + 1))).dropLast=dl
   walk_at "l3"
   refine ⟨m,G,rfl,hm,by omega,hR,by omega,by omega,ofr _,?_⟩
   rw [ef]
   rw [show b00 (some (List.range (r + 1)))=.lst true (aO8 (List.range (r + 1))) from rfl]
   refine ⟨aW9 5 _ _,?_⟩
   rw [if_pos (by rw [aY4]; exact decide_eq_true rfl)]
   refine ⟨m,G,List.range (r + 1),lrF m G (List.range (r + 1)),rfl,hm,by omega,by omega,by omega,hR,l1,l2,?_,by rw [List.length_range]; omega,l4,l5,rfl,q⟩
   obtain ⟨dd,ed⟩:∃dd,wof G=r + 1 + dd:=⟨wof G - (r + 1),by omega⟩
   have l3':∀p,((lrF m G (List.range (r + 1))).getD p 0 != 0)=true ↔ p∈List.range (r + 1):=λp=>bne_iff_ne.trans (l3 p)
   rw [ed,List.range_add (n:=r + 1) (m:=dd),List.filter_append,List.filter_eq_self.mpr λp hp=>(l3' p).mpr hp,List.filter_eq_nil_iff.mpr λp hp=>?_,List.append_nil]
   obtain ⟨p',_,rfl⟩:=List.mem_map.mp hp
   intro z
   have:=List.mem_range.mp ((l3' _).mp z)
   omega
  ·rw [if_neg hc]
   dsimp only [Option.map_none,b00]
   refine aO6 λU hU=>?_
   walk_at "l3"
   rw [if_pos (by omega)]
   exact q
end
set_option maxHeartbeats 0 in
theorem all_mk {l:PySem.W.OpenLaw} {w:World} {K:Frag} {h:Heap} {mg:Str->Option Value} {fa:Addr} {ts:List Addr} (X:K.In h) (G:h.Ns mainGlobals mg) (hfa:mg "law"=some (.ref fa))
  {od0 an0:Option Addr} {sl0:Array (Option Value)} {oc0 kV0 dc0 pm0 cd0 ct0:Value} {f0:Addr}
  {od1 an1:Option Addr} {sl1:Array (Option Value)} {oc1 kV1 dc1 pm1 cd1 ct1:Value} {f1:Addr}
  {od2 an2:Option Addr} {sl2:Array (Option Value)} {oc2 kV2 dc2 pm2 cd2 ct2:Value} {f2:Addr}
  {od3 an3:Option Addr} {sl3:Array (Option Value)} {oc3 kV3 dc3 pm3 cd3 ct3:Value} {f3:Addr}
  {od4 an4:Option Addr} {sl4:Array (Option Value)} {oc4 kV4 dc4 pm4 cd4 ct4:Value} {f4:Addr}
  {od5 an5:Option Addr} {sl5:Array (Option Value)} {oc5 kV5 dc5 pm5 cd5 ct5:Value} {f5:Addr}
  {od6 an6:Option Addr} {sl6:Array (Option Value)} {oc6 kV6 dc6 pm6 cd6 ct6:Value} {f6:Addr}
  {od7 an7:Option Addr} {sl7:Array (Option Value)} {oc7 kV7 dc7 pm7 ct7:Value} {f7:Addr}
  {ae2 aa4:Addr} {aC1:Option Addr} {aC2:Array (Option Value)} {aq0:Array Value} {aC3:Value}
  {od8 an8:Option Addr} {sl8:Array (Option Value)} {oc8 kV8 dc8 pm8 cd8 ct8:Value} {f8:Addr}
  {od9 an9:Option Addr} {sl9:Array (Option Value)} {oc9 kV9 dc9 pm9 cd9 ct9:Value} {f9:Addr}
  {od10 an10:Option Addr} {sl10:Array (Option Value)} {oc10 kV10 dc10 pm10 cd10 ct10:Value} {f10:Addr}
  {od11 an11:Option Addr} {sl11:Array (Option Value)} {oc11 kV11 dc11 pm11 cd11 ct11:Value} {f11:Addr}
  {od12 an12:Option Addr} {sl12:Array (Option Value)} {oc12 kV12 dc12 pm12 cd12 ct12:Value} {f12:Addr}
  {od13 an13:Option Addr} {sl13:Array (Option Value)} {oc13 kV13 dc13 pm13 ct13:Value} {f13:Addr}
  {af2 aa6:Addr} {aE7:Option Addr} {aE8:Array (Option Value)} {au1:Array Value} {aE9:Value}
  {od14 an14:Option Addr} {sl14:Array (Option Value)} {oc14 kV14 dc14 pm14 cd14 ct14:Value} {f14:Addr}
  {od15 an15:Option Addr} {sl15:Array (Option Value)} {oc15 kV15 dc15 pm15 cd15 ct15:Value} {f15:Addr}
  {od16 an16:Option Addr} {sl16:Array (Option Value)} {oc16 kV16 dc16 pm16 cd16 ct16:Value} {f16:Addr}
  {od17 an17:Option Addr} {sl17:Array (Option Value)} {oc17 kV17 dc17 pm17 cd17 ct17:Value} {f17:Addr}
  {od18 an18:Option Addr} {sl18:Array (Option Value)} {oc18 kV18 dc18 pm18 cd18 ct18:Value} {f18:Addr}
  {od19 an19:Option Addr} {sl19:Array (Option Value)} {oc19 kV19 dc19 pm19 cd19 ct19:Value} {f19:Addr}
  {od20 an20:Option Addr} {sl20:Array (Option Value)} {oc20 kV20 dc20 pm20 cd20 ct20:Value} {f20:Addr}
  {od21 an21:Option Addr} {sl21:Array (Option Value)} {oc21 kV21 dc21 pm21 cd21 ct21:Value} {f21:Addr}
  {od22 an22:Option Addr} {sl22:Array (Option Value)} {oc22 kV22 dc22 pm22 cd22 ct22:Value} {f22:Addr}
  {od23 an23:Option Addr} {sl23:Array (Option Value)} {oc23 kV23 dc23 pm23 cd23 ct23:Value} {f23:Addr}
  {od24 an24:Option Addr} {sl24:Array (Option Value)} {oc24 kV24 dc24 pm24 cd24 ct24:Value} {f24:Addr}
  {od25 an25:Option Addr} {sl25:Array (Option Value)} {oc25 kV25 dc25 pm25 cd25 ct25:Value} {f25:Addr}
  {od26 an26:Option Addr} {sl26:Array (Option Value)} {oc26 kV26 dc26 pm26 cd26 ct26:Value} {f26:Addr}
  {od27 an27:Option Addr} {sl27:Array (Option Value)} {oc27 kV27 dc27 pm27 cd27 ct27:Value} {f27:Addr}
  {od28 an28:Option Addr} {sl28:Array (Option Value)} {oc28 kV28 dc28 pm28 cd28 ct28:Value} {f28:Addr}
  {od29 an29:Option Addr} {sl29:Array (Option Value)} {oc29 kV29 dc29 pm29 cd29 ct29:Value} {f29:Addr}
  {od30 an30:Option Addr} {sl30:Array (Option Value)} {oc30 kV30 dc30 pm30 cd30 ct30:Value} {f30:Addr}
  {od31 an31:Option Addr} {sl31:Array (Option Value)} {oc31 kV31 dc31 pm31 cd31 ct31:Value} {f31:Addr}
  {od32 an32:Option Addr} {sl32:Array (Option Value)} {oc32 kV32 dc32 pm32 cd32 ct32:Value} {f32:Addr}
  {od33 an33:Option Addr} {sl33:Array (Option Value)} {oc33 kV33 dc33 pm33 cd33 ct33:Value} {f33:Addr}
  {od34 an34:Option Addr} {sl34:Array (Option Value)} {oc34 kV34 dc34 pm34 cd34 ct34:Value} {f34:Addr}
  {od35 an35:Option Addr} {sl35:Array (Option Value)} {oc35 kV35 dc35 pm35 cd35 ct35:Value} {f35:Addr}
  {od36 an36:Option Addr} {sl36:Array (Option Value)} {oc36 kV36 dc36 pm36 cd36 ct36:Value} {f36:Addr}
  {od37 an37:Option Addr} {sl37:Array (Option Value)} {oc37 kV37 dc37 pm37 cd37 ct37:Value} {f37:Addr}
  {od38 an38:Option Addr} {sl38:Array (Option Value)} {oc38 kV38 dc38 pm38 cd38 ct38:Value} {f38:Addr}
  {od39 an39:Option Addr} {sl39:Array (Option Value)} {oc39 kV39 dc39 pm39 cd39 ct39:Value} {f39:Addr}
  {od40 an40:Option Addr} {sl40:Array (Option Value)} {oc40 kV40 dc40 pm40 cd40 ct40:Value} {f40:Addr}
  {od41 an41:Option Addr} {sl41:Array (Option Value)} {oc41 kV41 dc41 pm41 cd41 ct41:Value} {f41:Addr}
  {od42 an42:Option Addr} {sl42:Array (Option Value)} {oc42 kV42 dc42 pm42 cd42 ct42:Value} {f42:Addr}
  {od43 an43:Option Addr} {sl43:Array (Option Value)} {oc43 kV43 dc43 pm43 cd43 ct43:Value} {f43:Addr}
  {od44 an44:Option Addr} {sl44:Array (Option Value)} {oc44 kV44 dc44 pm44 cd44 ct44:Value} {f44:Addr}
  {od45 an45:Option Addr} {sl45:Array (Option Value)} {oc45 kV45 dc45 pm45 cd45 ct45:Value} {f45:Addr}
  {od46 an46:Option Addr} {sl46:Array (Option Value)} {oc46 kV46 dc46 pm46 cd46 ct46:Value} {f46:Addr}
  {od47 an47:Option Addr} {sl47:Array (Option Value)} {oc47 kV47 dc47 pm47 cd47 ct47:Value} {f47:Addr}
  {od48 an48:Option Addr} {sl48:Array (Option Value)} {oc48 kV48 dc48 pm48 cd48 ct48:Value} {f48:Addr}
  {aa1 aa9 ah1 aa0:Addr}
  (ao4:nsIn K mainGlobals "BitField"=some (some (.ref aa1)))
  (ao5:nsIn K mainGlobals "ByNought"=some (some (.ref aa9)))
  (as4:nsIn K mainGlobals "Field"=some (some (.ref ah1)))
  (aj8:nsIn K mainGlobals "PrimeField"=some (some (.ref aa0)))
  (a0:nsIn K mainGlobals "_law_told"=some (some (.ref f0)))
  (l0:K.lookup f0=some ⟨oc0,od0,.func (fnOf "_law_told" "_law_told" (aP3 ah8) (aO9 ah8) (aO3 ah8) .none kV0 dc0 pm0 an0 cd0 ct0),sl0⟩)
  (c0:codeIn K cd0 "_law_told"=true)
  (k0:keepIn K (.ref f0)=true)
  (a1:nsIn K mainGlobals "powers_of"=some (some (.ref f1)))
  (l1:K.lookup f1=some ⟨oc1,od1,.func (fnOf "powers_of" "powers_of" (aP3 aV8) (aO9 aV8) (aO3 aV8) .none kV1 dc1 pm1 an1 cd1 ct1),sl1⟩)
  (c1:codeIn K cd1 "powers_of"=true)
  (k1:keepIn K (.ref f1)=true)
  (a2:nsIn K mainGlobals "step_powers"=some (some (.ref f2)))
  (l2:K.lookup f2=some ⟨oc2,od2,.func (fnOf "step_powers" "step_powers" (aP3 aU1) (aO9 aU1) (aO3 aU1) .none kV2 dc2 pm2 an2 cd2 ct2),sl2⟩)
  (c2:codeIn K cd2 "step_powers"=true)
  (k2:keepIn K (.ref f2)=true)
  (a3:nsIn K mainGlobals "logs_of"=some (some (.ref f3)))
  (l3:K.lookup f3=some ⟨oc3,od3,.func (fnOf "logs_of" "logs_of" (aP3 a00) (aO9 a00) (aO3 a00) .none kV3 dc3 pm3 an3 cd3 ct3),sl3⟩)
  (c3:codeIn K cd3 "logs_of"=true)
  (k3:keepIn K (.ref f3)=true)
  (a4:findIn K (.ref ah1) "step_power"=some (some (.ref f4)))
  (l4:K.lookup f4=some ⟨oc4,od4,.func (fnOf "step_power" "Field.step_power" (aP3 ac2) (aO9 ac2) (aO3 ac2) .none kV4 dc4 pm4 an4 cd4 ct4),sl4⟩)
  (c4:codeIn K cd4 "Field.step_power"=true)
  (k4:keepIn K (.ref f4)=true)
  (a5:findIn K (.ref ah1) "__init__"=some (some (.ref f5)))
  (l5:K.lookup f5=some ⟨oc5,od5,.func (fnOf "__init__" "Field.__init__" (aP3 ag4) (aO9 ag4) (aO3 ag4) .none kV5 dc5 pm5 an5 cd5 ct5),sl5⟩)
  (c5:codeIn K cd5 "Field.__init__"=true)
  (k5:keepIn K (.ref f5)=true)
  (a6:nsIn K mainGlobals "makes_prime_field"=some (some (.ref f6)))
  (l6:K.lookup f6=some ⟨oc6,od6,.func (fnOf "makes_prime_field" "makes_prime_field" (aP3 aQ9) (aO9 aQ9) (aO3 aQ9) .none kV6 dc6 pm6 an6 cd6 ct6),sl6⟩)
  (c6:codeIn K cd6 "makes_prime_field"=true)
  (k6:keepIn K (.ref f6)=true)
  (a7:findIn K (.ref aa0) "__init__"=some (some (.ref f7)))
  (l7:K.lookup f7=some ⟨oc7,od7,.func (fnOf "__init__" "PrimeField.__init__" (aP3 aa8) (aO9 aa8) (aO3 aa8) .none kV7 dc7 pm7 an7 (.ref ae2) ct7),sl7⟩)
  (c7:codeIn K (.ref ae2) "PrimeField.__init__"=true)
  (k7:keepIn K (.ref f7)=true)
  (aq1:K.lookup ae2=some ⟨aC3,aC1,.fields aq0,aC2⟩)
  (aq2:aq0[11]?=some (.ref aa4))
  (ak0:codeHdIn K ae2 aa4=true)
  (a8:nsIn K mainGlobals "product_rows"=some (some (.ref f8)))
  (l8:K.lookup f8=some ⟨oc8,od8,.func (fnOf "product_rows" "product_rows" (aP3 aT2) (aO9 aT2) (aO3 aT2) .none kV8 dc8 pm8 an8 cd8 ct8),sl8⟩)
  (c8:codeIn K cd8 "product_rows"=true)
  (k8:keepIn K (.ref f8)=true)
  (a9:nsIn K mainGlobals "bits_divided"=some (some (.ref f9)))
  (l9:K.lookup f9=some ⟨oc9,od9,.func (fnOf "bits_divided" "bits_divided" (aP3 aT3) (aO9 aT3) (aO3 aT3) .none kV9 dc9 pm9 an9 cd9 ct9),sl9⟩)
  (c9:codeIn K cd9 "bits_divided"=true)
  (k9:keepIn K (.ref f9)=true)
  (a10:nsIn K mainGlobals "stands_alone"=some (some (.ref f10)))
  (l10:K.lookup f10=some ⟨oc10,od10,.func (fnOf "stands_alone" "stands_alone" (aP3 aT5) (aO9 aT5) (aO3 aT5) .none kV10 dc10 pm10 an10 cd10 ct10),sl10⟩)
  (c10:codeIn K cd10 "stands_alone"=true)
  (k10:keepIn K (.ref f10)=true)
  (a11:nsIn K mainGlobals "makes_bit_field"=some (some (.ref f11)))
  (l11:K.lookup f11=some ⟨oc11,od11,.func (fnOf "makes_bit_field" "makes_bit_field" (aP3 aR5) (aO9 aR5) (aO3 aR5) .none kV11 dc11 pm11 an11 cd11 ct11),sl11⟩)
  (c11:codeIn K cd11 "makes_bit_field"=true)
  (k11:keepIn K (.ref f11)=true)
  (a12:nsIn K mainGlobals "bits_times"=some (some (.ref f12)))
  (l12:K.lookup f12=some ⟨oc12,od12,.func (fnOf "bits_times" "bits_times" (aP3 aU5) (aO9 aU5) (aO3 aU5) .none kV12 dc12 pm12 an12 cd12 ct12),sl12⟩)
  (c12:codeIn K cd12 "bits_times"=true)
  (k12:keepIn K (.ref f12)=true)
  (a13:findIn K (.ref aa1) "__init__"=some (some (.ref f13)))
  (l13:K.lookup f13=some ⟨oc13,od13,.func (fnOf "__init__" "BitField.__init__" (aP3 ab2) (aO9 ab2) (aO3 ab2) .none kV13 dc13 pm13 an13 (.ref af2) ct13),sl13⟩)
  (c13:codeIn K (.ref af2) "BitField.__init__"=true)
  (k13:keepIn K (.ref f13)=true)
  (au2:K.lookup af2=some ⟨aE9,aE7,.fields au1,aE8⟩)
  (au3:au1[11]?=some (.ref aa6))
  (am4:codeHdIn K af2 aa6=true)
  (a14:nsIn K mainGlobals "_law_field"=some (some (.ref f14)))
  (l14:K.lookup f14=some ⟨oc14,od14,.func (fnOf "_law_field" "_law_field" (aP3 ag5) (aO9 ag5) (aO3 ag5) .none kV14 dc14 pm14 an14 cd14 ct14),sl14⟩)
  (c14:codeIn K cd14 "_law_field"=true)
  (k14:keepIn K (.ref f14)=true)
  (a15:nsIn K mainGlobals "_law_many"=some (some (.ref f15)))
  (l15:K.lookup f15=some ⟨oc15,od15,.func (fnOf "_law_many" "_law_many" (aP3 ah9) (aO9 ah9) (aO3 ah9) .none kV15 dc15 pm15 an15 cd15 ct15),sl15⟩)
  (c15:codeIn K cd15 "_law_many"=true)
  (k15:keepIn K (.ref f15)=true)
  (a16:nsIn K mainGlobals "_law_times"=some (some (.ref f16)))
  (l16:K.lookup f16=some ⟨oc16,od16,.func (fnOf "_law_times" "_law_times" (aP3 ag6) (aO9 ag6) (aO3 ag6) .none kV16 dc16 pm16 an16 cd16 ct16),sl16⟩)
  (c16:codeIn K cd16 "_law_times"=true)
  (k16:keepIn K (.ref f16)=true)
  (a17:nsIn K mainGlobals "_law_cell"=some (some (.ref f17)))
  (l17:K.lookup f17=some ⟨oc17,od17,.func (fnOf "_law_cell" "_law_cell" (aP3 ai0) (aO9 ai0) (aO3 ai0) .none kV17 dc17 pm17 an17 cd17 ct17),sl17⟩)
  (c17:codeIn K cd17 "_law_cell"=true)
  (k17:keepIn K (.ref f17)=true)
  (a18:nsIn K mainGlobals "_law_powers"=some (some (.ref f18)))
  (l18:K.lookup f18=some ⟨oc18,od18,.func (fnOf "_law_powers" "_law_powers" (aP3 af5) (aO9 af5) (aO3 af5) .none kV18 dc18 pm18 an18 cd18 ct18),sl18⟩)
  (c18:codeIn K cd18 "_law_powers"=true)
  (k18:keepIn K (.ref f18)=true)
  (a19:nsIn K mainGlobals "_law_copy"=some (some (.ref f19)))
  (l19:K.lookup f19=some ⟨oc19,od19,.func (fnOf "_law_copy" "_law_copy" (aP3 ai1) (aO9 ai1) (aO3 ai1) .none kV19 dc19 pm19 an19 cd19 ct19),sl19⟩)
  (c19:codeIn K cd19 "_law_copy"=true)
  (k19:keepIn K (.ref f19)=true)
  (a20:nsIn K mainGlobals "width_of"=some (some (.ref f20)))
  (l20:K.lookup f20=some ⟨oc20,od20,.func (fnOf "width_of" "width_of" (aP3 aY0) (aO9 aY0) (aO3 aY0) .none kV20 dc20 pm20 an20 cd20 ct20),sl20⟩)
  (c20:codeIn K cd20 "width_of"=true)
  (k20:keepIn K (.ref f20)=true)
  (a21:nsIn K mainGlobals "turned"=some (some (.ref f21)))
  (l21:K.lookup f21=some ⟨oc21,od21,.func (fnOf "turned" "turned" (aP3 a86) (aO9 a86) (aO3 a86) .none kV21 dc21 pm21 an21 cd21 ct21),sl21⟩)
  (c21:codeIn K cd21 "turned"=true)
  (k21:keepIn K (.ref f21)=true)
  (a22:nsIn K mainGlobals "is_nought"=some (some (.ref f22)))
  (l22:K.lookup f22=some ⟨oc22,od22,.func (fnOf "is_nought" "is_nought" (aP3 aV6) (aO9 aV6) (aO3 aV6) .none kV22 dc22 pm22 an22 cd22 ct22),sl22⟩)
  (c22:codeIn K cd22 "is_nought"=true)
  (k22:keepIn K (.ref f22)=true)
  (a23:findIn K (.ref ah1) "over"=some (some (.ref f23)))
  (l23:K.lookup f23=some ⟨oc23,od23,.func (fnOf "over" "Field.over" (aP3 ag7) (aO9 ag7) (aO3 ag7) .none kV23 dc23 pm23 an23 cd23 ct23),sl23⟩)
  (c23:codeIn K cd23 "Field.over"=true)
  (k23:keepIn K (.ref f23)=true)
  (a24:findIn K (.ref aa1) "lessened"=some (some (.ref f24)))
  (l24:K.lookup f24=some ⟨oc24,od24,.func (fnOf "lessened" "BitField.lessened" (aP3 ab9) (aO9 ab9) (aO3 ab9) .none kV24 dc24 pm24 an24 cd24 ct24),sl24⟩)
  (c24:codeIn K cd24 "BitField.lessened"=true)
  (k24:keepIn K (.ref f24)=true)
  (a25:findIn K (.ref aa0) "lessened"=some (some (.ref f25)))
  (l25:K.lookup f25=some ⟨oc25,od25,.func (fnOf "lessened" "PrimeField.lessened" (aP3 ab3) (aO9 ab3) (aO3 ab3) .none kV25 dc25 pm25 an25 cd25 ct25),sl25⟩)
  (c25:codeIn K cd25 "PrimeField.lessened"=true)
  (k25:keepIn K (.ref f25)=true)
  (a26:findIn K (.ref aa1) "times"=some (some (.ref f26)))
  (l26:K.lookup f26=some ⟨oc26,od26,.func (fnOf "times" "BitField.times" (aP3 ad3) (aO9 ad3) (aO3 ad3) .none kV26 dc26 pm26 an26 cd26 ct26),sl26⟩)
  (c26:codeIn K cd26 "BitField.times"=true)
  (k26:keepIn K (.ref f26)=true)
  (a27:findIn K (.ref aa0) "times"=some (some (.ref f27)))
  (l27:K.lookup f27=some ⟨oc27,od27,.func (fnOf "times" "PrimeField.times" (aP3 ac4) (aO9 ac4) (aO3 ac4) .none kV27 dc27 pm27 an27 cd27 ct27),sl27⟩)
  (c27:codeIn K cd27 "PrimeField.times"=true)
  (k27:keepIn K (.ref f27)=true)
  (a28:nsIn K mainGlobals "past"=some (some (.ref f28)))
  (l28:K.lookup f28=some ⟨oc28,od28,.func (fnOf "past" "past" (aP3 bk3) (aO9 bk3) (aO3 bk3) .none kV28 dc28 pm28 an28 cd28 ct28),sl28⟩)
  (c28:codeIn K cd28 "past"=true)
  (k28:keepIn K (.ref f28)=true)
  (a29:nsIn K mainGlobals "first_bound"=some (some (.ref f29)))
  (l29:K.lookup f29=some ⟨oc29,od29,.func (fnOf "first_bound" "first_bound" (aP3 aU0) (aO9 aU0) (aO3 aU0) .none kV29 dc29 pm29 an29 cd29 ct29),sl29⟩)
  (c29:codeIn K cd29 "first_bound"=true)
  (k29:keepIn K (.ref f29)=true)
  (a30:nsIn K mainGlobals "leads"=some (some (.ref f30)))
  (l30:K.lookup f30=some ⟨oc30,od30,.func (fnOf "leads" "leads" (aP3 bd0) (aO9 bd0) (aO3 bd0) .none kV30 dc30 pm30 an30 cd30 ct30),sl30⟩)
  (c30:codeIn K cd30 "leads"=true)
  (k30:keepIn K (.ref f30)=true)
  (a31:nsIn K mainGlobals "free_places"=some (some (.ref f31)))
  (l31:K.lookup f31=some ⟨oc31,od31,.func (fnOf "free_places" "free_places" (aP3 aT9) (aO9 aT9) (aO3 aT9) .none kV31 dc31 pm31 an31 cd31 ct31),sl31⟩)
  (c31:codeIn K cd31 "free_places"=true)
  (k31:keepIn K (.ref f31)=true)
  (a32:findIn K (.ref aa1) "minus"=some (some (.ref f32)))
  (l32:K.lookup f32=some ⟨oc32,od32,.func (fnOf "minus" "BitField.minus" (aP3 ad4) (aO9 ad4) (aO3 ad4) .none kV32 dc32 pm32 an32 cd32 ct32),sl32⟩)
  (c32:codeIn K cd32 "BitField.minus"=true)
  (k32:keepIn K (.ref f32)=true)
  (a33:findIn K (.ref aa0) "minus"=some (some (.ref f33)))
  (l33:K.lookup f33=some ⟨oc33,od33,.func (fnOf "minus" "PrimeField.minus" (aP3 ac6) (aO9 ac6) (aO3 ac6) .none kV33 dc33 pm33 an33 cd33 ct33),sl33⟩)
  (c33:codeIn K cd33 "PrimeField.minus"=true)
  (k33:keepIn K (.ref f33)=true)
  (a34:nsIn K mainGlobals "kernel_of_reduced"=some (some (.ref f34)))
  (l34:K.lookup f34=some ⟨oc34,od34,.func (fnOf "kernel_of_reduced" "kernel_of_reduced" (aP3 aR0) (aO9 aR0) (aO3 aR0) .none kV34 dc34 pm34 an34 cd34 ct34),sl34⟩)
  (c34:codeIn K cd34 "kernel_of_reduced"=true)
  (k34:keepIn K (.ref f34)=true)
  (a35:nsIn K mainGlobals "first_with"=some (some (.ref f35)))
  (l35:K.lookup f35=some ⟨oc35,od35,.func (fnOf "first_with" "first_with" (aP3 aU8) (aO9 aU8) (aO3 aU8) .none kV35 dc35 pm35 an35 cd35 ct35),sl35⟩)
  (c35:codeIn K cd35 "first_with"=true)
  (k35:keepIn K (.ref f35)=true)
  (a36:findIn K (.ref aa1) "scaled"=some (some (.ref f36)))
  (l36:K.lookup f36=some ⟨oc36,od36,.func (fnOf "scaled" "BitField.scaled" (aP3 ad0) (aO9 ad0) (aO3 ad0) .none kV36 dc36 pm36 an36 cd36 ct36),sl36⟩)
  (c36:codeIn K cd36 "BitField.scaled"=true)
  (k36:keepIn K (.ref f36)=true)
  (a37:findIn K (.ref aa0) "scaled"=some (some (.ref f37)))
  (l37:K.lookup f37=some ⟨oc37,od37,.func (fnOf "scaled" "PrimeField.scaled" (aP3 ac0) (aO9 ac0) (aO3 ac0) .none kV37 dc37 pm37 an37 cd37 ct37),sl37⟩)
  (c37:codeIn K cd37 "PrimeField.scaled"=true)
  (k37:keepIn K (.ref f37)=true)
  (a38:nsIn K mainGlobals "cleared"=some (some (.ref f38)))
  (l38:K.lookup f38=some ⟨oc38,od38,.func (fnOf "cleared" "cleared" (aP3 a06) (aO9 a06) (aO3 a06) .none kV38 dc38 pm38 an38 cd38 ct38),sl38⟩)
  (c38:codeIn K cd38 "cleared"=true)
  (k38:keepIn K (.ref f38)=true)
  (a39:nsIn K mainGlobals "reduced"=some (some (.ref f39)))
  (l39:K.lookup f39=some ⟨oc39,od39,.func (fnOf "reduced" "reduced" (aP3 a01) (aO9 a01) (aO3 a01) .none kV39 dc39 pm39 an39 cd39 ct39),sl39⟩)
  (c39:codeIn K cd39 "reduced"=true)
  (k39:keepIn K (.ref f39)=true)
  (a40:nsIn K mainGlobals "kernel"=some (some (.ref f40)))
  (l40:K.lookup f40=some ⟨oc40,od40,.func (fnOf "kernel" "kernel" (aP3 a89) (aO9 a89) (aO3 a89) .none kV40 dc40 pm40 an40 cd40 ct40),sl40⟩)
  (c40:codeIn K cd40 "kernel"=true)
  (k40:keepIn K (.ref f40)=true)
  (a41:nsIn K mainGlobals "picked"=some (some (.ref f41)))
  (l41:K.lookup f41=some ⟨oc41,od41,.func (fnOf "picked" "picked" (aP3 a88) (aO9 a88) (aO3 a88) .none kV41 dc41 pm41 an41 cd41 ct41),sl41⟩)
  (c41:codeIn K cd41 "picked"=true)
  (k41:keepIn K (.ref f41)=true)
  (a42:nsIn K mainGlobals "lightest_row"=some (some (.ref f42)))
  (l42:K.lookup f42=some ⟨oc42,od42,.func (fnOf "lightest_row" "lightest_row" (aP3 aT4) (aO9 aT4) (aO3 aT4) .none kV42 dc42 pm42 an42 cd42 ct42),sl42⟩)
  (c42:codeIn K cd42 "lightest_row"=true)
  (k42:keepIn K (.ref f42)=true)
  (a43:nsIn K mainGlobals "_law_whole"=some (some (.ref f43)))
  (l43:K.lookup f43=some ⟨oc43,od43,.func (fnOf "_law_whole" "_law_whole" (aP3 ag8) (aO9 ag8) (aO3 ag8) .none kV43 dc43 pm43 an43 cd43 ct43),sl43⟩)
  (c43:codeIn K cd43 "_law_whole"=true)
  (k43:keepIn K (.ref f43)=true)
  (a44:nsIn K mainGlobals "_law_row_kind"=some (some (.ref f44)))
  (l44:K.lookup f44=some ⟨oc44,od44,.func (fnOf "_law_row_kind" "_law_row_kind" (aP3 ae5) (aO9 ae5) (aO3 ae5) .none kV44 dc44 pm44 an44 cd44 ct44),sl44⟩)
  (c44:codeIn K cd44 "_law_row_kind"=true)
  (k44:keepIn K (.ref f44)=true)
  (a45:nsIn K mainGlobals "_law_plus"=some (some (.ref f45)))
  (l45:K.lookup f45=some ⟨oc45,od45,.func (fnOf "_law_plus" "_law_plus" (aP3 ai2) (aO9 ai2) (aO3 ai2) .none kV45 dc45 pm45 an45 cd45 ct45),sl45⟩)
  (c45:codeIn K cd45 "_law_plus"=true)
  (k45:keepIn K (.ref f45)=true)
  (a46:nsIn K mainGlobals "_law_dot"=some (some (.ref f46)))
  (l46:K.lookup f46=some ⟨oc46,od46,.func (fnOf "_law_dot" "_law_dot" (aP3 ak3) (aO9 ak3) (aO3 ak3) .none kV46 dc46 pm46 an46 cd46 ct46),sl46⟩)
  (c46:codeIn K cd46 "_law_dot"=true)
  (k46:keepIn K (.ref f46)=true)
  (a47:nsIn K mainGlobals "_law_light"=some (some (.ref f47)))
  (l47:K.lookup f47=some ⟨oc47,od47,.func (fnOf "_law_light" "_law_light" (aP3 ag9) (aO9 ag9) (aO3 ag9) .none kV47 dc47 pm47 an47 cd47 ct47),sl47⟩)
  (c47:codeIn K cd47 "_law_light"=true)
  (k47:keepIn K (.ref f47)=true)
  (a48:nsIn K mainGlobals "law"=some (some (.ref f48)))
  (l48:K.lookup f48=some ⟨oc48,od48,.func (fnOf "law" "law" (aP3 bn3) (aO9 bn3) (aO3 bn3) .none kV48 dc48 pm48 an48 cd48 ct48),sl48⟩)
  (c48:codeIn K cd48 "law"=true)
  (k48:keepIn K (.ref f48)=true)
  (ap4:PySem.W.plainGet K aa1 Str.empty=true)
  (ap5:PySem.W.hasDictIn K aa1=true)
  (ap6:PySem.W.plainOver K aa1=true)
  (ap7:findIn K (.ref aa1) "__setattr__"=some (some (.builtin "object.__setattr__")))
  (al3:PySem.W.makesIn K aa1=true)
  (aw3:findIn K (.ref aa1) "__init__"=some (some (.ref f13)))
  (aw4:isFn K (.ref f13)=true)
  (aw5:keepIn K (.ref aa1)=true)
  (aw6:findIn K (.ref aa1) "__class__"=some (some (.builtin "object.__class__")))
  (aw7:specialIn K (.builtin "object.__class__") "__get__"=some (some (.builtin "getset_descriptor.__get__")))
  (aw8:takesIn K (.builtin "object.__class__")=some true)
  (aw9:mroIn K aa1 (.type "object")=some true)
  (ae8:findIn K (.ref aa1) "bits"=some none)
  (ab4:findIn K (.ref aa1) "logs"=some none)
  (ad5:findIn K (.ref aa1) "many"=some none)
  (ab5:findIn K (.ref aa1) "powers"=some none)
  (ag2:findIn K (.ref aa1) "prime"=some none)
  (aa7:findIn K (.ref aa1) "products"=some none)
  (ae9:findIn K (.ref aa1) "step"=some none)
  (af0:findIn K (.ref aa1) "wide"=some none)
  (ac8:findIn K (.ref aa1) "lessened"=some (some (.ref f24)))
  (ah5:isFn K (.ref f24)=true)
  (ae6:findIn K (.ref aa1) "minus"=some (some (.ref f32)))
  (ak8:isFn K (.ref f32)=true)
  (af1:findIn K (.ref aa1) "over"=some (some (.ref f23)))
  (am5:isFn K (.ref f23)=true)
  (ad8:findIn K (.ref aa1) "scaled"=some (some (.ref f36)))
  (ak1:isFn K (.ref f36)=true)
  (ab1:findIn K (.ref aa1) "step_power"=some (some (.ref f4)))
  (ag0:isFn K (.ref f4)=true)
  (ae7:findIn K (.ref aa1) "times"=some (some (.ref f26)))
  (ak9:isFn K (.ref f26)=true)
  (al7:PySem.W.plainGet K aa0 Str.empty=true)
  (al8:PySem.W.hasDictIn K aa0=true)
  (al9:PySem.W.plainOver K aa0=true)
  (am0:findIn K (.ref aa0) "__setattr__"=some (some (.builtin "object.__setattr__")))
  (ah7:PySem.W.makesIn K aa0=true)
  (ar1:findIn K (.ref aa0) "__init__"=some (some (.ref f7)))
  (ar2:isFn K (.ref f7)=true)
  (ar3:keepIn K (.ref aa0)=true)
  (ar4:findIn K (.ref aa0) "__class__"=some (some (.builtin "object.__class__")))
  (ar5:specialIn K (.builtin "object.__class__") "__get__"=some (some (.builtin "getset_descriptor.__get__")))
  (ar6:takesIn K (.builtin "object.__class__")=some true)
  (ar7:mroIn K aa0 (.type "object")=some true)
  (af8:findIn K (.ref aa0) "bits"=some none)
  (ab6:findIn K (.ref aa0) "logs"=some none)
  (ac7:findIn K (.ref aa0) "many"=some none)
  (ab8:findIn K (.ref aa0) "powers"=some none)
  (aa5:findIn K (.ref aa0) "prime"=some none)
  (ad6:findIn K (.ref aa0) "products"=some none)
  (ad9:findIn K (.ref aa0) "step"=some none)
  (ae0:findIn K (.ref aa0) "wide"=some none)
  (ac1:findIn K (.ref aa0) "lessened"=some (some (.ref f25)))
  (ag1:isFn K (.ref f25)=true)
  (ad1:findIn K (.ref aa0) "minus"=some (some (.ref f33)))
  (aj1:isFn K (.ref f33)=true)
  (ae1:findIn K (.ref aa0) "over"=some (some (.ref f23)))
  (ak2:isFn K (.ref f23)=true)
  (ac9:findIn K (.ref aa0) "scaled"=some (some (.ref f37)))
  (ah6:isFn K (.ref f37)=true)
  (ab0:findIn K (.ref aa0) "step_power"=some (some (.ref f4)))
  (af3:isFn K (.ref f4)=true)
  (ad2:findIn K (.ref aa0) "times"=some (some (.ref f27)))
  (aj2:isFn K (.ref f27)=true)
  (ar8:specialIn K (.ref ah1) "__getattribute__"=some (some (.builtin "type.__getattribute__")))
  (ar9:PySem.W.readsIn K ah1 (.type "type")=true)
  (as0:PySem.W.findCls K (.ref ah1) (.type "type") "__init__"=some (.val (.ref f5)))
  (z_all:nsIn K mainGlobals "all"=some none)
  (z_any:nsIn K mainGlobals "any"=some none)
  (z_bool:nsIn K mainGlobals "bool"=some none)
  (z_enumerate:nsIn K mainGlobals "enumerate"=some none)
  (z_int:nsIn K mainGlobals "int"=some none)
  (z_isinstance:nsIn K mainGlobals "isinstance"=some none)
  (z_len:nsIn K mainGlobals "len"=some none)
  (z_list:nsIn K mainGlobals "list"=some none)
  (z_min:nsIn K mainGlobals "min"=some none)
  (z_range:nsIn K mainGlobals "range"=some none)
  (z_zip:nsIn K mainGlobals "zip"=some none)
  (ax0:(PySem.W.clsIn K aa9).isSome=true)
  (aD6:PySem.W.typeIn K (.ref aa9)=some (.type "type"))
  (ax1:PySem.W.excIn K aa9 [.type "ValueError",.type "Exception",.type "BaseException",.type "object"] "ValueError.__new__"=true)
  (au4:findIn K (.ref aa9) "__getattribute__"=some (some (.builtin "BaseException.__getattribute__")))
  (au5:findIn K (.ref aa9) "__getattr__"=some none)
  (au6:findIn K (.ref aa9) "__class__"=some (some (.builtin "object.__class__")))
  (au7:specialIn K (.builtin "object.__class__") "__get__"=some (some (.builtin "getset_descriptor.__get__")))
  (au8:takesIn K (.builtin "object.__class__")=some true)
  (au9:mroIn K aa9 (.type "object")=some true)
  (av0:mroIn K aa9 (.type "BaseException")=some true)
  (nl:K.all (λp=>bM2 p.2)=true)
  (sub:∀P∈[aa4,aa6],P∈ts) :
  ∃fd:FuncData,(∀(s:Shared) (v:Value),BindsTo s fd ⟨[v],[]⟩ [("_law_script",v)])/\∀base:Heap,K.In base->base.Ns mainGlobals mg->Bm mg base->FnOk l.prog w K mg base CX0 11 fa fd ["_law_script"] (bm3 ts K):=by
 have e:=hfa.symm.trans (mg_of X G a48)
 cases e
 have F0:=aQ2 (st:=ah8) l0 c0 k0
 have b0:=F0.binds (ps:=["_law_cell_here"]) λ_ _ _ _ _ _=>aY7 (λ_=>rfl)
 have F1:=aQ2 (st:=aV8) l1 c1 k1
 have b1:=F1.binds (ps:=["a","product"]) λ_ _ _ _ _ _=>aW3 (λ_ _=>rfl)
 have F2:=aQ2 (st:=aU1) l2 c2 k2
 have b2:=F2.binds (ps:=["many","product"]) λ_ _ _ _ _ _=>aW3 (λ_ _=>rfl)
 have F3:=aQ2 (st:=a00) l3 c3 k3
 have b3:=F3.binds (ps:=["powers"]) λ_ _ _ _ _ _=>aY7 (λ_=>rfl)
 have F4:=aQ2 (st:=ac2) l4 c4 k4
 have b4:=F4.binds (ps:=["self","n"]) λ_ _ _ _ _ _=>aW3 (λ_ _=>rfl)
 have F5:=aQ2 (st:=ag4) l5 c5 k5
 have b5:=F5.binds (ps:=["self","many","product"]) λ_ _ _ _ _ _=>aY3 (λ_ _ _=>rfl)
 have F6:=aQ2 (st:=aQ9) l6 c6 k6
 have b6:=F6.binds (ps:=["prime"]) λ_ _ _ _ _ _=>aY7 (λ_=>rfl)
 have F7:=aQ2 (st:=aa8) l7 c7 k7
 have b7:=F7.binds (ps:=["self","prime"]) λ_ _ _ _ _ _=>aW3 (λ_ _=>rfl)
 have F8:=aQ2 (st:=aT2) l8 c8 k8
 have b8:=F8.binds (ps:=["powers","logs"]) λ_ _ _ _ _ _=>aW3 (λ_ _=>rfl)
 have F9:=aQ2 (st:=aT3) l9 c9 k9
 have b9:=F9.binds (ps:=["a","b"]) λ_ _ _ _ _ _=>aW3 (λ_ _=>rfl)
 have F10:=aQ2 (st:=aT5) l10 c10 k10
 have b10:=F10.binds (ps:=["a"]) λ_ _ _ _ _ _=>aY7 (λ_=>rfl)
 have F11:=aQ2 (st:=aR5) l11 c11 k11
 have b11:=F11.binds (ps:=["bits"]) λ_ _ _ _ _ _=>aY7 (λ_=>rfl)
 have F12:=aQ2 (st:=aU5) l12 c12 k12
 have b12:=F12.binds (ps:=["a","b"]) λ_ _ _ _ _ _=>aW3 (λ_ _=>rfl)
 have F13:=aQ2 (st:=ab2) l13 c13 k13
 have b13:=F13.binds (ps:=["self","bits"]) λ_ _ _ _ _ _=>aW3 (λ_ _=>rfl)
 have F14:=aQ2 (st:=ag5) l14 c14 k14
 have b14:=F14.binds (ps:=["_law_told_here"]) λ_ _ _ _ _ _=>aY7 (λ_=>rfl)
 have F15:=aQ2 (st:=ah9) l15 c15 k15
 have b15:=F15.binds (ps:=["_law_told_here"]) λ_ _ _ _ _ _=>aY7 (λ_=>rfl)
 have F16:=aQ2 (st:=ag6) l16 c16 k16
 have b16:=F16.binds (ps:=["_law_told_here","_law_a","_law_b"]) λ_ _ _ _ _ _=>aY3 (λ_ _ _=>rfl)
 have F17:=aQ2 (st:=ai0) l17 c17 k17
 have b17:=F17.binds (ps:=["_law_script","_law_k"]) λ_ _ _ _ _ _=>aW3 (λ_ _=>rfl)
 have F18:=aQ2 (st:=af5) l18 c18 k18
 have b18:=F18.binds (ps:=["_law_told_here","_law_script","_law_rows","_law_wide","_law_cell_here"]) λ_ _ _ _ _ _=>cm6 (λ_ _ _ _ _=>rfl)
 have F19:=aQ2 (st:=ai1) l19 c19 k19
 have b19:=F19.binds (ps:=["_law_table"]) λ_ _ _ _ _ _=>aY7 (λ_=>rfl)
 have F20:=aQ2 (st:=aY0) l20 c20 k20
 have b20:=F20.binds (ps:=["table"]) λ_ _ _ _ _ _=>aY7 (λ_=>rfl)
 have F21:=aQ2 (st:=a86) l21 c21 k21
 have b21:=F21.binds (ps:=["table"]) λ_ _ _ _ _ _=>aY7 (λ_=>rfl)
 have F22:=aQ2 (st:=aV6) l22 c22 k22
 have b22:=F22.binds (ps:=["column"]) λ_ _ _ _ _ _=>aY7 (λ_=>rfl)
 have F23:=aQ2 (st:=ag7) l23 c23 k23
 have b23:=F23.binds (ps:=["self","a","b"]) λ_ _ _ _ _ _=>aY3 (λ_ _ _=>rfl)
 have F24:=aQ2 (st:=ab9) l24 c24 k24
 have b24:=F24.binds (ps:=["self","row","a","other"]) λ_ _ _ _ _ _=>bp8 (λ_ _ _ _=>rfl)
 have F25:=aQ2 (st:=ab3) l25 c25 k25
 have b25:=F25.binds (ps:=["self","row","a","other"]) λ_ _ _ _ _ _=>bp8 (λ_ _ _ _=>rfl)
 have F26:=aQ2 (st:=ad3) l26 c26 k26
 have b26:=F26.binds (ps:=["self","a","b"]) λ_ _ _ _ _ _=>aY3 (λ_ _ _=>rfl)
 have F27:=aQ2 (st:=ac4) l27 c27 k27
 have b27:=F27.binds (ps:=["self","a","b"]) λ_ _ _ _ _ _=>aY3 (λ_ _ _=>rfl)
 have F28:=aQ2 (st:=bk3) l28 c28 k28
 have b28:=F28.binds (ps:=["field","column","others"]) λ_ _ _ _ _ _=>aY3 (λ_ _ _=>rfl)
 have F29:=aQ2 (st:=aU0) l29 c29 k29
 have b29:=F29.binds (ps:=["field","table"]) λ_ _ _ _ _ _=>aW3 (λ_ _=>rfl)
 have F30:=aQ2 (st:=bd0) l30 c30 k30
 have b30:=F30.binds (ps:=["rows"]) λ_ _ _ _ _ _=>aY7 (λ_=>rfl)
 have F31:=aQ2 (st:=aT9) l31 c31 k31
 have b31:=F31.binds (ps:=["rows","width"]) λ_ _ _ _ _ _=>aW3 (λ_ _=>rfl)
 have F32:=aQ2 (st:=ad4) l32 c32 k32
 have b32:=F32.binds (ps:=["self","a","b"]) λ_ _ _ _ _ _=>aY3 (λ_ _ _=>rfl)
 have F33:=aQ2 (st:=ac6) l33 c33 k33
 have b33:=F33.binds (ps:=["self","a","b"]) λ_ _ _ _ _ _=>aY3 (λ_ _ _=>rfl)
 have F34:=aQ2 (st:=aR0) l34 c34 k34
 have b34:=F34.binds (ps:=["field","rows","width"]) λ_ _ _ _ _ _=>aY3 (λ_ _ _=>rfl)
 have F35:=aQ2 (st:=aU8) l35 c35 k35
 have b35:=F35.binds (ps:=["rows","place"]) λ_ _ _ _ _ _=>aW3 (λ_ _=>rfl)
 have F36:=aQ2 (st:=ad0) l36 c36 k36
 have b36:=F36.binds (ps:=["self","a","row"]) λ_ _ _ _ _ _=>aY3 (λ_ _ _=>rfl)
 have F37:=aQ2 (st:=ac0) l37 c37 k37
 have b37:=F37.binds (ps:=["self","a","row"]) λ_ _ _ _ _ _=>aY3 (λ_ _ _=>rfl)
 have F38:=aQ2 (st:=a06) l38 c38 k38
 have b38:=F38.binds (ps:=["field","rows","lead_row","place"]) λ_ _ _ _ _ _=>bp8 (λ_ _ _ _=>rfl)
 have F39:=aQ2 (st:=a01) l39 c39 k39
 have b39:=F39.binds (ps:=["field","table"]) λ_ _ _ _ _ _=>aW3 (λ_ _=>rfl)
 have F40:=aQ2 (st:=a89) l40 c40 k40
 have b40:=F40.binds (ps:=["field","table"]) λ_ _ _ _ _ _=>aW3 (λ_ _=>rfl)
 have F41:=aQ2 (st:=a88) l41 c41 k41
 have b41:=F41.binds (ps:=["table","places"]) λ_ _ _ _ _ _=>aW3 (λ_ _=>rfl)
 have F42:=aQ2 (st:=aT4) l42 c42 k42
 have b42:=F42.binds (ps:=["field","table"]) λ_ _ _ _ _ _=>aW3 (λ_ _=>rfl)
 have F43:=aQ2 (st:=ag8) l43 c43 k43
 have b43:=F43.binds (ps:=["_law_x"]) λ_ _ _ _ _ _=>aY7 (λ_=>rfl)
 have F44:=aQ2 (st:=ae5) l44 c44 k44
 have b44:=F44.binds (ps:=["_law_row","_law_wide","_law_many_here"]) λ_ _ _ _ _ _=>aY3 (λ_ _ _=>rfl)
 have F45:=aQ2 (st:=ai2) l45 c45 k45
 have b45:=F45.binds (ps:=["_law_told_here","_law_a","_law_b"]) λ_ _ _ _ _ _=>aY3 (λ_ _ _=>rfl)
 have F46:=aQ2 (st:=ak3) l46 c46 k46
 have b46:=F46.binds (ps:=["_law_told_here","_law_xs","_law_ys"]) λ_ _ _ _ _ _=>aY3 (λ_ _ _=>rfl)
 have F47:=aQ2 (st:=ag9) l47 c47 k47
 have b47:=F47.binds (ps:=["_law_told_here","_law_table","_law_found","_law_row"]) λ_ _ _ _ _ _=>bp8 (λ_ _ _ _=>rfl)
 have F48:=aQ2 (st:=bn3) l48 c48 k48
 have b48:=F48.binds (ps:=["_law_script"]) λ_ _ _ _ _ _=>aY7 (λ_=>rfl)
 have T:Txt K mg ⟨f0,_,f1,_,f2,_,f3,_,f4,_,f5,_,f6,_,f7,_,f8,_,f9,_,f10,_,f11,_,f12,_,f13,_,f14,_,f15,_,f16,_,f17,_,f18,_,f19,_,f20,_,f21,_,f22,_,f23,_,f24,_,f25,_,f26,_,f27,_,f28,_,f29,_,f30,_,f31,_,f32,_,f33,_,f34,_,f35,_,f36,_,f37,_,f38,_,f39,_,f40,_,f41,_,f42,_,f43,_,f44,_,f45,_,f46,_,f47,_,fa,_,ae2,aa4,af2,aa6,aa1,aa9,ah1,aa0⟩:=⟨F0,mg_of X G a0,b0,F1,mg_of X G a1,b1,F2,mg_of X G a2,b2,F3,mg_of X G a3,b3,F4,b4,F5,b5,F6,mg_of X G a6,b6,F7,b7,F8,mg_of X G a8,b8,F9,mg_of X G a9,b9,F10,mg_of X G a10,b10,F11,mg_of X G a11,b11,F12,mg_of X G a12,b12,F13,b13,F14,mg_of X G a14,b14,F15,mg_of X G a15,b15,F16,mg_of X G a16,b16,F17,mg_of X G a17,b17,F18,mg_of X G a18,b18,F19,mg_of X G a19,b19,F20,mg_of X G a20,b20,F21,mg_of X G a21,b21,F22,mg_of X G a22,b22,F23,b23,F24,b24,F25,b25,F26,b26,F27,b27,F28,mg_of X G a28,b28,F29,mg_of X G a29,b29,F30,mg_of X G a30,b30,F31,mg_of X G a31,b31,F32,b32,F33,b33,F34,mg_of X G a34,b34,F35,mg_of X G a35,b35,F36,b36,F37,b37,F38,mg_of X G a38,b38,F39,mg_of X G a39,b39,F40,mg_of X G a40,b40,F41,mg_of X G a41,b41,F42,mg_of X G a42,b42,F43,mg_of X G a43,b43,F44,mg_of X G a44,b44,F45,mg_of X G a45,b45,F46,mg_of X G a46,b46,F47,mg_of X G a47,b47,F48,mg_of X G a48,b48,rfl,ak0,rfl,am4,⟨ap4,ap5,ap6,ap7⟩,⟨al3,aw3,aw4,aw5⟩,⟨⟨ap4,ap5,ap6,ap7⟩,aw6,aw7,aw8,aw9⟩,ae8,ab4,ad5,ab5,ag2,aa7,ae9,af0,⟨ac8,ah5,k24⟩,⟨ae6,ak8,k32⟩,⟨af1,am5,k23⟩,⟨ad8,ak1,k36⟩,⟨ab1,ag0,k4⟩,⟨ae7,ak9,k26⟩,⟨al7,al8,al9,am0⟩,⟨ah7,ar1,ar2,ar3⟩,⟨⟨al7,al8,al9,am0⟩,ar4,ar5,ar6,ar7⟩,af8,ab6,ac7,ab8,aa5,ad6,ad9,ae0,⟨ac1,ag1,k25⟩,⟨ad1,aj1,k33⟩,⟨ae1,ak2,k23⟩,⟨ac9,ah6,k37⟩,⟨ab0,af3,k4⟩,⟨ad2,aj2,k27⟩,⟨ar8,ar9,as0,k5⟩,mg_none_of X G z_all,mg_none_of X G z_any,mg_none_of X G z_bool,mg_none_of X G z_enumerate,mg_none_of X G z_int,mg_none_of X G z_isinstance,mg_none_of X G z_len,mg_none_of X G z_list,mg_none_of X G z_min,mg_none_of X G z_range,mg_none_of X G z_zip,mg_of X G ao4,mg_of X G ao5,mg_of X G as4,mg_of X G aj8,co9 (mg_of X G ao5) ax1,⟨ax0,au4,au5,au6,au7,au8,au9,av0⟩⟩
 exact ⟨fnOf "law" "law" (aP3 bn3) (aO9 bn3) (aO3 bn3) .none kV48 dc48 pm48 an48 cd48 ct48,λs v=>.of_eq rfl,λbase _ _ hB=>(cq3 T hB).imp λvs H Q E h=>let z:=bR7 nl h; ⟨λP hP=>z.1 P (sub P hP),z.2⟩⟩
theorem aC4 {K:Frag} {h:Heap} {c f k P:Addr} {od an:Option Addr} {sl:Array (Option Value)} {oc kV dc pm ct kt:Value} {ko:Option Addr} {ks:Array (Option Value)} {kf:Array Value} (X:K.In h) (a:nsIn K mainGlobals "PrimeField"=some (some (.ref c))) (b:findIn K (.ref c) "__init__"=some (some (.ref f)))
  (l:K.lookup f=some ⟨oc,od,.func (fnOf "__init__" "PrimeField.__init__" (aP3 aa8) (aO9 aa8) (aO3 aa8) .none kV dc pm an (.ref k) ct),sl⟩) (lk:K.lookup k=some ⟨kt,ko,.fields kf,ks⟩) (lp:kf[11]?=some (.ref P)) (n:K.lookup P=none) (e:codeHdIn K k P=true):K.lookup P=none/\∃c,CodeHd h c P:=⟨n,k,PySem.W.codeHd_of_K X e⟩
theorem aF0 {K:Frag} {h:Heap} {c f k P:Addr} {od an:Option Addr} {sl:Array (Option Value)} {oc kV dc pm ct kt:Value} {ko:Option Addr} {ks:Array (Option Value)} {kf:Array Value} (X:K.In h) (a:nsIn K mainGlobals "BitField"=some (some (.ref c))) (b:findIn K (.ref c) "__init__"=some (some (.ref f)))
  (l:K.lookup f=some ⟨oc,od,.func (fnOf "__init__" "BitField.__init__" (aP3 ab2) (aO9 ab2) (aO3 ab2) .none kV dc pm an (.ref k) ct),sl⟩) (lk:K.lookup k=some ⟨kt,ko,.fields kf,ks⟩) (lp:kf[11]?=some (.ref P)) (n:K.lookup P=none) (e:codeHdIn K k P=true):K.lookup P=none/\∃c,CodeHd h c P:=⟨n,k,PySem.W.codeHd_of_K X e⟩
theorem walk {l:PySem.W.OpenLaw} {q:Program} {loose:List Str} {XP:(Str->Option Value)->Heap->Prop} {YP:World->Heap->Prop} {d:DefRec} {K:Params->Frag} {ts:List Addr} (hn:l.most=some 63) (hdf:d.params.defaults=[])
  (hY:∀(w:World) (h:Heap),YP w h->(K w.params).In h/\∀P∈ts,h.get? P=some (PySem.W.tabObj #[]))
  (hC:∀(w:World) (h:Heap),(K w.params).In h->∀P∈ts,(K w.params).lookup P=none/\∃c,CodeHd h c P)
  (F:∀(w:World) (mg:Str->Option Value) (fa:Addr) (h:Heap),(K w.params).In h->h.Ns mainGlobals mg->mg d.name=some (.ref fa) ->
   ∃fd:FuncData,(∀(s:Shared) (u:Value),BindsTo s fd ⟨[u],[]⟩ [("_law_script",u)])/\∀base:Heap,(K w.params).In base->base.Ns mainGlobals mg->Bm mg base->FnOk l.prog w (K w.params) mg base CX0 11 fa fd ["_law_script"] (bm3 ts (K w.params))) :
  PySem.W.WalkO q loose XP YP l.row.toRowW d [] (λf vs=>PySem.call f vs) :=
 L2.walk_ofT (n:=63) (k:=11) (x:="_law_script") (CX:=λ_=>CX0) (sp:=λw=>bm3 ts (K w.params)) hn (by decide) hdf ⟨rfl,by decide,by decide⟩ hY hC F (λ_ _ a ns hl hO hS=>⟨a,ns,rfl,hO,hS,hl,λ_=>rfl⟩) λ_ _ _ _ _ z=>z
end HK29
set_option genInjectivity false in
set_option genSizeOf false in
structure PySem.W.Fast:Prop where
 (tw12157088453420407840 tw473021385699853408 tw581200040916927584 tw2740344158822389920 tw1584391363447462112 tw11224631731153612000 tw14526265974398932288 tw12383409809090091360 tw18225562214798372224 tw3343653060941331904 tw8765755321966003744 tw75565015638378240 tw6124510348478942016 tw670998919787663168 tw13329559551877631840 tw17905825267848074208 tw8680428691283986433 tw4659993565490092065 tw17687138773850899489 tw17268395392578359457 tw7855166229519915265 tw14748773434541044993 tw8457884240554904865 tw7044827457628781921 tw2248598068631584097 tw6736460517659009473 tw12546004898290892353 tw1945887731852708513 tw15844182298406621889 tw3871840220373199553 tw17700249492555482817 tw12961457580013249 tw6406018774716976865 tw8981433682442949409 tw2798608069789661985 tw9111182575361113889 tw2245120109782003489 tw13997374361207942977 tw13611383102191036321 tw10234953727881566177:True)
 (tw14726440857860324354 tw508584323412058146 tw5583717826219857986 tw17145054086604154946 tw5099678379790710914 tw1270490207952415874 tw520545549259692226 tw17191591050900313346 tw11827416456463949218 tw2016345127813676450 tw4355297214951762370 tw17460200867988365890 tw4104042951418276482 tw5626528234846903970 tw6300128380583648962 tw2762512807370437314 tw911483228472048322 tw11649830388390443778 tw11694743002060505890 tw2739037350647627554 tw173337469347172162 tw2003831215155694466 tw10535363767237832578 tw8282600360056094658 tw3739468020254049283 tw13811348512437048419 tw6044137265366812771 tw2712989578909128867 tw3229756990334132483 tw132672854714997027 tw1287564968886299939 tw7404551329408969059 tw1809880624709665187 tw13598903236388323875 tw599717916747977251 tw11692049146651053667 tw5660664590244827747 tw14351554739503910531 tw11818127274654048899 tw12651915670553055907:True)
 (tw12954567056001230531 tw6171945651690250019 tw6360715944137999139 tw4305050735455624003 tw17501218124794582915 tw7872707507714196484 tw5468321708283966468 tw6411939818535264420 tw162445873834844324 tw7317660114622642340 tw488697735748912388 tw10956991468313824516 tw14461589481574295844 tw9360282427650743652 tw17518370782930800004 tw9844282358130118084 tw9818437662868969956 tw14503404253644688900 tw18229954094944176708 tw10537249791547977348 tw18087280303457659556 tw2583577059967465156 tw14859118857694977732 tw6627242766443038500 tw14433278067517960004 tw5079578979051296612 tw5138688630797150084 tw9501039779699877764 tw8469720675781234628 tw1614735441573202916 tw11861022066017996837 tw16635837070203737125 tw7482302187778791461 tw5197791308930401445 tw15721183749516846277 tw4799318611324303557 tw2369902321881982373 tw6688464787807301029 tw1365679041941797349 tw16760683411568888357:True)
 (tw13315220677012767269 tw16239704416781789829 tw3682099649513166597 tw7173692979706766085 tw10235263434974417701 tw11659226007910764357 tw529150589583119237 tw8459711134395626405 tw15532010202714238917 tw4263177064106139589 tw16141018641744273542 tw2589187853979677830 tw10561264919217217702 tw1380472233564881126 tw14385361632443311462 tw4185122385268922758 tw14871541700385023398 tw280500693309739430 tw17763674680969669190 tw8885201107657221734 tw8952921561139272390 tw7397388520134945542 tw17548395170050630438 tw9054449952789110598 tw11127065448617921510 tw16090858262230758374 tw18125183313619751943 tw14957383171829614631 tw7561285344691062887 tw18234785583575040135 tw15210833859779039399 tw8858064049374095527 tw2275388431265949927 tw5344981004307504455 tw2211573793825162599 tw5418176266332487015 tw1174603161270844871 tw7546935571691744743 tw9659478555057558023 tw14559492138811509255:True)
 (tw11875729245420105287 tw7144946441924112967 tw2144875693123159655 tw4931102566607852167 tw9322290934731454183 tw4289277299720005511 tw6370307970146100135 tw14303587061371903943 tw3865515841450057736 tw9602698562014042120 tw14692199374519069832 tw4053148051200223368 tw4581325946740049096 tw7300015252863029448 tw17851334710917876936 tw16958391820514482376 tw7472336251324863752 tw8893141516814193960 tw3115382622158154056 tw8357112547904003432 tw12344765767666719144 tw3601595488894306760 tw1956098893474830920 tw12554402928173489736 tw4988622184336477768 tw6207486122086622856 tw12115485101739514536 tw9268147982415564488 tw13601007676208803528 tw9958296606745803560 tw12825535243612818280 tw17144298264599504744 tw1281174097497558952 tw9953457872286129161 tw2908497347156701225 tw14344635177619664009 tw2362470512942230761 tw16590484041658642729 tw4792166091203137865 tw17014743324480329065:True)
 (tw1584907321803430313 tw7118096259881171369 tw9006113574094391817 tw8382193685910147625 tw11341752851422832169 tw16496007079766983337 tw16531176459969209129 tw10912571733837194089 tw16813022395386838921 tw5809135510886837129 tw10270170304493665193 tw6355853151120704425 tw15115052307321547978 tw630053498107937066 tw17619555196105203050 tw10103072627165558154 tw2957744889567868298 tw17127100997773367754 tw12079873525339583018 tw6324784052022819402 tw6470129152055725642 tw9743233766772853354 tw1917377756819926698 tw6360110323221125898 tw5075959653258398506 tw10801501864145153866 tw7070830129409902442 tw18289341991937660810 tw15839302528347576363 tw8262965379171140651 tw4835656158939197515 tw13565139338176420011 tw18287333780657250571 tw4706025102716238091 tw336648017212308779 tw12446223708827915595 tw11447116798945808715 tw4203709361998520651 tw6430909834949409131 tw17449943985379394923:True)
 (tw9217271412451060139 tw8531568652964561387 tw4402115659323516395 tw14015150462221995499 tw7668264085942915595 tw11743998906412188267 tw14281805564567906955 tw5290264322211401419 tw7491888327368714987 tw14993347391051542347 tw4977397980489422699 tw989065484108686380 tw9378145614176715852 tw16803323361986042092 tw4392367053888814348 tw16149186415012867404 tw15885018630954365356 tw13388620782709308908 tw3667710734834827788 tw673464691503215116 tw17600454775735115436 tw15273362483131934380 tw10529315903040053996 tw17128238148789826284 tw16530229291831708428 tw17486152069354834700 tw14964114941053226764 tw14905523940006435820 tw1474191233579516013 tw4656812049975838893 tw16729603814548587725 tw5743224389619479789 tw13763272667834189069 tw17837597726618408269 tw14897791475054543213 tw16556514914577331565 tw15619240674090238349 tw16909524141639334285 tw10151986124861607341 tw7867760048003748365:True)
 (tw5137050428927525421 tw7823363636612594221 tw2212148015772782189 tw10147861727278374605 tw10029721619666487181 tw7275283257877819309 tw13603781636926229485 tw14304169448612320270 tw8954005394131376142 tw15299726121291794478 tw15873346559076650062 tw10563748841848508526 tw6757181484318739598 tw7259167793199016110 tw6282903250458417390 tw540235450333317358 tw15349516876131558702 tw13247291396468940110 tw1242279273496873326 tw15296428792262432142 tw13753415377834200526 tw13165118871255032302 tw12957856857953773102 tw1481610112022318734 tw5816344323100869326 tw2060789305682855694 tw13468754065338408782 tw684647901834128238 tw12209434556494961614 tw15684622754277703630 tw4221005184460556303 tw9166084063282990127 tw10287385795429319727 tw934905286300728367 tw10234925840153392207 tw1867731896495582319 tw16707088599618138223 tw11273886236849208463 tw10232511976049025263 tw4049179814203820303:True)
 (tw4310589672694453519 tw2457032265770152271 tw9902122138742586735 tw4566904372032586287 tw11695356817289012911 tw3282939554648638159 tw7620672994273635055 tw10149461612949900175 tw7607031239373557711 tw16573984111554014159 tw6223653622545095663 tw4059527792141831280 tw17626435790856012912 tw15217825906033110320 tw10055853312600100144 tw238897430402774384 tw3120106433668517264 tw5570856982835187216 tw8582800911910042192 tw1373145415910224560 tw7101496382125737680 tw2862425856195632976 tw16276486918874657680 tw67373166823180208 tw16912155131451750320 tw9274791271286346704 tw14472348241881436144 tw4063087694522660848 tw5833858930524104753 tw13900082144589058129 tw10676141224233733233 tw7547254618785032305 tw15617207485370346609 tw10035545906763384977 tw8115925465821520049 tw5161313503557608689 tw15538229224893993201 tw8112716641233290513 tw5002739278298584337 tw1935033550373558577:True)
 (tw13375864473625685361 tw2706399232067569041 tw4464207865215577489 tw9148515964034320849 tw14963304930055739857 tw11529886823143336401 tw14676946979566870097 tw16623082918670348881 tw6919579562034597489 tw12720587048765570801 tw2326119997052051185 tw4539075992937343761 tw6814786831429398289 tw3539225013020962609 tw12938334477419090769 tw12909335532950291313 tw3531223673833172881 tw14401119517883560881 tw3500759446060750930 tw15834642168579738738 tw10176897664615765170 tw8332757512171518130 tw13718326128862761234 tw8861394118951703890 tw718172434041570706 tw6265779743095499218 tw6383422946652556786 tw16625313975583096306 tw5080883936832367122 tw3420129338527925810 tw12204856887001976402 tw14988771464379017874 tw10438191951407695506 tw6185708247927784114 tw7813228523883126450 tw14801948475929898802 tw17018185742717162418 tw3839108305702589362 tw14542507200541202386 tw4297707042183172082:True)
 (tw11493631404477455379 tw10542842692735246355 tw13306018668917270547 tw4684965203221716275 tw6781485132122840371 tw503330281816521011 tw2914163822570263923 tw8133150858730540435 tw6091839244356491667 tw3061931588687449491 tw13030276367414886867 tw9825714005212994067 tw9658086537982652947 tw9050032902851856947 tw13951215275459221075 tw13552965749649639059 tw14494781042651584147 tw16948454749372295859 tw8812882164043154227 tw9223024726823829299 tw15455165822007324499 tw16553158130988989331 tw10009095508473256020 tw6769077391876129908 tw16983179285848288404 tw9320786168240286932 tw12337468311087154516 tw8795583071689967028 tw8898373330638479828 tw3151036632417981908 tw17258294648282692084 tw10665134292332383764 tw2076589502329274900 tw3745350618780071476 tw7025022054803913300 tw14206505969543944820 tw14937582362946100884 tw3601185241144026900 tw8444063358005805876 tw3730988224442724148:True)
 (tw2368577766871515988 tw12778184629560468436 tw6367701284751283188 tw5196473218725790708 tw3435963706006859829 tw8145694960958968917 tw13320750475703759989 tw5169128602982036757 tw12206988194042998069 tw15908369830678014357 tw10232537265073464789 tw16243577738497361397 tw4594697035422200309 tw2384130110733454901 tw8217701167446125205 tw6402195103981248181 tw18422642264825638613 tw3962006180448127733 tw7871123810579430197 tw1200731956494118741 tw5802694694809665365 tw10713130008720236405 tw12841733033924394869 tw3216919936349947829 tw8562480812504020949 tw10655233516225567926 tw2389935323792649398 tw14661325605509989590 tw16900911559815629078 tw11846956186047492406 tw4655214505354189238 tw16931683436964079094 tw18032376165852044822 tw18412596803517946454 tw8371561399070613110 tw9476137059510010582 tw18043378388458860246 tw16528806006614563574 tw7895386052205003542 tw16023089429808304918:True)
 (tw12291711267816313654 tw17516849288368964406 tw1453499582541399926 tw14314375976795015062 tw10424211623986846807 tw6248244083743799415 tw7078812738878188695 tw16565053367555734711 tw2679970097765350615 tw14684666901093908727 tw6875890103803992471 tw5531401842170499511 tw12388590907639210423 tw16422453432240766391 tw2219923714143303127 tw12099982040676294167 tw1961978329362920023 tw270078308095862487 tw10692159169491777239 tw13684766379341415159 tw8099808368708027127 tw9741127035401030487 tw17741831480405676951 tw5106288673584106423 tw7621881442415781847 tw9070308462984584151 tw16629351629115603032 tw2553155630541333592 tw5138813045674385560 tw12843215356685021592 tw10885136773573216728 tw17959392838105933272 tw4274042759586081272 tw7451781456431319576 tw3092606735055050296 tw9068339134912171608 tw838423734467237464 tw13464505544443813560 tw1718144943496735576 tw14445166752235453368:True)
 (tw13302657857364887512 tw14560798534535869465 tw9113095588699941977 tw12632693373299574905 tw6246271626156348601 tw17744742210404098265 tw183357997278187801 tw1315728277876905401 tw11886029182166814169 tw16450257584991402489 tw3399993812720100889 tw17371627811508244185 tw5324972052542164761 tw17124355713575273337 tw16568602391929736057 tw2610737354988404665 tw16456707224026157017 tw12165868647260758009 tw2562771290495790170 tw7920422547281925210 tw15937967348958406874 tw6770431448747887866 tw16552624234572173626 tw5988339688630788506 tw9912027081278152090 tw6602039261117728186 tw13106801396086011418 tw10097008184359130714 tw17066574704908475994 tw5882718498443506298 tw7610986933300684474 tw8036683540020927194 tw5520256800413313754 tw8797532065493508858 tw10769494538442592026 tw7786464521633104794 tw5224364449414461370 tw16602563695038589019 tw7738469862682603771 tw12727732723584128251:True)
 (tw5665021036615088603 tw2464602521841791483 tw8847217356842724891 tw2053078404398446107 tw11601169724333141691 tw4288926745972925147 tw6341635629196582651 tw6768579429464115963 tw221846241292449627 tw7414854552740959163 tw16435782583228752827 tw11776851981497352252 tw13026945893738367068 tw1723570249710212220 tw14160302166100225212 tw18337481436325924028 tw13181759906471333084 tw12317789089818506620 tw1840094054662547900 tw17249378197776462268 tw17510742793013457372 tw15012069296355359260 tw6510722695915618876 tw15614843287965462076 tw7507930842945199708 tw16130564269782971996 tw14063669489308869244 tw6758022959686650524 tw17917683627498741404 tw11132637357676669596 tw7369826938151322332 tw16965514152735130332 tw13097405702124558044 tw6161441300128083708 tw7068721971065675548 tw7990356026032260956 tw1715241558989124444 tw1044972376924158812 tw10307246811401882492 tw11919540570630458236:True)
 (tw9612391238092042108 tw15899472687861810044 tw13669641663904593981 tw17046241864499216445 tw13800159645189708957 tw13863826697418733789 tw2532096183701608733 tw5929371892727572797 tw2705364022540365181 tw4246348777670747677 tw8141323284463235613 tw5651862300921927229 tw16062334607377667645 tw7894104830799132221 tw18427146513347699293 tw18367203071506296445 tw2697400592094846621 tw1112633019493374621 tw15895032507397747389 tw7707975049500323549 tw8178129337153050397 tw14257268188582239037 tw5988339473245530941 tw16873182174553097085 tw3319920418775594877 tw6876627826657149885 tw14532289719612593214 tw4501807037944121502 tw6369496880551668958 tw17558949267699547358 tw3466498057954064606 tw13464466195892833534 tw13988525603380926814 tw13451316161291152830 tw7423338573159081566 tw10296995855381248638 tw16382547643033352958 tw18417182376478736222 tw10867453760914999166 tw16407975200261970814:True)
 (tw6882323386885773214 tw5930615407862977502 tw14029574967184584735 tw16631753147368784031 tw612826752539073823 tw11923204339008952767 tw14882142171746898431 tw5471782896693337599 tw4668127996275362335 tw15871271287188232767 tw16154971447573447263 tw14077841051935413983 tw9932883918034233055 tw14777535467005267743 tw13152414055190780703 tw4028248677375727487 tw106864303346291679 tw374411436031319393:True)
open PySem PySem.W PyProof.Rows
set_option maxRecDepth 100000 in
set_option maxHeartbeats 0 in
theorem PySem.Challenge.cw_mendfield_k29_columns_of_powers_holds : PySem.Challenge.rw_mendfield_k29_columns_of_powers.Holds := by
 w_on; o_law; k_head; (case hw=>w_witness2)
 k_fill
 refine HK29.walk (l:=PySem.Challenge.rw_mendfield_k29_columns_of_powers) rfl rfl (λw h Y=>⟨PySem.W.km_in_of Y,PySem.W.km_tabs_of Y⟩) ?C ?F
 case C =>
  intro w h hX
  repeat' (first | exact List.forall_mem_nil _ | refine List.forall_mem_cons.mpr ⟨?_,?_⟩)
  all_goals first | (refine' HK29.aC4 hX ?a ?b ?l ?lk ?lp ?n ?e; (case a=>k_is); (case b=>k_is); (case l=>k_is); (case lk=>k_is); (case lp=>first | rfl | with_unfolding_all rfl); (case n=>kernel_rfl); (case e=>kernel_rfl)) | (refine' HK29.aF0 hX ?a ?b ?l ?lk ?lp ?n ?e; (case a=>k_is); (case b=>k_is); (case l=>k_is); (case lk=>k_is); (case lp=>first | rfl | with_unfolding_all rfl); (case n=>kernel_rfl); (case e=>kernel_rfl))
 case F =>
  intro w mg fa h KX G hmg
  refine' HK29.all_mk KX G hmg ?ao4 ?ao5 ?as4 ?aj8 ?a0 ?l0 ?c0 ?k0 ?a1 ?l1 ?c1 ?k1 ?a2 ?l2 ?c2 ?k2 ?a3 ?l3 ?c3 ?k3 ?a4 ?l4 ?c4 ?k4 ?a5 ?l5 ?c5 ?k5 ?a6 ?l6 ?c6 ?k6 ?a7 ?l7 ?c7 ?k7 ?aq1 ?aq2 ?ak0 ?a8 ?l8 ?c8 ?k8 ?a9 ?l9 ?c9 ?k9 ?a10 ?l10 ?c10 ?k10 ?a11 ?l11 ?c11 ?k11 ?a12 ?l12 ?c12 ?k12 ?a13 ?l13 ?c13 ?k13 ?au2 ?au3 ?am4 ?a14 ?l14 ?c14 ?k14 ?a15 ?l15 ?c15 ?k15 ?a16 ?l16 ?c16 ?k16 ?a17 ?l17 ?c17 ?k17 ?a18 ?l18 ?c18 ?k18 ?a19 ?l19 ?c19 ?k19 ?a20 ?l20 ?c20 ?k20 ?a21 ?l21 ?c21 ?k21 ?a22 ?l22 ?c22 ?k22 ?a23 ?l23 ?c23 ?k23 ?a24 ?l24 ?c24 ?k24 ?a25 ?l25 ?c25 ?k25 ?a26 ?l26 ?c26 ?k26 ?a27 ?l27 ?c27 ?k27 ?a28 ?l28 ?c28 ?k28 ?a29 ?l29 ?c29 ?k29 ?a30 ?l30 ?c30 ?k30 ?a31 ?l31 ?c31 ?k31 ?a32 ?l32 ?c32 ?k32 ?a33 ?l33 ?c33 ?k33 ?a34 ?l34 ?c34 ?k34 ?a35 ?l35 ?c35 ?k35 ?a36 ?l36 ?c36 ?k36 ?a37 ?l37 ?c37 ?k37 ?a38 ?l38 ?c38 ?k38 ?a39 ?l39 ?c39 ?k39 ?a40 ?l40 ?c40 ?k40 ?a41 ?l41 ?c41 ?k41 ?a42 ?l42 ?c42 ?k42 ?a43 ?l43 ?c43 ?k43 ?a44 ?l44 ?c44 ?k44 ?a45 ?l45 ?c45 ?k45 ?a46 ?l46 ?c46 ?k46 ?a47 ?l47 ?c47 ?k47 ?a48 ?l48 ?c48 ?k48 ?ap4 ?ap5 ?ap6 ?ap7 ?al3 ?aw3 ?aw4 ?aw5 ?aw6 ?aw7 ?aw8 ?aw9 ?ae8 ?ab4 ?ad5 ?ab5 ?ag2 ?aa7 ?ae9 ?af0 ?ac8 ?ah5 ?ae6 ?ak8 ?af1 ?am5 ?ad8 ?ak1 ?ab1 ?ag0 ?ae7 ?ak9 ?al7 ?al8 ?al9 ?am0 ?ah7 ?ar1 ?ar2 ?ar3 ?ar4 ?ar5 ?ar6 ?ar7 ?af8 ?ab6 ?ac7 ?ab8 ?aa5 ?ad6 ?ad9 ?ae0 ?ac1 ?ag1 ?ad1 ?aj1 ?ae1 ?ak2 ?ac9 ?ah6 ?ab0 ?af3 ?ad2 ?aj2 ?ar8 ?ar9 ?as0 ?z_all ?z_any ?z_bool ?z_enumerate ?z_int ?z_isinstance ?z_len ?z_list ?z_min ?z_range ?z_zip ?ax0 ?aD6 ?ax1 ?au4 ?au5 ?au6 ?au7 ?au8 ?au9 ?av0 ?nl ?sub
  (case ao4=>k_is)
  (case ao5=>k_is)
  (case as4=>k_is)
  (case aj8=>k_is)
  (case a0=>k_is)
  (case l0=>k_is)
  (case c0=>k_is)
  (case k0=>k_is)
  (case a1=>k_is)
  (case l1=>k_is)
  (case c1=>k_is)
  (case k1=>k_is)
  (case a2=>k_is)
  (case l2=>k_is)
  (case c2=>k_is)
  (case k2=>k_is)
  (case a3=>k_is)
  (case l3=>k_is)
  (case c3=>k_is)
  (case k3=>k_is)
  (case a4=>k_is)
  (case l4=>k_is)
  (case c4=>k_is)
  (case k4=>k_is)
  (case a5=>k_is)
  (case l5=>k_is)
  (case c5=>k_is)
  (case k5=>k_is)
  (case a6=>k_is)
  (case l6=>k_is)
  (case c6=>k_is)
  (case k6=>k_is)
  (case a7=>k_is)
  (case l7=>k_is)
  (case c7=>k_is)
  (case k7=>k_is)
  (case aq1=>k_is)
  (case aq2=>first | rfl | with_unfolding_all rfl)
  (case ak0=>kernel_rfl)
  (case a8=>k_is)
  (case l8=>k_is)
  (case c8=>k_is)
  (case k8=>k_is)
  (case a9=>k_is)
  (case l9=>k_is)
  (case c9=>k_is)
  (case k9=>k_is)
  (case a10=>k_is)
  (case l10=>k_is)
  (case c10=>k_is)
  (case k10=>k_is)
  (case a11=>k_is)
  (case l11=>k_is)
  (case c11=>k_is)
  (case k11=>k_is)
  (case a12=>k_is)
  (case l12=>k_is)
  (case c12=>k_is)
  (case k12=>k_is)
  (case a13=>k_is)
  (case l13=>k_is)
  (case c13=>k_is)
  (case k13=>k_is)
  (case au2=>k_is)
  (case au3=>first | rfl | with_unfolding_all rfl)
  (case am4=>kernel_rfl)
  (case a14=>k_is)
  (case l14=>k_is)
  (case c14=>k_is)
  (case k14=>k_is)
  (case a15=>k_is)
  (case l15=>k_is)
  (case c15=>k_is)
  (case k15=>k_is)
  (case a16=>k_is)
  (case l16=>k_is)
  (case c16=>k_is)
  (case k16=>k_is)
  (case a17=>k_is)
  (case l17=>k_is)
  (case c17=>k_is)
  (case k17=>k_is)
  (case a18=>k_is)
  (case l18=>k_is)
  (case c18=>k_is)
  (case k18=>k_is)
  (case a19=>k_is)
  (case l19=>k_is)
  (case c19=>k_is)
  (case k19=>k_is)
  (case a20=>k_is)
  (case l20=>k_is)
  (case c20=>k_is)
  (case k20=>k_is)
  (case a21=>k_is)
  (case l21=>k_is)
  (case c21=>k_is)
  (case k21=>k_is)
  (case a22=>k_is)
  (case l22=>k_is)
  (case c22=>k_is)
  (case k22=>k_is)
  (case a23=>k_is)
  (case l23=>k_is)
  (case c23=>k_is)
  (case k23=>k_is)
  (case a24=>k_is)
  (case l24=>k_is)
  (case c24=>k_is)
  (case k24=>k_is)
  (case a25=>k_is)
  (case l25=>k_is)
  (case c25=>k_is)
  (case k25=>k_is)
  (case a26=>k_is)
  (case l26=>k_is)
  (case c26=>k_is)
  (case k26=>k_is)
  (case a27=>k_is)
  (case l27=>k_is)
  (case c27=>k_is)
  (case k27=>k_is)
  (case a28=>k_is)
  (case l28=>k_is)
  (case c28=>k_is)
  (case k28=>k_is)
  (case a29=>k_is)
  (case l29=>k_is)
  (case c29=>k_is)
  (case k29=>k_is)
  (case a30=>k_is)
  (case l30=>k_is)
  (case c30=>k_is)
  (case k30=>k_is)
  (case a31=>k_is)
  (case l31=>k_is)
  (case c31=>k_is)
  (case k31=>k_is)
  (case a32=>k_is)
  (case l32=>k_is)
  (case c32=>k_is)
  (case k32=>k_is)
  (case a33=>k_is)
  (case l33=>k_is)
  (case c33=>k_is)
  (case k33=>k_is)
  (case a34=>k_is)
  (case l34=>k_is)
  (case c34=>k_is)
  (case k34=>k_is)
  (case a35=>k_is)
  (case l35=>k_is)
  (case c35=>k_is)
  (case k35=>k_is)
  (case a36=>k_is)
  (case l36=>k_is)
  (case c36=>k_is)
  (case k36=>k_is)
  (case a37=>k_is)
  (case l37=>k_is)
  (case c37=>k_is)
  (case k37=>k_is)
  (case a38=>k_is)
  (case l38=>k_is)
  (case c38=>k_is)
  (case k38=>k_is)
  (case a39=>k_is)
  (case l39=>k_is)
  (case c39=>k_is)
  (case k39=>k_is)
  (case a40=>k_is)
  (case l40=>k_is)
  (case c40=>k_is)
  (case k40=>k_is)
  (case a41=>k_is)
  (case l41=>k_is)
  (case c41=>k_is)
  (case k41=>k_is)
  (case a42=>k_is)
  (case l42=>k_is)
  (case c42=>k_is)
  (case k42=>k_is)
  (case a43=>k_is)
  (case l43=>k_is)
  (case c43=>k_is)
  (case k43=>k_is)
  (case a44=>k_is)
  (case l44=>k_is)
  (case c44=>k_is)
  (case k44=>k_is)
  (case a45=>k_is)
  (case l45=>k_is)
  (case c45=>k_is)
  (case k45=>k_is)
  (case a46=>k_is)
  (case l46=>k_is)
  (case c46=>k_is)
  (case k46=>k_is)
  (case a47=>k_is)
  (case l47=>k_is)
  (case c47=>k_is)
  (case k47=>k_is)
  (case a48=>k_is)
  (case l48=>k_is)
  (case c48=>k_is)
  (case k48=>k_is)
  (case ap4=>k_is)
  (case ap5=>k_is)
  (case ap6=>k_is)
  (case ap7=>k_is)
  (case al3=>k_is)
  (case aw3=>k_is)
  (case aw4=>k_is)
  (case aw5=>k_is)
  (case aw6=>k_is)
  (case aw7=>k_is)
  (case aw8=>k_is)
  (case aw9=>k_is)
  (case ae8=>k_is)
  (case ab4=>k_is)
  (case ad5=>k_is)
  (case ab5=>k_is)
  (case ag2=>k_is)
  (case aa7=>k_is)
  (case ae9=>k_is)
  (case af0=>k_is)
  (case ac8=>k_is)
  (case ah5=>k_is)
  (case ae6=>k_is)
  (case ak8=>k_is)
  (case af1=>k_is)
  (case am5=>k_is)
  (case ad8=>k_is)
  (case ak1=>k_is)
  (case ab1=>k_is)
  (case ag0=>k_is)
  (case ae7=>k_is)
  (case ak9=>k_is)
  (case al7=>k_is)
  (case al8=>k_is)
  (case al9=>k_is)
  (case am0=>k_is)
  (case ah7=>k_is)
  (case ar1=>k_is)
  (case ar2=>k_is)
  (case ar3=>k_is)
  (case ar4=>k_is)
  (case ar5=>k_is)
  (case ar6=>k_is)
  (case ar7=>k_is)
  (case af8=>k_is)
  (case ab6=>k_is)
  (case ac7=>k_is)
  (case ab8=>k_is)
  (case aa5=>k_is)
  (case ad6=>k_is)
  (case ad9=>k_is)
  (case ae0=>k_is)
  (case ac1=>k_is)
  (case ag1=>k_is)
  (case ad1=>k_is)
  (case aj1=>k_is)
  (case ae1=>k_is)
  (case ak2=>k_is)
  (case ac9=>k_is)
  (case ah6=>k_is)
  (case ab0=>k_is)
  (case af3=>k_is)
  (case ad2=>k_is)
  (case aj2=>k_is)
  (case ar8=>k_is)
  (case ar9=>k_is)
  (case as0=>k_is)
  (case z_all=>k_is)
  (case z_any=>k_is)
  (case z_bool=>k_is)
  (case z_enumerate=>k_is)
  (case z_int=>k_is)
  (case z_isinstance=>k_is)
  (case z_len=>k_is)
  (case z_list=>k_is)
  (case z_min=>k_is)
  (case z_range=>k_is)
  (case z_zip=>k_is)
  (case ax0=>first | k_is | rfl | decide)
  (case aD6=>k_is)
  (case ax1=>k_exc)
  (case au4=>k_is)
  (case au5=>k_is)
  (case au6=>k_is)
  (case au7=>k_is)
  (case au8=>k_is)
  (case au9=>k_is)
  (case av0=>k_is)
  (case nl=>first | k_is | rfl | decide)
  (case sub=>decide)
