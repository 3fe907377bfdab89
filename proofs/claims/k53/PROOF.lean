import PyProof.Rows.All
import Wide.All
import OpenK.AllK
import Wide.FinOn
import Lean
import PyProof.EqAt
import PyProof.EqKinds
import PyProof.TupleCall
import PyProof.ExcArgsOwn
import KE.KTryMore
import PyProof.NsDelKeeps
import PyProof.ConsumeWalk
import PyProof.ZipIter
import PyProof.WalksEnum
import PyProof.EnumMake
import PyProof.NeKinds
import PyProof.CompMap
import PyProof.DictWalks
import KE.KLam
import KE.KRevIter
import PyProof.ListRange
import PyProof.AttrMissHeap
import KE.KDictOf
import PyProof.ReprRoads
import PyProof.CallStr
import PySem.Challenge.RW_oneleash_k53_thinning_refused
local macro_rules | `(tactic| omega)=>`(tactic| lia)
section
set_option Elab.async false
set_option linter.all false
set_option maxRecDepth 100000
namespace L2
open PySem PySem.Spec PyProof.Rows
noncomputable abbrev Key:=Sum Int Str
noncomputable def jR:Key->Value->Bool
 | .inl k,v=>Value.isInt k v
 | .inr x,v=>Value.isStrOf x v
noncomputable def yU(w:World):Key->Int
 | .inl k=>hashInt k
 | .inr x=>hashStr w x
theorem bz:∀{k:Key} {v:Value},jR k v=true->(∃i t,k=Sum.inl i/\v=Value.int i t)\/(∃x t,k=Sum.inr x/\v=Value.str x t)
 | .inl i,v,h=>by
  obtain⟨t,e⟩:=Value.isInt_shape (k:=i) (v:=v) h;exact .inl ⟨i,t,rfl,e⟩
 | .inr x,v,h=>by
  obtain⟨t,e⟩:=Value.isStrOf_shape (x:=x) (v:=v) h;exact .inr ⟨x,t,rfl,e⟩
theorem pR(i:Int)(t:Tok):jR (.inl i) (.int i t)=true:=by simp[jR,Value.isInt]
theorem pQ(x:Str)(t:Tok):jR (.inr x) (.str x t)=true:=by simp[jR,Value.isStrOf]
theorem wR(a b:Int):decide ((Sum.inl a:Key)=Sum.inl b)=(a == b):=by
 by_cases e:a=b
 ·subst e;simp
 ·have h:¬(Sum.inl a:Key)=Sum.inl b:=λq=>e (Sum.inl.inj q)
  rw[decide_eq_false h];exact(beq_eq_false_iff_ne.mpr e).symm
theorem wO(a b:Str):decide ((Sum.inr a:Key)=Sum.inr b)=decide (a=b):=by
 by_cases e:a=b
 ·subst e;simp
 ·have h:¬(Sum.inr a:Key)=Sum.inr b:=λq=>e (Sum.inr.inj q)
  rw[decide_eq_false h,decide_eq_false e]
theorem wQ(a:Int)(b:Str):decide ((Sum.inl a:Key)=Sum.inr b)=false:=decide_eq_false (λq=>nomatch q)
theorem wP(a:Str)(b:Int):decide ((Sum.inr a:Key)=Sum.inl b)=false:=decide_eq_false (λq=>nomatch q)
noncomputable def bX(prog:Program)(w:World):PySem.KeyKind prog w Key where
 is:=jR
 hash:=yU w
 inj:=λv a b ha hb=>by
  rcases bz ha with⟨i,t,rfl,rfl⟩|⟨x,t,rfl,rfl⟩
  ·rcases bz hb with⟨j,u,rfl,e⟩|⟨y,u,rfl,e⟩
   ·injection e with e1 _;rw[e1]
   ·exact nomatch e
  ·rcases bz hb with⟨j,u,rfl,e⟩|⟨y,u,rfl,e⟩
   ·exact nomatch e
   ·injection e with e1 _;rw[e1]
 byValue:=λk v h=>by
  rcases bz h with⟨i,t,rfl,rfl⟩|⟨x,t,rfl,rfl⟩ <;> rfl
 pyHash:=λhv h=>by
  rcases bz hv with⟨i,t,rfl,rfl⟩|⟨x,t,rfl,rfl⟩
  ·exact wpAny_pyHash_int h
  ·exact wpAny_pyHash_str h
 eqBool:=λhu hv h=>by
  rcases bz hu with⟨i,t,rfl,rfl⟩|⟨x,t,rfl,rfl⟩
  ·rcases bz hv with⟨j,u,rfl,rfl⟩|⟨y,u,rfl,rfl⟩
   ·rw[wR]at h;exact wpAny_eqBool_int h
   ·rw[wQ]at h;exact SeqAt.EqAt.int_str i t y u _ _ _ _ h
  ·rcases bz hv with⟨j,u,rfl,rfl⟩|⟨y,u,rfl,rfl⟩
   ·rw[wP]at h;exact SeqAt.EqAt.str_int x t j u _ _ _ _ h
   ·rw[wO]at h;exact wpAny_eqBool_str h
 «strs»:=λk x t v h=>by
  rcases bz h with⟨i,u,rfl,e⟩|⟨y,u,rfl,e⟩
  ·exact nomatch e
  ·injection e with e1 _
   subst e1;cases v <;> rfl
theorem lK(prog:Program)(w:World)(i:Int)(t:Tok):(bX prog w).is (.inl i) (.int i t)=true:=pR i t
theorem lJ(prog:Program)(w:World)(x:Str)(t:Tok):(bX prog w).is (.inr x) (.str x t)=true:=pQ x t
inductive V where
 | non|bl (b:Bool)|int (i:Int)|str (x:Str)|byt (b:Array UInt8)|flt (b:UInt64)|ref (a:Addr)|ty (n:String)
 deriving DecidableEq
noncomputable def aN:V->Value->Prop
 | .non,u=>u=Value.none
 | .bl b,u=>u=Value.bool b
 | .int i,u=>∃t,u=Value.int i t
 | .str x,u=>∃t,u=Value.str x t
 | .byt b,u=>∃t,u=Value.bytes b t
 | .flt b,u=>∃t,u=Value.float b t
 | .ref a,u=>u=Value.ref a
 | .ty n,u=>u=Value.type n
noncomputable abbrev aJ:List V->List Value->Prop:=Paired aN
theorem aJ.length{xs:List V}{us:List Value}(r:aJ xs us):xs.length=us.length:=Paired.length r
theorem aJ.get:∀{xs:List V} {us:List Value} {i:Nat} {x:V},aJ xs us->xs[i]? = some x->∃u,us[i]? = some u/\aN x u
 | _,_,_,_,.nil,e=>by simp at e
 | _,_,0,_,.cons r _,e=>by simp at e;subst e;exact⟨_,rfl,r⟩
 | _,_,i+1,x,.cons _ t,e=>by
  obtain⟨u,h1,h2⟩:=aJ.get (i:=i) (x:=x) t (by simpa using e);exact⟨u,by simpa using h1,h2⟩
theorem aJ.set{x:V}{u:Value}(r:aN x u):∀{xs:List V} {us:List Value} (i:Nat),aJ xs us->aJ (xs.set i x) (us.set i u)
 | _,_,_,.nil=>.nil
 | _,_,0,.cons _ t=>.cons r t
 | _,_,i+1,.cons q t=>.cons q (aJ.set r i t)
theorem aJ.append:∀{xs ys:List V} {us ws:List Value},aJ xs us->aJ ys ws->aJ (xs++ys) (us++ws)
 | _,_,_,_,.nil,s=>s
 | _,_,_,_,.cons r t,s=>.cons r (aJ.append t s)
theorem aJ.take:∀{xs:List V} {us:List Value} (n:Nat),aJ xs us->aJ (xs.take n) (us.take n)
 | _,_,0,_=>.nil
 | _,_,_+1,.nil=>.nil
 | _,_,n+1,.cons r t=>.cons r (aJ.take n t)
theorem aJ.drop:∀{xs:List V} {us:List Value} (n:Nat),aJ xs us->aJ (xs.drop n) (us.drop n)
 | _,_,0,r=>r
 | _,_,_+1,.nil=>.nil
 | _,_,n+1,.cons _ t=>aJ.drop n t
noncomputable def gR:Option V->Option Value->Prop
 | some v,some u=>aN v u
 | none,none=>True
 | _,_=>False
noncomputable def KV{κ:Type}:List (κ×V)->List (κ×Value)->Prop:=Paired λ(p:κ×V) (q:κ×Value)=>p.1=q.1/\aN p.2 q.2
noncomputable def kV:Key->V
 | .inl i=>.int i
 | .inr x=>.str x
inductive HO where
 /-- a list -/
 | lst (xs:List V)
 /-- a tuple (never changes) -/
 | tup (xs:List V)
 /-- a dict whose keys are ints and texts;one whose keys are tuples of ints and texts (the empty one is both) -/
 | dK (kvs:List (Key×V))|dT (kvs:List (List Key×V))
 /-- a set of ints: its members,its size -/
 | set (S:Int->Bool) (n:Nat)
 /-- an instance of the class at C,its dict at dx,its attributes -/
 | ins (C dx:Addr) (fs:List (Str×V))
 /-- the dict of the instance at x -/
 | own (x:Addr)
 /-- the dict of an exception -/
 | xd (fs:List (Str×V))
 /-- a bound method,f of x -/
 | met (f x:Addr)
 /-- a range object lo,lo+1,.. vL hi -/
 | rng (lo hi:Int)
 /-- a thing that is known to the object (the script;a dict while a loop walks it): read,never written while it is so -/
 | frz (o:Obj) (u:HO)
 /-- a code object's table -/
 | tbl (ps:Array Value)
 /-- any other thing,by what is true of its one object (a def of one's own: SetO a S n:=HO.ext λh=>..) -/
 | ext (φ:Heap->Prop)
noncomputable abbrev Hp:=Addr->Option HO
noncomputable def upd(H:Hp)(a:Addr)(o:HO):Hp:=λb=>if b=a then some o else H b
theorem upd_same{H:Hp}{a:Addr}{o:HO}:upd H a o a=some o:=by unfold upd;rw[if_pos rfl]
theorem aF{H:Hp}{a b:Addr}{o:HO}(h:b≠a):upd H a o b=H b:=by unfold upd;rw[if_neg h]
theorem oF{H:Hp}{a b:Addr}{o u:HO}(h:H a=some o)(h':H b=some u)(d:o≠u):a≠b:=by
 intro e;subst e;rw[h]at h';exact d (Option.some.inj h')
theorem aT{H:Hp}{a b:Addr}{o:HO}(h:H a=some o)(h':H b=none):a≠b:=by
 intro e;subst e;rw[h]at h';cases h'
section
variable (P:Program) (w:World)
noncomputable def a6(H:Hp)(h:Heap)(a:Addr):HO->Prop
 | .lst xs=>xs.length<=sizeLine/\∃(its:List Value) (n:Nat),aJ xs its/\h.get? a=some { cls:=.type "list",data:=.seq its.toArray n }
 | .tup xs=>xs.length<=sizeLine/\∃its:List Value,aJ xs its/\IsTup h a its.toArray
 | .dK kvs=>kvs.length<=sizeLine/\(a == sysModules)=false/\∃vs,KV kvs vs/\h.DictOf (bX P w) a vs
 | .dT kvs=>kvs.length<=sizeLine/\(a == sysModules)=false/\∃xs:List (List Key×Addr×Value),
   Paired (λ(p:List Key×V) (q:List Key×Addr×Value)=>p.1=q.1/\H q.2.1=some (.tup (p.1.map kV))/\aN p.2 q.2.2) kvs xs /\
   ∃o es ep,h.get? a=some o/\o.ExactDict/\o.data = .dict es ep/\es.toList=xs.map (entryOfKey (tupleKind (bX P w)))/\(xs.map (·.1)).Nodup
 | .set S n=>h.SetOf (intKind P w) a S n
 | .ins C dx fs=>H dx=some (.own a)/\fs.length<=1000/\dx≠a/\h.get? a=some (W.instObj C dx) /\
   ∃mA,h.Ns1 dx mA/\(∀f,gR (fs.lookup f) (mA f))/\PySem.Within mA (fs.map (·.1))
 | .own _=>∃o,h.get? a=some o
 | .xd fs=>∃mA,h.Ns1 a mA/\∀f,gR (fs.lookup f) (mA f)
 | .rng lo hi=>∃t u v,h.get? a=some { cls:=.type "range",data:=.fields #[.int lo t,.int hi u,.int 1 v] }
 | .frz o u=>h.get? a=some o/\a6 H h a u
 | .tbl ps=>h.get? a=some { cls:=.none,data:=.fields ps }
 | .met f x=>h.get? a=some (W.methodObj (.ref f) (.ref x))
 | .ext φ=>φ h/\(∃o,h.get? a=some o)/\∀h1 h2:Heap,φ h1->(∀o,h1.get? a=some o->h2.get? a=some o)->φ h2
noncomputable def HOk(H:Hp)(h:Heap):Prop:=∀a o,H a=some o->a6 P w H h a o
end
section
variable {P:Program} {w:World} {H H':Hp} {h h':Heap} {a:Addr} {o:HO}
theorem a6.lt(x:a6 P w H h a o):a<h.objs.size:=by
 cases o with
 | lst xs=>obtain⟨_,_,_,_,e⟩:=x;exact Heap.lt_size e
 | tup xs=>obtain⟨_,_,_,p⟩:=x;exact p.lt
 | dK kvs=>obtain⟨_,_,_,_,o,_,_,e,_⟩:=x;exact Heap.lt_size e
 | dT kvs=>obtain⟨_,_,_,_,o,_,_,e,_⟩:=x;exact Heap.lt_size e
 | set S n=>obtain⟨o,_,_,_,e,_⟩:=x;exact Heap.lt_size e
 | ins C dx fs=>obtain⟨_,_,_,e,_⟩:=x;exact Heap.lt_size e
 | own y=>obtain⟨_,e⟩:=x;exact Heap.lt_size e
 | xd fs=>obtain⟨_,⟨_,_,_,e,_⟩,_⟩:=x;exact Heap.lt_size e
 | rng lo hi=>obtain⟨_,_,_,e⟩:=x;exact Heap.lt_size e
 | frz ob u=>obtain⟨e,_⟩:=x;exact Heap.lt_size e
 | tbl ps=>exact Heap.lt_size (show h.get? a=some _ from x)
 | met f y=>exact Heap.lt_size (show h.get? a=some _ from x)
 | ext φ=>obtain⟨_,⟨_,e⟩,_⟩:=x;exact Heap.lt_size e
theorem Paired.mapP{α β:Type}{F G:α->β->Prop}:∀{l1:List α} {l₂:List β},Paired F l1 l₂->(∀a b,F a b->G a b)->Paired G l1 l₂
 | _,_,.nil,_=>.nil
 | _,_,.cons r t,f=>.cons (f _ _ r) (Paired.mapP t f)
theorem a6.stay(x:a6 P w H h a o)(k:∀b u,(b=a\/H b=some (.own a))->h.get? b=some u->h'.get? b=some u)
  (ho:∀b,H b=some (.own a)->H' b=some (.own a)) (ht:∀b xs,H b=some (.tup xs)->H' b=some (.tup xs)):a6 P w H' h' a o:=by
 induction o with
 | lst xs=>obtain⟨z,its,n,r,e⟩:=x;exact⟨z,its,n,r,k _ _ (.inl rfl) e⟩
 | tup xs=>obtain⟨z,its,r,ob,e,c⟩:=x;exact⟨z,its,r,ob,k _ _ (.inl rfl) e,c⟩
 | dK kvs=>obtain⟨z,y,vs,r,ob,es,ep,e,c⟩:=x;exact⟨z,y,vs,r,ob,es,ep,k _ _ (.inl rfl) e,c⟩
 | dT kvs =>
  obtain⟨z,y,xs,r,ob,es,ep,e,c⟩:=x;exact⟨z,y,xs,Paired.mapP r λp q z=>⟨z.1,ht _ _ z.2.1,z.2.2⟩,ob,es,ep,k _ _ (.inl rfl) e,c⟩
 | set S n=>obtain⟨ob,es,ep,t,e,c⟩:=x;exact⟨ob,es,ep,t,k _ _ (.inl rfl) e,c⟩
 | ins C dx fs =>
  obtain⟨d,z,ne,e,mA,⟨od,es,ep,e2,c⟩,r⟩:=x;exact⟨ho _ d,z,ne,k _ _ (.inl rfl) e,mA,⟨od,es,ep,k _ _ (.inr d) e2,c⟩,r⟩
 | own y=>obtain⟨ob,e⟩:=x;exact⟨ob,k _ _ (.inl rfl) e⟩
 | xd fs=>obtain⟨mA,⟨od,es,ep,e,c⟩,r⟩:=x;exact⟨mA,⟨od,es,ep,k _ _ (.inl rfl) e,c⟩,r⟩
 | rng lo hi=>obtain⟨t,u,v,e⟩:=x;exact⟨t,u,v,k _ _ (.inl rfl) e⟩
 | frz ob u ih=>obtain⟨e,q⟩:=x;exact⟨k _ _ (.inl rfl) e,ih q⟩
 | tbl ps =>
  have e:h.get? a=some { cls:=.none,data:=.fields ps }:=x;show h'.get? a=some { cls:=.none,data:=.fields ps };exact k a _ (.inl rfl) e
 | met f y =>
  have e:h.get? a=some (W.methodObj (.ref f) (.ref y)):=x;show h'.get? a=some (W.methodObj (.ref f) (.ref y));exact k a _ (.inl rfl) e
 | ext φ=>obtain⟨p,⟨o,e⟩,st⟩:=x;exact⟨st _ _ p λo q=>k _ _ (.inl rfl) q,⟨o,k _ _ (.inl rfl) e⟩,st⟩
theorem HOk.lt(x:HOk P w H h)(e:H a=some o):a<h.objs.size:=(x a o e).lt
theorem HOk.fresh(x:HOk P w H h)(e:h.objs.size<=a):H a=none:=by
 cases q:H a with
 | none=>rfl
 | some u=>exact absurd (Nat.lt_of_lt_of_le (x.lt q) e) (Nat.lt_irrefl _)
theorem HOk.kept(x:HOk P w H h)(k:∀b u,h.get? b=some u->h'.get? b=some u):HOk P w H h':=λa o e =>
 (x a o e).stay (λb u _ q=>k b u q) (λ_ q=>q) λ_ _ q=>q
theorem HOk.laid(x:HOk P w H h)(k:∀b u,h.get? b=some u->h'.get? b=some u)(hp:h.objs.size<=a)(new:a6 P w (upd H a o) h' a o):HOk P w (upd H a o) h':=λb u e=>by
 have hn:=x.fresh hp
 by_cases hb:b=a
 ·subst hb;rw[upd_same]at e;cases e;exact new
 ·rw[aF hb]at e
  exact(x b u e).stay (λc v _ q=>k c v q) (λc q=>by rw[aF (aT q hn)];exact q) λc xs q=>by rw[aF (aT q hn)];exact q
end
noncomputable def Rd(H:Hp)(a:Addr)(u:HO):Prop:=H a=some u\/∃o,H a=some (.frz o u)
theorem Rd.ok{P:Program}{w:World}{H:Hp}{h:Heap}{a:Addr}{u:HO}(r:Rd H a u)(x:HOk P w H h):a6 P w H h a u:=by
 rcases r with r|⟨o,r⟩
 ·exact x a u r
 ·obtain⟨_,q⟩:=x a _ r
  exact q
noncomputable def Mut:Option HO->Prop
 | some (.lst _)=>True
 | some (.dK _)=>True
 | some (.dT _)=>True
 | some (.set _ _)=>True
 | some (.ins _ _ _)=>True
 | some (.ext _)=>True
 | _=>False
section
variable {P:Program} {w:World} {H:Hp} {h h':Heap} {x e:Addr} {o':HO}
theorem HOk.write(ok:HOk P w H h)(mu:Mut (H x))(he:e=x\/H e=some (.own x))(k:∀b u,b≠e->h.get? b=some u->h'.get? b=some u)(heo:∃u,h'.get? e=some u)
  (new:a6 P w (upd H x o') h' x o'):HOk P w (upd H x o') h':=λb u q=>by
 have nown:∀c y,H c=some (.own y)->c≠x:=λc y r z=>by subst z;rw[r]at mu;exact mu
 have ntup:∀c xs,H c=some (.tup xs)->c≠x:=λc xs r z=>by subst z;rw[r]at mu;exact mu
 by_cases hb:b=x
 ·subst hb;rw[upd_same]at q;cases q;exact new
 ·rw[aF hb]at q
  by_cases hbe:b=e
  ·have q':H b=some (.own x):=by
    rcases he with z|z
    ·exact absurd (hbe.trans z) hb
    ·rw[hbe];exact z
   rw[q]at q';cases q';obtain⟨v,hv⟩:=heo;exact⟨v,by rw[hbe];exact hv⟩
  ·refine(ok b u q).stay (λc v hc r=>k c v ?_ r) (λc r=>by rw[aF (nown c b r)];exact r) λc xs r=>by rw[aF (ntup c xs r)];exact r
   rcases hc with rfl|hc
   ·exact hbe
   ·rintro rfl
    rcases he with z|z
    ·exact nown c b hc z
    ·rw[hc]at z;cases z;exact hb rfl
end
structure Un(fs ex:List Addr)(H H':Hp)(h h':Heap):Prop where
 keep:∀b o,h.get? b=some o->H b=none->b∉fs->b∉ex->h'.get? b=some o
 slot:∀b o,h.get? b=some o->H b=none->b∈fs->b∉ex->∃sl,h'.get? b=some { o with slots:=sl }
 free:∀b o,h.get? b=some o->H b=none->b∉ex->H' b=none
 there:∀b o,h.get? b=some o->b∉ex->∃o',h'.get? b=some o'
 tups:∀b xs,H b=some (.tup xs)->H' b=some (.tup xs)
 frzs:∀b o u,H b=some (.frz o u)->H' b=some (.frz o u)
 tbls:∀b ps,H b=some (.tbl ps)->∃more,H' b=some (.tbl (ps++more))
section
variable {fs fs' ex ex':List Addr} {H H1 H2:Hp} {h h1 h2 h':Heap} {a x e:Addr} {o:HO}
theorem Un.any(u:Un fs ex H H1 h h1){b:Addr}{ob:Obj}(q:h.get? b=some ob)(n:H b=none)(hx:b∉ex):∃sl,h1.get? b=some { ob with slots:=sl }:=by
 by_cases hb:b∈fs
 ·exact u.slot b ob q n hb hx
 ·exact⟨ob.slots,u.keep b ob q n hb hx⟩
theorem Un.kept(k:∀b u,h.get? b=some u->h'.get? b=some u):Un fs ex H H h h' :=
 ⟨λb ob q _ _ _=>k b ob q,λb ob q _ _ _=>⟨ob.slots,k b ob q⟩,λ_ _ _ n _=>n,λb ob q _=>⟨ob,k b ob q⟩,λ_ _ q=>q,λ_ _ _ q=>q,λ_ ps q=>⟨#[],by rw[q];simp⟩⟩
theorem Un.refl:Un fs ex H H h h:=Un.kept λ_ _ q=>q
theorem Un.laid(k:∀b u,h.get? b=some u->h'.get? b=some u)(hp:h.objs.size<=a)(hn:H a=none):Un fs ex H (upd H a o) h h' where
 keep:=λb u q _ _ _=>k b u q
 slot:=λb u q _ _ _=>⟨u.slots,k b u q⟩
 free:=λb u q n _=>by rw[aF (Nat.ne_of_lt (Nat.lt_of_lt_of_le (Heap.lt_size q) hp))];exact n
 there:=λb u q _=>⟨u,k b u q⟩
 tups:=λb xs q=>by rw[aF (aT q hn)];exact q
 frzs:=λb u xs q=>by rw[aF (aT q hn)];exact q
 tbls:=λb ps q=>⟨#[],by rw[aF (aT q hn),q];simp⟩
theorem Un.write(mu:Mut (H x))(he:e=x\/H e=some (.own x))(k:∀b u,b≠e->h.get? b=some u->h'.get? b=some u)(heo:∃u,h'.get? e=some u):Un fs ex H (upd H x o) h h':=by
 have hx:∀b,H b=none->b≠x:=λb n z=>by subst z;rw[n]at mu;exact mu
 have hb:∀b,H b=none->b≠e:=λb n z=>by
  subst z;rcases he with r|r
  ·exact hx b n r
  ·rw[n]at r;cases r
 have hm:∀b u,H b=some u->¬Mut (some u)->b≠x:=λb u q nm z=>by subst z;rw[q]at mu;exact nm mu
 refine⟨λb u q n _ _=>k b u (hb b n) q,λb u q n _ _=>⟨u.slots,k b u (hb b n) q⟩,λb u q n _=>by rw[aF (hx b n)];exact n,λb u q _=>?_,
  λb xs q=>by rw[aF (hm b _ q λz=>z)];exact q,λb u xs q=>by rw[aF (hm b _ q λz=>z)];exact q,λb ps q=>⟨#[],by rw[aF (hm b _ q λz=>z),q];simp⟩⟩
 by_cases hbe:b=e
 ·subst hbe;exact heo
 ·exact⟨u,k b u hbe q⟩
end
noncomputable def trk(h:Heap)(H:Hp):List Addr:=(List.range h.objs.size).filter λa=>(H a).isSome
noncomputable def kL(h:Heap)(H:Hp):Heap:=W.hideAll h (trk h H)
theorem pU(h:Heap)(H:Hp):(kL h H).objs.size=h.objs.size:=W.hideAll_size _ _
theorem rD{h:Heap}{H:Hp}{b:Addr}{o:Obj}(e:h.get? b=some o)(n:H b=none):(kL h H).get? b=some o :=
 W.hideAll_get _ e λhm=>by
  have q:(H b).isSome=true:=(List.mem_filter.mp hm).2;rw[n]at q;simp at q
theorem ud{h:Heap}{H:Hp}{b:Addr}{o:Obj}(e:(kL h H).get? b=some o):h.get? b=some o/\H b=none:=by
 have e':h.get? b=some o:=W.of_hideAll (trk h H) e;refine⟨e',?_⟩;cases q:H b with
 | none=>rfl
 | some x =>
  have hm:b∈trk h H:=List.mem_filter.mpr ⟨List.mem_range.mpr (Heap.lt_size e'),by simp[q]⟩;have z:(kL h H).get? b=none:=W.hideAll_none (trk h H) hm;rw[z]at e;cases e
structure Mod(K:W.Frag)(mg:Str->Option Value)(base:Heap):Prop where
 kin:K.In base
 glob:base.Ns mainGlobals mg
 blt:∃mb,base.Ns builtinsNs mb/\∀x:Str,x≠"__name__"->mb x=bootBuiltins x
 nolimit:base.NoLimit
structure Cx where
 prog:Program
 w:World
 K:W.Frag
 mg:Str->Option Value
 base:Heap
 A:Around
 N:List Str
 s₀:Shared
 H₀:Hp
 env:Env
 outer:List Env
 stack:List Env
 ex:List Addr
 fn:Str->Bool
 calm:Bool
 pn:List (Addr×Obj)
 xe:Value->Shared->Prop
noncomputable def frs(l:List Env):List Addr:=l.filterMap (·.frame)
noncomputable abbrev Cx.fs(X:Cx):List Addr:=frs X.outer
noncomputable def Vis(sc:Scope)(x:Str):Prop:=sc.names.lookup x=some .local\/sc.names.lookup x=some .cell\/sc.names.lookup x=some .free
noncomputable def Loc(sc:Scope)(x:Str):Prop:=sc.names.lookup x=some .local\/sc.names.lookup x=some .cell
noncomputable def ze(env:Env)(h:Heap)(m:Str->Option Value)(x:Str)(u:Value):Prop :=
 (env.kindOf x=some .local/\m x=some u)\/((env.kindOf x=some .cell\/env.kindOf x=some .free)/\∃c,env.cells.lookup x=some c/\h.IsCell c (some u))
structure Cx.Ok(X:Cx):Prop where
 mod:Mod X.K X.mg X.base
 kind:X.env.scope.kind = .function
 glob:X.env.globals=mainGlobals
 blt:X.env.builtins=builtinsNs
 above:X.s₀.heap.objs.size<=X.env.locals
 inj:∀x y c,X.env.cells.lookup x=some c->X.env.cells.lookup y=some c->x=y
 has:∀x,(X.env.kindOf x=some .cell\/X.env.kindOf x=some .free)->∃c,X.env.cells.lookup x=some c
 cab:∀x c,X.fn x=true->X.env.cells.lookup x=some c->X.s₀.heap.objs.size<=c
 hd:X.calm=true->X.A.handled=none
 frames:X.A.frames=some X.stack
 stk:X.stack=X.outer\/(X.stack=X.env::X.outer/\X.env.frame=some X.env.locals)
 exf:∀b∈X.ex,b≠X.env.locals/\∀x c,X.env.cells.lookup x=some c->c≠b
 bs:∀b o,X.base.get? b=some o->X.s₀.heap.get? b=some o/\X.H₀ b=none
 bsz:X.base.objs.size<=X.s₀.heap.objs.size
 noex:∀b o,X.base.get? b=some o->b∉X.ex
 exfs:∀b∈X.ex,b∉X.fs
 funs:X.s₀.heap.FunFrames X.base X.outer
 frf:∀b∈X.fs,X.H₀ b=none
structure zg(X:Cx)(pins:List (Addr×Obj))(σ:List (Option V))(H:Hp)(s:Shared):Prop where
 ok:X.Ok
 os:s.os=X.s₀.os
 bare:AllBare s.gens
 base:Un X.fs X.ex X.H₀ H X.s₀.heap s.heap
 loc:∃m,s.heap.Ns X.env.locals m/\∀(i:Nat) (x:Str) (v:V),X.N[i]? = some x->σ[i]? = some (some v)->Vis X.env.scope x->∃u,aN v u/\ze X.env s.heap m x u
 cell:∀x c,X.env.cells.lookup x=some c->∃v,s.heap.IsCell c v
 free:H X.env.locals=none
 freeC:∀x c,X.env.cells.lookup x=some c->H c=none
 pin:∀p∈X.pn++pins,s.heap.get? p.1=some p.2/\H p.1=none/\p.1≠X.env.locals/\p.1∉X.fs/\∀v,p.2.data≠.cell v
 hok:HOk X.prog X.w H s.heap
 len:σ.length=X.N.length
section
variable {X:Cx} {pins:List (Addr×Obj)} {σ:List (Option V)} {H H':Hp} {s:Shared} {h':Heap}
theorem Cx.Ok.nofr(ok:X.Ok){b:Addr}{o:Obj}(e:X.base.get? b=some o):b∉X.fs:=λhb=>by
 have:=(ok.funs.mem hb).1;rw[e]at this;cases this
theorem zg.bs(I:zg X pins σ H s):∀b o,X.base.get? b=some o->s.heap.get? b=some o/\H b=none:=λb o e =>
 ⟨I.base.keep b o (I.ok.bs b o e).1 (I.ok.bs b o e).2 (I.ok.nofr e) (I.ok.noex b o e),I.base.free b o (I.ok.bs b o e).1 (I.ok.bs b o e).2 (I.ok.noex b o e)⟩
theorem zg.bk(I:zg X pins σ H s):∀b o,X.base.get? b=some o->s.heap.get? b=some o:=λb o e=>(I.bs b o e).1
theorem zg.mod(I:zg X pins σ H s):Mod X.K X.mg X.base:=I.ok.mod
theorem zg.kIn(I:zg X pins σ H s):X.K.In s.heap:=I.ok.mod.kin.keeps I.bk
theorem zg.lt(I:zg X pins σ H s):X.env.locals<s.heap.objs.size:=let ⟨_,hn,_⟩:=I.loc;hn.lt
theorem zg.sz(I:zg X pins σ H s):X.s₀.heap.objs.size<=s.heap.objs.size:=Nat.le_trans I.ok.above (Nat.le_of_lt I.lt)
theorem zg.nofs(I:zg X pins σ H s){a:Addr}(h:s.heap.objs.size<=a):a∉X.fs:=λhb=>by
 obtain⟨_,o,ho,_⟩:=I.ok.funs.mem hb;exact absurd (Nat.lt_of_lt_of_le (Heap.lt_size ho) (Nat.le_trans I.sz h)) (Nat.lt_irrefl _)
theorem zg.cne(I:zg X pins σ H s):∀x c,X.env.cells.lookup x=some c->c≠X.env.locals:=λx c e z=>by
 obtain⟨v,o,ho,hd⟩:=I.cell x c e;obtain⟨m,⟨o',es,ep,ho',hd',_⟩,_⟩:=I.loc;rw[z,ho']at ho;cases ho;rw[hd']at hd;cases hd
theorem zg.funs(I:zg X pins σ H s):s.heap.FunFrames X.base X.outer:=by
 have all:∀(l:List Env),(∀b∈frs l,b∈X.fs)->X.s₀.heap.FunFrames X.base l->s.heap.FunFrames X.base l:=by
  intro l
  induction l with
  | nil=>intro _ _;trivial
  | cons env r ih =>
   intro hs hl;obtain⟨hk,⟨L,o,hf,hn,ho,hd⟩,hr⟩:=hl;have hL:L∈X.fs:=hs L (by unfold frs;rw[List.filterMap_cons,hf];exact List.mem_cons_self);obtain⟨sl,e⟩:=I.base.slot L o ho (I.ok.frf L hL) hL λz=>I.ok.exfs L z hL;exact⟨hk,⟨L,_,hf,hn,e,hd⟩,ih (λb hb=>hs b (by unfold frs;rw[List.filterMap_cons,hf];exact List.mem_cons_of_mem _ hb)) hr⟩
 exact all X.outer (λ_ hb=>hb) I.ok.funs
theorem zg.stack(I:zg X pins σ H s):s.heap.FunFrames X.base X.stack:=by
 rcases I.ok.stk with e|⟨e,hf⟩
 ·rw[e];exact I.funs
 ·rw[e]
  obtain⟨m,hn,_⟩:=I.loc;refine .cons (by rw[I.ok.kind];decide) hf hn ?_ I.funs;exact Heap.get?_none_of_le (Nat.le_trans I.ok.bsz I.ok.above)
theorem zg.stkSub(I:zg X pins σ H s):∀b∈frs X.stack,b∈X.env.locals::X.fs:=λb hb=>by
 rcases I.ok.stk with e|⟨e,hf⟩
 ·rw[e]at hb;exact List.mem_cons_of_mem _ hb
 ·rw[e]at hb
  unfold frs at hb;rw[List.filterMap_cons,hf]at hb;exact hb
theorem zg.stkFree(I:zg X pins σ H s):∀b∈frs X.stack,H b=none:=λb hb=>by
 rcases List.mem_cons.mp (I.stkSub b hb) with e|hb
 ·rw[e];exact I.free
 ·obtain⟨_,o,ho,_⟩:=I.ok.funs.mem hb
  exact I.base.free b o ho (I.ok.frf b hb) λz=>I.ok.exfs b z hb
theorem zg.step{g':Array GenState}{t':Nat}{d':Drawn}{ch:List Addr}(I:zg X pins σ H s)
  (hch:∀b∈ch,(b∈X.ex\/X.s₀.heap.objs.size<=b)/\b≠X.env.locals/\(∀x c,X.env.cells.lookup x=some c->c≠b)/\∀p∈X.pn++pins,p.1≠b)
  (keep:∀b o,b≠X.env.locals->b∉X.fs->b∉ch->s.heap.get? b=some o->H b=none->h'.get? b=some o)
  (slot:∀b o,b≠X.env.locals->b∈X.fs->b∉ch->s.heap.get? b=some o->H b=none->∃sl,h'.get? b=some { o with slots:=sl }) (free:∀b o,b∉ch->s.heap.get? b=some o->H b=none->H' b=none)
  (there:∀b o,b∉ch->s.heap.get? b=some o->∃o',h'.get? b=some o')
  (tups:∀b xs,H b=some (.tup xs)->H' b=some (.tup xs)) (frzs:∀b o u,H b=some (.frz o u)->H' b=some (.frz o u)) (tbls:∀b ps,H b=some (.tbl ps)->∃more,H' b=some (.tbl (ps++more)))
  (ns:∀m,s.heap.Ns X.env.locals m->h'.Ns X.env.locals m) (hok:HOk X.prog X.w H' h') (hg:AllBare g') :
  zg X pins σ H' { s with heap:=h',gens:=g',drawn:=d',toks:=t' }:=by
 have neL:∀b o,X.s₀.heap.get? b=some o->b≠X.env.locals:=λb o e=>Nat.ne_of_lt (Nat.lt_of_lt_of_le (Heap.lt_size e) I.ok.above);have neC:∀b o,X.s₀.heap.get? b=some o->b∉X.ex->b∉ch:=λb o e hx hb=>by
  rcases(hch b hb).1 with z|z
  ·exact hx z
  ·exact absurd (Nat.lt_of_lt_of_le (Heap.lt_size e) z) (Nat.lt_irrefl _)
 have cellK:∀x c,X.env.cells.lookup x=some c->∀v,s.heap.IsCell c v->h'.IsCell c v:=λx c e v ⟨o,ho,hd⟩=>by
  have nch:c∉ch:=λz=>(hch c z).2.2.1 x c e rfl
  by_cases hc:c∈X.fs
  ·obtain⟨sl,q⟩:=slot c o (I.cne x c e) hc nch ho (I.freeC x c e)
   exact⟨_,q,hd⟩
  ·exact⟨o,keep c o (I.cne x c e) hc nch ho (I.freeC x c e),hd⟩
 refine⟨I.ok,I.os,hg,⟨λb o e n hb hx=>?_,λb o e n hb hx=>?_,λb o e n hx=>?_,λb o e hx=>?_,λb xs e=>tups b xs (I.base.tups b xs e),λb o xs e=>frzs b o xs (I.base.frzs b o xs e),λb ps e=>?_⟩,?_,λx c e=>?_,?_,λx c e=>?_,λp hp=>?_,hok,I.len⟩
 ·exact keep b o (neL b o e) hb (neC b o e hx) (I.base.keep b o e n hb hx) (I.base.free b o e n hx)
 ·obtain⟨sl,e1⟩:=I.base.slot b o e n hb hx
  obtain⟨sl',e2⟩:=slot b _ (neL b o e) hb (neC b o e hx) e1 (I.base.free b o e n hx);exact⟨sl',e2⟩
 ·obtain⟨o',e1⟩:=I.base.there b o e hx
  exact free b o' (neC b o e hx) e1 (I.base.free b o e n hx)
 ·obtain⟨o',e1⟩:=I.base.there b o e hx
  exact there b o' (neC b o e hx) e1
 ·obtain⟨m1,e1⟩:=I.base.tbls b ps e
  obtain⟨m2,e2⟩:=tbls b _ e1;exact⟨m1++m2,by rw[e2,Array.append_assoc]⟩
 ·obtain⟨m,hn,hl⟩:=I.loc
  refine⟨m,ns m hn,λi x v e1 e2 e3=>?_⟩;obtain⟨u,r,l⟩:=hl i x v e1 e2 e3;refine⟨u,r,?_⟩;rcases l with l|⟨k,c,e,z⟩
  ·exact .inl l
  ·exact .inr ⟨k,c,e,cellK x c e _ z⟩
 ·obtain⟨v,z⟩:=I.cell x c e
  exact⟨v,cellK x c e v z⟩
 ·obtain⟨m,⟨o,_,_,ho,_⟩,_⟩:=I.loc
  exact free _ o (λz=>(hch _ z).2.1 rfl) ho I.free
 ·obtain⟨v,o,ho,hd⟩:=I.cell x c e
  exact free c o (λz=>(hch c z).2.2.1 x c e rfl) ho (I.freeC x c e)
 ·obtain⟨e,n,ne,nf,d⟩:=I.pin p hp
  have nch:p.1∉ch:=λz=>(hch p.1 z).2.2.2 p hp rfl;exact⟨keep p.1 p.2 ne nf nch e n,free p.1 p.2 nch e n,ne,nf,d⟩
theorem zg.un{t':Nat}(I:zg X pins σ H s)(u:Un X.fs [] H H' s.heap h')(hok:HOk X.prog X.w H' h'):zg X pins σ H' { s with heap:=h',toks:=t' }:=by
 obtain⟨m,⟨o,es,ep,ho,r⟩,_⟩:=id I.loc;obtain⟨sl,hL⟩:=u.any ho I.free (by simp);exact I.step (g':=s.gens) (d':=s.drawn) (ch:=[]) (λ_ z=>nomatch z) (λb o _ hb _ e n=>u.keep b o e n hb (by simp)) (λb o _ hb _ e n=>u.slot b o e n hb (by simp)) (λb o _ e n=>u.free b o e n (by simp)) (λb o _ e=>u.there b o e (by simp)) u.tups u.frzs u.tbls (λm' hm=>by
  obtain⟨o',es',ep',ho',r'⟩:=hm;rw[ho]at ho';cases ho';exact⟨_,es',ep',hL,r'⟩) hok I.bare
theorem zg.call{g':Array GenState}{t':Nat}{d':Drawn}{ch:List Addr}(I:zg X pins σ H s)(u:Un (frs X.stack) ch H H' s.heap h')(hok:HOk X.prog X.w H' h')(hg:AllBare g')
  (hch:∀b∈ch,(b∈X.ex\/X.s₀.heap.objs.size<=b)/\b≠X.env.locals/\(∀x c,X.env.cells.lookup x=some c->c≠b)/\∀p∈X.pn++pins,p.1≠b) :
  zg X pins σ H' { s with heap:=h',gens:=g',drawn:=d',toks:=t' }:=by
 obtain⟨m,⟨o,es,ep,ho,r⟩,_⟩:=id I.loc;obtain⟨sl,hL⟩:=u.any ho I.free λz=>(hch _ z).2.1 rfl;exact I.step (ch:=ch) hch (λb o hL hb hc e n=>u.keep b o e n (λz=>(List.mem_cons.mp (I.stkSub b z)).elim hL hb) hc) (λb o _ _ hc e n=>u.any e n hc) (λb o hc e n=>u.free b o e n hc) (λb o hc e=>u.there b o e hc) u.tups u.frzs u.tbls (λm' hm=>by
  obtain⟨o',es',ep',ho',r'⟩:=hm;rw[ho]at ho';cases ho';exact⟨_,es',ep',hL,r'⟩) hok hg
theorem zg.turned{t':Nat}{it:Addr}(I:zg X pins σ H s)(k:∀b o,b≠it->s.heap.get? b=some o->h'.get? b=some o)(hn:H it=none)(hL:it≠X.env.locals)
  (h1:it∈X.ex\/X.s₀.heap.objs.size<=it) (h2:∀x c,X.env.cells.lookup x=some c->c≠it) (h3:∀p∈X.pn++pins,p.1≠it):zg X pins σ H { s with heap:=h',toks:=t' }:=by
 have nit:∀b u,H b=some u->b≠it:=λb u e z=>by rw[z,hn]at e;cases e
 refine I.step (g':=s.gens) (d':=s.drawn) (ch:=[it]) (λb hb=>?_) (λb o _ _ hc e _=>k b o (λz=>hc (by simp[z])) e) (λb o _ _ hc e _=>⟨o.slots,k b o (λz=>hc (by simp[z])) e⟩) (λ_ _ _ _ n=>n)
  (λb o hc e=>⟨o,k b o (λz=>hc (by simp[z])) e⟩) (λ_ _ e=>e) (λ_ _ _ e=>e) (λb ps e=>⟨#[],by rw[e];simp⟩) (λm hm=>?_) (λb u e=>?_) I.bare
 ·have e:b=it:=by simpa using hb
  subst e;exact⟨h1,hL,h2,h3⟩
 ·obtain⟨o,es,ep,ho,r⟩:=hm
  exact⟨o,es,ep,k _ o (Ne.symm hL) ho,r⟩
 ·refine(I.hok b u e).stay (λc v hc q=>k c v ?_ q) (λ_ q=>q) λ_ _ q=>q
  rcases hc with z|z
  ·rw[z];exact nit b u e
  ·exact nit c _ z
theorem zg.tok(I:zg X pins σ H s)(t:Nat):zg X pins σ H { s with toks:=t }:=I.un (h':=s.heap) (t':=t) Un.refl I.hok
theorem zg.kept{t':Nat}(I:zg X pins σ H s)(k:∀b u,s.heap.get? b=some u->h'.get? b=some u):zg X pins σ H { s with heap:=h',toks:=t' }:=I.un (Un.kept k) (I.hok.kept k)
theorem zg.laid{a:Addr}{o:HO}{t':Nat}(I:zg X pins σ H s)(k:∀b u,s.heap.get? b=some u->h'.get? b=some u)(hp:s.heap.objs.size<=a)(new:a6 X.prog X.w (upd H a o) h' a o) :
  zg X pins σ (upd H a o) { s with heap:=h',toks:=t' }:=I.un (Un.laid k hp (I.hok.fresh hp)) (I.hok.laid k hp new)
theorem zg.write{x e:Addr}{o:HO}{t':Nat}(I:zg X pins σ H s)(mu:Mut (H x))(he:e=x\/H e=some (.own x))(k:∀b u,b≠e->s.heap.get? b=some u->h'.get? b=some u)(heo:∃u,h'.get? e=some u)
  (new:a6 X.prog X.w (upd H x o) h' x o):zg X pins σ (upd H x o) { s with heap:=h',toks:=t' }:=I.un (Un.write mu he k heo) (I.hok.write mu he k heo new)
theorem zg.pins_of{pins':List (Addr×Obj)}(I:zg X pins σ H s)(h:∀p∈pins',s.heap.get? p.1=some p.2/\H p.1=none/\p.1≠X.env.locals/\p.1∉X.fs/\∀v,p.2.data≠.cell v):zg X pins' σ H s :=
 ⟨I.ok,I.os,I.bare,I.base,I.loc,I.cell,I.free,I.freeC,λp hp=>(List.mem_append.mp hp).elim (λz=>I.pin p (List.mem_append_left _ z)) (h p),I.hok,I.len⟩
theorem iT{N:List Str}(hN:N.Nodup){i j:Nat}{x:Str}(a:N[i]? = some x)(b:N[j]? = some x):i=j:=by
 obtain⟨h1,e1⟩:=List.getElem?_eq_some_iff.mp a;obtain⟨h2,e2⟩:=List.getElem?_eq_some_iff.mp b;exact(List.getElem_inj hN).mp (e1.trans e2.symm)
theorem jF{M:Model}{A:Around}{E:Value->Shared->Prop}{i:Nat}{x:Str}{v:V}{u:Value}{Q:Unit->Shared->Prop}(I:zg X pins σ H s)(hN:X.N.Nodup)(hi:X.N[i]? = some x)(hx:Loc X.env.scope x)(r:aN v u)
  (h:∀s',zg X pins (σ.set i (some v)) H s'->(∃a,Heap.SameBut a s.heap s'.heap/\(a=X.env.locals\/X.env.cells.lookup x=some a))->Q () s') (hf:X.fn x=true\/X.env.scope.names.lookup x=some .local:=by first|exact .inl rfl|exact .inr rfl|assumption):wpAny M A (storeName X.env x u) Q E s:=by
 obtain⟨m,hn,hl⟩:=id I.loc;have hcls:(X.env.scope.kind == .class || (X.env.scope.kind == .module && X.env.locals != X.env.globals))=false:=by rw[I.ok.kind];rfl
 have hiσ:i<σ.length:=by rw[I.len];exact(List.getElem?_eq_some_iff.mp hi).1
 have cne:=I.cne;have tracked:∀{a:Addr} {h':Heap},(∃o,s.heap.get? a=some o/\H a=none)->Heap.SameBut a s.heap h'->HOk X.prog X.w H h':=λ{a h'} ha hs b ob e=>by
  obtain⟨_,_,hfree⟩:=ha;refine(I.hok b ob e).stay (λc w' hc q=>(hs.2 c ?_).trans q) (λ_ q=>q) λ_ _ q=>q;rintro rfl;rcases hc with rfl|hc
  ·rw[hfree]at e;cases e
  ·rw[hfree]at hc;cases hc
 rcases hx with hk|hk
 ·refine wpAny_storeName_local hk hn (λh' hn' hs=>?_) hcls
  obtain⟨oL,_,_,hoL,_⟩:=id hn;refine h _ ⟨I.ok,I.os,I.bare,⟨λb o e n hb hx=>?_,λb o e n hb hx=>?_,I.base.free,λb o e hx=>?_,I.base.tups,I.base.frzs,I.base.tbls⟩,⟨_,hn',λj y v' e1 e2 e3=>?_⟩,λy c e=>?_,I.free,I.freeC,λp hp=>?_,tracked ⟨oL,hoL,I.free⟩ hs,by simpa using I.len⟩ ⟨_,hs,.inl rfl⟩
  ·exact(hs.2 b (Nat.ne_of_lt (Nat.lt_of_lt_of_le (Heap.lt_size e) I.ok.above))).trans (I.base.keep b o e n hb hx)
  ·obtain⟨sl,e1⟩:=I.base.slot b o e n hb hx
   exact⟨sl,(hs.2 b (Nat.ne_of_lt (Nat.lt_of_lt_of_le (Heap.lt_size e) I.ok.above))).trans e1⟩
  ·obtain⟨o',e1⟩:=I.base.there b o e hx
   exact⟨o',(hs.2 b (Nat.ne_of_lt (Nat.lt_of_lt_of_le (Heap.lt_size e) I.ok.above))).trans e1⟩
  ·by_cases hj:j=i
   ·subst hj
    rw[hi]at e1;cases e1;rw[List.getElem?_set_self hiσ]at e2;cases e2;exact⟨u,r,.inl ⟨hk,by simp⟩⟩
   ·rw[List.getElem?_set_ne (Ne.symm hj)]at e2
    obtain⟨u',r',q⟩:=hl j y v' e1 e2 e3;refine⟨u',r',?_⟩;rcases q with⟨k,e⟩|⟨k,c,e,z⟩
    ·refine .inl ⟨k,?_⟩
     have:y≠x:=λe=>hj (iT hN e1 (e▸hi));simp[this,e]
    ·exact .inr ⟨k,c,e,z.sameBut hs (cne y c e)⟩
  ·obtain⟨w',z⟩:=I.cell y c e
   exact⟨w',z.sameBut hs (cne y c e)⟩
  ·obtain⟨e,n,ne,nf,d⟩:=I.pin p hp
   exact⟨(hs.2 p.1 ne).trans e,n,ne,nf,d⟩
 ·have hfn:X.fn x=true:=by
   rcases hf with z|z
   ·exact z
   ·rw[z]at hk;cases hk
  obtain⟨c,hc⟩:=I.ok.has x (.inl hk);obtain⟨w',z⟩:=I.cell x c hc;refine wpAny_storeName_cell I.ok.kind hk hc z (λh' hc' hs=>?_);obtain⟨oc,hoc,hocd⟩:=id z;refine h { s with heap:=h' } ⟨I.ok,I.os,I.bare,⟨λb o e n hb hx=>?_,λb o e n hb hx=>?_,I.base.free,λb o e hx=>?_,I.base.tups,I.base.frzs,I.base.tbls⟩,⟨m,hn.sameBut hs (Ne.symm (cne x c hc)),λj y v' e1 e2 e3=>?_⟩,λy c' e=>?_,I.free,I.freeC,λp hp=>?_,tracked ⟨oc,hoc,I.freeC x c hc⟩ hs,by simpa using I.len⟩ ⟨c,hs,.inr hc⟩
  ·exact(hs.2 b (Nat.ne_of_lt (Nat.lt_of_lt_of_le (Heap.lt_size e) (I.ok.cab x c hfn hc)))).trans (I.base.keep b o e n hb hx)
  ·obtain⟨sl,e1⟩:=I.base.slot b o e n hb hx
   exact⟨sl,(hs.2 b (Nat.ne_of_lt (Nat.lt_of_lt_of_le (Heap.lt_size e) (I.ok.cab x c hfn hc)))).trans e1⟩
  ·obtain⟨o',e1⟩:=I.base.there b o e hx
   exact⟨o',(hs.2 b (Nat.ne_of_lt (Nat.lt_of_lt_of_le (Heap.lt_size e) (I.ok.cab x c hfn hc)))).trans e1⟩
  ·by_cases hj:j=i
   ·subst hj
    rw[hi]at e1;cases e1;rw[List.getElem?_set_self hiσ]at e2;cases e2;exact⟨u,r,.inr ⟨.inl hk,c,hc,hc'⟩⟩
   ·rw[List.getElem?_set_ne (Ne.symm hj)]at e2
    obtain⟨u',r',q⟩:=hl j y v' e1 e2 e3;refine⟨u',r',?_⟩;rcases q with q|⟨k,c',e,z'⟩
    ·exact .inl q
    ·refine .inr ⟨k,c',e,z'.sameBut hs ?_⟩
     rintro rfl;exact hj (iT hN e1 (I.ok.inj _ _ _ e hc▸hi))
  ·by_cases hcc:c'=c
   ·subst hcc;exact⟨_,hc'⟩
   ·obtain⟨w2,z2⟩:=I.cell y c' e
    exact⟨w2,z2.sameBut hs hcc⟩
  ·obtain⟨e,n,ne,nf,d⟩:=I.pin p hp
   refine⟨(hs.2 p.1 ?_).trans e,n,ne,nf,d⟩;intro q;rw[q,hoc]at e;have q':oc=p.2:=Option.some.inj e;exact d w' (by rw[<- q'];exact hocd)
theorem iH{M:Model}{A:Around}{E:Value->Shared->Prop}{i:Nat}{x:Str}{v:V}{u:Value}{Q:Unit->Shared->Prop}(I:zg X pins σ H s)(hN:X.N.Nodup)(hi:X.N[i]? = some x)(hx:Loc X.env.scope x)(r:aN v u)
  (h:∀s',zg X pins (σ.set i (some v)) H s'->Q () s') (hf:X.fn x=true\/X.env.scope.names.lookup x=some .local:=by first|exact .inl rfl|exact .inr rfl|assumption):wpAny M A (storeName X.env x u) Q E s :=
 jF I hN hi hx r (λs' I' _=>h s' I') hf
theorem zg.call'{s':Shared}{ch:List Addr}(I:zg X pins σ H s)(ho:s'.os=s.os)(u:Un (frs X.stack) ch H H' s.heap s'.heap)(hok:HOk X.prog X.w H' s'.heap)(hg:AllBare s'.gens)
  (hch:∀b∈ch,(b∈X.ex\/X.s₀.heap.objs.size<=b)/\b≠X.env.locals/\(∀x c,X.env.cells.lookup x=some c->c≠b)/\∀p∈X.pn++pins,p.1≠b):zg X pins σ H' s':=by
 obtain⟨h',g',d',t',o'⟩:=s';have e:o'=s.os:=ho;subst e;exact I.call (g':=g') (t':=t') (d':=d') u hok hg hch
end
noncomputable abbrev XK:=Value->Option Addr->Hp->Prop
noncomputable abbrev St:=List (Option V)
noncomputable abbrev VK:=V->Hp->Prop
noncomputable abbrev TE:=St->Hp->VK->Prop
noncomputable abbrev TT:=St->Hp->(Bool->Hp->Prop)->Prop
noncomputable abbrev TA:=St->Hp->(List V->Hp->Prop)->Prop
structure AL where
 nx:St->Hp->Prop
 rt:VK
 bk:St->Hp->Prop:=λ_ _=>False
 ct:St->Hp->Prop:=λ_ _=>False
noncomputable abbrev TS:=AL->St->Hp->Prop
noncomputable def EP(X:Cx)(pins:List (Addr×Obj))(σ:St)(Q:VK)(u:Value)(s':Shared):Prop:=∃v H',zg X pins σ H' s'/\aN v u/\Q v H'
noncomputable def TP(X:Cx)(pins:List (Addr×Obj))(σ:St)(Q:Bool->Hp->Prop)(b:Bool)(s':Shared):Prop:=∃H',zg X pins σ H' s'/\Q b H'
noncomputable def AP(X:Cx)(pins:List (Addr×Obj))(σ:St)(Q:List V->Hp->Prop)(us:List Value)(s':Shared):Prop:=∃vs H',zg X pins σ H' s'/\aJ vs us/\Q vs H'
noncomputable def SP(X:Cx)(pins:List (Addr×Obj))(D:AL)(f:Flow)(s':Shared):Prop :=
 match f with
 | .next=>∃σ' H',zg X pins σ' H' s'/\D.nx σ' H'
 | .brk=>∃σ' H',zg X pins σ' H' s'/\D.bk σ' H'
 | .cont=>∃σ' H',zg X pins σ' H' s'/\D.ct σ' H'
 | .ret u=>∃v σ' H',zg X pins σ' H' s'/\aN v u/\D.rt v H'
noncomputable def PE(X:Cx)(e:Expr)(t:TE):Prop :=
 ∀(pins:List (Addr×Obj)) (s:Shared) (σ:St) (H:Hp) (Q:VK),zg X pins σ H s->t σ H Q->wpAny (model X.prog X.w) X.A (eval e X.env) (EP X pins σ Q) X.xe s
noncomputable def PT(X:Cx)(e:Expr)(t:TT):Prop :=
 ∀(pins:List (Addr×Obj)) (s:Shared) (σ:St) (H:Hp) (Q:Bool->Hp->Prop),zg X pins σ H s->t σ H Q->wpAny (model X.prog X.w) X.A (isTrue e X.env (eval e X.env)) (TP X pins σ Q) X.xe s
noncomputable def PW(X:Cx)(e:Expr)(t:TT):Prop :=
 ∀(whole:Sem Value) (pins:List (Addr×Obj)) (s:Shared) (σ:St) (H:Hp) (Q:Bool->Hp->Prop),zg X pins σ H s->t σ H Q->wpAny (model X.prog X.w) X.A (isTrue e X.env whole) (TP X pins σ Q) X.xe s
theorem PW.pt{X:Cx}{e:Expr}{t:TT}(h:PW X e t):PT X e t:=h _
noncomputable def PA(X:Cx)(es:List Expr)(t:TA):Prop :=
 ∀(pos:Pos) (pins:List (Addr×Obj)) (s:Shared) (σ:St) (H:Hp) (Q:List V->Hp->Prop),zg X pins σ H s->t σ H Q->wpAny (model X.prog X.w) X.A (spliced (backTo pos (starEach es X.env))) (AP X pins σ Q) X.xe s
noncomputable def PS(X:Cx)(st:Stmt)(t:TS):Prop :=
 ∀(pins:List (Addr×Obj)) (s:Shared) (σ:St) (H:Hp) (D:AL),zg X pins σ H s->t D σ H->wpAny (model X.prog X.w) X.A (exec st X.env) (SP X pins D) X.xe s
noncomputable def PSs(X:Cx)(st:List Stmt)(t:TS):Prop :=
 ∀(pins:List (Addr×Obj)) (s:Shared) (σ:St) (H:Hp) (D:AL),zg X pins σ H s->t D σ H->wpAny (model X.prog X.w) X.A (execs st X.env) (SP X pins D) X.xe s
theorem thn{α:Type}{t:Sem α}{Q Q':α->Shared->Prop}{M:Model}{A:Around}{E:Value->Shared->Prop}{s:Shared}(h:wpAny M A t Q E s)(hQ:∀a s,Q a s->Q' a s):wpAny M A t Q' E s:=wpAny_mono h hQ λ_ _ x=>x
section
variable {X:Cx}
inductive Em (i:Nat) (σ:St) (H:Hp) (Q:VK):Prop
 | mk (v:V) (e:σ[i]? = some (some v)) (q:Q v H):Em i σ H Q
noncomputable def tC(v:V):TE:=λ_ H Q=>Q v H
theorem wo{i:Nat}{x:Str}{pos:Pos}(hN:X.N[i]? = some x)(hv:Vis X.env.scope x)(hd:(x == ("__debug__" : Str))=false:=by decide)(hcd:(x == ("__classdict__" : Str))=false:=by decide):PE X (.Name x pos) (Em i):=by
 intro pins s σ H Q I h;obtain⟨v,e,h⟩:=h;obtain⟨m,hn,hl⟩:=I.loc;obtain⟨u,r,l⟩:=hl i x v hN e hv;have fin:EP X pins σ Q u s:=⟨v,H,I,r,h⟩;rcases l with⟨hk,hm⟩|⟨hk,c,hc,hcell⟩
 ·exact wpAny_Name (wpAny_loadName_local I.ok.kind hk hn hm fin) hd
 ·rcases hk with hk|hk
  ·exact wpAny_Name (wpAny_loadName_cell I.ok.kind hk hc hcell fin) hd
  ·exact wpAny_Name (wpAny_loadName_free I.ok.kind hk hc hcell fin hcd) hd
theorem af{i j pos}:PE X (.Constant (.int i) j pos) (tC (.int i)):=λ_ _ _ H _ I h=>wpAny_Constant_int ⟨.int i,H,I.tok _,⟨_,rfl⟩,h⟩
theorem dn{b j pos}:PE X (.Constant (.bool b) j pos) (tC (.bl b)):=λ_ _ _ H _ I h=>Constant_bool ⟨.bl b,H,I,rfl,h⟩
theorem bT{j pos}:PE X (.Constant .none j pos) (tC .non):=λ_ _ _ H _ I h=>Constant_none ⟨.non,H,I,rfl,h⟩
theorem cT{x j pos}:PE X (.Constant (.str x) j pos) (tC (.str x)):=λ_ _ _ H _ I h=>Calls.Constant_str ⟨.str x,H,I.tok _,⟨_,rfl⟩,h⟩
noncomputable def Gl(X:Cx)(x:Str):Prop:=X.env.kindOf x=some .globalImplicit
theorem eZ{E:Value->Shared->Prop}{pins:List (Addr×Obj)}{s:Shared}{σ:St}{H:Hp}{x:Str}{u:Value}{pos:Pos}{Q:Value->Shared->Prop}(I:zg X pins σ H s)(hg:Gl X x)(hm:X.mg x=some u)(h:Q u s)
  (hd:(x == ("__debug__" : Str))=false:=by decide):wpAny (model X.prog X.w) X.A (eval (.Name x pos) X.env) Q E s :=
 Calls.Name_function_global I.ok.kind hg (Calls.loadGlobal_global (by rw[I.ok.glob];exact I.mod.glob.keeps I.bk) hm h) hd
theorem dW{E:Value->Shared->Prop}{pins:List (Addr×Obj)}{s:Shared}{σ:St}{H:Hp}{x:Str}{u:Value}{pos:Pos}{Q:Value->Shared->Prop}(I:zg X pins σ H s)(hg:Gl X x)(hm:X.mg x=none)(hv:bootBuiltins x=some u)(h:Q u s)
  (hn:x≠"__name__":=by decide) (hd:(x == ("__debug__" : Str))=false:=by decide):wpAny (model X.prog X.w) X.A (eval (.Name x pos) X.env) Q E s:=by
 obtain⟨mb,h1,h2⟩:=I.mod.blt;exact Calls.Name_function_global I.ok.kind hg (Calls.loadGlobal_builtin (by rw[I.ok.glob];exact I.mod.glob.keeps I.bk) hm (by rw[I.ok.blt];exact h1.keeps I.bk) ((h2 x hn).trans hv) h) hd
theorem aG{x:Str}{v:V}{u:Value}{pos:Pos}(hg:Gl X x)(hm:X.mg x=some u)(r:aN v u)(hd:(x == ("__debug__" : Str))=false:=by decide):PE X (.Name x pos) (tC v) :=
 λ_ _ _ H _ I h=>eZ I hg hm ⟨v,H,I,r,h⟩ hd
theorem tZ{x:Str}{v:V}{u:Value}{pos:Pos}(hg:Gl X x)(hm:X.mg x=none)(hv:bootBuiltins x=some u)(r:aN v u)(hn:x≠"__name__":=by decide)(hd:(x == ("__debug__" : Str))=false:=by decide):PE X (.Name x pos) (tC v) :=
 λ_ _ _ H _ I h=>dW I hg hm hv ⟨v,H,I,r,h⟩ hn hd
variable {a b:Expr} {ta tb:TE} {pos:Pos}
noncomputable def PC(X:Cx)(op:CmpOp)(a b:Expr)(t:TE):Prop :=
 ∀(pins:List (Addr×Obj)) (s:Shared) (σ:St) (H:Hp) (Q:VK),zg X pins σ H s->t σ H Q ->
  wpAny (model X.prog X.w) X.A (eval a X.env) (λv s1=>wpAny (model X.prog X.w) X.A (eval b X.env) (λu s2=>wpAny (model X.prog X.w) X.A (compareOp op v u) (EP X pins σ Q) X.xe s2) X.xe s1) X.xe s
noncomputable def tB(t:TE):TT:=λσ H Q=>t σ H λx H1=>∃c,x = .bl c/\Q c H1
theorem iM{op:CmpOp}{t:TE}(h:PC X op a b t)(h1:behindInMarks op b=false:=by first|exact nobehind _ (by decide) (by decide)|rfl):PT X (.Compare a [op] [b] pos) (tB t):=by
 intro pins s σ H Q I hw;refine wpAny_isTrue_Compare1 (thn (h pins s σ H _ I hw) λv s1 h1=>thn h1 λu s2 h2=>thn h2 λc s3 ⟨x,H1,I1,r1,q1⟩=>?_) h1;obtain⟨d,rfl,q⟩:=q1;cases r1;exact wpAny_truthy_bool ⟨H1,I1,q⟩
theorem dR{e:Expr}{t:TE}(h:PE X e t)(he:∀whole,isTrue e X.env whole=(do let v <- whole;standAt e.pos;holding [v] (truthy v)):=by intro _;rfl):PT X e (tB t):=by
 intro pins s σ H Q I hw;refine isTrue_plain (thn (h pins s σ H _ I hw) λv s1 ⟨x,H1,I1,r1,q1⟩=>?_) (he _);obtain⟨d,rfl,q⟩:=q1;cases r1;exact wpAny_truthy_bool ⟨H1,I1,q⟩
variable {tA tB':TT} {rest:List Expr}
noncomputable def yO(t u:TT):TT:=λσ H Q=>t σ H λc H1=>if c=true then u σ H1 Q else Q false H1
noncomputable def tOr(t u:TT):TT:=λσ H Q=>t σ H λc H1=>if c=true then Q true H1 else u σ H1 Q
noncomputable def yG(t:TT):TT:=λσ H Q=>t σ H λc H1=>Q (!c) H1
theorem tQ(ha:PT X a tA):PW X (.BoolOp .And [a] pos) tA:=by
 intro wh pins s σ H Q I h;refine isTrue_and (thn (ha pins s σ H Q I h) λc s1 e=>?_);cases c with
 | true=>exact isTrue_and_nil e
 | false=>exact e
theorem eC(ha:PT X a tA):PW X (.BoolOp .Or [a] pos) tA:=by
 intro wh pins s σ H Q I h;refine isTrue_or (thn (ha pins s σ H Q I h) λc s1 e=>?_);cases c with
 | false=>exact isTrue_or_nil e
 | true=>exact e
theorem v7(ha:PT X a tA)(hb:PW X (.BoolOp .And (b::rest) pos) tB'):PW X (.BoolOp .And (a::b::rest) pos) (yO tA tB'):=by
 intro wh pins s σ H Q I h;refine isTrue_and (thn (ha pins s σ H _ I h) λc s1 ⟨H1,I1,q1⟩=>?_);cases c with
 | true=>exact hb wh pins s1 σ H1 Q I1 q1
 | false=>exact⟨H1,I1,q1⟩
theorem dZ(ha:PT X a tA)(hb:PW X (.BoolOp .Or (b::rest) pos) tB'):PW X (.BoolOp .Or (a::b::rest) pos) (tOr tA tB'):=by
 intro wh pins s σ H Q I h;refine isTrue_or (thn (ha pins s σ H _ I h) λc s1 ⟨H1,I1,q1⟩=>?_);cases c with
 | true=>exact⟨H1,I1,q1⟩
 | false=>exact hb wh pins s1 σ H1 Q I1 q1
theorem fC(ha:PT X a tA):PT X (.UnaryOp .Not a pos) (yG tA):=by
 intro pins s σ H Q I h;exact isTrue_not (ha pins s σ H (λc H1=>Q (!c) H1) I h)
noncomputable def xN(ta tb:TE):TE:=λσ H Q=>ta σ H λx H1=>∃c,x = .bl c/\if c=true then tb σ H1 Q else Q (.bl false) H1
noncomputable def xG(ta:TE):TE:=λσ H Q=>ta σ H λx H1=>∃c,x = .bl c/\Q (.bl (!c)) H1
theorem km{op}{t:TE}(h:PE X a t):PE X (.BoolOp op [a] pos) t:=λpins s σ H Q I hw=>BoolOp_one (h pins s σ H Q I hw)
theorem kr(ha:PE X a ta)(hb:PE X (.BoolOp .And (b::rest) pos) tb):PE X (.BoolOp .And (a::b::rest) pos) (xN ta tb):=by
 intro pins s σ H Q I h;refine BoolOp_and (thn (ha pins s σ H _ I h) λv s1 ⟨x,H1,I1,r1,q1⟩=>?_);obtain⟨c,rfl,q1⟩:=q1;cases r1;refine wpAny_truthy_bool ?_;cases c with
 | true=>exact hb pins s1 σ H1 Q I1 q1
 | false=>exact⟨.bl false,H1,I1,rfl,q1⟩
theorem wq(ha:PE X a ta):PE X (.UnaryOp .Not a pos) (xG ta):=by
 intro pins s σ H Q I h;refine UnaryOp_ (thn (ha pins s σ H _ I h) λv s1 ⟨x,H1,I1,r1,q1⟩=>?_);obtain⟨c,rfl,q1⟩:=q1;cases r1;exact not_of (wpAny_truthy_bool ⟨.bl (!c),H1,I1,rfl,q1⟩)
noncomputable def tIf(t:TT)(ta tb:TE):TE:=λσ H Q=>t σ H λc H1=>if c=true then ta σ H1 Q else tb σ H1 Q
theorem eF{c:Expr}(hc:PT X c tA)(ha:PE X a ta)(hb:PE X b tb):PE X (.IfExp c a b pos) (tIf tA ta tb):=by
 intro pins s σ H Q I h;refine wpAny_IfExp (thn (hc pins s σ H _ I h) λd s1 ⟨H1,I1,q1⟩=>?_);cases d with
 | true=>exact ha pins s1 σ H1 Q I1 q1
 | false=>exact hb pins s1 σ H1 Q I1 q1
end
noncomputable def SqL(K:W.Frag)(H:Hp)(a:Addr)(xs:List V):Prop :=
 Rd H a (.lst xs) \/
  ∃(o:Obj) (its:Array Value) (n:Nat),K.lookup a=some o/\o.cls = .type "list"/\o.dict=none/\o.data = .seq its n/\its.size<=sizeLine/\aJ xs its.toList
noncomputable def SqT(K:W.Frag)(H:Hp)(a:Addr)(xs:List V):Prop :=
 Rd H a (.tup xs) \/
  ∃(o:Obj) (its:Array Value) (n:Nat),K.lookup a=some o/\o.cls = .type "tuple"/\o.data = .seq its n/\its.size<=sizeLine/\aJ xs its.toList
noncomputable def zb:Value->Option V
 | .none=>some .non
 | .bool b=>some (.bl b)
 | .int i _=>some (.int i)
 | .str x _=>some (.str x)
 | .bytes b _=>some (.byt b)
 | .float b _=>some (.flt b)
 | .ref a=>some (.ref a)
 | .type n=>some (.ty n)
 | _=>none
theorem aN.abs{x:V}{u:Value}(r:aN x u):zb u=some x:=by
 cases x with
 | non=>cases r;rfl
 | bl _=>cases r;rfl
 | int _=>obtain⟨t,rfl⟩:=r;rfl
 | str _=>obtain⟨t,rfl⟩:=r;rfl
 | byt _=>obtain⟨t,rfl⟩:=r;rfl
 | flt _=>obtain⟨t,rfl⟩:=r;rfl
 | ref _=>cases r;rfl
 | ty _=>cases r;rfl
theorem aN.inj{x y:V}{u:Value}(r:aN x u)(q:aN y u):x=y:=Option.some.inj (r.abs.symm.trans q.abs)
theorem aJ.inj:∀{xs ys:List V} {us:List Value},aJ xs us->aJ ys us->xs=ys
 | _,_,_,.nil,.nil=>rfl
 | _,_,_,.cons r t,.cons r' t'=>by rw[r.inj r',aJ.inj t t']
section
variable {X:Cx} {pins:List (Addr×Obj)} {σ:St} {H:Hp} {s:Shared} {a:Addr} {xs ys:List V}
theorem SqL.of{K:W.Frag}(h:H a=some (.lst xs)):SqL K H a xs:=.inl (.inl h)
theorem SqT.of{K:W.Frag}(h:H a=some (.tup xs)):SqT K H a xs:=.inl (.inl h)
theorem zg.list(I:zg X pins σ H s)(h:SqL X.K H a xs):∃its:List Value,aJ xs its/\PlainL s.heap a its.toArray/\xs.length<=sizeLine:=by
 rcases h with h|⟨o,its,n,hk,hc,hd,hs,hz,r⟩
 ·obtain⟨z,its,n,r,e⟩:=h.ok I.hok
  exact⟨its,r,⟨_,n,e,rfl,rfl,rfl⟩,z⟩
 ·refine⟨its.toList,r,⟨o,n,I.kIn a o hk,hc,hd,by simpa using hs⟩,?_⟩
  have e:=r.length;simp only[Array.length_toList]at e;omega
theorem zg.tuple(I:zg X pins σ H s)(h:SqT X.K H a xs):∃its:List Value,aJ xs its/\IsTup s.heap a its.toArray/\xs.length<=sizeLine:=by
 rcases h with h|⟨o,its,n,hk,hc,hs,hz,r⟩
 ·obtain⟨z,its,r,p⟩:=h.ok I.hok
  exact⟨its,r,p,z⟩
 ·refine⟨its.toList,r,⟨o,I.kIn a o hk,hc,n,by simpa using hs⟩,?_⟩
  have e:=r.length;simp only[Array.length_toList]at e;omega
theorem zg.list_inj(I:zg X pins σ H s)(h:SqL X.K H a xs)(h':SqL X.K H a ys):xs=ys:=by
 obtain⟨its,r,⟨o,n,e,_,_,d⟩,_⟩:=I.list h;obtain⟨its',r',⟨o',n',e',_,_,d'⟩,_⟩:=I.list h';rw[e]at e';cases e';rw[d]at d';injection d' with d1 _
 have:its=its':=by simpa using congrArg Array.toList d1
 subst this;exact r.inj r'
theorem zg.tuple_inj(I:zg X pins σ H s)(h:SqT X.K H a xs)(h':SqT X.K H a ys):xs=ys:=by
 obtain⟨its,r,⟨o,e,_,n,d⟩,_⟩:=I.tuple h;obtain⟨its',r',⟨o',e',_,n',d'⟩,_⟩:=I.tuple h';rw[e]at e';cases e';rw[d]at d';injection d' with d1 _
 have:its=its':=by simpa using congrArg Array.toList d1
 subst this;exact r.inj r'
end
noncomputable abbrev Cx.wish(X:Cx)(E:Value->Shared->Prop):Cx:={ X with xe:=E }
noncomputable abbrev Cx.nox(X:Cx):Cx:=X.wish λ_ _=>False
theorem Cx.Ok.wish{X:Cx}(ok:X.Ok)(E:Value->Shared->Prop):(X.wish E).Ok :=
 ⟨ok.mod,ok.kind,ok.glob,ok.blt,ok.above,ok.inj,ok.has,ok.cab,ok.hd,ok.frames,ok.stk,ok.exf,ok.bs,ok.bsz,ok.noex,ok.exfs,ok.funs,ok.frf⟩
theorem Cx.Ok.unwish{X:Cx}{E:Value->Shared->Prop}(ok:(X.wish E).Ok):X.Ok :=
 ⟨ok.mod,ok.kind,ok.glob,ok.blt,ok.above,ok.inj,ok.has,ok.cab,ok.hd,ok.frames,ok.stk,ok.exf,ok.bs,ok.bsz,ok.noex,ok.exfs,ok.funs,ok.frf⟩
section
variable {X:Cx} {pins:List (Addr×Obj)} {σ:St} {H:Hp} {s:Shared} {E:Value->Shared->Prop}
theorem zg.wish(I:zg X pins σ H s)(E:Value->Shared->Prop):zg (X.wish E) pins σ H s:=⟨I.ok.wish E,I.os,I.bare,I.base,I.loc,I.cell,I.free,I.freeC,I.pin,I.hok,I.len⟩
theorem zg.unwish(I:zg (X.wish E) pins σ H s):zg X pins σ H s:=⟨I.ok.unwish,I.os,I.bare,I.base,I.loc,I.cell,I.free,I.freeC,I.pin,I.hok,I.len⟩
theorem SP.unwish{D:AL}{f:Flow}{s':Shared}(h:SP (X.wish E) pins D f s'):SP X pins D f s':=by
 cases f with
 | next=>obtain⟨σ',H',I,q⟩:=h;exact⟨σ',H',I.unwish,q⟩
 | brk=>obtain⟨σ',H',I,q⟩:=h;exact⟨σ',H',I.unwish,q⟩
 | cont=>obtain⟨σ',H',I,q⟩:=h;exact⟨σ',H',I.unwish,q⟩
 | ret u=>obtain⟨v,σ',H',I,r,q⟩:=h;exact⟨v,σ',H',I.unwish,r,q⟩
theorem PSs.nox{st:List Stmt}{t:TS}(h:PSs X.nox st t):PSs X st t:=λpins s σ H D I hw =>
 wpAny_mono (h pins s σ H D (I.wish _) hw) (λ_ _ q=>q.unwish) λ_ _ z=>False.elim z
end
section
variable {X:Cx} {st:Stmt} {rest:List Stmt} {t u:TS} {e:Expr} {te:TE} {pos:Pos}
noncomputable def xH:TS:=λD σ H=>D.nx σ H
noncomputable def yF(t u:TS):TS:=λD σ H=>t { D with nx:=u D } σ H
theorem aE:PSs X [] xH:=λ_ _ σ H _ I h=>wpAny_execs_nil ⟨σ,H,I,h⟩
theorem ai(h1:PS X st t)(h2:PSs X rest u):PSs X (st::rest) (yF t u):=by
 intro pins s σ H D I h;refine wpAny_execs_cons (thn (h1 pins s σ H { D with nx:=u D } I h) λf s1 q=>?_);cases f with
 | next =>
  obtain⟨σ',H',I',q⟩:=q;exact h2 pins s1 σ' H' D I' q
 | ret v=>exact q
 | brk=>exact q
 | cont=>exact q
theorem am(h1:PS X st t):PSs X [st] t:=by
 intro pins s σ H D I h;refine wpAny_execs_cons (thn (h1 pins s σ H D I h) λf s1 q=>?_);cases f with
 | next=>exact wpAny_execs_nil q
 | ret v=>exact q
 | brk=>exact q
 | cont=>exact q
theorem zg.quiet{pins:List (Addr×Obj)}{σ:St}{H:Hp}{s:Shared}(I:zg X pins σ H s):interactive X.env=false:=by simp[interactive,I.ok.kind]
noncomputable def xK(te:TE):TS:=λD σ H=>te σ H λ_ H1=>D.nx σ H1
theorem bJ(he:PE X e te)(hs:swapsWith e none pos.line X.env=pure false:=by rfl):PS X (.Expr e pos) (xK te):=by
 intro pins s σ H D I h;exact wpAny_Expr_any (thn (he pins s σ H _ I h) λv s1 ⟨x,H1,I1,r1,q1⟩=>⟨σ,H1,I1,q1⟩) I.quiet hs
noncomputable def xE(te:TE):TS:=λD σ H=>te σ H D.rt
theorem az(he:PE X e te):PS X (.Return (some e) pos) (xE te):=by
 intro pins s σ H D I h;exact wpAny_Return_some (thn (he pins s σ H _ I h) λv s1 ⟨x,H1,I1,r1,q1⟩=>⟨x,σ,H1,I1,r1,q1⟩)
noncomputable def xD:TS:=λD _ H=>D.rt .non H
theorem oA:PS X (.Return none pos) xD:=λ_ _ σ H _ I h=>wpAny_Return_none ⟨.non,σ,H,I,rfl,h⟩
noncomputable def yI(c:TT)(t u:TS):TS:=λD σ H=>c σ H λb H1=>if b=true then t D σ H1 else u D σ H1
theorem aQ{c:Expr}{a b:List Stmt}{tc:TT}(hc:PT X c tc)(ha:PSs X a t)(hb:PSs X b u):PS X (.If c a b pos) (yI tc t u):=by
 intro pins s σ H D I h;refine wpAny_If (thn (hc pins s σ H _ I h) λd s1 ⟨H1,I1,q1⟩=>?_);cases d with
 | true=>exact ha pins s1 σ H1 D I1 q1
 | false=>exact hb pins s1 σ H1 D I1 q1
end
noncomputable abbrev TG:=V->St->Hp->(St->Hp->Prop)->Prop
noncomputable abbrev TGs:=List V->St->Hp->(St->Hp->Prop)->Prop
noncomputable def PG(X:Cx)(target:Expr)(t:TG):Prop :=
 ∀(pins:List (Addr×Obj)) (s:Shared) (σ:St) (H:Hp) (v:V) (u:Value) (Q:St->Hp->Prop),zg X pins σ H s->aN v u->t v σ H Q ->
  wpAny (model X.prog X.w) X.A (assign target X.env u) (λ_ s'=>∃σ' H',zg X pins σ' H' s'/\Q σ' H') X.xe s
noncomputable def PGs(X:Cx)(ts:List Expr)(t:TGs):Prop :=
 ∀(pins:List (Addr×Obj)) (s:Shared) (σ:St) (H:Hp) (vs:List V) (us:List Value) (Q:St->Hp->Prop),zg X pins σ H s->aJ vs us->t vs σ H Q ->
  wpAny (model X.prog X.w) X.A (assignInOrder ((assignEach ts X.env).map (·.2)) us) (λ_ s'=>∃σ' H',zg X pins σ' H' s'/\Q σ' H') X.xe s
noncomputable abbrev xp:=V->V->V->Hp->(Hp->Prop)->Prop
noncomputable def xr(X:Cx)(t:xp):Prop :=
 ∀(pins:List (Addr×Obj)) (s:Shared) (σ:St) (H:Hp) (o i v:V) (ov iv u:Value) (Q:Hp->Prop),zg X pins σ H s->aN o ov->aN i iv->aN v u->t o i v H Q ->
  wpAny (model X.prog X.w) X.A (setItem ov iv u) (λ_ s'=>∃H',zg X pins σ H' s'/\Q H') X.xe s
section
variable {X:Cx} {pos:Pos}
noncomputable def oR(i:Nat):TG:=λv σ H Q=>Q (σ.set i (some v)) H
theorem aK{i:Nat}{x:Str}(hN:X.N.Nodup)(hi:X.N[i]? = some x)(hx:Loc X.env.scope x)(hf:X.fn x=true\/X.env.scope.names.lookup x=some .local:=by first|exact .inl rfl|exact .inr rfl|assumption):PG X (.Name x pos) (oR i):=by
 intro pins s σ H v u Q I r h;exact wpAny_assign_Name (iH I hN hi hx r (λs' I'=>⟨_,H,I',h⟩) hf)
inductive FA (vs:List V) (σ:St) (H:Hp) (Q:St->Hp->Prop):Prop
 | mk (e:vs = []) (q:Q σ H):FA vs σ H Q
inductive E2 (t:TG) (u:TGs) (vs:List V) (σ:St) (H:Hp) (Q:St->Hp->Prop):Prop
 | mk (v:V) (r:List V) (e:vs=v::r) (q:t v σ H λσ' H'=>u r σ' H' Q):E2 t u vs σ H Q
theorem cX:PGs X [] FA:=by
 intro pins s σ H vs us Q I r h;obtain⟨e,h⟩:=h;subst e;cases r;exact assignInOrder_nil ⟨σ,H,I,h⟩
theorem aV{e:Expr}{es:List Expr}{t:TG}{u:TGs}(h1:PG X e t)(h2:PGs X es u)
  (hs:(assignEach (e::es) X.env).map (·.2)=assign e X.env::(assignEach es X.env).map (·.2):=by rfl):PGs X (e::es) (E2 t u):=by
 intro pins s σ H vs us Q I r h;obtain⟨v,vr,e1,h⟩:=h;subst e1;cases r with
 | cons r rr =>
  rw[hs];refine assignInOrder_cons (thn (h1 pins s σ H _ _ _ I r h) λ_ s1 ⟨σ1,H1,I1,q1⟩=>?_);exact h2 pins s1 σ1 H1 _ _ Q I1 rr q1
inductive Fp (K:W.Frag) (n:Nat) (t:TGs) (v:V) (σ:St) (H:Hp) (Q:St->Hp->Prop):Prop
 | mk (a:Addr) (xs:List V) (e:v = .ref a) (s:SqT K H a xs) (l:xs.length=n) (q:t xs σ H Q):Fp K n t v σ H Q
theorem eE{es:List Expr}{k:Nat}{t:TGs}{n:Nat}(hc:X.calm=true)(h:PGs X es t)
  (hn:(assignEach es X.env).length=n:=by rfl) (hst:(assignEach es X.env).findIdx? (·.1)=none:=by rfl):PG X (.Tuple es k pos) (Fp X.K n t):=by
 intro pins s σ H v u Q I r hw;obtain⟨a,xs,e1,hq,hl,hw⟩:=hw;subst e1;cases r;obtain⟨its,rv,ht,hz⟩:=I.tuple hq;refine assign_Tuple_tuple (I.ok.hd hc) ht (by simp[hn,<- hl,rv.length]) hst λh' hx=>?_;have I1:zg X pins σ H { s with heap:=h' }:=I.kept (t':=s.toks) λb o e=>hx b o (Nat.ne_of_lt (Heap.lt_size e)) e
 exact h pins _ σ H xs _ Q I1 (by simpa using rv) hw
noncomputable def yZ(to ti:TE)(t:xp):TG:=λv σ H Q=>to σ H λo H1=>ti σ H1 λi H2=>t o i v H2 λH3=>Q σ H3
theorem wm{o i:Expr}{to ti:TE}{t:xp}(ho:PE X o to)(hi:PE X i ti)(hs:xr X t)
  (ha:∀v,assign (.Subscript o i pos) X.env v=(do
   let ov <- holding [v] (eval o X.env)
   let iv <- holding [v,ov] (eval i X.env)
   standAt pos
   holding [v,ov,iv] (setItem ov iv v)
   release [v,ov,iv] []):=by intro _;rfl):PG X (.Subscript o i pos) (yZ to ti t):=by
 intro pins s σ H v u Q I r h;rw[ha];refine wpAny_bind (wpAny_holding (thn (ho pins s σ H _ I h) λov s1 ⟨x,H1,I1,r1,q1⟩=>?_));refine wpAny_bind (wpAny_holding (thn (hi pins s1 σ H1 _ I1 q1) λiv s2 ⟨y,H2,I2,r2,q2⟩=>?_));refine wpAny_bind (wpAny_standAt (wpAny_bind (wpAny_holding (thn (hs pins s2 σ H2 x y v ov iv u _ I2 r1 r2 r q2) λ_ s3 ⟨H3,I3,q3⟩=>?_))));exact wpAny_release ⟨σ,H3,I3,q3⟩
noncomputable def vT(te:TE)(g:TG):TS:=λD σ H=>te σ H λx H1=>g x σ H1 D.nx
theorem wb{tg e:Expr}{te:TE}{g:TG}(he:PE X e te)(hg:PG X tg g)(hs:swapsWithSole [tg] e pos.line X.env=pure false:=by rfl)(hw:swappedStores [tg] e X.env=pure none:=by rfl)
  (h1:(assignEach [tg] X.env).map (·.2) = [assign tg X.env]:=by rfl):PS X (.Assign [tg] e pos) (vT te g):=by
 intro pins s σ H D I h;refine wpAny_Assign_stores (thn (he pins s σ H _ I h) λv s1 ⟨x,H1,I1,r1,q1⟩=>?_) hs hw;rw[h1];exact thn (hg pins s1 σ H1 x v _ I1 r1 q1) λ_ s2 q=>q
theorem au{i:Nat}{x:Str}{e:Expr}{te:TE}{pos':Pos}(hN:X.N.Nodup)(hi:X.N[i]? = some x)(hx:Loc X.env.scope x)(he:PE X e te)(hs:swapsWith e (some (.Name x pos')) pos.line X.env=pure false:=by rfl)(hf:X.fn x=true\/X.env.scope.names.lookup x=some .local:=by first|exact .inl rfl|exact .inr rfl|assumption) :
  PS X (.Assign [.Name x pos'] e pos) (vT te (oR i)):=by
 intro pins s σ H D I h;refine wpAny_Assign_Name (thn (he pins s σ H _ I h) λv s1 ⟨y,H1,I1,r1,q1⟩=>?_) hs;exact iH I1 hN hi hx r1 (λs2 I2=>⟨_,H1,I2,q1⟩) hf
end
section
variable {X:Cx} {pos:Pos}
noncomputable def qt(c:TT)(tb:TS):TS:=λD σ H=>∃W:Nat->St->Hp->Prop,(∃m,W m σ H)/\∀m σ H,W m σ H ->
 c σ H λb H1=>if b=true then ∃N:St->Hp->Prop,(∀σ' H',N σ' H'->∃m',m'<m/\W m' σ' H')/\tb { D with nx:=N,ct:=N,bk:=D.nx } σ H1 else D.nx σ H1
theorem dE{c:Expr}{body:List Stmt}{tc:TT}{tb:TS}(hp:PassesOwn (model X.prog X.w) X.A X.env X.xe)(hc:PT X c tc)(hb:PSs X body tb):PS X (.While c body [] pos) (qt tc tb):=by
 intro pins s σ H D I h;obtain⟨W,⟨m0,w0⟩,turn⟩:=h;refine wpAny_While (codeAny_whileLoop (λn s'=>∃σ' H',zg X pins σ' H' s'/\W n σ' H') ?_ m0 ⟨σ,H,I,w0⟩);rintro n s1 ⟨σ1,H1,I1,w1⟩;refine wpAny_passesOwn hp (thn (hc pins s1 σ1 H1 _ I1 (turn n σ1 H1 w1)) λb s2 ⟨H2,I2,q2⟩=>?_);cases b with
 | true =>
  obtain⟨N,hN,q2⟩:=q2;rw[if_pos rfl];refine wpAny_passesOwn hp (thn (hb pins s2 σ1 H2 _ I2 q2) λf s3 q3=>?_);cases f with
  | next =>
   obtain⟨σ3,H3,I3,n3⟩:=q3;obtain⟨m',hm,w3⟩:=hN σ3 H3 n3;exact⟨m',hm,σ3,H3,I3,w3⟩
  | cont =>
   obtain⟨σ3,H3,I3,n3⟩:=q3;obtain⟨m',hm,w3⟩:=hN σ3 H3 n3;exact⟨m',hm,σ3,H3,I3,w3⟩
  | brk=>exact q3
  | ret v=>exact q3
 | false =>
  rw[if_neg Bool.false_ne_true];exact wpAny_execs_nil ⟨σ1,H2,I2,q2⟩
end
structure It where
 go:Nat->Hp->Prop
 yld:Nat->Hp->V->Hp->Prop
 stop:Nat->Hp->Prop
noncomputable def ei(X:Cx)(pins:List (Addr×Obj))(H:Hp)(b:Addr):Prop :=
 H b=none/\b≠X.env.locals/\b∉X.fs/\(b∈X.ex\/X.s₀.heap.objs.size<=b)/\(∀x c,X.env.cells.lookup x=some c->c≠b)/\∀p∈X.pn++pins,p.1≠b
theorem zg.fpOk{X:Cx}{pins:List (Addr×Obj)}{σ:St}{H H':Hp}{s:Shared}{b:Addr}(I:zg X pins σ H s)(hb:s.heap.objs.size<=b)(hn:H' b=none):ei X pins H' b:=by
 refine⟨hn,Nat.ne_of_gt (Nat.lt_of_lt_of_le I.lt hb),I.nofs hb,.inr (Nat.le_trans I.sz hb),λx c e z=>?_,λp hp z=>?_⟩
 ·obtain⟨v,q⟩:=I.cell x c e
  exact absurd (Nat.lt_of_lt_of_le q.lt (by rw[z];exact hb)) (Nat.lt_irrefl _)
 ·exact absurd (Nat.lt_of_lt_of_le (Heap.lt_size (I.pin p hp).1) (by rw[z];exact hb)) (Nat.lt_irrefl _)
structure CU(P:Program)(w:World)(K:W.Frag)(tg:Expr)(J:It)(fp:List Addr)(it:Addr)(tn:Nat->Heap->Prop):Prop where
 mem:it∈fp
 obj:∀i h,tn i h->∀b∈fp,∃o,h.get? b=some o/\∀v,o.data≠.cell v
 keep:∀i h h',tn i h->(∀b∈fp,∀o,h.get? b=some o->h'.get? b=some o)->tn i h'
 item:∀(X:Cx),X.prog=P->X.w=w->X.K=K->X.calm=true->∀(i:Nat) (pins:List (Addr×Obj)) (s:Shared) (σ:St) (H:Hp) (E:Value->Shared->Prop),zg X pins σ H s->(∀b∈fp,ei X pins H b)->tn i s.heap->J.go i H ->
  wpAny (model P w) X.A (pyNext (.ref it)) (λr s1=>∃u,r=some u /\
   wpAny (model P w) X.A (letOwnedTupleGo tg (.ref it) u) (λ_ s2=>∃x H',zg X pins σ H' s2/\aN x u/\J.yld i H x H'/\tn (i+1) s2.heap/\∀b∈fp,H' b=none) E s1) E s
 done:∀(X:Cx),X.prog=P->X.w=w->X.K=K->X.calm=true->∀(i:Nat) (pins:List (Addr×Obj)) (s:Shared) (σ:St) (H:Hp) (E:Value->Shared->Prop),zg X pins σ H s->(∀b∈fp,ei X pins H b)->tn i s.heap->J.stop i H ->
  wpAny (model P w) X.A (pyNext (.ref it)) (λr s1=>r=none/\zg X pins σ H s1) E s
 self:∀(A:Around) (i:Nat) (s:Shared) (Q:Value->Shared->Prop) (E:Value->Shared->Prop),tn i s.heap->Q (.ref it) s->wpAny (model P w) A (pyIter (.ref it)) Q E s
noncomputable abbrev TI:=St->Hp->(It->Hp->Prop)->Prop
noncomputable def PIE(X:Cx)(pins:List (Addr×Obj))(σ:St)(tg:Expr)(R:It->Hp->Prop)(itv:Value)(s2:Shared):Prop :=
 ∃(it:Addr) (fp:List Addr) (tn:Nat->Heap->Prop) (J:It) (H':Hp),itv = .ref it/\zg X pins σ H' s2/\CU X.prog X.w X.K tg J fp it tn/\tn 0 s2.heap/\(∀b∈fp,ei X pins H' b)/\R J H'
noncomputable def PI(X:Cx)(tg iter:Expr)(wi:TI):Prop :=
 ∀(pins:List (Addr×Obj)) (s:Shared) (σ:St) (H:Hp) (R:It->Hp->Prop),zg X pins σ H s->wi σ H R ->
  wpAny (model X.prog X.w) X.A (eval iter X.env) (λv s1=>wpAny (model X.prog X.w) X.A (pyIter v) (PIE X pins σ tg R) X.xe s1) X.xe s
theorem oO{M:Model}{A:Around}{E:Value->Shared->Prop}{s:Shared}{tg:Expr}{it:Addr}{u:Value}{o:Obj}{n:String}{vs:Array Value}{Q:Unit->Shared->Prop}(ho:s.heap.get? it=some o)(hc:o.cls = .type n)(hd:o.data = .fields vs)
    (hn:["enumerate","zip","dict_itemiterator","dict_reverseitemiterator","odict_iterator","itertools.zip_longest","itertools.pairwise"].contains n=false) (hQ:Q () s):wpAny M A (letOwnedTupleGo tg (.ref it) u) Q E s:=by
  unfold letOwnedTupleGo;cases tg <;> first
    | exact wpAny_pure hQ
    | (cases u <;> first
        | exact wpAny_pure hQ
        | (refine wpAny_bind (wpAny_load ho ?_)
           rw[hc,hd];show wpAny M A (if (["enumerate","zip","dict_itemiterator","dict_reverseitemiterator","odict_iterator","itertools.zip_longest","itertools.pairwise"].contains n && vs[0]? == some (rawInt _))=true then _ else _) Q E s
           rw[if_neg (by intro h;rw[hn,Bool.false_and]at h;cases h)];exact wpAny_pure hQ))
noncomputable def Itl(K:W.Frag)(a:Addr):It :=
 ⟨λi H=>∃xs x,SqL K H a xs/\xs[i]? = some x,λi H x H'=>H'=H/\∀xs,SqL K H a xs->xs[i]? = some x,λi H=>∃xs,SqL K H a xs/\xs.length<=i⟩
noncomputable def Itt(K:W.Frag)(a:Addr):It :=
 ⟨λi H=>∃xs x,SqT K H a xs/\xs[i]? = some x,λi H x H'=>H'=H/\∀xs,SqT K H a xs->xs[i]? = some x,λi H=>∃xs,SqT K H a xs/\xs.length<=i⟩
noncomputable def Itr(lo:Int)(n:Nat):It:=⟨λi _=>i<n,λi H x H'=>H'=H/\x = .int (lo+i),λi _=>n<=i⟩
theorem pz{P:Program}{w:World}{K:W.Frag}{tg:Expr}(a it:Addr):CU P w K tg (Itl K a) [it] it (λi h=>h.IsListIter it a i) where
 mem:=by simp
 obj:=λi h st b hb=>by
  have e:b=it:=by simpa using hb
  subst e;obtain⟨o,e,c,d⟩:=st;exact⟨o,e,λv z=>by rw[d]at z;cases z⟩
 keep:=λi h h' st k=>st.at λo e=>k it (by simp) o e
 item:=by
  intro X hP hw hK hc i pins s σ H E I hf st hg;subst hP hw hK;obtain⟨xs,x,hq,hx⟩:=hg;obtain⟨its,rv,p,hz⟩:=I.list hq;obtain⟨u,hu,ru⟩:=rv.get hx;obtain⟨f0,f1,f2,f3,f4,f5⟩:=hf it (by simp);refine wpAny_pyNext_list_item st p.isList (x:=u) (by simpa using hu) λh' st' sb=>?_;have I1:zg X pins σ H { s with heap:=h' }:=I.turned (t':=s.toks) (λb o hb e=>(sb.2 b hb).trans e) f0 f1 f3 f4 f5;obtain⟨o,e,c,d⟩:=id st';exact⟨u,rfl,oO (s:={ s with heap:=h' }) e c d (by decide) ⟨x,H,I1,ru,⟨rfl,λys hy=>by rw[I.list_inj hy hq];exact hx⟩,st',λb hb=>(hf b hb).1⟩⟩
 done:=by
  intro X hP hw hK hc i pins s σ H E I hf st hg;subst hP hw hK;obtain⟨xs,hq,hx⟩:=hg;obtain⟨its,rv,p,hz⟩:=I.list hq;obtain⟨f0,f1,f2,f3,f4,f5⟩:=hf it (by simp);have hl:=rv.length;exact wpAny_pyNext_list_end (I.ok.hd hc) st p.isList (by simp;omega) λh' eb=>⟨rfl,I.turned (t':=s.toks) (λb o hb e=>eb b o hb e) f0 f1 f3 f4 f5⟩
 self:=λ_ _ _ _ _ st h=>wpAny_pyIter_listiter st h
theorem mK{P:Program}{w:World}{K:W.Frag}{tg:Expr}(a it:Addr):CU P w K tg (Itt K a) [it] it (λi h=>h.IsTupleIter it a i) where
 mem:=by simp
 obj:=λi h st b hb=>by
  have e:b=it:=by simpa using hb
  subst e;obtain⟨o,e,c,d⟩:=st;exact⟨o,e,λv z=>by rw[d]at z;cases z⟩
 keep:=λi h h' st k=>st.at λo e=>k it (by simp) o e
 item:=by
  intro X hP hw hK hc i pins s σ H E I hf st hg;subst hP hw hK;obtain⟨xs,x,hq,hx⟩:=hg;obtain⟨its,rv,p,hz⟩:=I.tuple hq;obtain⟨u,hu,ru⟩:=rv.get hx;obtain⟨f0,f1,f2,f3,f4,f5⟩:=hf it (by simp);refine wpAny_pyNext_tuple_item st (show s.heap.IsTuple a its.toArray from p) (x:=u) (by simpa using hu) λh' st' sb=>?_;have I1:zg X pins σ H { s with heap:=h' }:=I.turned (t':=s.toks) (λb o hb e=>(sb.2 b hb).trans e) f0 f1 f3 f4 f5;obtain⟨o,e,c,d⟩:=id st';exact⟨u,rfl,oO (s:={ s with heap:=h' }) e c d (by decide) ⟨x,H,I1,ru,⟨rfl,λys hy=>by rw[I.tuple_inj hy hq];exact hx⟩,st',λb hb=>(hf b hb).1⟩⟩
 done:=by
  intro X hP hw hK hc i pins s σ H E I hf st hg;subst hP hw hK;obtain⟨xs,hq,hx⟩:=hg;obtain⟨its,rv,p,hz⟩:=I.tuple hq;obtain⟨f0,f1,f2,f3,f4,f5⟩:=hf it (by simp);have hl:=rv.length;exact wpAny_pyNext_tuple_end (I.ok.hd hc) st (show s.heap.IsTuple a its.toArray from p) (by simp;omega) λh' eb=>⟨rfl,I.turned (t':=s.toks) (λb o hb e=>eb b o hb e) f0 f1 f3 f4 f5⟩
 self:=λ_ _ _ _ _ st h=>wpAny_pyIter_tupleiter st h
theorem mL{P:Program}{w:World}{K:W.Frag}{tg:Expr}(it:Addr)(lo:Int)(n:Nat):CU P w K tg (Itr lo n) [it] it (λi h=>IsRangeIter h it (lo+(i:Nat)*1) ((n:Int) - (i:Nat)) 1) where
 mem:=by simp
 obj:=λi h st b hb=>by
  have e:b=it:=by simpa using hb
  subst e;exact⟨_,st,λv z=>by
   have z':Data.fields _=Data.cell v:=z;cases z'⟩
 keep:=λi h h' st k=>k it (by simp) _ st
 item:=by
  intro X hP hw hK hc i pins s σ H E I hf st hg;subst hP hw hK;obtain⟨f0,f1,f2,f3,f4,f5⟩:=hf it (by simp);have W:=Walks.range (prog:=X.prog) (w:=X.w) (I.ok.hd hc) it lo 1 n;refine W.item i s _ _ hg st λv h' tk hv st' kk=>?_;obtain⟨t,rfl⟩:=hv;have I1:zg X pins σ H { s with heap:=h',toks:=tk }:=I.turned (λb o hb e=>kk b o (by simpa using hb) e) f0 f1 f3 f4 f5;refine⟨_,rfl,oO (s:={ s with heap:=h',toks:=tk }) (n:="range_iterator") st' rfl rfl (by decide) ⟨.int (lo+i),H,I1,⟨t,?_⟩,⟨rfl,rfl⟩,st',λb hb=>(hf b hb).1⟩⟩;rw[Int.mul_one]
 done:=by
  intro X hP hw hK hc i pins s σ H E I hf st hg;subst hP hw hK;obtain⟨f0,f1,f2,f3,f4,f5⟩:=hf it (by simp);exact wpAny_pyNext_range_end (I.ok.hd hc) st (by have:n<=i:=hg;omega) λh' eb=>⟨rfl,I.turned (t':=s.toks) (λb o hb e=>eb b o hb e) f0 f1 f3 f4 f5⟩
 self:=λ_ _ _ _ _ st h=>wpAny_pyIter_rangeiter st h
section
variable {X:Cx} {tg:Expr}
noncomputable def yd(K:W.Frag)(tl:TE):TI:=λσ H R=>tl σ H λx H1=>∃a,x = .ref a/\(∃xs,SqL K H1 a xs)/\R (Itl K a) H1
noncomputable def yW(K:W.Frag)(tl:TE):TI:=λσ H R=>tl σ H λx H1=>∃a,x = .ref a/\(∃xs,SqT K H1 a xs)/\R (Itt K a) H1
theorem cW{l:Expr}{tl:TE}(hl:PE X l tl):PI X tg l (yd X.K tl):=by
 intro pins s σ H R I h;refine thn (hl pins s σ H _ I h) λv s1 ⟨x,H1,I1,r1,q1⟩=>?_;obtain⟨a,e,⟨xs,hq⟩,q⟩:=q1;subst e;cases r1;obtain⟨its,rv,p,hz⟩:=I1.list hq;refine wpAny_pyIter_list p.isList ?_;refine⟨s1.heap.objs.size,[s1.heap.objs.size],_,_,H1,rfl,I1.kept (t':=s1.toks) λb o e=>Heap.get?_push_of_some _ e,pz a _,⟨_,Heap.get?_push_size _ rfl,rfl,rfl⟩,λb hb=>?_,q⟩;have e:b=s1.heap.objs.size:=by simpa using hb
 subst e;exact I1.fpOk (Nat.le_refl _) (I1.hok.fresh (Nat.le_refl _))
theorem wg{l:Expr}{tl:TE}(hl:PE X l tl):PI X tg l (yW X.K tl):=by
 intro pins s σ H R I h;refine thn (hl pins s σ H _ I h) λv s1 ⟨x,H1,I1,r1,q1⟩=>?_;obtain⟨a,e,⟨xs,hq⟩,q⟩:=q1;subst e;cases r1;obtain⟨its,rv,p,hz⟩:=I1.tuple hq;refine wpAny_pyIter_tuple (show s1.heap.IsTuple a its.toArray from p) ?_;refine⟨s1.heap.objs.size,[s1.heap.objs.size],_,_,H1,rfl,I1.kept (t':=s1.toks) λb o e=>Heap.get?_push_of_some _ e,mK a _,⟨_,Heap.get?_push_size _ rfl,rfl,rfl⟩,λb hb=>?_,q⟩;have e:b=s1.heap.objs.size:=by simpa using hb
 subst e;exact I1.fpOk (Nat.le_refl _) (I1.hok.fresh (Nat.le_refl _))
theorem lq{pins:List (Addr×Obj)}{σ:St}{H:Hp}{s:Shared}{R:It->Hp->Prop}{E:Value->Shared->Prop}{lo hi:Int}{t u v:Tok}{tk:Nat}(I:zg X pins σ H s)(h1:-(2^62)<=lo)(h2:lo<2^62)(h3:-(2^62)<=hi)(h4:hi<2^62)
  (q:R (Itr lo (hi - lo).toNat) H):wpAny (model X.prog X.w) X.A (pyIter (.ref s.heap.objs.size)) (PIE X pins σ tg R) E { s with heap:=s.heap.push { cls:=.type "range",data:=.fields #[.int lo t,.int hi u,.int 1 v] },toks:=tk }:=by
 refine wpAny_pyIter_range (IsRange.new ..) (small_one h1 h2 h3 h4) ?_;have I1:zg X pins σ H { s with heap:=s.heap.push { cls:=.type "range",data:=.fields #[.int lo t,.int hi u,.int 1 v] },toks:=tk }:=I.kept λb o e=>Heap.get?_push_of_some _ e;refine⟨(s.heap.push { cls:=.type "range",data:=.fields #[.int lo t,.int hi u,.int 1 v] }).objs.size,[(s.heap.push { cls:=.type "range",data:=.fields #[.int lo t,.int hi u,.int 1 v] }).objs.size],_,_,H,rfl,
  I1.kept (t':=tk) λb o e=>Heap.get?_push_of_some _ e,mL _ lo (hi - lo).toNat,?_,λb hb=>?_,q⟩
 ·have e1:lo+((0:Nat):Int)*1=lo:=by simp
  have e2:(((hi - lo).toNat:Nat):Int) - ((0:Nat):Int)=Builtin.Range.rangeSize lo hi 1:=by rw[rangeSize_one];split <;> omega
  show IsRangeIter _ _ (lo+((0:Nat):Int)*1) ((((hi - lo).toNat:Nat):Int) - ((0:Nat):Int)) 1;rw[e1,e2];exact Heap.get?_push_size _ rfl
 ·have e:b=(s.heap.push { cls:=.type "range",data:=.fields #[.int lo t,.int hi u,.int 1 v] }).objs.size:=by simpa using hb
  subst e;exact I1.fpOk (Nat.le_refl _) (I1.hok.fresh (Nat.le_refl _))
noncomputable def yc(ta:TA):TI:=λσ H R=>ta σ H λvs H1=>∃j:Int,vs = [.int j]/\-(2^62)<=j/\j<2^62/\R (Itr 0 j.toNat) H1
noncomputable def yb(ta:TA):TI:=λσ H R=>ta σ H λvs H1=>∃i j:Int,vs = [.int i,.int j]/\(-(2^62)<=i/\i<2^62/\-(2^62)<=j/\j<2^62)/\R (Itr i (j - i).toNat) H1
theorem bW{a:Expr}{ta:TA}{p pos:Pos}(hg:Gl X "range")(hm:X.mg "range" = none)(ha:PA X [a] ta)(hs:starEach [a] X.env = [(false,eval a X.env)]:=by rfl):PI X tg (.Call (.Name "range" p) [a] [] pos) (yc ta):=by
 intro pins s σ H R I h;refine Call_ (dW I hg hm boot_range (PyProof.Rows.callWith_type1 (thn (ha pos pins s σ H _ I h) λus s1 ⟨vs,H1,I1,r1,q1⟩=>?_) hs rfl));obtain⟨j,e,q1,q2,q⟩:=q1;subst e;cases r1 with
 | cons r rr =>
  cases rr;obtain⟨t,rfl⟩:=r;exact call_range_1 (lq I1 (by omega) (by omega) q1 q2 (by simpa using q))
theorem eX{a b:Expr}{ta:TA}{p pos:Pos}(hg:Gl X "range")(hm:X.mg "range" = none)(ha:PA X [a,b] ta)(hs:starEach [a,b] X.env = [(false,eval a X.env),(false,eval b X.env)]:=by rfl)(hs2:starEach [b] X.env = [(false,eval b X.env)]:=by rfl) :
  PI X tg (.Call (.Name "range" p) [a,b] [] pos) (yb ta):=by
 intro pins s σ H R I h;refine Call_ (dW I hg hm boot_range (PyProof.Rows.callWith_type1 (thn (ha pos pins s σ H _ I h) λus s1 ⟨vs,H1,I1,r1,q1⟩=>?_) (by rw[hs,hs2]) (by rw[hs2];rfl)));obtain⟨i,j,e,⟨q1,q2,q3,q4⟩,q⟩:=q1;subst e;cases r1 with
 | cons r rr =>
  cases rr with
  | cons r' rr =>
   cases rr;obtain⟨t,rfl⟩:=r;obtain⟨t',rfl⟩:=r';exact call_range_2 (lq I1 q1 q2 q3 q4 q)
noncomputable def yK(wi:TI)(g:TG)(tb:TS):TS:=λD σ H=>wi σ H λJ H1=>∃W:Nat->Nat->St->Hp->Prop,(∃m,W 0 m σ H1)/\∀i m σ H,W i m σ H ->
 (J.stop i H/\D.nx σ H)\/(J.go i H/\∃N:St->Hp->Prop,(∀σ' H',N σ' H'->∃m',m'<m/\W (i+1) m' σ' H')/\∀x H',J.yld i H x H'->g x σ H' λσ2 H2=>tb { D with nx:=N,ct:=N,bk:=D.nx } σ2 H2)
noncomputable def iP(fp:List Addr)(h:Heap):List (Addr×Obj):=fp.filterMap λb=>(h.get? b).map λo=>(b,o)
theorem cM{fp:List Addr}{h:Heap}{b:Addr}{o:Obj}(hb:b∈fp)(e:h.get? b=some o):(b,o)∈iP fp h:=List.mem_filterMap.mpr ⟨b,hb,by rw[e];rfl⟩
theorem pJ{fp:List Addr}{h:Heap}{p:Addr×Obj}(hp:p∈iP fp h):p.1∈fp/\h.get? p.1=some p.2:=by
 obtain⟨b,hb,e⟩:=List.mem_filterMap.mp hp;cases q:h.get? b with
 | none=>rw[q]at e;cases e
 | some o =>
  rw[q]at e;have e':(b,o)=p:=Option.some.inj e;subst e';exact⟨hb,q⟩
theorem zg.pinned{pins:List (Addr×Obj)}{σ:St}{H:Hp}{s:Shared}{fp:List Addr}(I:zg X pins σ H s)(hf:∀b∈fp,ei X pins H b)(ho:∀b∈fp,∃o,s.heap.get? b=some o/\∀v,o.data≠.cell v):zg X (pins++iP fp s.heap) σ H s :=
 I.pins_of λp hp=>(List.mem_append.mp hp).elim (λz=>I.pin p (List.mem_append_right _ z)) λz=>by
  obtain⟨hb,e⟩:=pJ z;obtain⟨f0,f1,f2,_⟩:=hf p.1 hb;obtain⟨o,e',d⟩:=ho p.1 hb;rw[e]at e';cases e';exact⟨e,f0,f1,f2,d⟩
theorem zg.unpinned{pins pl:List (Addr×Obj)}{σ:St}{H:Hp}{s:Shared}(I:zg X (pins++pl) σ H s):zg X pins σ H s:=I.pins_of λp hp=>I.pin p (List.mem_append_right _ (List.mem_append_left _ hp))
theorem bI{iter:Expr}{body:List Stmt}{wi:TI}{g:TG}{tb:TS}{pos:Pos}(hp:PassesOwn (model X.prog X.w) X.A X.env X.xe)(hc:X.calm=true)(hi:PI X tg iter wi)(hg:PG X tg g)(hb:PSs X body tb)
  (hs:∀x,foldedSetIterable iter X.env x=pure x:=by intro _;rfl):PS X (.For tg iter body [] pos) (yK wi g tb):=by
 intro pins s σ H D I h;refine wpAny_For (thn (hi pins s σ H _ I h) λv s1 h1=>thn h1 λitv s2 h2=>?_) hs;obtain⟨it,fp,tn,J,H2,e,I2,T,st2,f2,W,⟨m0,w0⟩,turn⟩:=h2;subst e;have stat:∀{H':Hp},(∀b∈fp,H' b=none)->∀b∈fp,ei X pins H' b:=λhn b hb=>⟨hn b hb,(f2 b hb).2⟩;refine codeAny_forLoop_any (λn s'=>∃i σ' H',zg X pins σ' H' s'/\tn i s'.heap/\(∀b∈fp,H' b=none)/\W i n σ' H') ?_ m0 ⟨0,σ,H2,I2,st2,λb hb=>(f2 b hb).1,w0⟩;rintro n s3 ⟨i,σ3,H3,I3,st3,fr3,w3⟩;rcases turn i n σ3 H3 w3 with⟨stop,qn⟩|⟨go,N,hN,step⟩
 ·refine wpAny_passesOwn hp (thn (T.done X rfl rfl rfl hc i pins s3 σ3 H3 X.xe I3 (stat fr3) st3 stop) λr s4 ⟨hr,I4⟩=>?_)
  subst hr;exact wpAny_execs_nil ⟨σ3,H3,I4,qn⟩
 ·refine wpAny_passesOwn hp (thn (T.item X rfl rfl rfl hc i pins s3 σ3 H3 X.xe I3 (stat fr3) st3 go) λr s4 ⟨u,hr,h4⟩=>?_)
  subst hr;refine wpAny_passesOwn hp (thn h4 λ_ s5 ⟨x,H5,I5,r5,y5,st5,fr5⟩=>?_);have I5':=I5.pinned (stat fr5) (T.obj _ _ st5);refine wpAny_passesOwn hp (thn (hg _ s5 σ3 H5 x u _ I5' r5 (step x H5 y5)) λ_ s6 ⟨σ6,H6,I6,q6⟩=>?_);refine wpAny_passesOwn hp (thn (hb _ s6 σ6 H6 _ I6 q6) λf s7 q7=>?_);have again:∀{σ7:St} {H7:Hp},zg X (pins++iP fp s5.heap) σ7 H7 s7->N σ7 H7->∃m,m<n/\∃i σ' H',zg X pins σ' H' s7/\tn i s7.heap/\(∀b∈fp,H' b=none)/\W i m σ' H':=λ{σ7 H7} I7 n7=>by
   obtain⟨m',hm,w7⟩:=hN σ7 H7 n7;refine⟨m',hm,i+1,σ7,H7,I7.unpinned,T.keep _ _ _ st5 λb hb o e=>(I7.pin (b,o) (List.mem_append_right _ (List.mem_append_right _ (cM hb e)))).1,λb hb=>?_,w7⟩;obtain⟨o,e,d⟩:=T.obj _ _ st5 b hb;exact(I7.pin (b,o) (List.mem_append_right _ (List.mem_append_right _ (cM hb e)))).2.1
  cases f with
  | next=>obtain⟨σ7,H7,I7,n7⟩:=q7;exact again I7 n7
  | cont=>obtain⟨σ7,H7,I7,n7⟩:=q7;exact again I7 n7
  | brk=>obtain⟨σ7,H7,I7,q7⟩:=q7;exact⟨σ7,H7,I7.unpinned,q7⟩
  | ret v=>obtain⟨x7,σ7,H7,I7,r7,q7⟩:=q7;exact⟨x7,σ7,H7,I7.unpinned,r7,q7⟩
end
theorem i9{K:W.Frag}{a:Addr}{xs:List V}{g:TG}{tb:TS}{D:AL}{σ:St}{H:Hp}(Pv:Nat->St->Hp->Prop)(h0:Pv 0 σ H)(hl:∀i σ H,i<=xs.length->Pv i σ H->SqL K H a xs)
  (hs:∀i x σ H,xs[i]? = some x->Pv i σ H->g x σ H λσ2 H2=>tb { D with nx:=Pv (i+1),ct:=Pv (i+1),bk:=D.nx } σ2 H2) (hd:∀σ H,Pv xs.length σ H->D.nx σ H) :
  ∃W:Nat->Nat->St->Hp->Prop,(∃m,W 0 m σ H)/\∀i m σ H,W i m σ H ->
   ((Itl K a).stop i H/\D.nx σ H)\/((Itl K a).go i H/\∃N:St->Hp->Prop,(∀σ' H',N σ' H'->∃m',m'<m/\W (i+1) m' σ' H')/\∀x H',(Itl K a).yld i H x H'->g x σ H' λσ2 H2=>tb { D with nx:=N,ct:=N,bk:=D.nx } σ2 H2):=by
 refine⟨λi m σ H=>m=xs.length - i/\i<=xs.length/\Pv i σ H,⟨xs.length,by simp,Nat.zero_le _,h0⟩,?_⟩;rintro i m σ H ⟨rfl,hi,p⟩;have q:=hl i σ H hi p
 by_cases hlt:i<xs.length
 ·refine .inr ⟨⟨xs,xs[i],q,by simp[hlt]⟩,Pv (i+1),λσ' H' p'=>⟨xs.length - (i+1),by omega,rfl,hlt,p'⟩,λx H' y=>?_⟩
  obtain⟨e,y⟩:=y;subst e;exact hs i x σ _ (y xs q) p
 ·have e:i=xs.length:=by omega
  subst e;exact .inl ⟨⟨xs,q,Nat.le_refl _⟩,hd σ H p⟩
theorem uO{K:W.Frag}{a:Addr}{xs:List V}{g:TG}{tb:TS}{D:AL}{σ:St}{H:Hp}(Pv:Nat->St->Hp->Prop)(h0:Pv 0 σ H)(hl:∀i σ H,i<=xs.length->Pv i σ H->SqT K H a xs)
  (hs:∀i x σ H,xs[i]? = some x->Pv i σ H->g x σ H λσ2 H2=>tb { D with nx:=Pv (i+1),ct:=Pv (i+1),bk:=D.nx } σ2 H2) (hd:∀σ H,Pv xs.length σ H->D.nx σ H) :
  ∃W:Nat->Nat->St->Hp->Prop,(∃m,W 0 m σ H)/\∀i m σ H,W i m σ H ->
   ((Itt K a).stop i H/\D.nx σ H)\/((Itt K a).go i H/\∃N:St->Hp->Prop,(∀σ' H',N σ' H'->∃m',m'<m/\W (i+1) m' σ' H')/\∀x H',(Itt K a).yld i H x H'->g x σ H' λσ2 H2=>tb { D with nx:=N,ct:=N,bk:=D.nx } σ2 H2):=by
 refine⟨λi m σ H=>m=xs.length - i/\i<=xs.length/\Pv i σ H,⟨xs.length,by simp,Nat.zero_le _,h0⟩,?_⟩;rintro i m σ H ⟨rfl,hi,p⟩;have q:=hl i σ H hi p
 by_cases hlt:i<xs.length
 ·refine .inr ⟨⟨xs,xs[i],q,by simp[hlt]⟩,Pv (i+1),λσ' H' p'=>⟨xs.length - (i+1),by omega,rfl,hlt,p'⟩,λx H' y=>?_⟩
  obtain⟨e,y⟩:=y;subst e;exact hs i x σ _ (y xs q) p
 ·have e:i=xs.length:=by omega
  subst e;exact .inl ⟨⟨xs,q,Nat.le_refl _⟩,hd σ H p⟩
theorem bR{lo:Int}{n:Nat}{g:TG}{tb:TS}{D:AL}{σ:St}{H:Hp}(Pv:Nat->St->Hp->Prop)(h0:Pv 0 σ H)
  (hs:∀i σ H,i<n->Pv i σ H->g (.int (lo+i)) σ H λσ2 H2=>tb { D with nx:=Pv (i+1),ct:=Pv (i+1),bk:=D.nx } σ2 H2) (hd:∀σ H,Pv n σ H->D.nx σ H) :
  ∃W:Nat->Nat->St->Hp->Prop,(∃m,W 0 m σ H)/\∀i m σ H,W i m σ H ->
   ((Itr lo n).stop i H/\D.nx σ H)\/((Itr lo n).go i H/\∃N:St->Hp->Prop,(∀σ' H',N σ' H'->∃m',m'<m/\W (i+1) m' σ' H')/\∀x H',(Itr lo n).yld i H x H'->g x σ H' λσ2 H2=>tb { D with nx:=N,ct:=N,bk:=D.nx } σ2 H2):=by
 refine⟨λi m σ H=>m=n - i/\i<=n/\Pv i σ H,⟨n,by simp,Nat.zero_le _,h0⟩,?_⟩;rintro i m σ H ⟨rfl,hi,p⟩
 by_cases hlt:i<n
 ·refine .inr ⟨hlt,Pv (i+1),λσ' H' p'=>⟨n - (i+1),by omega,rfl,hlt,p'⟩,λx H' y=>?_⟩
  obtain⟨e,y⟩:=y;subst e y;exact hs i σ _ hlt p
 ·have e:i=n:=by omega
  subst e;exact .inl ⟨Nat.le_refl _,hd σ H p⟩
theorem dB{c:TT}{tb:TS}{D:AL}{σ:St}{H:Hp}(Pv:St->Hp->Prop)(μ:St->Hp->Nat)(h0:Pv σ H)
  (hs:∀σ H,Pv σ H->c σ H λb H1=>if b=true then tb { D with nx:=λσ' H'=>Pv σ' H'/\μ σ' H'<μ σ H,ct:=λσ' H'=>Pv σ' H'/\μ σ' H'<μ σ H,bk:=D.nx } σ H1 else D.nx σ H1)
  (mono:∀σ H Q Q',(∀b H1,Q b H1->Q' b H1)->c σ H Q->c σ H Q'):qt c tb D σ H:=by
 refine⟨λm σ H=>m=μ σ H/\Pv σ H,⟨_,rfl,h0⟩,?_⟩;rintro m σ H ⟨rfl,p⟩;refine mono σ H _ _ (λb H1 q=>?_) (hs σ H p);cases b with
 | true=>exact⟨_,λσ' H' ⟨p',l⟩=>⟨_,l,rfl,p'⟩,q⟩
 | false=>exact q
noncomputable abbrev R2:=V->V->Hp->VK->Prop
noncomputable def OpR(X:Cx)(f:Value->Value->Sem Value)(r:R2):Prop :=
 ∀(pins:List (Addr×Obj)) (s:Shared) (σ:St) (H:Hp) (x y:V) (v u:Value) (Q:VK),zg X pins σ H s->aN x v->aN y u->r x y H Q ->
  wpAny (model X.prog X.w) X.A (f v u) (EP X pins σ Q) X.xe s
noncomputable def UnR(X:Cx)(f:Value->Sem Value)(r:V->Hp->VK->Prop):Prop :=
 ∀(pins:List (Addr×Obj)) (s:Shared) (σ:St) (H:Hp) (x:V) (v:Value) (Q:VK),zg X pins σ H s->aN x v->r x H Q ->
  wpAny (model X.prog X.w) X.A (f v) (EP X pins σ Q) X.xe s
noncomputable def cU(X:Cx)(f:Value)(r:List V->Hp->VK->Prop):Prop :=
 ∀(pins:List (Addr×Obj)) (s:Shared) (σ:St) (H:Hp) (xs:List V) (us:List Value) (Q:VK),zg X pins σ H s->aJ xs us->r xs H Q ->
  wpAny (model X.prog X.w) X.A (call f us) (EP X pins σ Q) X.xe s
noncomputable def tOp(r:R2)(ta tb:TE):TE:=λσ H Q=>ta σ H λx H1=>tb σ H1 λy H2=>r x y H2 Q
noncomputable def tUn(r:V->Hp->VK->Prop)(ta:TE):TE:=λσ H Q=>ta σ H λx H1=>r x H1 Q
inductive rI (C:Int->Int->Prop) (g:Int->Int->V) (x y:V) (H:Hp) (Q:VK):Prop
 | mk (i j:Int) (e:x = .int i) (f:y = .int j) (c:C i j) (q:Q (g i j) H):rI C g x y H Q
inductive EM (g:Int->Int->V) (x y:V) (H:Hp) (Q:VK):Prop
 | mk (i j:Int) (e:x = .int i) (f:y = .int j) (q:Q (g i j) H):EM g x y H Q
noncomputable def rU(g:Int->V):V->Hp->VK->Prop:=λx H Q=>∃i,x = .int i/\Q (g i) H
section
variable {X:Cx} {a b c:Expr} {ta tb tc:TE} {pos:Pos}
theorem xm(ha:PE X a ta)(hb:PE X b tb){pins:List (Addr×Obj)}{s:Shared}{σ:St}{H:Hp}{R:V->V->Hp->Prop}(I:zg X pins σ H s)
  (h:ta σ H λx H1=>tb σ H1 λy H2=>R x y H2) {Q:Value->Shared->Prop} {f:Value->Value->Sem Value}
  (hf:∀v u s2 x y H2,zg X pins σ H2 s2->aN x v->aN y u->R x y H2->wpAny (model X.prog X.w) X.A (f v u) Q X.xe s2) :
  wpAny (model X.prog X.w) X.A (eval a X.env) (λv s₁=>wpAny (model X.prog X.w) X.A (eval b X.env) (λu s₂=>wpAny (model X.prog X.w) X.A (f v u) Q X.xe s₂) X.xe s₁) X.xe s:=by
 refine thn (ha pins s σ H _ I h) λv s1 ⟨x,H1,I1,r1,q1⟩=>?_;refine thn (hb pins s1 σ H1 _ I1 q1) λu s2 ⟨y,H2,I2,r2,q2⟩=>?_;exact hf v u s2 x y H2 I2 r1 r2 q2
theorem ao{op:Operator}{r:R2}(ho:OpR X (binaryOp op) r)(ha:PE X a ta)(hb:PE X b tb):PE X (.BinOp a op b pos) (tOp r ta tb):=by
 intro pins s σ H Q I h;exact wpAny_BinOp (xm ha hb I h λv u s2 x y H2 I2 rx ry q=>ho pins s2 σ H2 x y v u Q I2 rx ry q)
theorem dm{op:UnaryOp}{r:V->Hp->VK->Prop}(ho:UnR X (unaryOp op) r)(ha:PE X a ta):PE X (.UnaryOp op a pos) (tUn r ta):=by
 intro pins s σ H Q I h;exact UnaryOp_ (thn (ha pins s σ H _ I h) λv s1 ⟨x,H1,I1,r1,q1⟩=>ho pins s1 σ H1 x v Q I1 r1 q1)
theorem opI{f:Value->Value->Sem Value}{C:Int->Int->Prop}{g:Int->Int->Int}
  (rule:∀(i j:Int) (t u:Tok) (s:Shared) (Q:Value->Shared->Prop) (E:Value->Shared->Prop),C i j->Q (.int (g i j) s.toks) { s with toks:=s.toks+1 }->wpAny (model X.prog X.w) X.A (f (.int i t) (.int j u)) Q E s) :
  OpR X f (rI C λi j=>.int (g i j)):=by
 intro pins s σ H x y v u Q I rx ry h;obtain⟨i,j,rfl,rfl,hc,q⟩:=h;obtain⟨t,rfl⟩:=rx;obtain⟨t',rfl⟩:=ry;exact rule i j t t' s _ _ hc ⟨.int (g i j),H,I.tok _,⟨_,rfl⟩,q⟩
theorem xZ{f:Value->Value->Sem Value}{g:Int->Int->Int}
  (rule:∀(i j:Int) (t u:Tok) (s:Shared) (Q:Value->Shared->Prop) (E:Value->Shared->Prop),Q (.int (g i j) s.toks) { s with toks:=s.toks+1 }->wpAny (model X.prog X.w) X.A (f (.int i t) (.int j u)) Q E s) :
  OpR X f (EM λi j=>.int (g i j)):=by
 intro pins s σ H x y v u Q I rx ry h;obtain⟨i,j,rfl,rfl,q⟩:=h;obtain⟨t,rfl⟩:=rx;obtain⟨t',rfl⟩:=ry;exact rule i j t t' s _ _ ⟨.int (g i j),H,I.tok _,⟨_,rfl⟩,q⟩
theorem uc{f:Value->Value->Sem Value}{g:Int->Int->Bool}
  (rule:∀(i j:Int) (t u:Tok) (s:Shared) (Q:Value->Shared->Prop) (E:Value->Shared->Prop),Q (.bool (g i j)) s->wpAny (model X.prog X.w) X.A (f (.int i t) (.int j u)) Q E s) :
  OpR X f (EM λi j=>.bl (g i j)):=by
 intro pins s σ H x y v u Q I rx ry h;obtain⟨i,j,rfl,rfl,q⟩:=h;obtain⟨t,rfl⟩:=rx;obtain⟨t',rfl⟩:=ry;exact rule i j t t' s _ _ ⟨.bl (g i j),H,I,rfl,q⟩
noncomputable def yD(i j:Int):Prop:=0<=j/\j<=1000000/\i.natAbs<2^64
noncomputable def vm(i j:Int):Prop:=(-(2^64)<i/\i<2^64)\/(-(2^64)<j/\j<2^64)
theorem vm.ok{i j:Int}(h:vm i j):IntMulOk i j:=by
 rcases h with⟨h1,h2⟩|⟨h1,h2⟩
 ·exact .of_left (intBits_le_64 h1 h2)
 ·exact .of_right (intBits_le_64 h1 h2)
theorem aO:OpR X (binaryOp .Add) (EM λi j=>.int (i+j)):=xZ λ_ _ _ _ _ _ _ q=>add_int q
theorem aM:OpR X (binaryOp .Sub) (EM λi j=>.int (i - j)):=xZ λ_ _ _ _ _ _ _ q=>sub_int q
theorem eG:OpR X (binaryOp .Mod) (rI (λ_ j=>0<j) λi j=>.int (i % j)):=opI λi j _ _ _ _ _ hc q=>by
 have h1:(0:Int)<j:=hc;exact mod_int' (by omega) (by rw[Int.fmod_eq_emod_of_nonneg i (by omega)];exact q)
theorem kA:OpR X (binaryOp .Pow) (rI yD λi j=>.int (i^j.toNat)):=opI λ_ _ _ _ _ _ _ hc q=>pow_int_small hc.1 hc.2.1 hc.2.2 q
theorem qM:OpR X (binaryOp .LShift) (rI yD λi j=>.int (i*2^j.toNat)):=opI λ_ _ _ _ _ _ _ hc q=>lshift_int_small hc.1 hc.2.1 hc.2.2 q
theorem unI{f:Value->Sem Value}{g:Int->Int}
  (rule:∀(i:Int) (t:Tok) (s:Shared) (Q:Value->Shared->Prop) (E:Value->Shared->Prop),Q (.int (g i) s.toks) { s with toks:=s.toks+1 }->wpAny (model X.prog X.w) X.A (f (.int i t)) Q E s) :
  UnR X f (rU λi=>.int (g i)):=by
 intro pins s σ H x v Q I rx h;obtain⟨i,rfl,q⟩:=h;obtain⟨t,rfl⟩:=rx;exact rule i t s _ _ ⟨.int (g i),H,I.tok _,⟨_,rfl⟩,q⟩
theorem cF:UnR X (unaryOp .USub) (rU λi=>.int (-i)):=unI λ_ _ _ _ _ q=>neg_int q
end
noncomputable def xS:V->V->Bool
 | .non,.non=>true | .non,.int _=>true | .int _,.non=>true | .non,.bl _=>true | .bl _,.non=>true | .non,.str _=>true | .str _,.non=>true
 | .int _,.int _=>true | .bl _,.bl _=>true | .str _,.str _=>true | .byt _,.byt _=>true
 | .int _,.str _=>true | .str _,.int _=>true | .bl _,.str _=>true | .str _,.bl _=>true
 | _,_=>false
inductive FN (x y:V) (H:Hp) (Q:VK):Prop
 | mk (s:xS x y=true) (q:Q (.bl (decide (x=y))) H):FN x y H Q
inductive FM (x y:V) (H:Hp) (Q:VK):Prop
 | mk (s:xS x y=true) (q:Q (.bl (!decide (x=y))) H):FM x y H Q
theorem o0{i j:Int}:decide (V.int i=V.int j)=(i == j):=by
 rw[Bool.eq_iff_iff];simp
theorem rZ{i j:Bool}:decide (V.bl i=V.bl j)=(i == j):=by
 rw[Bool.eq_iff_iff];simp
theorem oZ{i j:Str}:decide (V.str i=V.str j)=(i == j):=by
 rw[Bool.eq_iff_iff];simp
theorem o5{i j:Array UInt8}:decide (V.byt i=V.byt j)=(i.toList == j.toList):=by
 rw[Bool.eq_iff_iff];cases i;cases j;simp
section
variable {X:Cx} {a b c:Expr} {ta tb tc:TE} {pos:Pos}
theorem aS{pins:List (Addr×Obj)}{σ:St}{H:Hp}{s:Shared}{Q:VK}{k k':Bool}(I:zg X pins σ H s)(q:Q (.bl k) H)(e:k=k'):EP X pins σ Q (.bool k') s:=by
 subst e;exact⟨.bl k,H,I,rfl,q⟩
theorem cI:OpR X (compareOp .Eq) FN:=by
 intro pins s σ H x y v u Q I rx ry h;obtain⟨hs,q⟩:=h;cases x with
 | non =>
  cases rx;cases y with
  | non=>cases ry;exact PySem.EqNone.eq_none_none (aS I q (by simp))
  | bl j=>cases ry;exact PySem.EqNone.eq_none_bool (aS I q (by simp))
  | int j=>obtain⟨t',rfl⟩:=ry;exact PySem.EqNone.eq_none_int (aS I q (by simp))
  | str j=>obtain⟨t',rfl⟩:=ry;exact PySem.EqNone.eq_none_str (aS I q (by simp))
  | _=>exact absurd (show false=true from hs) Bool.false_ne_true
 | bl i =>
  cases rx;cases y with
  | non=>cases ry;exact PySem.EqNone.eq_bool_none (aS I q (by simp))
  | bl j=>cases ry;exact eq_bool (aS I q rZ)
  | str j=>obtain⟨t',rfl⟩:=ry;exact PySem.EqMixed.eq_bool_str (aS I q (by simp))
  | _=>exact absurd (show false=true from hs) Bool.false_ne_true
 | int i =>
  obtain⟨t,rfl⟩:=rx;cases y with
  | non=>cases ry;exact PySem.EqNone.eq_int_none (aS I q (by simp))
  | int j=>obtain⟨t',rfl⟩:=ry;exact eq_int (aS I q o0)
  | str j=>obtain⟨t',rfl⟩:=ry;exact PySem.EqMixed.eq_int_str (aS I q (by simp))
  | _=>exact absurd (show false=true from hs) Bool.false_ne_true
 | str i =>
  obtain⟨t,rfl⟩:=rx;cases y with
  | non=>cases ry;exact PySem.EqNone.eq_str_none (aS I q (by simp))
  | bl j=>cases ry;exact PySem.EqMixed.eq_str_bool (aS I q (by simp))
  | int j=>obtain⟨t',rfl⟩:=ry;exact PySem.EqMixed.eq_str_int (aS I q (by simp))
  | str j=>obtain⟨t',rfl⟩:=ry;exact eq_str (aS I q oZ)
  | _=>exact absurd (show false=true from hs) Bool.false_ne_true
 | byt i =>
  obtain⟨t,rfl⟩:=rx;cases y with
  | byt j=>obtain⟨t',rfl⟩:=ry;exact W.eq_bytes (aS I q o5)
  | _=>exact absurd (show false=true from hs) Bool.false_ne_true
 | _=>cases y <;> exact absurd (show false=true from hs) Bool.false_ne_true
theorem lD:OpR X (compareOp .NotEq) FM:=by
 intro pins s σ H x y v u Q I rx ry h;obtain⟨hs,q⟩:=h;cases x with
 | non =>
  cases rx;cases y with
  | non=>cases ry;exact PySem.EqNone.ne_none_none (aS I q (by simp))
  | bl j=>cases ry;exact PySem.EqNone.ne_none_bool (aS I q (by simp))
  | int j=>obtain⟨t',rfl⟩:=ry;exact PySem.EqNone.ne_none_int (aS I q (by simp))
  | str j=>obtain⟨t',rfl⟩:=ry;exact PySem.EqNone.ne_none_str (aS I q (by simp))
  | _=>exact absurd (show false=true from hs) Bool.false_ne_true
 | bl i =>
  cases rx;cases y with
  | non=>cases ry;exact PySem.EqNone.ne_bool_none (aS I q (by simp))
  | bl j=>cases ry;exact ne_bool (aS I q (congrArg not rZ))
  | str j=>obtain⟨t',rfl⟩:=ry;exact PySem.EqMixed.ne_bool_str (aS I q (by simp))
  | _=>exact absurd (show false=true from hs) Bool.false_ne_true
 | int i =>
  obtain⟨t,rfl⟩:=rx;cases y with
  | non=>cases ry;exact PySem.EqNone.ne_int_none (aS I q (by simp))
  | int j=>obtain⟨t',rfl⟩:=ry;exact ne_int (aS I q (congrArg not o0))
  | str j=>obtain⟨t',rfl⟩:=ry;exact PySem.EqMixed.ne_int_str (aS I q (by simp))
  | _=>exact absurd (show false=true from hs) Bool.false_ne_true
 | str i =>
  obtain⟨t,rfl⟩:=rx;cases y with
  | non=>cases ry;exact PySem.EqNone.ne_str_none (aS I q (by simp))
  | bl j=>cases ry;exact PySem.EqMixed.ne_str_bool (aS I q (by simp))
  | int j=>obtain⟨t',rfl⟩:=ry;exact PySem.EqMixed.ne_str_int (aS I q (by simp))
  | str j=>obtain⟨t',rfl⟩:=ry;exact ne_str (aS I q (congrArg not oZ))
  | _=>exact absurd (show false=true from hs) Bool.false_ne_true
 | byt i =>
  obtain⟨t,rfl⟩:=rx;cases y with
  | byt j=>obtain⟨t',rfl⟩:=ry;exact W.ne_bytes (aS I q (congrArg not o5))
  | _=>exact absurd (show false=true from hs) Bool.false_ne_true
 | _=>cases y <;> exact absurd (show false=true from hs) Bool.false_ne_true
theorem eJ:OpR X (compareOp .Lt) (EM λi j=>.bl (decide (i<j))):=uc λ_ _ _ _ _ _ _ q=>lt_int q
theorem oC:OpR X (compareOp .LtE) (EM λi j=>.bl (decide (i<=j))):=uc λ_ _ _ _ _ _ _ q=>le_int q
theorem iS:OpR X (compareOp .Gt) (EM λi j=>.bl (decide (j<i))):=uc λ_ _ _ _ _ _ _ q=>gt_int q
theorem lE:OpR X (compareOp .GtE) (EM λi j=>.bl (decide (j<=i))):=uc λ_ _ _ _ _ _ _ q=>ge_int q
theorem mX:OpR X (compareOp .Is) (λx y H Q=>y = .non/\Q (.bl (decide (x = .non))) H):=by
 intro pins s σ H x y v u Q I rx ry h;obtain⟨rfl,q⟩:=h;cases ry;refine is_none_gen (aS I q ?_);cases x <;> first
  | (cases rx;rfl)
  | (obtain⟨t,rfl⟩:=rx;rfl)
theorem kB:OpR X (compareOp .IsNot) (λx y H Q=>y = .non/\Q (.bl (!decide (x = .non))) H):=by
 intro pins s σ H x y v u Q I rx ry h;obtain⟨rfl,q⟩:=h;cases ry;refine isnot_none_gen (aS I q ?_);cases x <;> first
  | (cases rx;rfl)
  | (obtain⟨t,rfl⟩:=rx;rfl)
theorem aC(b:Expr){op:CmpOp}(h:op≠.In:=by decide)(h2:op≠.NotIn:=by decide):behindInMarks op b=false:=by
 have e1:(op == CmpOp.In)=false:=by cases op <;> first|rfl|exact absurd rfl h
 have e2:(op == CmpOp.NotIn)=false:=by cases op <;> first|rfl|exact absurd rfl h2
 cases b <;> simp[behindInMarks,e1,e2]
theorem eY{op:CmpOp}{r:R2}(ho:OpR X (compareOp op) r)(ha:PE X a ta)(hb:PE X b tb)(hm:behindInMarks op b=false):PE X (.Compare a [op] [b] pos) (tOp r ta tb):=by
 intro pins s σ H Q I h;exact wpAny_Compare1 (xm ha hb I h λv u s2 x y H2 I2 rx ry q=>ho pins s2 σ H2 x y v u Q I2 rx ry q) hm
inductive FO (x:V) (H:Hp) (Q:Bool->Hp->Prop):Prop
 | mk (k:Bool) (e:x = .bl k) (q:Q k H):FO x H Q
noncomputable def xC(t:TE):TT:=λσ H Q=>t σ H λx H'=>FO x H' Q
theorem aB{op:CmpOp}{r:R2}(ho:OpR X (compareOp op) r)(ha:PE X a ta)(hb:PE X b tb)(hm:behindInMarks op b=false):PT X (.Compare a [op] [b] pos) (xC (tOp r ta tb)):=by
 intro pins s σ H Q I h;refine wpAny_isTrue_Compare1 (thn (ha pins s σ H _ I h) λv s1 ⟨x,H1,I1,r1,q1⟩=>thn (hb pins s1 σ H1 _ I1 q1) λu s2 ⟨y,H2,I2,r2,q2⟩ =>
  thn (ho pins s2 σ H2 x y v u _ I2 r1 r2 q2) λc s3 ⟨z,H3,I3,r3,k,e,q3⟩=>?_) hm
 subst e;cases r3;exact wpAny_truthy_bool ⟨H3,I3,q3⟩
theorem kG:(sizeLine:Nat)<2^63:=by rw[sizeLine_eq];decide
theorem fw{x:V}{us:List Value}(r:aJ [x] us):∃u,us = [u]/\aN x u:=by
 cases r with
 | cons r1 r2=>cases r2;exact⟨_,rfl,r1⟩
theorem og{x y:V}{us:List Value}(r:aJ [x,y] us):∃u w',us = [u,w']/\aN x u/\aN y w':=by
 cases r with
 | cons r1 r2 =>
  cases r2 with
  | cons r3 r4=>cases r4;exact⟨_,_,rfl,r1,r3⟩
theorem jj:cU X (.builtin "abs") (λxs H Q=>∃i,xs = [.int i]/\Q (.int (if i<0 then -i else i)) H):=by
 intro pins s σ H xs us Q I r h;obtain⟨i,rfl,q⟩:=h;obtain⟨u,rfl,t,rfl⟩:=fw r;exact call_abs_int λu tk=>⟨.int (if i<0 then -i else i),H,I.tok _,⟨_,rfl⟩,q⟩
theorem jY(hc:X.calm=true):cU X (.builtin "max") (λxs H Q=>∃i j,xs = [.int i,.int j]/\Q (.int (if j>i then j else i)) H):=by
 intro pins s σ H xs us Q I r h;obtain⟨i,j,rfl,q⟩:=h;obtain⟨u,w',rfl,⟨t,rfl⟩,⟨t',rfl⟩⟩:=og r;refine max_two_ints (I.ok.hd hc) λh' tk k=>⟨_,H,I.kept k,?_,q⟩
 by_cases hj:j>i
 ·rw[if_pos hj,if_pos hj];exact⟨_,rfl⟩
 ·rw[if_neg hj,if_neg hj];exact⟨_,rfl⟩
theorem p9(hc:X.calm=true):cU X (.builtin "min") (λxs H Q=>∃i j,xs = [.int i,.int j]/\Q (.int (if j<i then j else i)) H):=by
 intro pins s σ H xs us Q I r h;obtain⟨i,j,rfl,q⟩:=h;obtain⟨u,w',rfl,⟨t,rfl⟩,⟨t',rfl⟩⟩:=og r;refine min_two_ints (I.ok.hd hc) λh' tk k=>⟨_,H,I.kept k,?_,q⟩
 by_cases hj:j<i
 ·rw[if_pos hj,if_pos hj];exact⟨_,rfl⟩
 ·rw[if_neg hj,if_neg hj];exact⟨_,rfl⟩
theorem qe:cU X (.type "int") (λxs H Q=>(∃i,xs = [.int i]/\Q (.int i) H)\/∃k,xs = [.bl k]/\Q (.int (if k then 1 else 0)) H):=by
 intro pins s σ H xs us Q I r h;rcases h with⟨i,rfl,q⟩|⟨k,rfl,q⟩
 ·obtain⟨u,rfl,t,rfl⟩:=fw r
  exact call_int_int ⟨.int i,H,I,⟨_,rfl⟩,q⟩
 ·obtain⟨u,rfl,r1⟩:=fw r
  cases r1;exact call_int_bool ⟨.int (if k then 1 else 0),H,I.tok _,⟨_,rfl⟩,q⟩
end
structure Eb(h:Heap)(x dx C:Addr)(mA:Str->Option Value):Prop where
 obj:h.get? x=some (W.instObj C dx)
 ns:h.Ns1 dx mA
 ne:dx≠x
theorem pO{h:Heap}{dx:Addr}{mA:Str->Option Value}(n:h.Ns1 dx mA):∃od,h.get? dx=some od/\∀name,W.lookIn name od=some (mA name):=by
 obtain⟨o,es,ep,ho,hd,hk,_,hm⟩:=n;refine⟨o,ho,λname=>?_⟩;have e:=hm name;unfold nsFind findBy at e;rw[<- Array.find?_toList]at e;unfold W.lookIn;rw[hd];dsimp only
 split
 ·rename_i y q
  rw[q]at e;exact congrArg some e
 ·rename_i q
  rw[q]at e;have a:es.toList.any (·.refKey)=false:=by
   rw[List.any_eq_false];intro y hy;obtain⟨z,t,hkey⟩:=hk y (Array.mem_toList_iff.mp hy);simp[DictEntry.refKey,hkey]
  have a':¬es.toList.any (·.refKey)=true:=by rw[a];exact Bool.false_ne_true
  rw[if_neg a'];exact congrArg some e
theorem Eb.look{h:Heap}{x dx C:Addr}{mA:Str->Option Value}(I:Eb h x dx C mA):∃od,W.InstAt h x (W.instObj C dx) C (some od)/\∀name,W.lookIn name od=some (mA name) :=
 let ⟨od,ho,hl⟩:=pO I.ns
 ⟨od,⟨I.obj,rfl,rfl,ho⟩,hl⟩
section
variable {prog:Program} {w:World} {A:Around} {E:Value->Shared->Prop} {s:Shared} {K:W.Frag} {x dx C f:Addr} {mA:Str->Option Value} {name:Str} {v:Value}
theorem uN{expr:Bool}{Q:Value->Shared->Prop}(X:K.In s.heap)(I:Eb s.heap x dx C mA)(hg:W.plainGet K C name=true)(hh:W.hasDictIn K C=true)
  (ha:W.findIn K (.ref C) name=some none) (hv:mA name=some v) (hv':W.handedIn v=true) (h:Q v { s with toks:=s.toks+1 }) :
  wpAny (model prog w) A (getAttr (.ref x) name expr) Q E s:=by
 obtain⟨od,J,hl⟩:=I.look;exact W.get_value X J (W.plainGet_of hg).1 (W.findObj_own hh ha rfl (by rw[hl,hv])) hv' h
theorem tH{ns:List Str}{Q:Unit->Shared->Prop}(X:K.In s.heap)(I:Eb s.heap x dx C mA)
  (hs:W.findIn K (.ref C) "__setattr__" = some (some (.builtin "object.__setattr__"))) (hp:W.plainOver K C=true) (ht:W.takerIn K C name=some none) (hh:W.hasDictIn K C=true)
  (hw:PySem.Within mA ns) (hsz:ns.length<=sizeLine)
  (h:∀h',Eb h' x dx C (λy=>if y=name then some v else mA y)->Heap.SameBut dx s.heap h'->Q () { s with heap:=h',toks:=s.toks+2 }) :
  wpAny (model prog w) A (setAttr (.ref x) name v) Q E s:=by
 obtain⟨od,J,hl⟩:=I.look;refine W.set_plain X J hs (W.osa_open (s:={ s with toks:=s.toks+1 }) (r:=none) X J hp ht λb=>?_);obtain⟨cd,hc,hd'⟩:=W.any_some hh;have hx:s.heap.get? x=some ⟨.ref C,some dx,.plain,#[]⟩:=I.obj;refine wpAny_bind (wpAny_pure (wpAny_bind (wpAny_bind (wpAny_loadPart hx (wpAny_bind (W.Looks.here (s:={ s with toks:=s.toks+1 }) (W.looks_clsIn X hc) ?_))))));rw[hd'];refine wpAny_pure (a:=some dx) (wpAny_bind (wpAny_pure (wpAny_bind ?_)));refine wpAny_nsSet1 (s:={ s with toks:=s.toks+1 }) I.ns λh' hn2 hs2=>?_;obtain⟨oD,esD,epD,hoD,hdD,hcD⟩:=hn2.count (PySem.Within.cons name v hw);refine wpAny_bind (wpAny_lookBehind hoD (by rw[hdD];exact pastItsLine_dict (Nat.le_trans hcD (by rw[List.length_cons];omega))) ?_);exact wpAny_pure (h _ ⟨(hs2.2 _ (Ne.symm I.ne)).trans I.obj,hn2,I.ne⟩ hs2)
theorem qY{R:Result->Shared->Prop}{vs:List Value}{kw:List (Str×Value)}(X:K.In s.heap)(hm:W.makesIn K C=true)
  (hi:W.findIn K (.ref C) "__init__" = some (some (.ref f))) (hf:W.typeIn K (.ref f)=some (.type "function"))
  (h:codeAny (model prog w) (A.under (.builtin "type.__call__" ⟨.ref C::vs,kw⟩)) (.call (.ref f) ⟨.ref (s.heap.objs.size+1)::vs,kw⟩) (W.InitBack (s.heap.objs.size+1) R)
   { s with heap:=(s.heap.push W.emptyDict).push (W.instObj C s.heap.objs.size) }) :
  codeAny (model prog w) A (.call (.ref C) ⟨vs,kw⟩) R s:=by
 obtain⟨hh,g,d,t,os⟩:=s;exact W.make_core (W.makes_of X hm) (W.looks_findIn X hi) (λself=>W.bind_fn X self hf) (.inl rfl) h
end
noncomputable def cH(f:Str)(v:V):List (Str×V)->List (Str×V)
 | []=>[(f,v)]
 | (g,x)::r=>if g=f then (g,v)::r else (g,x)::cH f v r
theorem gX(f g:Str)(v:V):∀fs:List (Str×V),(cH f v fs).lookup g=if g=f then some v else fs.lookup g
 | []=>by
  show List.lookup g [(f,v)]=_
  by_cases h:g=f
  ·have hb:(g == f)=true:=beq_iff_eq.mpr h
   simp only[List.lookup,hb,if_pos h]
  ·have hb:(g == f)=false:=beq_eq_false_iff_ne.mpr h
   simp only[List.lookup,hb,if_neg h]
 | (k,x)::r=>by
  have ih:=gX f g v r;rw[show cH f v ((k,x)::r)=(if k=f then (k,v)::r else (k,x)::cH f v r) from rfl]
  by_cases hk:k=f
  ·rw[if_pos hk]
   by_cases h:g=k
   ·have hb:(g == k)=true:=beq_iff_eq.mpr h
    simp only[List.lookup,hb,if_pos (h.trans hk)]
   ·have hb:(g == k)=false:=beq_eq_false_iff_ne.mpr h
    simp only[List.lookup,hb,if_neg (λe:g=f=>h (e.trans hk.symm))]
  ·rw[if_neg hk]
   by_cases h:g=k
   ·have hb:(g == k)=true:=beq_iff_eq.mpr h
    simp only[List.lookup,hb,if_neg (λe:g=f=>hk (h.symm.trans e))]
   ·have hb:(g == k)=false:=beq_eq_false_iff_ne.mpr h
    simp only[List.lookup,hb];exact ih
theorem gL(f:Str)(v:V):∀fs:List (Str×V),f∈(cH f v fs).map (·.1)/\∀g,g∈fs.map (·.1)->g∈(cH f v fs).map (·.1)
 | []=>⟨by simp[cH],λg h=>by simp at h⟩
 | (k,x)::r=>by
  obtain⟨i1,i2⟩:=gL f v r;rw[show cH f v ((k,x)::r)=(if k=f then (k,v)::r else (k,x)::cH f v r) from rfl]
  by_cases hk:k=f
  ·rw[if_pos hk]
   subst hk;exact⟨by simp,λg h=>by simpa using h⟩
  ·rw[if_neg hk]
   refine⟨?_,λg h=>?_⟩
   ·rw[List.map_cons]
    exact List.mem_cons_of_mem _ i1
   ·rw[List.map_cons]at h ⊢
    rcases List.mem_cons.mp h with e|e
    ·exact List.mem_cons.mpr (.inl e)
    ·exact List.mem_cons_of_mem _ (i2 g e)
theorem gZ(f:Str)(v:V):∀fs:List (Str×V),(cH f v fs).length<=fs.length+1
 | []=>by simp[cH]
 | (k,x)::r=>by
  have ih:=gZ f v r;rw[show cH f v ((k,x)::r)=(if k=f then (k,v)::r else (k,x)::cH f v r) from rfl]
  by_cases hk:k=f
  ·rw[if_pos hk,List.length_cons,List.length_cons];omega
  ·rw[if_neg hk,List.length_cons,List.length_cons];omega
theorem gR.some_of{v:V}{o:Option Value}(r:gR (some v) o):∃u,o=some u/\aN v u:=by
 cases o with
 | none=>exact(show False from r).elim
 | some u=>exact⟨u,rfl,r⟩
theorem pV{v:V}{u:Value}(r:aN v u):W.handedIn u=true:=by
 cases v with
 | non=>cases (show u=Value.none from r);rfl
 | bl b=>cases (show u=Value.bool b from r);rfl
 | int i=>obtain⟨t,e⟩:=(show ∃t,u=Value.int i t from r);cases e;rfl
 | str x=>obtain⟨t,e⟩:=(show ∃t,u=Value.str x t from r);cases e;rfl
 | byt b=>obtain⟨t,e⟩:=(show ∃t,u=Value.bytes b t from r);cases e;rfl
 | flt b=>obtain⟨t,e⟩:=(show ∃t,u=Value.float b t from r);cases e;rfl
 | ref a=>cases (show u=Value.ref a from r);rfl
 | ty n=>cases (show u=Value.type n from r);rfl
section
variable {P:Program} {w:World} {H H':Hp} {h h':Heap} {a C dx:Addr} {fs fs':List (Str×V)}
theorem kJ(hok:HOk P w H h)(e:H a=some (.ins C dx fs)):∃mA,Eb h a dx C mA/\(∀f,gR (fs.lookup f) (mA f))/\PySem.Within mA (fs.map (·.1))/\fs.length<=1000/\H dx=some (.own a):=by
 obtain⟨d,z,ne,ob,mA,n,r,q⟩:=(show a6 P w H h a (.ins C dx fs) from hok a _ e);exact⟨mA,⟨ob,n,ne⟩,r,q,z,d⟩
end
structure E5(K:W.Frag)(C:Addr):Prop where
 pg:W.plainGet K C Str.empty=true
 hd:W.hasDictIn K C=true
 po:W.plainOver K C=true
 sa:W.findIn K (.ref C) "__setattr__" = some (some (.builtin "object.__setattr__"))
theorem E5.get{K:W.Frag}{C:Addr}(c:E5 K C)(f:Str):W.plainGet K C f=true:=c.pg
noncomputable def aW(K:W.Frag)(C:Addr)(f:Str):Prop:=W.findIn K (.ref C) f=some none
theorem aW.taker{K:W.Frag}{C:Addr}{f:Str}(n:aW K C f):W.takerIn K C f=some none:=by
 unfold W.takerIn;rw[show W.findIn K (.ref C) f=some none from n];rfl
structure FC(K:W.Frag)(C:Addr)(m:Str)(f:Addr):Prop where
 at_:W.findIn K (.ref C) m=some (some (.ref f))
 fn:W.isFn K (.ref f)=true
 kp:W.keepIn K (.ref f)=true
section
variable {X:Cx} {pins:List (Addr×Obj)} {σ:St} {H:Hp} {s:Shared} {a C dx:Addr} {fs:List (Str×V)} {f:Str} {v:V} {A:Around} {E:Value->Shared->Prop}
theorem ni{b:Bool}{Q:Value->Shared->Prop}(I:zg X pins σ H s)(e:H a=some (.ins C dx fs))(c:E5 X.K C)(n:aW X.K C f)(l:fs.lookup f=some v)
  (h:∀u s',zg X pins σ H s'->aN v u->Q u s'):wpAny (model X.prog X.w) A (getAttr (.ref a) f b) Q E s:=by
 obtain⟨mA,O,r,_,_,_⟩:=kJ I.hok e;obtain⟨u,hu,ru⟩:=gR.some_of (v:=v) (o:=mA f) (by rw[<- l];exact r f);exact uN I.kIn O (c.get f) c.hd n hu (pV ru) (h u _ (I.tok _) ru)
theorem mP{y:V}{u:Value}{Q:Unit->Shared->Prop}(I:zg X pins σ H s)(e:H a=some (.ins C dx fs))(c:E5 X.K C)(n:aW X.K C f)(hl:fs.length<1000)(ry:aN y u)
  (h:∀s',zg X pins σ (upd H a (.ins C dx (cH f y fs))) s'->Q () s'):wpAny (model X.prog X.w) A (setAttr (.ref a) f u) Q E s:=by
 obtain⟨mA,O,r,wi,_,ho⟩:=kJ I.hok e;have hz:(fs.map (·.1)).length<=sizeLine:=by rw[List.length_map,sizeLine_eq];omega
 refine tH I.kIn O c.sa c.po n.taker c.hd wi hz λh' O' sb=>h _ ?_;have hd:∃o,h'.get? dx=some o:=let ⟨o,_,_,e',_⟩:=O'.ns;⟨o,e'⟩;refine I.write (x:=a) (e:=dx) (by rw[e];exact True.intro) (.inr ho) (λb q hb z=>(sb.2 b hb).trans z) hd ?_;refine⟨by rw[aF O.ne];exact ho,?_,O.ne,O'.obj,_,O'.ns,λg=>?_,λg hg=>?_⟩
 ·have:=gZ f y fs;omega
 ·show gR ((cH f y fs).lookup g) (if g=f then some u else mA g)
  rw[gX]
  by_cases q:g=f
  ·rw[if_pos q,if_pos q];exact ry
  ·rw[if_neg q,if_neg q];exact r g
 ·by_cases q:g=f
  ·rw[q];exact(gL f y fs).1
  ·refine(gL f y fs).2 g (wi g λz=>hg ?_)
   show(if g=f then some u else mA g)=none
   rw[if_neg q];exact z
theorem zg.made(I:zg X pins σ H s):zg X pins σ (upd (upd H s.heap.objs.size (.own (s.heap.objs.size+1))) (s.heap.objs.size+1) (.ins C s.heap.objs.size []))
  { s with heap:=(s.heap.push W.emptyDict).push (W.instObj C s.heap.objs.size) }:=by
 have e1:(s.heap.push W.emptyDict).get? s.heap.objs.size=some W.emptyDict:=Heap.get?_push_size s.heap rfl;have e2:((s.heap.push W.emptyDict).push (W.instObj C s.heap.objs.size)).get? (s.heap.objs.size+1)=some (W.instObj C s.heap.objs.size):=by
  have:=Heap.get?_push_size (s.heap.push W.emptyDict) (o:=W.instObj C s.heap.objs.size) rfl
  rwa [Heap.size_push]at this
 have e3:(s.heap.push W.emptyDict).Ns s.heap.objs.size (λ_=>none):=⟨W.emptyDict,#[],_,e1,rfl,(λe he=>absurd he (by simp)),λ_=>rfl⟩;have I1:=I.laid (a:=s.heap.objs.size) (o:=.own (s.heap.objs.size+1)) (h':=s.heap.push W.emptyDict) (t':=s.toks) (λb u q=>Heap.get?_push_of_some _ q) (Nat.le_refl _) ⟨_,e1⟩;refine I1.laid (a:=s.heap.objs.size+1) (o:=.ins C s.heap.objs.size []) (t':=s.toks) (λb u q=>Heap.get?_push_of_some _ q) (Nat.le_of_eq (Heap.size_push _ _)) ?_;have ne:s.heap.objs.size≠s.heap.objs.size+1:=Nat.ne_of_lt (Nat.lt_succ_self _);refine⟨by rw[aF ne,upd_same],Nat.zero_le _,ne,e2,λ_=>none,(Heap.Ns1.of_empty e3).at λo q=>Heap.get?_push_of_some _ q,λ_=>True.intro,λy hy=>absurd rfl hy⟩
theorem vg{prog:Program}{w:World}{env:Env}{e:Expr}{f:Str}{pos:Pos}{s:Shared}{Q:Value->Shared->Prop}(hb:attributeBase e f env (eval e env)=eval e env)
  (h:wpAny (model prog w) A (eval e env) (λo s1=>wpAny (model prog w) A (getAttr o f true) Q E s1) E s):wpAny (model prog w) A (eval (.Attribute e f pos) env) Q E s :=
 Attribute_any_ h (by rw[arm_eval_Attribute,hb])
end
noncomputable def yL(K:W.Frag)(ta:TE)(f:Str):TE:=λσ H Q=>ta σ H λx H1=>∃a C dx fs v,x = .ref a/\H1 a=some (.ins C dx fs)/\E5 K C/\aW K C f/\fs.lookup f=some v/\Q v H1
noncomputable def yQ(K:W.Frag)(ta tv:TE)(f:Str):TS:=λD σ H=>tv σ H λy H1=>ta σ H1 λx H2=>∃a C dx fs,x = .ref a/\H2 a=some (.ins C dx fs)/\E5 K C/\aW K C f/\fs.length<1000 /\
 D.nx σ (upd H2 a (.ins C dx (cH f y fs)))
section
variable {X:Cx} {o e value:Expr} {f:Str} {pos pos' tpos:Pos} {ta tv:TE}
theorem dz(he:PE X e ta)(hb:attributeBase e f X.env (eval e X.env)=eval e X.env):PE X (.Attribute e f pos) (yL X.K ta f):=by
 intro pins s σ H Q I h;refine vg hb (thn (he pins s σ H _ I h) λu s1 ⟨x,H1,I1,rx,a,C,dx,fs,v,ex,ea,c,n,l,q⟩=>?_);subst ex;obtain rfl:u=Value.ref a:=rx;exact ni I1 ea c n l λu' s2 I2 ru=>⟨v,H1,I2,ru,q⟩
theorem kh(ha:PE X o ta)(hv:PE X value tv)(hs:swapsWith value (some (.Attribute o f pos')) pos.line X.env=pure false):PS X (.Assign [.Attribute o f pos'] value pos) (yQ X.K ta tv f):=by
 intro pins s σ H D I h;refine plainObj_wpAny_Assign_Attribute (thn (hv pins s σ H _ I h) λu s1 ⟨y,H1,I1,ry,q⟩=>thn (ha pins s1 σ H1 _ I1 q) λov s2 ⟨x,H2,I2,rx,a,C,dx,fs,ex,ea,c,n,l,q2⟩=>?_) hs;subst ex;obtain rfl:ov=Value.ref a:=rx;exact mP I2 ea c n l ry λs3 I3=>⟨σ,_,I3,q2⟩
end
section
variable {X:Cx} {pins:List (Addr×Obj)} {σ:St} {H:Hp} {s:Shared} {A:Around} {E:Value->Shared->Prop} {Q:Value->Shared->Prop} {c:Value} {b:Bool}
inductive Bt (K:W.Frag) (H:Hp):V->Value->Prop where
 | non:Bt K H .non (.type "NoneType")
 | bl (x:Bool):Bt K H (.bl x) (.type "bool")
 | int (i:Int):Bt K H (.int i) (.type "int")
 | str (x:Str):Bt K H (.str x) (.type "str")
 | flt (x:UInt64):Bt K H (.flt x) (.type "float")
 | lst {a:Addr} {xs:List V} (e:H a=some (.lst xs)):Bt K H (.ref a) (.type "list")
 | frz {a:Addr} {o:Obj} {xs:List V} (e:H a=some (.frz o (.lst xs))):Bt K H (.ref a) (.type "list")
 | tup {a:Addr} {xs:List V} (e:H a=some (.tup xs)):Bt K H (.ref a) (.type "tuple")
 | dK {a:Addr} {kvs:List (Key×V)} (e:H a=some (.dK kvs)):Bt K H (.ref a) (.type "dict")
 | dT {a:Addr} {kvs:List (List Key×V)} (e:H a=some (.dT kvs)):Bt K H (.ref a) (.type "dict")
 | ins {a C dx:Addr} {fs:List (Str×V)} (e:H a=some (.ins C dx fs)) (cl:E5 K C) (ha:W.findIn K (.ref C) "__class__" = some (some (.builtin "object.__class__")))
   (hn:W.specialIn K (.builtin "object.__class__") "__get__" = some (some (.builtin "getset_descriptor.__get__"))) (htk:W.takesIn K (.builtin "object.__class__")=some true)
   (hm:W.mroIn K C (.type "object")=some true):Bt K H (.ref a) (.ref C)
theorem pS{x:V}{u t:Value}(I:zg X pins σ H s)(rx:aN x u)(ty:Bt X.K H x t)(e:W.kitOne X.K t c=some b)(h:∀tk,Q (.bool b) { s with toks:=tk }) :
  wpAny (model X.prog X.w) A (call (.builtin "isinstance") [u,c]) Q E s:=by
 cases ty with
 | non=>cases (show u=Value.none from rx);exact W.kia_one W.kitx_none I.kIn True.intro e (λz=>nomatch z) h
 | bl y=>cases (show u=Value.bool y from rx);exact W.kia_one W.kitx_bool I.kIn True.intro e (λz=>nomatch z) h
 | int i=>obtain⟨t,q⟩:=(show ∃t,u=Value.int i t from rx);cases q;exact W.kia_one W.kitx_int I.kIn True.intro e (λz=>nomatch z) h
 | str y=>obtain⟨t,q⟩:=(show ∃t,u=Value.str y t from rx);cases q;exact W.kia_one W.kitx_str I.kIn True.intro e (λz=>nomatch z) h
 | flt y=>obtain⟨t,q⟩:=(show ∃t,u=Value.float y t from rx);cases q;exact W.kia_one W.kitx_float I.kIn True.intro e (λz=>nomatch z) h
 | @lst a xs ea =>
  cases (show u=Value.ref a from rx);obtain⟨_,_,n,_,h1⟩:=(show a6 X.prog X.w H s.heap a (.lst xs) from I.hok a _ ea);exact W.kia_one W.kitx_list I.kIn ⟨_,h1,rfl⟩ e (λz=>nomatch z) h
 | @frz a ob xs ea =>
  cases (show u=Value.ref a from rx);obtain⟨_,_,_,n,_,h1⟩:=(show a6 X.prog X.w H s.heap a (.frz ob (.lst xs)) from I.hok a _ ea);exact W.kia_one W.kitx_list I.kIn ⟨_,h1,rfl⟩ e (λz=>nomatch z) h
 | @tup a xs ea =>
  cases (show u=Value.ref a from rx);obtain⟨_,_,_,p⟩:=(show a6 X.prog X.w H s.heap a (.tup xs) from I.hok a _ ea);obtain⟨o,h1,h2,_⟩:=p;exact W.kia_one W.kitx_tuple I.kIn ⟨o,h1,h2⟩ e (λz=>nomatch z) h
 | @dK a kvs ea =>
  cases (show u=Value.ref a from rx);obtain⟨_,_,vs,_,p⟩:=(show a6 X.prog X.w H s.heap a (.dK kvs) from I.hok a _ ea);obtain⟨o,es,ep,h1,h2,_⟩:=p;exact W.kia_one W.kitx_dict I.kIn ⟨o,h1,h2.1⟩ e (λz=>nomatch z) h
 | @dT a kvs ea =>
  cases (show u=Value.ref a from rx);obtain⟨_,_,xs,_,o,es,ep,h1,h2,_⟩:=(show a6 X.prog X.w H s.heap a (.dT kvs) from I.hok a _ ea);exact W.kia_one W.kitx_dict I.kIn ⟨o,h1,h2.1⟩ e (λz=>nomatch z) h
 | @ins a C dx fs ea cl ha hn htk hm =>
  cases (show u=Value.ref a from rx);obtain⟨mA,O,_⟩:=kJ I.hok ea;obtain⟨od,J,_⟩:=O.look;exact W.kia_one (W.kitx_own (cl.get _) cl.hd ha hn htk hm) I.kIn J e (λz=>nomatch z) h
end
structure zy(k:Nat)(A:Around):Prop where
 hd:A.handled=none
 dp:A.depth+3*k+5<recursionLimit
 un:A.units+16*k+200<cLine
 gd:A.guards=some []
theorem zy.mono{j k:Nat}{A:Around}(r:zy k A)(h:j<=k):zy j A:=⟨r.hd,by have:=r.dp;omega,by have:=r.un;omega,r.gd⟩
theorem zy.deeper{k:Nat}{A:Around}(r:zy (k+1) A)(env:Env):zy k (A.deeper env) :=
 ⟨r.hd,by have:=r.dp;show A.depth+1+3*k+5<_;omega,by have:=r.un;show A.units+3+16*k+200<_;omega,r.gd⟩
theorem zy.in1{k:Nat}{A:Around}(r:zy (k+1) A):zy k A.in1 :=
 ⟨r.hd,by have:=r.dp;show A.depth+3*k+5<_;omega,by have:=r.un;show A.units+1+16*k+200<_;omega,r.gd⟩
theorem m9{A:Around}{C:Addr}{us:List Value}{kw:List (Str×Value)}:(A.under (.builtin "type.__call__" ⟨.ref C::us,kw⟩)).depth=A.depth+1:=by
 first|rfl|simp[Around.under,Code.weight,Code.isCreation,Code.isGuard,Code.isCaller,Code.frames,Code.isFrame,guardIds]
theorem m8{A:Around}{C:Addr}{us:List Value}{kw:List (Str×Value)}:(A.under (.builtin "type.__call__" ⟨.ref C::us,kw⟩)).units=A.units+1:=by
 first|rfl|simp[Around.under,Code.cUnits,Code.frames,Code.isFrame]
theorem lO{A:Around}{C:Addr}{us:List Value}{kw:List (Str×Value)}(h:A.guards=some []):(A.under (.builtin "type.__call__" ⟨.ref C::us,kw⟩)).guards=some []:=by
 first|exact h|(unfold Around.under;simp[h,Code.guards,Code.isGuard,guardIds,pushGuards])
theorem zy.make{k:Nat}{A:Around}(r:zy (k+1) A)(C:Addr)(us:List Value)(kw:List (Str×Value)):zy k (A.under (.builtin "type.__call__" ⟨.ref C::us,kw⟩)) :=
 ⟨r.hd,by have:=r.dp;rw[m9];omega,by have:=r.un;rw[m8];omega,lO r.gd⟩
theorem zy.depth{k:Nat}{A:Around}(r:zy k A):A.depth<recursionLimit:=by have:=r.dp;omega
theorem zy.units{k:Nat}{A:Around}(r:zy k A):A.units+64<cLine:=by have:=r.un;omega
theorem zy.units0{k:Nat}{A:Around}(r:zy k A):A.units<cLine:=by have:=r.un;omega
noncomputable def vQ:TA:=λ_ H Q=>Q [] H
noncomputable def oj(ta:TE)(tr:TA):TA:=λσ H Q=>ta σ H λx H1=>tr σ H1 λxs H2=>Q (x::xs) H2
section
variable {X:Cx} {e:Expr} {es:List Expr} {te:TE} {t:TA} {pos:Pos}
theorem ag:PA X [] vQ:=λ_ _ _ _ H Q I h=>Calls.spliced_nil ⟨[],H,I,.nil,h⟩
theorem ad(ha:PE X e te)(hr:PA X es t)(hs:starEach (e::es) X.env=(false,eval e X.env)::starEach es X.env:=by rfl):PA X (e::es) (oj te t):=by
 intro pos pins s σ H Q I h;rw[hs];show wpAny _ _ (spliced ((false,eval e X.env)::backTo pos (starEach es X.env))) _ _ s;refine Calls.spliced_cons (thn (ha pins s σ H _ I h) λu s1 ⟨x,H1,I1,r1,q1⟩=>?_);exact thn (hr pos pins s1 σ H1 _ I1 q1) λus s2 ⟨xs,H2,I2,r2,q2⟩=>⟨x::xs,H2,I2,.cons r1 r2,q2⟩
noncomputable def xB(t:TA):TE:=λσ H Q=>t σ H λxs H1=>xs.length<=sizeLine/\∀p,H1 p=none->Q (.ref p) (upd H1 p (.tup xs))
theorem gG{x1}(h:PA X es t):PE X (.Tuple es x1 pos) (xB t):=by
 intro pins s σ H Q I hq;refine wpAny_Tuple_spliced (thn (h pos pins s σ H _ I hq) λus s1 ⟨xs,H1,I1,r,z,q⟩=>⟨by rw[<- r.length];exact z,?_⟩);have hf:H1 s1.heap.objs.size=none:=I1.hok.fresh (Nat.le_refl _);refine⟨.ref s1.heap.objs.size,upd H1 s1.heap.objs.size (.tup xs),I1.laid (t':=s1.toks) (λb u e=>Heap.get?_push_of_some _ e) (Nat.le_refl _) ?_,rfl,q _ hf⟩;exact⟨z,us,r,⟨_,Heap.get?_push_size _ rfl,rfl,_,rfl⟩⟩
end
noncomputable abbrev Sp:=List V->Hp->VK->XK->Prop
noncomputable abbrev CXT:=List Env->Hp->Shared->XK->Value->Shared->Prop
structure BK(P:Program)(w:World)(K:W.Frag)(mg:Str->Option Value)(base:Heap)(A:Around)(outer:List Env)(s:Shared)(H:Hp):Prop where
 frames:A.frames=some outer
 mod:Mod K mg base
 bs:∀b o,base.get? b=some o->s.heap.get? b=some o/\H b=none
 bsz:base.objs.size<=s.heap.objs.size
 funs:s.heap.FunFrames base outer
 frf:∀b∈frs outer,H b=none
 hok:HOk P w H s.heap
 bare:AllBare s.gens
noncomputable def CE(outer:List Env)(P:Program)(w:World)(H:Hp)(s:Shared)(Q:VK)(u:Value)(s':Shared):Prop :=
 ∃v H',s'.os=s.os/\AllBare s'.gens/\Un (frs outer) [] H H' s.heap s'.heap/\HOk P w H' s'.heap/\aN v u/\Q v H'
noncomputable def CR(CX:CXT)(outer:List Env)(P:Program)(w:World)(H:Hp)(s:Shared)(Q:VK)(E:XK)(r:Result)(s':Shared):Prop :=
 match r with
 | .ok (.ret u)=>CE outer P w H s Q u s'
 | .ok _=>False
 | .error e=>CX outer H s E e s'
structure AT(P:Program)(w:World)(K:W.Frag)(mg:Str->Option Value)(base:Heap)(CX:CXT)(k:Nat)(f:Addr)(fd:FuncData)(ps:List Str)(sp:Sp):Prop where
 len:∀vs H Q E,sp vs H Q E->vs.length=ps.length
 run:∀(A:Around) (outer:List Env) (s:Shared) (H:Hp) (args:Args) (us:List Value) (vs:List V) (Q:VK) (E:XK),zy k A->BK P w K mg base A outer s H->BindsTo s fd args (ps.zip us)->aJ vs us->sp vs H Q E ->
  codeAny (model P w) A (.call (.ref f) args) (CR CX outer P w H s Q E) s
theorem AT.imp{P:Program}{w:World}{K:W.Frag}{mg:Str->Option Value}{base:Heap}{CX:CXT}{k:Nat}{f:Addr}{fd:FuncData}{ps:List Str}{sp sp':Sp}(F:AT P w K mg base CX k f fd ps sp)
  (h:∀vs H Q E,sp' vs H Q E->sp vs H Q E):AT P w K mg base CX k f fd ps sp' :=
 ⟨λvs H Q E q=>F.len vs H Q E (h _ _ _ _ q),λA outer s H args us vs Q E hr he hb hv hs=>F.run A outer s H args us vs Q E hr he hb hv (h _ _ _ _ hs)⟩
theorem BK.make{P:Program}{w:World}{K:W.Frag}{mg:Str->Option Value}{base:Heap}{A:Around}{outer:List Env}{s:Shared}{H:Hp}(e:BK P w K mg base A outer s H)(C:Addr)(us:List Value)(kw:List (Str×Value)) :
  BK P w K mg base (A.under (.builtin "type.__call__" ⟨.ref C::us,kw⟩)) outer s H:=⟨by first|exact e.frames|(simpa[Around.under,Code.envs,Code.isFrame,pushEnvs]using e.frames),e.mod,e.bs,e.bsz,e.funs,e.frf,e.hok,e.bare⟩
theorem BK.in1{P:Program}{w:World}{K:W.Frag}{mg:Str->Option Value}{base:Heap}{A:Around}{outer:List Env}{s:Shared}{H:Hp}(e:BK P w K mg base A outer s H) :
  BK P w K mg base A.in1 outer s H:=⟨e.frames,e.mod,e.bs,e.bsz,e.funs,e.frf,e.hok,e.bare⟩
section
variable {X:Cx} {pins:List (Addr×Obj)} {σ:St} {H:Hp} {s s':Shared}
theorem zg.env0(I:zg X pins σ H s):BK X.prog X.w X.K X.mg X.base X.A X.stack s H :=
 ⟨I.ok.frames,I.ok.mod,I.bs,Nat.le_trans I.ok.bsz I.sz,I.stack,I.stkFree,I.hok,I.bare⟩
theorem zg.after{Q:VK}{u:Value}(I:zg X pins σ H s)(h:CE X.stack X.prog X.w H s Q u s'):EP X pins σ Q u s':=by
 obtain⟨v,H',os,bare,un,hok,r,q⟩:=h;obtain⟨hh,g,d,t,os'⟩:=s';obtain rfl:os'=s.os:=os;exact⟨v,H',I.call (h':=hh) (g':=g) (d':=d) (t':=t) (ch:=[]) un hok bare (λb z=>absurd z (by simp)),r,q⟩
end
noncomputable def ol(sp:Sp)(dvs:List V)(E:XK)(t:TA):TE:=λσ H Q=>t σ H λvs H1=>sp (vs++dvs) H1 Q E
noncomputable def vp(C:Addr)(sp:Sp)(dvs:List V)(E:XK)(t:TA):TE:=λσ H Q=>t σ H λvs H1=>∀x dx,H1 x=none->H1 dx=none->dx≠x ->
 sp (.ref x::(vs++dvs)) (upd (upd H1 dx (.own x)) x (.ins C dx [])) (λv H2=>v = .non/\Q (.ref x) H2) E
noncomputable def d7(K:W.Frag)(fd:FuncData)(ps:List Str)(ds:List Value):Prop :=
 ∀(s:Shared) (us:List Value),K.In s.heap->(us++ds).length=ps.length->BindsTo s fd ⟨us,[]⟩ (ps.zip (us++ds))
theorem d7.all{K:W.Frag}{fd:FuncData}{ps:List Str}(h:∀us:List Value,us.length=ps.length->bindArgs fd ⟨us,[]⟩=pure (ps.zip us)):d7 K fd ps []:=λs us _ hl=>by
 rw[List.append_nil]at hl ⊢;exact .of_eq (h us hl)
noncomputable def fH(CX:CXT)(X:Cx)(E:XK):Prop:=∀(pins:List (Addr×Obj)) (σ:St) (H:Hp) (s:Shared) (e:Value) (s':Shared),zg X pins σ H s->CX X.stack H s E e s'->X.xe e s'
section
variable {X:Cx} {CX:CXT} {k:Nat} {f C:Addr} {fd:FuncData} {ps:List Str} {sp:Sp} {dvs:List V} {ds:List Value} {E:XK} {x m:Str} {p pos apos:Pos} {e o:Expr} {es:List Expr} {ta:TE} {t:TA}
theorem v5{pins:List (Addr×Obj)}{σ:St}{H:Hp}{s:Shared}{Q:VK}{us:List Value}{vs:List V}(F:AT X.prog X.w X.K X.mg X.base CX k f fd ps sp)(hr:zy k X.A)(hb:d7 X.K fd ps ds)(hd:aJ dvs ds)(hx:fH CX X E)
  (I:zg X pins σ H s) (r:aJ vs us) (h:sp (vs++dvs) H Q E):wpAny (model X.prog X.w) X.A (call (.ref f) us) (EP X pins σ Q) X.xe s:=by
 have r2:aJ (vs++dvs) (us++ds):=r.append hd;have hl:(us++ds).length=ps.length:=by rw[<- r2.length];exact F.len _ _ _ _ h
 refine wpAny_call (codeAny_mono (F.run X.A X.stack s H ⟨us,[]⟩ (us++ds) (vs++dvs) Q E hr I.env0 (hb s us I.kIn hl) r2 h) λr s' hq=>?_);cases r with
 | error e=>exact hx pins σ H s e s' I hq
 | ok fl =>
  cases fl with
  | ret u=>exact I.after hq
  | next=>exact False.elim hq
  | brk=>exact False.elim hq
  | cont=>exact False.elim hq
theorem ko(F:AT X.prog X.w X.K X.mg X.base CX k f fd ps sp)(hr:zy k X.A)(hg:Gl X x)(hm:X.mg x=some (.ref f))(hk:W.keepIn X.K (.ref f)=true)(hb:d7 X.K fd ps ds)(hd:aJ dvs ds)(hx:fH CX X E)
  (ha:PA X (e::es) t) (hdb:(x == ("__debug__" : Str))=false:=by decide) (he:starEach (e::es) X.env=(false,eval e X.env)::starEach es X.env:=by rfl) (hpl:(backTo pos (starEach es X.env)).any (·.1)=false:=by rfl) :
  PE X (.Call (.Name x p) (e::es) [] pos) (ol sp dvs E t):=by
 intro pins s σ H Q I h;refine wpAny_Call_Name_kw (eZ I hg hm ?_ hdb);refine W.callWith_K (h₀:=X.base) I.ok.mod.kin hk (thn (ha pos pins s σ H _ I h) λus s1 ⟨vs,H1,I1,r,q⟩=>⟨I1.kIn,?_⟩) he hpl;exact v5 F hr hb hd hx I1 r q
structure Mk(K:W.Frag)(C f:Addr):Prop where
 makes:W.makesIn K C=true
 init:W.findIn K (.ref C) "__init__" = some (some (.ref f))
 fn:W.isFn K (.ref f)=true
 kp:W.keepIn K (.ref C)=true
theorem qB{pins:List (Addr×Obj)}{σ:St}{H:Hp}{s:Shared}{Q:VK}{us:List Value}{vs:List V}(M:Mk X.K C f)(F:AT X.prog X.w X.K X.mg X.base CX k f fd ps sp)(hr:zy (k+1) X.A)(hb:d7 X.K fd ps ds)(hd:aJ dvs ds)
  (hx:fH CX X E) (I:zg X pins σ H s) (r:aJ vs us)
  (h:∀x dx,H x=none->H dx=none->dx≠x->sp (.ref x::(vs++dvs)) (upd (upd H dx (.own x)) x (.ins C dx [])) (λv H2=>v = .non/\Q (.ref x) H2) E) :
  wpAny (model X.prog X.w) X.A (call (.ref C) us) (EP X pins σ Q) X.xe s:=by
 have hq:=h (s.heap.objs.size+1) s.heap.objs.size (I.hok.fresh (Nat.le_succ _)) (I.hok.fresh (Nat.le_refl _)) (Nat.ne_of_lt (Nat.lt_succ_self _));have I2:=zg.made (C:=C) I;have r2:aJ (V.ref (s.heap.objs.size+1)::(vs++dvs)) (Value.ref (s.heap.objs.size+1)::(us++ds)):=.cons rfl (r.append hd);have hl:(Value.ref (s.heap.objs.size+1)::us++ds).length=ps.length:=by
  have e:=r2.length;rw[F.len _ _ _ _ hq]at e;exact e.symm
 refine wpAny_call (qY (f:=f) I.kIn M.makes M.init (beq_iff_eq.mp M.fn) (codeAny_mono (F.run _ X.stack _ _ ⟨Value.ref (s.heap.objs.size+1)::us,[]⟩ (Value.ref (s.heap.objs.size+1)::(us++ds)) _ _ E (hr.make C us [])
  (I2.env0.make C us []) (hb _ (Value.ref (s.heap.objs.size+1)::us) I2.kIn hl) r2 hq) λr s' hq'=>?_))
 cases r with
 | error e=>exact hx pins σ _ _ e s' I2 hq'
 | ok fl =>
  cases fl with
  | ret u =>
   obtain⟨v,H',I3,rv,ev,q3⟩:=I2.after hq';subst ev;exact⟨rv,⟨V.ref (s.heap.objs.size+1),H',I3,rfl,q3⟩⟩
  | next=>exact False.elim hq'
  | brk=>exact False.elim hq'
  | cont=>exact False.elim hq'
theorem tX(M:Mk X.K C f)(F:AT X.prog X.w X.K X.mg X.base CX k f fd ps sp)(hr:zy (k+1) X.A)(hg:Gl X x)(hm:X.mg x=some (.ref C))(hb:d7 X.K fd ps ds)(hd:aJ dvs ds)(hx:fH CX X E)
  (ha:PA X (e::es) t) (hdb:(x == ("__debug__" : Str))=false:=by decide) (he:starEach (e::es) X.env=(false,eval e X.env)::starEach es X.env:=by rfl) (hpl:(backTo pos (starEach es X.env)).any (·.1)=false:=by rfl) :
  PE X (.Call (.Name x p) (e::es) [] pos) (vp C sp dvs E t):=by
 intro pins s σ H Q I h;refine wpAny_Call_Name_kw (eZ I hg hm ?_ hdb);refine W.callWith_K (h₀:=X.base) I.ok.mod.kin M.kp (thn (ha pos pins s σ H _ I h) λus s1 ⟨vs,H1,I1,r,q⟩=>⟨I1.kIn,?_⟩) he hpl;exact qB M F hr hb hd hx I1 r q
end
structure zf(N P:List Str)(sc:Scope):Prop where
 kind:sc.kind = .function
 co:sc.isCoroutine=false
 gen:sc.isGenerator=false
 nd:N.Nodup
 pre:N.take P.length=P
 par:∀x∈P,sc.names.lookup x=some .local\/sc.names.lookup x=some .cell
 nofree:∀y∈sc.names,y.2≠.free
theorem jZ{kindOf:Str->Option NameKind}{x:Str}:∀{binds:List (Str×Value)} {m:Str->Option Value},(∀v,(x,v)∉binds)->bindL kindOf binds m x=m x
 | [],_,_=>rfl
 | (n,v)::r,m,h=>by
  unfold bindL;rw[jZ λw hw=>h w (List.mem_cons_of_mem _ hw)]
  split
  ·have:x≠n:=by rintro rfl;exact h v List.mem_cons_self
   simp[this]
  ·rfl
theorem j5{kindOf:Str->Option NameKind}{x:Str}:∀{binds:List (Str×Value)} {m:Str->Option Value},(∀v,(x,v)∉binds)->bindC kindOf binds m x=m x
 | [],_,_=>rfl
 | (n,v)::r,m,h=>by
  unfold bindC;rw[j5 λw hw=>h w (List.mem_cons_of_mem _ hw)]
  split
  ·rfl
  ·have:x≠n:=by rintro rfl;exact h v List.mem_cons_self
   simp[this]
theorem j4{kindOf:Str->Option NameKind}{x:Str}{v:Value}:∀{P:List Str} {vs:List Value} {i:Nat} {m:Str->Option Value},P.Nodup->P[i]? = some x->vs[i]? = some v->kindOf x=some .local ->
  bindL kindOf (P.zip vs) m x=some v
 | [],_,_,_,_,h,_,_=>by simp at h
 | _::_,[],_,_,_,_,h,_=>by simp at h
 | p::P,w::vs,0,m,nd,h1,h2,hk=>by
  simp at h1 h2;subst h1;subst h2;show bindL kindOf ((p,w)::P.zip vs) m p=_;unfold bindL;rw[jZ λv hv=>(List.nodup_cons.mp nd).1 (List.of_mem_zip hv).1,if_pos hk];simp
 | p::P,w::vs,i+1,m,nd,h1,h2,hk=>by
  show bindL kindOf ((p,w)::P.zip vs) m x=_;unfold bindL;exact j4 (i:=i) (List.nodup_cons.mp nd).2 (by simpa using h1) (by simpa using h2) hk
theorem j6{kindOf:Str->Option NameKind}{x:Str}{v:Value}:∀{P:List Str} {vs:List Value} {i:Nat} {m:Str->Option Value},P.Nodup->P[i]? = some x->vs[i]? = some v->kindOf x≠some .local ->
  bindC kindOf (P.zip vs) m x=some v
 | [],_,_,_,_,h,_,_=>by simp at h
 | _::_,[],_,_,_,_,h,_=>by simp at h
 | p::P,w::vs,0,m,nd,h1,h2,hk=>by
  simp at h1 h2;subst h1;subst h2;show bindC kindOf ((p,w)::P.zip vs) m p=_;unfold bindC;rw[j5 λv hv=>(List.nodup_cons.mp nd).1 (List.of_mem_zip hv).1,if_neg hk];simp
 | p::P,w::vs,i+1,m,nd,h1,h2,hk=>by
  show bindC kindOf ((p,w)::P.zip vs) m x=_;unfold bindC;exact j6 (i:=i) (List.nodup_cons.mp nd).2 (by simpa using h1) (by simpa using h2) hk
noncomputable def dY(N:List Str)(vs:List V):St:=vs.map some++List.replicate (N.length - vs.length) none
noncomputable def aX(CX:CXT)(P:Program)(w:World)(K:W.Frag)(mg:Str->Option Value)(base:Heap)(N:List Str)(qual:Str)(scope:Scope)(f:Addr)(cd:Value)(A:Around)(outer:List Env)(s:Shared)(H:Hp)(E:XK):Cx where
 prog:=P
 w:=w
 K:=K
 mg:=mg
 base:=base
 A:=A.deeper (envOfC qual scope s.heap.objs.size f cd)
 N:=N
 s₀:=s
 H₀:=H
 env:=envOfC qual scope s.heap.objs.size f cd
 outer:=outer
 stack:=envOfC qual scope s.heap.objs.size f cd::outer
 ex:=[]
 calm:=true
 fn:=λ_=>true
 pn:=[]
 xe:=λe s'=>wpAny (model P w) (A.deeper (envOfC qual scope s.heap.objs.size f cd)) (leaving (envOfC qual scope s.heap.objs.size f cd) e) (λ_ s''=>CX outer H s E e s'') (λe' s''=>CX outer H s E e' s'') s'
theorem mD{sc:Scope}{n:Nat}{x:Str}(h:sc.names.lookup x=some .cell):∃c,(cellsFrom n sc.names []).lookup x=some c:=by
 have q:=W.cellsFrom_some sc.names n [] (.inl h);exact Option.isSome_iff_exists.mp q
theorem pT{CX:CXT}{P:Program}{w:World}{K:W.Frag}{mg:Str->Option Value}{base:Heap}{N ps:List Str}{qual:Str}{scope:Scope}{f:Addr}{cd:Value}{A:Around}{outer:List Env}{s s1:Shared}{H:Hp}{E:XK}{us:List Value}{vs:List V}
  (S:zf N ps scope) (hd:A.handled=none) (e0:BK P w K mg base A outer s H) (hl:vs.length=ps.length) (r:aJ vs us)
  (x:InCallC s s.heap.objs.size (bindL (envOfC qual scope s.heap.objs.size f cd).kindOf (ps.zip us) λ_=>none) (cellsFrom (s.heap.objs.size+1) scope.names []) (bindC (envOfC qual scope s.heap.objs.size f cd).kindOf (ps.zip us) λ_=>none) s1) :
  zg (aX CX P w K mg base N qual scope f cd A outer s H E) [] (dY N vs) H s1:=by
 have hpl:ps.length<=N.length:=by have:=congrArg List.length S.pre;rw[List.length_take]at this;omega
 obtain⟨h1,tk,rfl,hk⟩:=x.done;have noA:∀b:Addr,b∉(aX CX P w K mg base N qual scope f cd A outer s H E).ex:=λb z=>absurd (show b∈([]:List Addr) from z) (by simp);refine⟨⟨e0.mod,S.kind,rfl,rfl,Nat.le_refl _,λy z c h1 h2=>?_,λy hy=>?_,λy c _ h=>?_,λ_=>hd,Around.frames_deeper e0.frames,.inr ⟨rfl,rfl⟩,λb z=>absurd z (noA b),e0.bs,e0.bsz,λb _ _=>noA b,λb z=>absurd z (noA b),e0.funs,e0.frf⟩,
  rfl,e0.bare,Un.kept hk,⟨_,x.toInCall.ns,λi y v h1 h2 h3=>?_⟩,λy c h=>⟨_,x.cell y c h⟩,e0.hok.fresh (Nat.le_refl _),λy c h=>?_,λp hp=>absurd (show p∈([]:List (Addr×Obj)) from hp) (by simp),e0.hok.kept hk,?_⟩
 ·exact name_of_addr x.apart (PySem.mem_of_lookup h1) (PySem.mem_of_lookup h2)
 ·have hy:scope.names.lookup y=some .cell\/scope.names.lookup y=some .free:=hy
  rcases hy with hy|hy
  ·exact mD hy
  ·exact absurd rfl (S.nofree _ (PySem.mem_of_lookup hy))
 ·exact Nat.le_of_lt (x.above y c (PySem.mem_of_lookup h))
 ·have hi:i<vs.length:=by
   unfold dY at h2
   by_cases hi:i<vs.length
   ·exact hi
   ·rw[List.getElem?_append_right (by simpa using hi)]at h2
    rw[List.getElem?_replicate]at h2
    split at h2 <;> cases h2
  have ha:vs[i]? = some v:=by
   unfold dY at h2;rw[List.getElem?_append_left (by simpa using hi),List.getElem?_map]at h2;cases e:vs[i]? with
   | none=>rw[e]at h2;cases h2
   | some a=>rw[e]at h2;cases h2;rfl
  obtain⟨u,hu,rv⟩:=r.get ha;have hp:ps[i]? = some y:=by
   rw[<- S.pre,List.getElem?_take_of_lt (by omega)];exact h1
  have ndP:ps.Nodup:=by rw[<- S.pre];exact S.nd.sublist (List.take_sublist _ _)
  refine⟨u,rv,?_⟩;rcases S.par y (List.mem_of_getElem? hp) with k|k
  ·exact .inl ⟨k,j4 ndP hp hu k⟩
  ·obtain⟨c,e⟩:=mD (n:=s.heap.objs.size+1) k
   refine .inr ⟨.inl k,c,e,?_⟩;have q:=x.cell y c e;rw[j6 ndP hp hu (by show scope.names.lookup y≠_;rw[k];decide)]at q;exact q
 ·exact e0.hok.fresh (Nat.le_of_lt (x.above y c (PySem.mem_of_lookup h)))
 ·unfold dY
  show _=N.length;rw[List.length_append,List.length_map,List.length_replicate];omega
theorem lZ{CX:CXT}{P:Program}{w:World}{K:W.Frag}{mg:Str->Option Value}{base:Heap}{k:Nat}{f:Addr}{name qual:Str}{params:Arguments}{body:List Stmt}{scope:Scope}{dV kV doc pm cdv ct oc:Value}{an od:Option Addr}
  {osl:Array (Option Value)} {N ps:List Str} {sp:Sp} (lk:K.lookup f=some ⟨oc,od,.func (W.fnOf name qual params body scope dV kV doc pm an cdv ct),osl⟩) (hcd:W.codeIn K cdv qual=true) (S:zf N ps scope)
  (len:∀vs H Q E,sp vs H Q E->vs.length=ps.length)
  (hbody:∀(A:Around) (outer:List Env) (s:Shared) (H:Hp) (vs:List V) (Q:VK) (E:XK),zy k (A.deeper (envOfC qual scope s.heap.objs.size f cdv))->sp vs H Q E ->
   ∃t,PSs (aX CX P w K mg base N qual scope f cdv A outer s H E) body t/\t { nx:=λ_ H'=>Q .non H',rt:=Q } (dY N vs) H) :
  AT P w K mg base CX (k+1) f (W.fnOf name qual params body scope dV kV doc pm an cdv ct) ps sp:=by
 refine⟨len,λA outer s H args us vs Q E hr e0 hb r hsp=>?_⟩;have hl:=len _ _ _ _ hsp;have KX:K.In s.heap:=e0.mod.kin.keeps λb o e=>(e0.bs b o e).1;have lim:s.heap.NoLimit:=e0.mod.nolimit.keeps λb o e=>(e0.bs b o e).1;have hkind:∀y∈ps.zip us,scope.names.lookup y.1=some .local\/(scope.names.lookup y.1=some .cell/\((cellsFrom (s.heap.objs.size+1) scope.names []).lookup y.1).isSome=true):=λ⟨n,v⟩ hy=>by
  rcases S.par n (List.of_mem_zip hy).1 with q|q
  ·exact .inl q
  ·exact .inr ⟨q,W.cellsFrom_some _ _ _ (.inl q)⟩
 refine codeAny_call_function hr.depth (KX _ _ lk) rfl S.co S.gen rfl (W.codeRec_of KX hcd) (hb _ _ _ _ ?_);refine wpAny_newFunctionEnv_cells S.kind hkind λenv he s1 x=>?_;subst he;refine⟨lim.keeps x.toInCall.keep,codeAny_func ?_⟩;obtain⟨t,ht,hq⟩:=hbody A outer s H vs Q E (hr.deeper _) hsp;have I:zg (aX CX P w K mg base N qual scope f cdv A outer s H E) [] (dY N vs) H s1:=pT S hr.hd e0 hl r x;refine wpAny_mono (ht [] s1 (dY N vs) H _ I hq) (λfl s' hs=>?_) λe s' hs=>hs;have fin:∀{σ':St} {H':Hp} {v:V} {u:Value},zg (aX CX P w K mg base N qual scope f cdv A outer s H E) [] σ' H' s'->aN v u->Q v H'->CE outer P w H s Q u s' :=
  λ{σ' H' v u} J rv q=>⟨v,H',J.os,J.bare,J.base,J.hok,rv,q⟩
 cases fl with
 | ret u =>
  obtain⟨v,σ',H',J,rv,q⟩:=hs;exact fin J rv q
 | next =>
  obtain⟨σ',H',J,q⟩:=hs;exact fin (v:=V.non) (u:=Value.none) J rfl q
 | brk =>
  obtain⟨_,_,_,q⟩:=hs;exact False.elim q
 | cont =>
  obtain⟨_,_,_,q⟩:=hs;exact False.elim q
section
variable {X:Cx} {x:Str} {p pos:Pos} {e:Expr} {es:List Expr} {t:TA} {id T:String} {r:List V->Hp->VK->Prop}
noncomputable def tCB(r:List V->Hp->VK->Prop)(t:TA):TE:=λσ H Q=>t σ H λvs H1=>r vs H1 Q
theorem aI(hc:cU X (.builtin id) r)(hg:Gl X x)(hm:X.mg x=none)(hv:bootBuiltins x=some (.builtin id))(ha:PA X (e::es) t)(hn:x≠"__name__":=by decide)(hdb:(x == ("__debug__" : Str))=false:=by decide)
  (he:starEach (e::es) X.env=(false,eval e X.env)::starEach es X.env:=by rfl) (hpl:(backTo pos (starEach es X.env)).any (·.1)=false:=by rfl):PE X (.Call (.Name x p) (e::es) [] pos) (tCB r t):=by
 intro pins s σ H Q I h;refine wpAny_Call_Name_kw (dW I hg hm hv ?_ hn hdb);exact PyProof.Rows.callWith_builtin1 (thn (ha pos pins s σ H _ I h) λus s1 ⟨vs,H1,I1,r1,q1⟩=>hc pins s1 σ H1 vs us Q I1 r1 q1) he hpl
theorem jM(hc:cU X (.type T) r)(hg:Gl X x)(hm:X.mg x=none)(hv:bootBuiltins x=some (.type T))(ha:PA X (e::es) t)(hn:x≠"__name__":=by decide)(hdb:(x == ("__debug__" : Str))=false:=by decide)
  (he:starEach (e::es) X.env=(false,eval e X.env)::starEach es X.env:=by rfl) (hpl:(backTo pos (starEach es X.env)).any (·.1)=false:=by rfl):PE X (.Call (.Name x p) (e::es) [] pos) (tCB r t):=by
 intro pins s σ H Q I h;refine wpAny_Call_Name_kw (dW I hg hm hv ?_ hn hdb);exact PyProof.Rows.callWith_type1 (thn (ha pos pins s σ H _ I h) λus s1 ⟨vs,H1,I1,r1,q1⟩=>hc pins s1 σ H1 vs us Q I1 r1 q1) he hpl
end
end L2
namespace HT
open PySem PyProof.Rows
section
variable {prog:Program} {w:World} {A:Around} {E:Value->Shared->Prop} {s:Shared}
noncomputable def sIx(n d:Nat):Option Int->Nat
 | none=>d
 | some v=>if v<0 then (v+(n:Int)).toNat else min v.toNat n
theorem sIx_none(n d:Nat):sIx n d none=d:=rfl
theorem sIx_nat(n d k:Nat):sIx n d (some (k:Int))=min k n:=by
 show(if (k:Int)<0 then ((k:Int)+(n:Int)).toNat else min (k:Int).toNat n)=min k n
 rw[if_neg (by omega),Int.toNat_natCast]
end
end HT
namespace L2
open PySem PySem.Spec PyProof.Rows
noncomputable abbrev TO:=St->Hp->(Option Int->Hp->Prop)->Prop
noncomputable def PO(X:Cx)(e:Option Expr)(t:TO):Prop :=
 ∀(pins:List (Addr×Obj)) (s:Shared) (σ:St) (H:Hp) (Q:Option Int->Hp->Prop),zg X pins σ H s->t σ H Q ->
  wpAny (model X.prog X.w) X.A (evalPart e X.env) (λu s'=>∃o H',zg X pins σ H' s'/\IsPart u o/\Q o H') X.xe s
noncomputable def sV:TO:=λ_ H Q=>Q none H
noncomputable def xF(t:TE):TO:=λσ H Q=>t σ H λx H1=>∃i,x = .int i/\Q (some i) H1
section
variable {X:Cx} {e:Expr} {te:TE} {lo hi:Option Expr} {tl th:TO} {pos p2:Pos}
theorem kj:PO X none sV:=by
 intro pins s σ H Q I h;rw[evalPart_none];exact wpAny_pure ⟨none,H,I,.none,h⟩
theorem fQ(h:PE X e te):PO X (some e) (xF te):=by
 intro pins s σ H Q I hw;rw[evalPart_some];refine thn (h pins s σ H _ I hw) λu s1 ⟨x,H1,I1,r1,q1⟩=>?_;obtain⟨i,rfl,q⟩:=q1;obtain⟨t,rfl⟩:=r1;exact⟨some i,H1,I1,.int i t,q⟩
noncomputable def SlR(X:Cx)(r:V->Option Int->Option Int->Hp->VK->Prop):Prop :=
 ∀(pins:List (Addr×Obj)) (s:Shared) (σ:St) (H:Hp) (x:V) (v vl vu:Value) (lo hi:Option Int) (sl:Addr) (Q:VK),zg X pins σ H s->aN x v->s.heap.IsSliceOf sl vl vu .none->IsPart vl lo->IsPart vu hi->r x lo hi H Q ->
  ∃T id,typeLookup (.type T) "__getitem__" = pure (some (.builtin id))/\s.TypeIs v T/\wpAny (model X.prog X.w) X.A (getItem v (.ref sl)) (EP X pins σ Q) X.xe s
noncomputable def tSl(r:V->Option Int->Option Int->Hp->VK->Prop)(te:TE)(tl th:TO):TE:=λσ H Q=>te σ H λx H1=>tl σ H1 λl H2=>th σ H2 λu H3=>r x l u H3 Q
theorem fR{r:V->Option Int->Option Int->Hp->VK->Prop}(hr:SlR X r)(he:PE X e te)(hl:PO X lo tl)(hu:PO X hi th):PE X (.Subscript e (.Slice lo hi none p2) pos) (tSl r te tl th):=by
 intro pins s σ H Q I h;refine Subscript_ (thn (he pins s σ H _ I h) λv s1 ⟨x,H1,I1,r1,q1⟩=>?_);refine wpAny_Slice (thn (hl pins s1 σ H1 _ I1 q1) λvl s2 ⟨l,H2,I2,pl,q2⟩=>thn (hu pins s2 σ H2 _ I2 q2) λvu s3 ⟨u,H3,I3,pu,q3⟩=>?_);rw[evalPart_none];refine wpAny_pure ?_;have I4:zg X pins σ H3 { s3 with heap:=s3.heap.push { cls:=.type "slice",data:=.fields #[vl,vu,.none] } }:=I3.kept (t':=s3.toks) λb ob q=>Heap.get?_push_of_some _ q;obtain⟨T,id,hT,ht,hg⟩:=hr pins { s3 with heap:=s3.heap.push { cls:=.type "slice",data:=.fields #[vl,vu,.none] } } σ H3 x v vl vu l u s3.heap.objs.size Q I4 r1 (Heap.IsSliceOf.new ..) pl pu q3;show wpAny (model X.prog X.w) X.A (subscriptTail e (.Slice lo hi none p2) v (.ref s3.heap.objs.size)) (EP X pins σ Q) X.xe { s3 with heap:=s3.heap.push { cls:=.type "slice",data:=.fields #[vl,vu,.none] } };exact tail_any (ops:=[.ref s3.heap.objs.size,v]) ht hT hg (by with_unfolding_all rfl)
noncomputable def fF(xs:List V)(lo hi:Option Int):List V:=(xs.drop (HT.sIx xs.length 0 lo)).take (HT.sIx xs.length xs.length hi - HT.sIx xs.length 0 lo)
theorem mB(xs:List V)(lo hi:Option Int):(fF xs lo hi).length<=xs.length:=by
 unfold fF;rw[List.length_take,List.length_drop];omega
end
noncomputable def ixN(n:Nat)(i:Int):Option Nat:=if 0<=i then (if i<n then some i.toNat else none) else if -(n:Int)<=i then some (i+n).toNat else none
noncomputable def atI{α:Type}(xs:List α)(i:Int):Option α:=(ixN xs.length i).bind λj=>xs[j]?
theorem oN{n:Nat}{i:Int}{j:Nat}(h:ixN n i=some j):seqIndex? i n=some j/\j<n/\-(n:Int)<=i/\i<n:=by
 unfold ixN at h
 by_cases h0:0<=i
 ·rw[if_pos h0]at h
  by_cases h1:i<n
  ·rw[if_pos h1]at h
   have e:i.toNat=j:=Option.some.inj h;exact⟨by rw[seqIndex_of h0 h1,e],by omega,by omega,h1⟩
  ·rw[if_neg h1]at h;cases h
 ·rw[if_neg h0]at h
  by_cases h1:-(n:Int)<=i
  ·rw[if_pos h1]at h
   have e:(i+n).toNat=j:=Option.some.inj h;exact⟨by rw[seqIndex_neg (by omega) h1,e],by omega,h1,by omega⟩
  ·rw[if_neg h1]at h;cases h
theorem pd{α:Type}{xs:List α}{i:Int}{v:α}(h:atI xs i=some v):∃j,seqIndex? i xs.length=some j/\xs[j]? = some v/\j<xs.length/\-(xs.length:Int)<=i/\i<xs.length:=by
 unfold atI at h;cases e:ixN xs.length i with
 | none=>rw[e]at h;cases h
 | some j =>
  rw[e]at h;obtain⟨h1,h2,h3,h4⟩:=oN e;exact⟨j,h1,h,h2,h3,h4⟩
theorem cw{α:Type}{xs:List α}{j:Nat}{v:α}(h:xs[j]? = some v):atI xs (j:Int)=some v:=by
 have hj:j<xs.length:=(List.getElem?_eq_some_iff.mp h).1;have e:ixN xs.length (j:Int)=some j:=by
  unfold ixN;rw[if_pos (by omega),if_pos (by omega)];simp
 unfold atI;rw[e];exact h
theorem sI{α:Type}(xs:List α)(v:α):atI (xs++[v]) (-1)=some v:=by
 have hl:(xs++[v]).length=xs.length+1:=by simp
 have e:ixN (xs++[v]).length (-1)=some xs.length:=by
  unfold ixN;rw[hl,if_neg (by decide),if_pos (by omega)]
  congr 1
  omega
 unfold atI;rw[e];show(xs++[v])[xs.length]? = some v;simp
noncomputable def vk(b:Expr):Prop:=∀o i,subscripted b false o i=operate [o,i] (getItem o i)
noncomputable def IxR(X:Cx)(r:R2):Prop :=
 ∀(value slice:Expr) (pins:List (Addr×Obj)) (s:Shared) (σ:St) (H:Hp) (x y:V) (v u:Value) (Q:VK),zg X pins σ H s->aN x v->aN y u->r x y H Q ->
  subscripted slice false v u=operate [v,u] (getItem v u)->wpAny (model X.prog X.w) X.A (subscriptTail value slice v u) (EP X pins σ Q) X.xe s
noncomputable def MtR(X:Cx)(id:String)(r:V->List V->Hp->VK->Prop):Prop :=
 ∀(pins:List (Addr×Obj)) (s:Shared) (σ:St) (H:Hp) (x:V) (xs:List V) (v:Value) (us:List Value) (Q:VK),zg X pins σ H s->aN x v->aJ xs us->r x xs H Q ->
  wpAny (model X.prog X.w) X.A (call (.builtin id) (v::us)) (EP X pins σ Q) X.xe s
section
variable {X:Cx} {a b:Expr} {ta tb:TE} {pos:Pos}
theorem aw{r:R2}(hr:IxR X r)(ha:PE X a ta)(hb:PE X b tb)(hs:vk b):PE X (.Subscript a b pos) (tOp r ta tb):=by
 intro pins s σ H Q I h;exact Subscript_ (xm ha hb I h λv u s2 x y H2 I2 rx ry q=>hr a b pins s2 σ H2 x y v u Q I2 rx ry q (hs _ _))
inductive EL (K:W.Frag) (x y:V) (H:Hp) (Q:VK):Prop
 | mk (p:Addr) (xs:List V) (i:Int) (v:V) (e:x = .ref p) (f:y = .int i) (s:SqL K H p xs) (a:atI xs i=some v) (q:Q v H):EL K x y H Q
inductive Fk (K:W.Frag) (x y:V) (H:Hp) (Q:VK):Prop
 | mk (p:Addr) (xs:List V) (i:Int) (v:V) (e:x = .ref p) (f:y = .int i) (s:SqT K H p xs) (a:atI xs i=some v) (q:Q v H):Fk K x y H Q
theorem bA:IxR X (EL X.K):=by
 intro value slice pins s σ H x y v u Q I rx ry h hs;obtain⟨p,xs,i,z,rfl,rfl,hq,he,q⟩:=h;cases rx;obtain⟨t,rfl⟩:=ry;obtain⟨its,r,pl,hz⟩:=I.list hq;obtain⟨j,h1,h2,h3,h4,h5⟩:=pd he;obtain⟨w,ew,rw'⟩:=r.get h2;have hl:=r.length;have hn:=kG;have fin:EP X pins σ Q w s:=⟨z,H,I,rw',q⟩
 by_cases h0:0<=i
 ·have hj:i.toNat=j:=by
   rw[seqIndex_of h0 h5]at h1;exact Option.some.inj h1
  exact item_listR pl.isList h0 (by omega) (by rw[hj];simpa using ew) fin hs
 ·have hj:(i+(its.toArray.size:Int)).toNat=j:=by
   rw[seqIndex_neg (by omega) h4]at h1;rw[List.size_toArray,<- hl];exact Option.some.inj h1
  exact subscriptTail_builtinR (x:=w) pl.isList.typeIs slot_list_getitem.lookup
   (wpAny_getItem_list_neg (Q:=λr s'=>r=w/\EP X pins σ Q r s') pl.isList (by omega) (by rw[List.size_toArray] <;> omega) (by omega) (by rw[hj];simpa using ew) ⟨rfl,fin⟩) hs
theorem av:IxR X (Fk X.K):=by
 intro value slice pins s σ H x y v u Q I rx ry h hs;obtain⟨p,xs,i,z,rfl,rfl,hq,he,q⟩:=h;cases rx;obtain⟨t,rfl⟩:=ry;obtain⟨its,r,pl,hz⟩:=I.tuple hq;obtain⟨j,h1,h2,h3,h4,h5⟩:=pd he;obtain⟨w,ew,rw'⟩:=r.get h2;have hl:=r.length;have hn:=kG;have fin:EP X pins σ Q w s:=⟨z,H,I,rw',q⟩;exact subscriptTail_builtinR (x:=w) pl.typeIs slot_tuple_getitem.lookup
  (getItem_tuple (j:=j) (Q:=λr s'=>r=w/\EP X pins σ Q r s') pl (by omega) (by omega) (by rw[List.size_toArray,<- hl];exact h1) (by simpa using ew) ⟨rfl,fin⟩) hs
theorem m6(its:List Value)(n j:Nat)(u:Value):Obj.mapSeq (·.setIfInBounds j u) { cls:=.type "list",data:=.seq its.toArray n }={ cls:=.type "list",data:=.seq (its.set j u).toArray n }:=by
 simp[Obj.mapSeq]
theorem zg.lst{pins:List (Addr×Obj)}{σ:St}{H:Hp}{s:Shared}{p:Addr}{xs:List V}(I:zg X pins σ H s)(h:H p=some (.lst xs)) :
  ∃(its:List Value) (n:Nat),aJ xs its/\s.heap.get? p=some { cls:=.type "list",data:=.seq its.toArray n }/\xs.length<=sizeLine:=by
 obtain⟨z,its,n,r,e⟩:=I.hok p _ h;exact⟨its,n,r,e,z⟩
theorem zg.lstUpd{pins:List (Addr×Obj)}{σ:St}{H:Hp}{s:Shared}{p:Addr}{xs ys:List V}{its its':List Value}{n n':Nat}{f:Obj->Obj}(I:zg X pins σ H s)(h:H p=some (.lst xs))
  (ho:s.heap.get? p=some { cls:=.type "list",data:=.seq its.toArray n }) (hf:f { cls:=.type "list",data:=.seq its.toArray n }={ cls:=.type "list",data:=.seq its'.toArray n' }) (r:aJ ys its') (hz:ys.length<=sizeLine) (t:Nat) :
  zg X pins σ (upd H p (.lst ys)) { s with heap:=s.heap.update p f,toks:=t }:=by
 have e:(s.heap.update p f).get? p=some { cls:=.type "list",data:=.seq its'.toArray n' }:=by
  rw[Heap.get?_update_self f ho (by rw[hf] <;> rfl),hf]
 refine I.write (x:=p) (e:=p) (by rw[h];trivial) (.inl rfl) (λb u hb q=>(Heap.get?_update_other _ _ (Ne.symm hb)).trans q) ⟨_,e⟩ ?_;exact⟨hz,its',n',r,e⟩
noncomputable def xV:V->V->V->Hp->(Hp->Prop)->Prop:=λo i v H Q=>∃p xs k j,o = .ref p/\i = .int k/\H p=some (.lst xs)/\ixN xs.length k=some j/\Q (upd H p (.lst (xs.set j v)))
theorem qz:xr X xV:=by
 intro pins s σ H o i v ov iv u Q I ro ri rv h;obtain⟨p,xs,k,j,rfl,rfl,hp,hj,q⟩:=h;cases ro;obtain⟨t,rfl⟩:=ri;obtain⟨its,n,r,ho,hz⟩:=I.lst hp;obtain⟨h1,h2,h3,h4⟩:=oN hj;have hl:=r.length;have hn:=kG;have I':zg X pins σ (upd H p (.lst (xs.set j v))) { s with heap:=s.heap.update p (Obj.mapSeq (·.setIfInBounds j u)) } :=
  I.lstUpd hp ho (m6 its n j u) (r.set rv j) (by rw[List.length_set];exact hz) s.toks
 by_cases h0:0<=k
 ·have hk:k.toNat=j:=by
   rw[seqIndex_of h0 h4]at h1;exact Option.some.inj h1
  exact W.ki_setAt ho h0 (by omega) (by rw[List.size_toArray,<- hl];exact h4) (by rw[hk];exact⟨_,I',q⟩)
 ·have hk:(k+(its.toArray.size:Int)).toNat=j:=by
   rw[seqIndex_neg (by omega) h3]at h1;rw[List.size_toArray,<- hl];exact Option.some.inj h1
  exact W.ki_setBack ho (by omega) (by rw[List.size_toArray,<- hl];exact h3) (by omega) (by rw[hk];exact⟨_,I',q⟩)
theorem kb(lo hi:Option Int)(n:Nat):(sliceBounds lo hi none n).1=((HT.sIx n 0 lo:Nat):Int)/\(sliceBounds lo hi none n).2.1=((HT.sIx n n hi:Nat):Int)/\(sliceBounds lo hi none n).2.2=1:=by
 refine⟨?_,?_,rfl⟩
 ·cases lo with
  | none=>simp[sliceBounds,HT.sIx]
  | some i =>
   simp only[sliceBounds,HT.sIx,Option.getD_none,show(1:Int)>0 by decide,if_true]
   by_cases h:i<0
   ·simp only[h,if_true] <;> omega
   ·simp only[h,if_false] <;> omega
 ·cases hi with
  | none=>simp[sliceBounds,HT.sIx]
  | some i =>
   simp only[sliceBounds,HT.sIx,Option.getD_none,show(1:Int)>0 by decide,if_true]
   by_cases h:i<0
   ·simp only[h,if_true] <;> omega
   ·simp only[h,if_false] <;> omega
theorem jp(its:List Value)(lo hi:Option Int):slicePick its.toArray lo hi none=((its.drop (HT.sIx its.length 0 lo)).take (HT.sIx its.length its.length hi - HT.sIx its.length 0 lo)).toArray:=by
 obtain⟨h1,h2,h3⟩:=kb lo hi its.toArray.size;unfold slicePick;rw[h1,h2,h3];simp only[sliceRange_one,pick_run,List.size_toArray] <;> rfl
noncomputable def yR(K:W.Frag):V->Option Int->Option Int->Hp->VK->Prop:=λx lo hi H Q=>∃a xs,x = .ref a/\SqL K H a xs/\∀p,H p=none->Q (.ref p) (upd H p (.lst (fF xs lo hi)))
theorem tG:SlR X (yR X.K):=by
 intro pins s σ H x v vl vu lo hi sl Q I rx hs pl pu h;obtain⟨a,xs,rfl,hx,q⟩:=h;cases rx;obtain⟨its,r,ht,hz⟩:=I.list hx;have hlen:=r.length;refine⟨"list",_,slot_list_getitem.lookup,ht.isList.typeIs,?_⟩;refine wpAny_getItem_list_slice ht.isList hs pl pu .none (by simp) ?_ (by rw[List.size_toArray] <;> omega);rw[jp,<- hlen];refine⟨.ref s.heap.objs.size,_,I.laid (t':=s.toks) (o:=.lst (fF xs lo hi)) (λb ob q=>Heap.get?_push_of_some _ q) (Nat.le_refl _) ?_,rfl,q _ (I.hok.fresh (Nat.le_refl _))⟩;exact⟨Nat.le_trans (mB xs lo hi) hz,_,0,(r.drop (HT.sIx xs.length 0 lo)).take (HT.sIx xs.length xs.length hi - HT.sIx xs.length 0 lo),Heap.get?_push_size _ rfl⟩
noncomputable def vJ:V->Bool
 | .non=>true
 | .bl _=>true
 | .int _=>true
 | .str _=>true
 | _=>false
noncomputable def eqV:V->V->Bool
 | .non,.non=>true
 | .bl a,.bl b=>a == b
 | .bl a,.int b=>(if a then 1 else 0) == b
 | .int a,.bl b=>a == (if b then 1 else 0)
 | .int a,.int b=>a == b
 | .str a,.str b=>a == b
 | _,_=>false
theorem w5{A:Around}{s:Shared}{y x:V}{u v:Value}(ry:aN y u)(rx:aN x v)(fy:vJ y=true)(fx:vJ x=true):SeqAt.EqAt A s u v (eqV y x):=by
 cases y with
 | non =>
  cases ry;cases x with
  | non=>cases rx;exact SeqAt.EqAt.same _
  | bl b=>cases rx;exact SeqAt.EqAt.none_bool b
  | int b=>obtain⟨t,rfl⟩:=rx;exact SeqAt.EqAt.none_int b t
  | str b=>obtain⟨t,rfl⟩:=rx;exact SeqAt.EqAt.none_str b t
  | _=>exact absurd (show false=true from fx) Bool.false_ne_true
 | bl a =>
  cases ry;cases x with
  | non=>cases rx;exact SeqAt.EqAt.bool_none a
  | bl b=>cases rx;exact SeqAt.EqAt.bool_bool a b
  | int b=>obtain⟨t,rfl⟩:=rx;exact SeqAt.EqAt.bool_int a b t
  | str b=>obtain⟨t,rfl⟩:=rx;exact SeqAt.EqAt.bool_str a b t
  | _=>exact absurd (show false=true from fx) Bool.false_ne_true
 | int a =>
  obtain⟨t',rfl⟩:=ry;cases x with
  | non=>cases rx;exact SeqAt.EqAt.int_none a t'
  | bl b=>cases rx;exact SeqAt.EqAt.int_bool a t' b
  | int b=>obtain⟨t,rfl⟩:=rx;exact SeqAt.EqAt.int_int a t' b t
  | str b=>obtain⟨t,rfl⟩:=rx;exact SeqAt.EqAt.int_str a t' b t
  | _=>exact absurd (show false=true from fx) Bool.false_ne_true
 | str a =>
  obtain⟨t',rfl⟩:=ry;cases x with
  | non=>cases rx;exact SeqAt.EqAt.str_none a t'
  | bl b=>cases rx;exact SeqAt.EqAt.str_bool a t' b
  | int b=>obtain⟨t,rfl⟩:=rx;exact SeqAt.EqAt.str_int a t' b t
  | str b=>obtain⟨t,rfl⟩:=rx;exact SeqAt.EqAt.str_str a t' b t
  | _=>exact absurd (show false=true from fx) Bool.false_ne_true
 | _=>exact absurd (show false=true from fy) Bool.false_ne_true
inductive EE (K:W.Frag) (xs:List V) (H:Hp) (Q:VK):Prop
 | mk (p:Addr) (ys:List V) (e:xs = [.ref p]) (s:SqL K H p ys\/SqT K H p ys) (q:Q (.int ys.length) H):EE K xs H Q
theorem aL:cU X (.builtin "len") (EE X.K):=by
 intro pins s σ H xs us Q I r h;obtain⟨p,ys,rfl,hq,q⟩:=h;obtain⟨u,rfl,rx⟩:=fw r;cases rx;have hn:=kG;rcases hq with hq|hq
 ·obtain⟨its,r',pl,hz⟩:=I.list hq
  have hlen:=r'.length;exact Calls.call_len_list pl.isList (by simp only[List.size_toArray] <;> omega) ⟨.int ys.length,H,I.tok _,⟨s.toks+1,by rw[List.size_toArray,hlen]⟩,q⟩
 ·obtain⟨its,r',pl,hz⟩:=I.tuple hq
  have hlen:=r'.length;exact len_tuple pl (by simp only[List.size_toArray] <;> omega) ⟨.int ys.length,H,I.tok _,⟨s.toks+1,by rw[List.size_toArray,hlen]⟩,q⟩
theorem kW:cU X (.type "list") (λxs H Q=>∃p ys,xs = [.ref p]/\(SqL X.K H p ys\/SqT X.K H p ys)/\∀l,H l=none->Q (.ref l) (upd H l (.lst ys))):=by
 intro pins s σ H xs us Q I r h;obtain⟨p,ys,rfl,hq,q⟩:=h;obtain⟨u,rfl,rx⟩:=fw r;cases rx;have fin:∀(its:List Value),aJ ys its->ys.length<=sizeLine->∀(h':Heap) (c':Nat),(∀b o',s.heap.get? b=some o'->h'.get? b=some o') ->
   h'.get? s.heap.objs.size=some { cls:=.type "list",dict:=none,data:=.seq its.toArray c',slots:=#[] }->EP X pins σ Q (.ref s.heap.objs.size) { s with heap:=h' }:=λits r' hz h' c' kp e =>
  ⟨.ref s.heap.objs.size,_,I.laid (t':=s.toks) kp (Nat.le_refl _) (show a6 X.prog X.w _ h' _ (.lst ys) from⟨hz,its,c',r',e⟩),rfl,q _ (I.hok.fresh (Nat.le_refl _))⟩
 rcases hq with hq|hq
 ·obtain⟨its,r',pl,hz⟩:=I.list hq
  have hlen:=r'.length;obtain⟨o,ho,hc,n,hd⟩:=pl.isList;exact call_list_seq p (.inl rfl) ho hc hd (λh' c' kp e=>fin its r' hz h' c' kp e) (by simp only[List.size_toArray] <;> omega)
 ·obtain⟨its,r',pl,hz⟩:=I.tuple hq
  have hlen:=r'.length;obtain⟨o,ho,hc,n,hd⟩:=pl;exact call_list_seq p (.inr rfl) ho hc hd (λh' c' kp e=>fin its r' hz h' c' kp e) (by simp only[List.size_toArray] <;> omega)
noncomputable def tyV(K:W.Frag)(T:String)(x:V)(H:Hp):Prop:=match x with
 | .str _=>T = "str"
 | .int _=>T = "int"
 | .ref p=>(T = "list"/\∃xs,SqL K H p xs)\/(T = "tuple"/\∃o,K.lookup p=some o/\o.cls = .type "tuple"/\o.dict=none) \/
   (T = "dict"/\((∃kvs,H p=some (.dK kvs))\/∃kvs,H p=some (.dT kvs)))\/(T = "set"/\∃S n,H p=some (.set S n))
 | _=>False
theorem qm{pins:List (Addr×Obj)}{σ:St}{H:Hp}{s:Shared}{T:String}{x:V}{v:Value}(I:zg X pins σ H s)(r:aN x v)(ty:tyV X.K T x H) :
  s.TypeIs v T/\∀a,v = .ref a->∃ob,s.heap.get? a=some ob/\ob.dict=none:=by
 cases x with
 | str z =>
  obtain⟨t,rfl⟩:=r;cases (show T = "str" from ty);exact⟨typeIs_str s z t,λ_ e=>nomatch e⟩
 | int i =>
  obtain⟨t,rfl⟩:=r;cases (show T = "int" from ty);exact⟨typeIs_int s i t,λ_ e=>nomatch e⟩
 | ref p =>
  cases r;rcases ty with⟨rfl,xs,hq⟩|⟨rfl,o,hk,hc,hd⟩|⟨rfl,hk⟩|⟨rfl,S,n,hk⟩
  ·obtain⟨its,_,pl,_⟩:=I.list hq
   refine⟨pl.isList.typeIs,λa e=>?_⟩;cases e;obtain⟨o,n,e,c,hd,_⟩:=pl;exact⟨o,e,hd⟩
  ·refine⟨⟨o,I.kIn p o hk,hc⟩,λa e=>?_⟩
   cases e;exact⟨o,I.kIn _ o hk,hd⟩
  ·have z:∃o,s.heap.get? p=some o/\o.ExactDict:=by
    rcases hk with⟨kvs,hk⟩|⟨kvs,hk⟩
    ·obtain⟨_,_,_,_,o,_,_,e,ex,_⟩:=I.hok p _ hk
     exact⟨o,e,ex⟩
    ·obtain⟨_,_,_,_,o,_,_,e,ex,_⟩:=I.hok p _ hk
     exact⟨o,e,ex⟩
   obtain⟨o,e,ex⟩:=z;refine⟨⟨o,e,ex.1⟩,λa e2=>?_⟩;cases e2;exact⟨o,e,ex.2.1⟩
  ·obtain⟨o,_,_,_,e,ex,_⟩:=I.hok p _ hk
   refine⟨⟨o,e,ex.1⟩,λa e2=>?_⟩;cases e2;exact⟨o,e,ex.2.1⟩
 | _=>exact False.elim ty
noncomputable def yN(K:W.Frag)(T:String)(r:V->List V->Hp->VK->Prop)(to:TE):TE:=λσ H Q=>to σ H λx H1=>tyV K T x H1/\r x [] H1 Q
noncomputable def tBM(K:W.Frag)(T:String)(r:V->List V->Hp->VK->Prop)(to:TE)(t:TA):TE:=λσ H Q=>to σ H λx H1=>tyV K T x H1/\t σ H1 λxs H2=>r x xs H2 Q
variable {o e:Expr} {es:List Expr} {to:TE} {t:TA} {name:Str} {apos cpos:Pos} {T id:String} {r:V->List V->Hp->VK->Prop}
theorem mV(pa:PlainAttrs T)(slot:Slot T name id)(hty:typeOf (.builtin id)=pure (.type "method_descriptor"))(hm:MtR X id r)(ho:PE X o to)
  (hbase:attributeBase o name X.env (eval o X.env)=eval o X.env:=by rfl) (hline:(apos.endLine == cpos.line)=true:=by rfl):PE X (.Call (.Attribute o name apos) [] [] cpos) (yN X.K T r to):=by
 intro pins s σ H Q I h;refine wpAny_Call_method0_late hbase hline (thn (ho pins s σ H _ I h) λv s1 ⟨x,H1,I1,r1,ty,q1⟩=>?_);obtain⟨h1,h2⟩:=qm I1 r1 ty;exact⟨T,id,pa,slot,hty,h1,h2,Calls.callWith_builtin rfl (PySem.evalArgs_none (hm pins s1 σ H1 x [] v [] Q I1 r1 .nil q1))⟩
theorem fA(pa:PlainAttrs T)(slot:Slot T name id)(hty:typeOf (.builtin id)=pure (.type "method_descriptor"))(hm:MtR X id r)(ho:PE X o to)(ha:PA X (e::es) t)
  (hbase:attributeBase o name X.env (eval o X.env)=eval o X.env:=by rfl)
  (hfew:((backTo cpos (starEach (e::es) X.env)).all (λx=>!x.1) && (backToKw cpos (keywordEach [] X.env)).all (λx=>x.1.isSome)
   && decide ((e::es).length+([]:List Keyword).length+(if ([]:List Keyword).isEmpty then 0 else 1)<30))=true:=by rfl)
  (hline:(apos.endLine == cpos.line)=true:=by rfl) (hs:starEach (e::es) X.env=(false,eval e X.env)::starEach es X.env:=by rfl) (hplain:(backTo cpos (starEach es X.env)).any (·.1)=false:=by rfl) :
  PE X (.Call (.Attribute o name apos) (e::es) [] cpos) (tBM X.K T r to t):=by
 intro pins s σ H Q I h;refine wpAny_Call_method_late hbase hfew hline rfl (thn (ho pins s σ H _ I h) λv s1 ⟨x,H1,I1,r1,ty,q1⟩=>?_);obtain⟨h1,h2⟩:=qm I1 r1 ty;refine⟨T,id,pa,slot,hty,h1,h2,?_⟩;have hA:=ha cpos pins s1 σ H1 _ I1 q1;rw[hs]at hA ⊢;refine Calls.callWith_builtin (by show(false || (backTo cpos (starEach es X.env)).any (·.1))=false;rw[hplain] <;> rfl) (Calls.evalArgs_plain ?_);exact thn hA λus s2 ⟨vs,H2,I2,r2,q2⟩=>hm pins s2 σ H2 x vs v us Q I2 r1 r2 q2
end
noncomputable def MtM(X:Cx)(id:String)(r:V->List V->Hp->VK->Prop):Prop :=
 ∀(pins:List (Addr×Obj)) (s:Shared) (σ:St) (H:Hp) (x:V) (xs:List V) (v:Value) (us:List Value) (Q:VK),zg X pins σ H s->aN x v->aJ xs us->r x xs H Q ->
  wpAny (model X.prog X.w) X.A (call (.builtin id) (v::us)) (EP X pins σ Q) X.xe s
theorem aJ.one:∀{x:V} {us:List Value},aJ [x] us->∃u,us = [u]/\aN x u
 | _,_,.cons r .nil=>⟨_,rfl,r⟩
theorem aJ.zero:∀{us:List Value},aJ [] us->us = []
 | _,.nil=>rfl
theorem aJ.reverse{xs:List V}{us:List Value}(h:aJ xs us):aJ xs.reverse us.reverse:=by
 induction h with
 | nil=>exact .nil
 | cons r t ih=>rw[List.reverse_cons,List.reverse_cons];exact aJ.append ih (.cons r .nil)
section
variable {X:Cx} {pins:List (Addr×Obj)} {σ:St} {H:Hp} {s:Shared} {l b:Addr} {xs ys zs:List V}
theorem zg.lset{its its':List Value}{n:Nat}{f:Array Value->Array Value}{t':Nat}(I:zg X pins σ H s)(hH:H l=some (.lst xs))
  (e:s.heap.get? l=some { cls:=.type "list",data:=.seq its.toArray n }) (hf:f its.toArray=its'.toArray) (hv:aJ ys its') (hz:ys.length<=sizeLine) :
  zg X pins σ (upd H l (.lst ys)) { s with heap:=s.heap.update l (Obj.mapSeq f),toks:=t' }:=by
 have q:=PySem.IsL.update e f;rw[hf]at q;refine I.write (x:=l) (e:=l) (by rw[hH];exact trivial) (.inl rfl) (λb' u hb hu=>(Heap.get?_update_other s.heap (Obj.mapSeq f) (Ne.symm hb)).trans hu) ⟨_,q⟩ ?_;exact⟨hz,its',_,hv,q⟩
theorem zg.lnew{its:List Value}{t':Nat}(I:zg X pins σ H s)(hv:aJ ys its)(hz:ys.length<=sizeLine) :
  zg X pins σ (upd H s.heap.objs.size (.lst ys)) { s with heap:=s.heap.push { cls:=.type "list",data:=.seq its.toArray },toks:=t' } :=
 I.laid (λ_ _ q=>Heap.get?_push_of_some _ q) (Nat.le_refl _) ⟨hz,its,0,hv,Heap.get?_push_size _ rfl⟩
theorem zg.fresh(I:zg X pins σ H s):H s.heap.objs.size=none:=I.hok.fresh (Nat.le_refl _)
theorem zg.lstM(I:zg X pins σ H s)(hH:H l=some (.lst xs)):xs.length<=sizeLine/\∃(its:List Value) (n:Nat),aJ xs its/\xs.length=its.length/\s.heap.get? l=some { cls:=.type "list",data:=.seq its.toArray n }:=by
 obtain⟨z,its,n,r,e⟩:=I.hok l _ hH;exact⟨z,its,n,r,r.length,e⟩
theorem qO{n:Nat}(h:n<=sizeLine):Builtin.List.listTooLong n=false:=by
 unfold Builtin.List.listTooLong;exact decide_eq_false (by omega)
end
section
variable {X:Cx}
noncomputable def tN:V->List V->Hp->VK->Prop:=λx vs H Q=>∃l xs y,x = .ref l/\vs = [y]/\H l=some (.lst xs)/\xs.length<sizeLine/\Q .non (upd H l (.lst (xs++[y])))
theorem gH:MtM X "list.append" tN:=by
 intro pins s σ H x vs v us Q I rx rv h;obtain⟨l,xs,y,rfl,rfl,hH,hz,q⟩:=h;cases rx;obtain⟨u,rfl,ru⟩:=rv.one;obtain⟨z,its,n,r,hl,e⟩:=I.lstM hH;refine call_meets F.slot_list_append ⟨_,e,rfl⟩ F.entry_list_append (F.args_list_append_2 _ _) (PySem.list_append l its.toArray n u (by rw[List.size_toArray];omega)) ⟨e,?_⟩;refine⟨.non,_,I.lset (its':=its++[u]) hH e (by simp) (r.append (.cons ru .nil)) ?_,rfl,q⟩;rw[List.length_append,List.length_singleton];omega
noncomputable def tM:V->List V->Hp->VK->Prop:=λx vs H Q=>∃l b xs zs,x = .ref l/\vs = [.ref b]/\H l=some (.lst xs)/\H b=some (.lst zs)/\xs.length+zs.length<=sizeLine/\Q .non (upd H l (.lst (xs++zs)))
theorem pM:MtM X "list.extend" tM:=by
 intro pins s σ H x vs v us Q I rx rv h;obtain⟨l,b,xs,zs,rfl,rfl,hH,hB,hz,q⟩:=h;cases rx;obtain⟨u,rfl,ru⟩:=rv.one;cases ru;obtain⟨z,its,n,r,hl,e⟩:=I.lstM hH;obtain⟨z2,its2,n2,r2,hl2,e2⟩:=I.lstM hB;have hsz:its.toArray.size+its2.toArray.size<=sizeLine:=by rw[List.size_toArray,List.size_toArray];omega
 have hlong:¬(!its.toArray.isEmpty && Builtin.List.listTooLong (its.toArray.size+its2.toArray.size))=true:=by
  rw[qO hsz,Bool.and_false];exact Bool.false_ne_true
 refine call_meets F.slot_list_extend ⟨_,e,rfl⟩ F.entry_list_extend (F.args_list_extend_2 _ _)
  (AutoSeq1.list_extend_list_list_0 l its.toArray n b its2.toArray n2 hlong (by rw[List.size_toArray];omega) (by omega)) ⟨e,e2,?_⟩
 refine⟨.non,_,I.lset (its':=its++its2) hH e (by simp) (r.append r2) ?_,rfl,q⟩;rw[List.length_append];omega
noncomputable def qG:V->List V->Hp->VK->Prop:=λx vs H Q=>∃l xs,x = .ref l/\vs = []/\H l=some (.lst xs)/\Q .non (upd H l (.lst xs.reverse))
theorem mY:MtM X "list.reverse" qG:=by
 intro pins s σ H x vs v us Q I rx rv h;obtain⟨l,xs,rfl,rfl,hH,q⟩:=h;cases rx;have hus:=rv.zero;subst hus;obtain⟨z,its,n,r,hl,e⟩:=I.lstM hH;refine call_meets F.slot_list_reverse ⟨_,e,rfl⟩ F.entry_list_reverse (F.args_list_reverse_1 _) (AutoSeq1.list_reverse_list_0 l its.toArray n (by rw[List.size_toArray];omega)) ⟨e,?_⟩;refine⟨.non,_,I.lset (its':=its.reverse) hH e (by simp) r.reverse ?_,rfl,q⟩;rw[List.length_reverse];omega
noncomputable def yS:R2:=λx y H Q=>∃l b xs zs,x = .ref l/\y = .ref b/\H l=some (.lst xs)/\H b=some (.lst zs)/\xs.length+zs.length<=sizeLine/\∀p,H p=none->Q (.ref p) (upd H p (.lst (xs++zs)))
theorem wB:OpR X (binaryOp .Add) yS:=by
 intro pins s σ H x y v u Q I rx ry h;obtain⟨l,b,xs,zs,rfl,rfl,hH,hB,hz,q⟩:=h;cases rx;cases ry;obtain⟨z,its,n,r,hl,e⟩:=I.lstM hH;obtain⟨z2,its2,n2,r2,hl2,e2⟩:=I.lstM hB;refine PySem.P.add_list e e2 ?_ (by rw[List.size_toArray,List.size_toArray];omega);have ea:its.toArray++its2.toArray=(its++its2).toArray:=by simp
 rw[ea];exact⟨.ref _,_,I.lnew (t':=s.toks) (r.append r2) (by rw[List.length_append];omega),rfl,q _ I.fresh⟩
end
section
variable {prog:Program} {w:World} {A:Around} {E:Value->Shared->Prop} {s:Shared}
set_option maxRecDepth 100000 in
end
end L2
namespace Att
open PySem PySem.W PySem.Calls PyProof.Rows
theorem g9{P:Params}{h:Heap}:∀(ns:List Int) (vs:List Value),WellAll P h vs (ns.map WData.int)->IntsAre vs ns:=by
 intro ns
 induction ns with
 | nil =>
  intro vs w;rw[List.map_nil]at w;cases w;exact .nil
 | cons n ns ih =>
  intro vs w;rw[List.map_cons]at w;cases w with
  | cons a b =>
   cases a;exact .cons _ _ (ih _ b)
theorem pF{l:OpenLaw}{n:Nat}(hn:l.most=some n){P:Params}{h:Heap}{args:List WData}{vals:List Value}
  (hpre:l.row.toRowW.claim.pre args=true) (hwl:WellAll P h vals args) :
  ∃a vs ns,vals = [Value.ref a]/\args = [WData.list (ns.map WData.int)]/\h.get? a=some { cls:=.type "list",data:=.seq vs.toArray }/\IntsAre vs ns/\ns.length<=n:=by
 have hsh:WShape.hasAll [] args [.list .int]=true:=(pre_splitW hpre).1;have hc:l.pre.holds [] { args:=args }=true:=(pre_splitW hpre).2;obtain⟨d,r,rfl,h1,h2⟩:=hasAllW_cons hsh;obtain rfl:=hasAllW_nil h2;obtain⟨xs,rfl,h3⟩:=hasW_list h1;obtain⟨ns,rfl⟩:=items_int h3;have hlen:ns.length<=n:=by
  unfold OpenLaw.pre at hc;have h4:(WTm.not (.lt (.lit (.int (n:Int))) (.len (.arg 0)))).holds [] { args:=[.list (ns.map .int)] }=true:=by
   have h4:=(holds_andW hc).1;rw[hn]at h4;exact h4
  have h5:=condW_of h4 (w_not (w_lt w_lit (w_len_list (w_arg rfl))));rw[List.length_map]at h5;refine Nat.le_of_not_lt λq=>?_;have q':(n:Int)<((ns.length:Nat):Int):=by omega
  first
   | (rw[decide_eq_true q']at h5;exact absurd h5 (by decide))
   | (simp at h5;omega)
 cases hwl with
 | cons w1 w2 =>
  cases w2;cases w1 with
  | list ho hall=>exact⟨_,_,ns,rfl,rfl,ho,g9 ns _ hall,hlen⟩
theorem pH(l:OpenLaw)(args:List WData):l.row.toRowW.claim.post args (.bool true) args=true :=
 postW_of (r:=l.row.toRowW) (X:=(true == true))
  (show WShape.has [] (.bool true) .bool=true by first|rfl|decide|simp[WShape.has,WShape.arms,WShape.armsAll])
  (show(WTm.eq .res (.lit (.bool true))).value [] { args:=args,res:=some (.bool true),after:=args }=some (.bool (true == true)) from w_eq_bool (w_res rfl) w_lit) rfl
theorem attach_call{l:OpenLaw}{n:Nat}{q:Program}{loose:List Str}{XP:(Str->Option Value)->Heap->Prop}{YP:World->Heap->Prop}{d:DefRec}
  (hn:l.most=some n) (hdf:d.params.defaults = [])
  (call:∀(w:World) (s₀ s1:Shared) (mg mb:Str->Option Value) (fa:Addr) (o:Obj) (pm cd doc:Value) (a:Addr) (vs:List Value) (ns:List Int),
   Ground q loose [] XP w s₀ mg mb s1.heap->YP w s1.heap ->
   s1.heap.get? fa=some o->o.data = .func (docDef d.name d.params d.body d.scope pm cd doc)->s1.heap.CodeRec cd d.name->mg d.name=some (.ref fa) ->
   s1.heap.get? a=some { cls:=.type "list",data:=.seq vs.toArray }->IntsAre vs ns->ns.length<=n->s1.gens = #[] ->
   codeAny (model l.prog w) callerA (.call (.ref fa) ⟨[.ref a],[]⟩) (λr s'=>r = .ok (.ret (.bool true))/\OldK s1.heap s'.heap/\s'.os=s1.os/\AllBare s'.gens) s1) :
  WalkO q loose XP YP l.row.toRowW d [] (λf vs=>PySem.call f vs):=by
 intro w s₀ s1 mg mb G Y fa o pm cd doc dV kV ho hd hcd hD hmg hg args vals as hpre hlay hrd hwl hlo;obtain rfl:dV = .none:=Dflts.none hD hdf;obtain rfl:kV = .none:=Dflts.noKw hD;obtain⟨a,vs,ns,rfl,rfl,hobj,hints,hlen⟩:=pF hn hpre hwl;refine enter_call (codeAny_mono (call w s₀ s1 mg mb fa o pm cd doc a vs ns G Y ho (fd_plain hd) hcd hmg hobj hints hlen hg) λr s' hq=>?_);obtain⟨rfl,h2,h3,h4⟩:=hq;exact⟨.inl ⟨.bool true,.bool true,[],rfl,λ_=>rfl,.bool true,pH l _,λ_=>⟨List.Pairwise.nil,λ_ hm=>(nomatch hm)⟩⟩,h2,h3,h4⟩
end Att
namespace L2
open PySem PySem.Spec PyProof.Rows
theorem jB:∀{vs:List Value} {ns:List Int},IntsAre vs ns->aJ (ns.map V.int) vs
 | _,_,.nil=>.nil
 | _,_,.cons n t h=>.cons ⟨t,rfl⟩ (jB h)
noncomputable def aP(s:Stmt):Arguments:=match s with
 | .FunctionDef _ a _ _ _ _ _ _ _ _=>a
 | _=>{ posonlyargs:=[],args:=[],vararg:=none,kwonlyargs:=[],kw_defaults:=[],kwarg:=none,defaults:=[] }
noncomputable def aH(s:Stmt):List Stmt:=match s with
 | .FunctionDef _ _ b _ _ _ _ _ _ _=>b
 | _=>[]
noncomputable def ak(s:Stmt):Scope:=match s with
 | .FunctionDef _ _ _ _ _ _ sc _ _ _=>sc
 | _=>{ kind:=.function,names:=[],isGenerator:=false,isCoroutine:=false }
noncomputable abbrev CX0:CXT:=λ_ _ _ _ _ _=>False
noncomputable abbrev E0:XK:=λ_ _ _=>False
theorem xY{X:Cx}:fH CX0 X E0:=λ_ _ _ _ _ _ _ h=>h.elim
theorem bV{A:Around}{k:Nat}(hr:zy k A):A.units+1<cLine:=Nat.lt_of_le_of_lt (Nat.add_le_add_left (by decide:1<=64) _) hr.units
theorem aR{n:Nat}(h:n<=1000):n<sizeLine:=Nat.lt_of_le_of_lt h (by decide)
section
variable {X:Cx}
theorem pv(i:Nat){x:Str}{pos:Pos}(hN:X.N[i]? = some x:=by rfl)(hv:Vis X.env.scope x:=by first|exact Or.inl rfl|exact Or.inr (Or.inl rfl)|exact Or.inr (Or.inr rfl))(hd:(x == ("__debug__" : Str))=false:=by decide)
  (hcd:(x == ("__classdict__" : Str))=false:=by decide):PE X (.Name x pos) (Em i):=wo hN hv hd hcd
end
theorem g8{A B:Prop}(h:B):if false=true then A else B:=by
 rw[if_neg Bool.false_ne_true];exact h
theorem uF{A B:Prop}(h:A):if true=true then A else B:=by
 rw[if_pos rfl];exact h
noncomputable def Same(H H':Hp):Prop:=∀b o,H b=some o->H' b=some o
theorem Same.refl(H:Hp):Same H H:=λ_ _ h=>h
theorem Same.trans{H H1 H2:Hp}(a:Same H H1)(b:Same H1 H2):Same H H2:=λc o h=>b c o (a c o h)
theorem Same.free{H H':Hp}(e:Same H H'){l:Addr}(h:H' l=Option.none):H l=Option.none:=by
 cases q:H l with
 | none=>rfl
 | some o =>
  rw[e l o q]at h;cases h
theorem Same.seq{K:W.Frag}{H H':Hp}{a:Addr}{xs:List V}(e:Same H H')(h:SqL K H a xs):SqL K H' a xs:=by
 rcases h with(h|⟨o,h⟩)|h
 ·exact .inl (.inl (e _ _ h))
 ·exact .inl (.inr ⟨o,e _ _ h⟩)
 ·exact .inr h
end L2
end
section
set_option Elab.async false
set_option linter.all false
set_option maxRecDepth 100000
set_option maxHeartbeats 4000000
namespace Mth
theorem rH{a b:Int}(ha:0<=a)(hb:0<b):Int.gcd b (a % b)=Int.gcd a b:=by
 obtain⟨m,rfl⟩:=Int.eq_ofNat_of_zero_le ha;obtain⟨n,rfl⟩:=Int.eq_ofNat_of_zero_le (Int.le_of_lt hb);rw[<- Int.natCast_emod];show Nat.gcd (n:Int).natAbs ((m % n:Nat):Int).natAbs=Nat.gcd (m:Int).natAbs (n:Int).natAbs;simp only[Int.natAbs_natCast];rw[Nat.gcd_comm m n,Nat.gcd_comm n (m % n)];exact(Nat.gcd_rec n m).symm
theorem oP(a b:Int):Int.gcd (if a<0 then -a else a) b=Int.gcd a b:=by
 split
 ·exact Int.neg_gcd
 ·rfl
theorem rJ(a b:Int):Int.gcd a (if b<0 then -b else b)=Int.gcd a b:=by
 rw[Int.gcd_comm,oP,Int.gcd_comm]
theorem gcd_zero{a:Int}(ha:0<=a):(Int.gcd a 0:Int)=a:=by
 rw[Int.gcd_zero];omega
structure Ds(t b:Int):Prop where
 pos:1<=b
 one:Int.gcd t b=1
theorem kM{a b:Int}(h:b≠0):0<(Int.gcd a b:Int):=by
 have:=Int.gcd_pos_of_ne_zero_right a h;omega
theorem w9(a b:Int):a=a / (Int.gcd a b:Int)*(Int.gcd a b:Int):=(Int.ediv_mul_cancel (Int.gcd_dvd_left a b)).symm
theorem oX(a b:Int):b=b / (Int.gcd a b:Int)*(Int.gcd a b:Int):=(Int.ediv_mul_cancel (Int.gcd_dvd_right a b)).symm
theorem uV{a b:Int}(hb:0<b):Ds (a / (Int.gcd a b:Int)) (b / (Int.gcd a b:Int)):=by
 have hg:=kM (a:=a) (b:=b) (by omega);refine⟨?_,?_⟩
 ·have h1:=oX a b
  have h2:0<b / (Int.gcd a b:Int):=Int.ediv_pos_of_pos_of_dvd hb (by omega) (Int.gcd_dvd_right a b);omega
 ·rw[Int.gcd_ediv (Int.gcd_dvd_left a b) (Int.gcd_dvd_right a b)]
  simp only[Int.natAbs_natCast];exact Nat.div_self (by omega)
theorem oK{t b t' b':Int}(h:Ds t b)(e:t*b'=t'*b):b∣b':=by
 have h1:b.natAbs∣t.natAbs*b'.natAbs:=by
  rw[<- Int.natAbs_mul,e,Int.natAbs_mul];exact Nat.dvd_mul_left _ _
 have h2:Nat.Coprime b.natAbs t.natAbs:=by
  have:=h.one;unfold Nat.Coprime;rw[Nat.gcd_comm];exact this
 exact Int.natAbs_dvd_natAbs.mp (h2.dvd_of_dvd_mul_left h1)
theorem ng{t b t' b':Int}(h:Ds t b)(h':Ds t' b')(e:t*b'=t'*b):t=t'/\b=b':=by
 have d1:=oK h e;have d2:=oK h' e.symm;have p1:=h.pos;have p2:=h'.pos;have eb:b=b':=Int.le_antisymm (Int.le_of_dvd (by omega) d1) (Int.le_of_dvd (by omega) d2);subst eb;exact⟨Int.eq_of_mul_eq_mul_right (by omega) e,rfl⟩
structure BW(top bottom t b:Int):Prop where
 low:Ds t b
 eq:top*b=t*bottom
theorem lU{a b:Int}(hb:0<b):BW a b (a / (Int.gcd a b:Int)) (b / (Int.gcd a b:Int)):=by
 refine⟨uV hb,?_⟩;have h1:=w9 a b;have h2:=oX a b;generalize a / (Int.gcd a b:Int)=x at *;generalize b / (Int.gcd a b:Int)=y at *;generalize (Int.gcd a b:Int)=g at *;subst h1 h2
 grind
theorem jU{a b:Int}(hb:b≠0)(d:Int)(hd:d=if b<0 then -(Int.gcd a b:Int) else (Int.gcd a b:Int)):BW a b (a.fdiv d) (b.fdiv d):=by
 have hg:=kM (a:=a) (b:=b) hb
 by_cases h:b<0
 ·rw[if_pos h]at hd
  have f:=lU (a:=-a) (b:=-b) (by omega);rw[Int.gcd_neg,Int.neg_gcd]at f;subst hd;have e1:a.fdiv (-(Int.gcd a b:Int)) = -a / (Int.gcd a b:Int):=by
   rw[<- Int.neg_fdiv_neg,Int.neg_neg];exact Int.fdiv_eq_ediv_of_nonneg _ (by omega)
  have e2:b.fdiv (-(Int.gcd a b:Int)) = -b / (Int.gcd a b:Int):=by
   rw[<- Int.neg_fdiv_neg,Int.neg_neg];exact Int.fdiv_eq_ediv_of_nonneg _ (by omega)
  rw[e1,e2];exact⟨f.low,by have:=f.eq;grind⟩
 ·rw[if_neg h]at hd
  subst hd;rw[Int.fdiv_eq_ediv_of_nonneg _ (by omega),Int.fdiv_eq_ediv_of_nonneg _ (by omega)];exact lU (by omega)
end Mth
namespace L2
open PySem PySem.Spec PyProof.Rows
noncomputable abbrev ap(i:Int):Nat:=Builtin.Int.intBits i
theorem bM{i:Int}{n:Nat}(h:i.natAbs<2^n):ap i<=n:=intBits_le h
theorem bS{i:Int}{n:Nat}(h:ap i<=n):i.natAbs<2^n:=by
 unfold ap Builtin.Int.intBits at h
 by_cases h0:i=0
 ·subst h0
  exact Nat.pos_of_ne_zero (by simp)
 ·rw[if_neg (by simpa using h0)]at h
  have h1:i.natAbs≠0:=by omega
  exact(Nat.log2_lt h1).mp (by omega)
theorem fg{i j:Int}{n:Nat}(h:i.natAbs<=j.natAbs)(hj:ap j<=n):ap i<=n:=bM (Nat.lt_of_le_of_lt h (bS hj))
theorem bits_mul{i j:Int}{m n:Nat}(hi:ap i<=m)(hj:ap j<=n):ap (i*j)<=m+n:=by
 refine bM ?_;rw[Int.natAbs_mul,Nat.pow_add];exact Nat.mul_lt_mul'' (bS hi) (bS hj)
theorem ci{i j:Int}{n:Nat}(hi:ap i<=n)(hj:ap j<=n):ap (i+j)<=n+1:=bM (Nat.lt_of_le_of_lt (Int.natAbs_add_le i j) (by rw[Nat.pow_succ,Nat.mul_two];exact Nat.add_lt_add (bS hi) (bS hj)))
theorem bQ{i j:Int}{n:Nat}(hi:ap i<=n)(hj:ap j<=n):ap (i - j)<=n+1:=bM (Nat.lt_of_le_of_lt (Int.natAbs_sub_le i j) (by rw[Nat.pow_succ,Nat.mul_two];exact Nat.add_lt_add (bS hi) (bS hj)))
theorem bits_neg{i:Int}{n:Nat}(hi:ap i<=n):ap (-i)<=n:=fg (by omega) hi
theorem bits_abs{i:Int}{n:Nat}(hi:ap i<=n):ap (if i<0 then -i else i)<=n:=fg (by split <;> omega) hi
theorem fh{i j:Int}{n:Nat}(hi:ap i<=n):ap (i.fdiv j)<=n:=PySem.intBits_fdiv_le hi
theorem fG{i b:Int}{n:Nat}(h0:0<=i)(h1:i<=b)(hb:ap b<=n):ap i<=n:=fg (by omega) hb
theorem ar{i:Int}{m n:Nat}(h:ap i<=m)(hm:m<=n):ap i<=n:=Nat.le_trans h hm
section
variable {X:Cx} {pos:Pos}
noncomputable def CM(i j:Int):Prop:=IntMulOk i j
theorem CM.b{i j:Int}{m n:Nat}(hi:ap i<=m)(hj:ap j<=n)(hm:m<=2^20)(hn:n<=2^20):CM i j:=IntMulOk.of_bits (Nat.le_trans hi hm) (Nat.le_trans hj hn)
theorem CM.l{i j:Int}(h:-(2^64)<i/\i<2^64):CM i j:=vm.ok (.inl h)
theorem CM.r{i j:Int}(h:-(2^64)<j/\j<2^64):CM i j:=vm.ok (.inr h)
theorem ax:OpR X (binaryOp .Mult) (rI CM λi j=>.int (i*j)):=opI λ_ _ _ _ _ _ _ hc q=>mul_int q hc
noncomputable def CD(_ j:Int):Prop:=0<j/\ap j<=8000
theorem fT{j:Int}{n:Nat}(hj:j≠0)(h:ap j<=n)(hn:n<=9000):j.natAbs.log2<9000:=by
 have h1:j.natAbs≠0:=by omega
 have h2:=(Nat.log2_lt h1).mpr (bS h);omega
theorem db:OpR X (binaryOp .FloorDiv) (rI CD λi j=>.int (i / j)):=opI λi j _ _ _ _ _ hc q=>by
 have h1:(0:Int)<j:=hc.1;exact floordiv_int (by omega) (by rw[Int.fdiv_eq_ediv_of_nonneg i (by omega)];exact q) (.inl (PyProof.noPylong_of_log2 (fT (by omega) hc.2 (by decide))))
noncomputable def CDZ(_ j:Int):Prop:=j≠0/\ap j<=8000
theorem lG:OpR X (binaryOp .FloorDiv) (rI CDZ λi j=>.int (i.fdiv j)):=opI λi j _ _ _ _ _ hc q =>
 floordiv_int hc.1 q (.inl (PyProof.noPylong_of_log2 (fT hc.1 hc.2 (by decide))))
theorem pN:MtR X "int.bit_length" (λx xs H Q=>∃i,x = .int i/\xs = []/\Q (.int ((ap i:Nat):Int)) H):=by
 intro pins s σ H x xs v us Q I rx rs h;obtain⟨i,rfl,rfl,q⟩:=h;obtain⟨t,rfl⟩:=rx;cases rs;exact call_int_bit_length ⟨.int _,H,I.tok _,⟨_,rfl⟩,q⟩
end
theorem sG:bootBuiltins "int" = some (.type "int"):=by decide +kernel
theorem u9:bootBuiltins "bool" = some (.type "bool"):=by decide +kernel
theorem sE:bootBuiltins "tuple" = some (.type "tuple"):=by decide +kernel
theorem o9:bootBuiltins "list" = some (.type "list"):=by decide +kernel
theorem bo:bootBuiltins "isinstance" = some (.builtin "isinstance"):=by decide +kernel
theorem nV:bootBuiltins "abs" = some (.builtin "abs"):=by decide +kernel
theorem cz:bootBuiltins "len" = some (.builtin "len"):=by decide +kernel
theorem nU:bootBuiltins "min" = some (.builtin "min"):=by decide +kernel
theorem sF:bootBuiltins "max" = some (.builtin "max"):=by decide +kernel
theorem lz{X:Cx}{x:Str}{T:String}{pos:Pos}(hm:X.mg x=none)(hv:bootBuiltins x=some (.type T))(hg:Gl X x:=by rfl)(hn:x≠"__name__":=by decide)(hd:(x == ("__debug__" : Str))=false:=by decide) :
  PE X (.Name x pos) (tC (.ty T)):=tZ hg hm hv rfl hn hd
inductive Kn (H:Hp):V->String->Prop where
 | non:Kn H .non "NoneType"
 | bl (b:Bool):Kn H (.bl b) "bool"
 | int (i:Int):Kn H (.int i) "int"
 | str (x:Str):Kn H (.str x) "str"
 | lst {a:Addr} {xs:List V} (e:H a=some (.lst xs)):Kn H (.ref a) "list"
 | tup {a:Addr} {xs:List V} (e:H a=some (.tup xs)):Kn H (.ref a) "tuple"
 | dict {a:Addr} {kvs:List (Key×V)} (e:H a=some (.dK kvs)):Kn H (.ref a) "dict"
theorem Kn.ty{K:W.Frag}{H:Hp}{x:V}{t:String}(k:Kn H x t):Bt K H x (.type t):=by
 cases k with
 | non=>exact .non
 | bl b=>exact .bl b
 | int i=>exact .int i
 | str x=>exact .str x
 | lst e=>exact .lst e
 | tup e=>exact .tup e
 | dict e=>exact .dK e
theorem Kn.mono{H H':Hp}{x:V}{t:String}(k:Kn H x t)(s:Same H H'):Kn H' x t:=by
 cases k with
 | non=>exact .non
 | bl b=>exact .bl b
 | int i=>exact .int i
 | str x=>exact .str x
 | lst e=>exact .lst (s _ _ e)
 | tup e=>exact .tup (s _ _ e)
 | dict e=>exact .dict (s _ _ e)
noncomputable def g6(t T:String):Bool:=t == T || (t == "bool" && T == "int")
noncomputable def yB(T:String):Prop:=T = "int"\/T = "bool"\/T = "tuple"\/T = "list"\/T = "str"
theorem wN(K:W.Frag){H:Hp}{x:V}{t T:String}(k:Kn H x t)(n:yB T):W.kitOne K (.type t) (.type T)=some (g6 t T):=by
 rcases n with rfl|rfl|rfl|rfl|rfl <;> cases k <;> kernel_rfl
inductive Fw (xs:List V) (H:Hp) (Q:VK):Prop
 | mk (x:V) (t T:String) (e:xs = [x,.ty T]) (k:Kn H x t) (n:yB T) (q:Q (.bl (g6 t T)) H):Fw xs H Q
theorem dw{X:Cx}:cU X (.builtin "isinstance") Fw:=by
 intro pins s σ H xs us Q I rs h;obtain⟨x,t,T,rfl,k,n,q⟩:=h;obtain⟨u,v,rfl,ru,rv⟩:=og rs;cases (show v=Value.type T from rv);exact pS I ru k.ty (wN X.K k n) λtk=>⟨.bl _,H,I.tok _,rfl,q⟩
structure Fn(P:Program)(w:World)(K:W.Frag)(mg:Str->Option Value)(base:Heap)(x:Str)(ps:List Str)(k:Nat)(sp:Sp):Prop where
 ex:∃(f:Addr) (fd:FuncData) (o:Obj),mg x=some (.ref f)/\W.keepIn K (.ref f)=true/\(∀us:List Value,us.length=ps.length->bindArgs fd ⟨us,[]⟩=pure (ps.zip us))/\(K.lookup f=some o/\o.data = .func fd)/\AT P w K mg base CX0 k f fd ps sp
theorem aA{X:Cx}{x:Str}{ps:List Str}{k:Nat}{sp:Sp}{p pos:Pos}{e:Expr}{es:List Expr}{t:TA}(F:Fn X.prog X.w X.K X.mg X.base x ps k sp)(hr:zy k X.A)(hg:Gl X x)(ha:PA X (e::es) t)
  (hdb:(x == ("__debug__" : Str))=false:=by decide) (he:starEach (e::es) X.env=(false,eval e X.env)::starEach es X.env:=by rfl) (hpl:(backTo pos (starEach es X.env)).any (·.1)=false:=by rfl) :
  PE X (.Call (.Name x p) (e::es) [] pos) (ol sp [] E0 t):=by
 obtain⟨f,fd,o,hm,hk,hb,_,G⟩:=F.ex;exact ko G hr hg hm hk (.all hb) .nil xY ha hdb he hpl
structure Df(K:W.Frag)(mg:Str->Option Value)(x:Str)(st:Stmt):Prop where
 ex:∃(f:Addr) (oc:Value) (od:Option Addr) (kV doc pm:Value) (an:Option Addr) (cdv ct:Value) (osl:Array (Option Value)),
  mg x=some (.ref f)/\K.lookup f=some ⟨oc,od,.func (W.fnOf x x (aP st) (aH st) (ak st) .none kV doc pm an cdv ct),osl⟩/\W.codeIn K cdv x=true/\W.keepIn K (.ref f)=true
theorem yv{K:W.Frag}{mg:Str->Option Value}{h:Heap}{x:Str}{st:Stmt}{f:Addr}{oc:Value}{od an:Option Addr}{osl:Array (Option Value)}{kV doc pm cdv ct:Value}(X:K.In h)(G:h.Ns mainGlobals mg)
  (a:W.nsIn K mainGlobals x=some (some (.ref f))) (l:K.lookup f=some ⟨oc,od,.func (W.fnOf x x (aP st) (aH st) (ak st) .none kV doc pm an cdv ct),osl⟩) (c:W.codeIn K cdv x=true) (k:W.keepIn K (.ref f)=true) :
  Df K mg x st:=⟨⟨f,oc,od,kV,doc,pm,an,cdv,ct,osl,W.mg_of X G a,l,c,k⟩⟩
theorem Df.fn{P:Program}{w:World}{K:W.Frag}{mg:Str->Option Value}{base:Heap}{x:Str}{st:Stmt}{N ps:List Str}{k:Nat}{sp:Sp}(D:Df K mg x st)(S:zf N ps (ak st))
  (hbind:∀(kV doc pm:Value) (an:Option Addr) (cdv ct:Value) (us:List Value),us.length=ps.length->bindArgs (W.fnOf x x (aP st) (aH st) (ak st) .none kV doc pm an cdv ct) ⟨us,[]⟩=pure (ps.zip us))
  (len:∀vs H Q E,sp vs H Q E->vs.length=ps.length)
  (hbody:∀(f:Addr) (cdv:Value) (A:Around) (outer:List Env) (s:Shared) (H:Hp) (vs:List V) (Q:VK) (E:XK),zy k (A.deeper (envOfC x (ak st) s.heap.objs.size f cdv))->sp vs H Q E ->
   ∃t,PSs (aX CX0 P w K mg base N x (ak st) f cdv A outer s H E).nox (aH st) t/\t { nx:=λ_ H'=>Q .non H',rt:=Q } (dY N vs) H):Fn P w K mg base x ps (k+1) sp:=by
 obtain⟨f,oc,od,kV,doc,pm,an,cdv,ct,osl,hm,lk,hcd,hk⟩:=D.ex;refine⟨⟨f,_,_,hm,hk,hbind kV doc pm an cdv ct,⟨lk,rfl⟩,lZ lk hcd S len λA outer s H vs Q E hr hsp=>?_⟩⟩;obtain⟨t,h,q⟩:=hbody f cdv A outer s H vs Q E hr hsp;exact⟨t,h.nox,q⟩
theorem wK{P:Program}{w:World}{K:W.Frag}{mg:Str->Option Value}{fa:Addr}{k:Nat}{sp:Sp}(h:Heap)(hfa:mg "law" = some (.ref fa))(F:∀base:Heap,Fn P w K mg base "law" ["script"] k sp) :
  ∃fd:FuncData,(∀(s:Shared) (v:Value),BindsTo s fd ⟨[v],[]⟩ [("script",v)])/\∀base:Heap,K.In base->base.Ns mainGlobals mg->AT P w K mg base CX0 k fa fd ["script"] sp:=by
 obtain⟨f,fd,o,hm,_,hb,⟨hl,hd⟩,_⟩:=(F h).ex;rw[hfa]at hm;cases hm;refine⟨fd,λs v=>.of_eq (hb [v] rfl),λbase _ _=>?_⟩;obtain⟨f',fd',o',hm',_,_,⟨hl',hd'⟩,G⟩:=(F base).ex;rw[hfa]at hm';cases hm';rw[hl]at hl';cases hl';rw[hd]at hd';cases hd';exact G
theorem Same.new{H:Hp}{p:Addr}{o:HO}(h:H p=none):Same H (upd H p o):=λb o' e=>by
 rw[aF (aT e h)];exact e
theorem aZ{c:Bool}{A B:Prop}(h1:c=true->A)(h2:c=false->B):if c=true then A else B:=by
 cases c with
 | true=>exact uF (h1 rfl)
 | false=>exact g8 (h2 rfl)
theorem bU{b:Bool}{A B:Prop}(hb:b=false)(h:B):if b=true then A else B:=by
 subst hb;exact g8 h
theorem cj{b:Bool}{A B:Prop}(hb:b=true)(h:A):if b=true then A else B:=by
 subst hb;exact uF h
noncomputable def uQ(s:Stmt):List Stmt:=match s with
 | .For _ _ b _ _=>b
 | _=>[]
noncomputable def kI:V->Bool
 | .int _=>true
 | _=>false
end L2
namespace Sp1
open PySem PySem.Spec L2 Mth
inductive B1 (vs:List V) (H:Hp) (Q:VK) (x_3:XK):Prop
 | mk:∀x t,(vs = [x])->(Kn H x t)->(Q (.bl (kI x)) H)->B1 vs H Q x_3
inductive DZ (vs:List V) (H:Hp) (Q:VK) (x_3:XK):Prop
 | mk:∀a b:Int,(vs = [.int a,.int b])->(Q (.int (Int.gcd a b:Int)) H)->DZ vs H Q x_3
noncomputable def lowB(a b:Int):Bool:=decide (1<=b) && decide (Int.gcd a b=1)
noncomputable def jq:List V->Bool
 | [.int a,.int b]=>lowB a b
 | _=>false
noncomputable def g7(H:Hp):V->Bool
 | .ref p=>match H p with
  | some (.tup xs)=>jq xs
  | _=>false
 | _=>false
structure Al(H:Hp)(x:V):Prop where
 kn:∃t,Kn H x t
 parts:∀p xs,x = .ref p->H p=some (.tup xs)->∀y∈xs,∃t,Kn H y t
inductive Ew (vs:List V) (H:Hp) (Q:VK) (x_3:XK):Prop
 | mk:∀x,(vs = [x])->(Al H x)->(Q (.bl (g7 H x)) H)->Ew vs H Q x_3
theorem jz{H:Hp}{x:V}{t:String}(k:Kn H x t):(g6 t "int" = true->(!g6 t "bool")=kI x)/\(g6 t "int" = false->kI x=false):=by
 cases k with
 | non=>exact⟨λh=>absurd h (by decide),λ_=>rfl⟩
 | bl b=>exact⟨λ_=>(show(!g6 "bool" "bool")=false by decide),λh=>absurd h (by decide)⟩
 | int i=>exact⟨λ_=>(show(!g6 "int" "bool")=true by decide),λh=>absurd h (by decide)⟩
 | str x=>exact⟨λh=>absurd h (by decide),λ_=>rfl⟩
 | lst e=>exact⟨λh=>absurd h (by decide),λ_=>rfl⟩
 | tup e=>exact⟨λh=>absurd h (by decide),λ_=>rfl⟩
 | dict e=>exact⟨λh=>absurd h (by decide),λ_=>rfl⟩
theorem jk(a:Int):0<=(if a<0 then -a else a):=by split <;> omega
theorem Kn.cases_int{H:Hp}{y:V}{t:String}(k:Kn H y t):(∃a,y = .int a/\t = "int")\/((∀a,y≠.int a)/\kI y=false):=by
 cases k with
 | int a=>exact .inl ⟨a,rfl,rfl⟩
 | non=>exact .inr ⟨λa e=>(nomatch e),rfl⟩
 | bl b=>exact .inr ⟨λa e=>(nomatch e),rfl⟩
 | str x=>exact .inr ⟨λa e=>(nomatch e),rfl⟩
 | lst e=>exact .inr ⟨λa e=>(nomatch e),rfl⟩
 | tup e=>exact .inr ⟨λa e=>(nomatch e),rfl⟩
 | dict e=>exact .inr ⟨λa e=>(nomatch e),rfl⟩
theorem Kn.cases_tup{H:Hp}{y:V}{t:String}(k:Kn H y t):(∃p xs,y = .ref p/\H p=some (.tup xs)/\t = "tuple")\/(g7 H y=false/\g6 t "tuple" = false):=by
 cases k with
 | tup e=>exact .inl ⟨_,_,rfl,e,rfl⟩
 | non=>exact .inr ⟨rfl,by decide⟩
 | bl b=>exact .inr ⟨rfl,by decide⟩
 | str x=>exact .inr ⟨rfl,by decide⟩
 | int a=>exact .inr ⟨rfl,by decide⟩
 | lst e=>exact .inr ⟨by simp only[g7,e],by decide⟩
 | dict e=>exact .inr ⟨by simp only[g7,e],by decide⟩
theorem rh{H:Hp}{p:Addr}{xs:List V}(e:H p=some (.tup xs)):g7 H (.ref p)=jq xs:=by simp only[g7,e]
theorem rn{xs:List V}(h:xs.length≠2):jq xs=false:=by
 unfold jq
 split
 ·exact absurd rfl h
 ·rfl
theorem rz{y z:V}(h:∀a,y≠.int a):jq [y,z]=false:=by
 unfold jq
 split
 ·rename_i a b e
  cases e;exact absurd rfl (h a)
 ·rfl
theorem rm{y z:V}(h:∀a,z≠.int a):jq [y,z]=false:=by
 unfold jq
 split
 ·rename_i a b e
  cases e;exact absurd rfl (h b)
 ·rfl
theorem sz{n:Nat}(h:n<=1000):n<=sizeLine:=Nat.le_of_lt (aR h)
theorem grow{H:Hp}{p:Addr}{o:HO}(h:H p=none):∃H1,upd H p o=H1/\Same H H1/\H1 p=some o:=⟨_,rfl,Same.new h,upd_same⟩
theorem atI_mem{α:Type}{xs:List α}{k:Int}(h0:0<=k)(h1:k<(xs.length:Int)):∃v,atI xs k=some v/\v∈xs:=by
 have hk:k.toNat<xs.length:=by omega
 have ek:k=((k.toNat:Nat):Int):=by omega
 have q:=cw (xs:=xs) (j:=k.toNat) (List.getElem?_eq_getElem hk);rw[<- ek]at q;exact⟨xs[k.toNat],q,List.getElem_mem hk⟩
theorem th_flat{H:Hp}{x:V}{t:String}(k:Kn H x t)(h:∀p,x≠.ref p):Al H x:=⟨⟨t,k⟩,λp xs e=>absurd e (h p)⟩
theorem th_lst{H:Hp}{p:Addr}{xs:List V}(e:H p=some (.lst xs)):Al H (.ref p):=⟨⟨_,.lst e⟩,λp' ys e1 e2=>by
 cases e1;rw[e]at e2;cases e2⟩
theorem th_tup{H:Hp}{p:Addr}{xs:List V}(e:H p=some (.tup xs))(h:∀y∈xs,∃t,Kn H y t):Al H (.ref p):=⟨⟨_,.tup e⟩,λp' ys e1 e2=>by
 cases e1;rw[e]at e2;cases e2;exact h⟩
theorem pW{a b:Int}{n:Nat}(hb:b≠0)(h:ap b<=n):ap (Int.gcd a b:Int)<=n:=by
 refine fg ?_ h;have h1:(Int.gcd a b)∣b.natAbs:=Int.gcd_dvd_natAbs_right a b;have h2:=Nat.le_of_dvd (by omega) h1;omega
end Sp1
namespace L2
open PySem PySem.Spec PyProof.Rows
theorem sJ(ns ms:List Int):((List.range (min ns.length ms.length)).all (λj=>decide (ns[j]? = ms[j]?)) && ns.length == ms.length)=decide (ns=ms):=by
 rw[Bool.eq_iff_iff];simp only[Bool.and_eq_true,List.all_eq_true,List.mem_range,decide_eq_true_eq,beq_iff_eq];constructor
 ·rintro⟨h1,h2⟩
  refine List.ext_getElem? λj=>?_
  by_cases hj:j<ns.length
  ·exact h1 j (by omega)
  ·rw[List.getElem?_eq_none (by omega),List.getElem?_eq_none (by omega)]
 ·rintro rfl
  exact⟨λ_ _=>rfl,rfl⟩
theorem qk{ns:List Int}{us:List Value}{j:Nat}(r:aJ (ns.map V.int) us)(h:j<us.length):∃a,ns[j]? = some a/\aN (.int a) us[j]:=by
 have hl:=r.length;rw[List.length_map]at hl;have hj:j<ns.length:=by omega
 obtain⟨u,e,q⟩:=r.get (i:=j) (x:=.int ns[j]) (by rw[List.getElem?_map,List.getElem?_eq_getElem hj];rfl);rw[List.getElem?_eq_getElem h]at e;cases e;exact⟨ns[j],List.getElem?_eq_getElem hj,q⟩
section
variable {X:Cx}
inductive Fy (K:W.Frag) (neg:Bool) (x:V) (y:V) (H:Hp) (Q:VK):Prop
 | mk:∀(p q:Addr) (ns ms:List Int),(x = .ref p)->(y = .ref q)->(SqT K H p (ns.map V.int))->(SqT K H q (ms.map V.int))->(Q (.bl (if neg then !decide (ns=ms) else decide (ns=ms))) H)->Fy K neg x y H Q
theorem rC{A:Around}{s:Shared}{ns ms:List Int}{us vs:List Value}(r:aJ (ns.map V.int) us)(r':aJ (ms.map V.int) vs)(j:Nat)(h1:j<us.toArray.size)(h2:j<vs.toArray.size) :
  SeqAt.EqAt A s us.toArray[j] vs.toArray[j] (decide (ns[j]? = ms[j]?)):=by
 rw[List.size_toArray]at h1 h2;obtain⟨a,ea,ra⟩:=qk r h1;obtain⟨b,eb,rb⟩:=qk r' h2;have q:=w5 (A:=A) (s:=s) ra rb rfl rfl;have e:eqV (.int a) (.int b)=decide (ns[j]? = ms[j]?):=by
  rw[ea,eb];show(a == b)=decide (some a=some b);rw[Bool.eq_iff_iff];simp
 rw[e]at q;exact q
theorem wx(hu:X.A.units<cLine):OpR X (compareOp .Eq) (Fy X.K false):=by
 intro pins s σ H x y v u Q I rx ry h;obtain⟨p,q,ns,ms,rfl,rfl,hp,hq,k⟩:=h;cases rx;cases ry;obtain⟨its,r,pl,_⟩:=I.tuple hp;obtain⟨jts,r',pl',_⟩:=I.tuple hq;refine SeqAt.eq_tupleAt pl pl' hu (rC r r') ⟨.bl _,H,I,rfl,?_⟩;have e1:=r.length;have e2:=r'.length;rw[List.length_map]at e1 e2;rw[List.size_toArray,List.size_toArray,<- e1,<- e2,sJ];exact k
end
theorem a6.has{P:Program}{w:World}{H:Hp}{h:Heap}{a:Addr}{o:HO}(x:a6 P w H h a o):∃ob,h.get? a=some ob:=by
 cases o with
 | lst xs=>obtain⟨_,_,_,_,e⟩:=x;exact⟨_,e⟩
 | tup xs=>obtain⟨_,_,_,ob,e,_⟩:=x;exact⟨_,e⟩
 | dK kvs=>obtain⟨_,_,_,_,ob,_,_,e,_⟩:=x;exact⟨_,e⟩
 | dT kvs=>obtain⟨_,_,_,_,ob,_,_,e,_⟩:=x;exact⟨_,e⟩
 | set S n=>obtain⟨ob,_,_,_,e,_⟩:=x;exact⟨_,e⟩
 | ins C dx fs=>obtain⟨_,_,_,e,_⟩:=x;exact⟨_,e⟩
 | own y=>obtain⟨ob,e⟩:=x;exact⟨_,e⟩
 | xd fs=>obtain⟨_,⟨od,_,_,e,_⟩,_⟩:=x;exact⟨_,e⟩
 | rng lo hi=>obtain⟨_,_,_,e⟩:=x;exact⟨_,e⟩
 | frz ob u=>obtain⟨e,_⟩:=x;exact⟨_,e⟩
 | tbl ps=>exact⟨_,(show h.get? a=some _ from x)⟩
 | met f y=>exact⟨_,(show h.get? a=some _ from x)⟩
 | ext φ=>obtain⟨_,⟨ob,e⟩,_⟩:=x;exact⟨_,e⟩
structure FG(B:Heap)(fs:List Addr)(H':Hp)(h:Heap):Prop where
 tr:∀b o,H' b=some o->∃ob,B.get? b=some ob
 old:∀b o,h.get? b=some o->b∉fs->∃ob,B.get? b=some ob
section
variable {P:Program} {w:World} {fs fs':List Addr} {H H1 H':Hp} {h h1 h2 B:Heap}
theorem Un.fly(un:Un fs [] H H' h h1)(big:FG B fs H' h)(st1:B.StaysIn h1)(st2:B.StaysIn h2)(sl:h1.UpToSlots h2)
  (fr:∀b∈fs,H b=none/\∀o,h1.get? b=some o->∀vs,o.data≠.fields vs):Un fs [] H H' h h2 where
 keep:=λb o e n hb hx=>by
  have e1:=un.keep b o e n hb hx;obtain⟨ob,eb⟩:=big.old b o e hb;have e2:=st1 b ob eb;rw[e1]at e2;cases e2;exact st2 b _ eb
 slot:=λb o e n hb hx=>by
  obtain⟨s1,e1⟩:=un.slot b o e n hb hx;obtain⟨s2,e2⟩:=sl b _ e1 ((fr b hb).2 _ e1);exact⟨s2,e2⟩
 free:=un.free
 there:=λb o e hx=>by
  by_cases hb:b∈fs
  ·obtain⟨s1,e1⟩:=un.slot b o e (fr b hb).1 hb hx
   obtain⟨s2,e2⟩:=sl b _ e1 ((fr b hb).2 _ e1);exact⟨_,e2⟩
  ·obtain⟨ob,eb⟩:=big.old b o e hb
   exact⟨_,st2 b ob eb⟩
 tups:=un.tups
 frzs:=un.frzs
 tbls:=un.tbls
theorem HOk.fly(hok:HOk P w H' h1)(big:FG B fs H' h)(st1:B.StaysIn h1)(st2:B.StaysIn h2):HOk P w H' h2:=λa o e=>by
 refine(hok a o e).stay (λb u hb q=>?_) (λ_ q=>q) λ_ _ q=>q;have hb':∃ob,B.get? b=some ob:=by
  rcases hb with z|z
  ·rw[z]
   exact big.tr a o e
  ·exact big.tr b _ z
 obtain⟨ob,eb⟩:=hb';have e2:=st1 b ob eb;rw[q]at e2;cases e2;exact st2 b _ eb
theorem Un.shed(a:Un fs [] H H1 h h1)(b:Un fs' [] H1 H' h1 h2)(sub:∀x∈fs,x∈fs')(out:∀x o,h.get? x=some o->x∈fs'->x∈fs):Un fs [] H H' h h2 where
 keep:=λx o e n hx hn=>b.keep x o (a.keep x o e n hx hn) (a.free x o e n hn) (λz=>hx (out x o e z)) hn
 slot:=λx o e n hx hn=>by
  obtain⟨s1,e1⟩:=a.slot x o e n hx hn;obtain⟨s2,e2⟩:=b.slot x _ e1 (a.free x o e n hn) (sub x hx) hn;exact⟨s2,e2⟩
 free:=λx o e n hn=>by
  obtain⟨o1,e1⟩:=a.there x o e hn;exact b.free x o1 e1 (a.free x o e n hn) hn
 there:=λx o e hn=>by
  obtain⟨o1,e1⟩:=a.there x o e hn;exact b.there x o1 e1 hn
 tups:=λx xs e=>b.tups x xs (a.tups x xs e)
 frzs:=λx o xs e=>b.frzs x o xs (a.frzs x o xs e)
 tbls:=λx ps e=>by
  obtain⟨m1,e1⟩:=a.tbls x ps e;obtain⟨m2,e2⟩:=b.tbls x _ e1;exact⟨m1++m2,by rw[e2,Array.append_assoc]⟩
end
noncomputable def CXE(P:Program)(w:World):CXT:=λouter H s E e s'=>∃(ea t:Addr) (cls:Value) (H':Hp) (B:Heap),
 e = .ref ea/\s'.os=s.os/\AllBare s'.gens/\Un (frs outer) [] H H' s.heap s'.heap/\HOk P w H' s'.heap/\Heap.FlyingW B outer ea cls (.ref t) s'.heap/\FG B (frs outer) H' s.heap/\E cls none H'
section
variable {P:Program} {w:World} {K:W.Frag} {mg:Str->Option Value} {base:Heap} {N:List Str} {qual:Str} {scope:Scope} {f:Addr} {cdv:Value} {A:Around} {outer:List Env} {s₀:Shared} {H₀:Hp} {E:XK}
theorem rN{env:Env}{L:Addr}(hf:env.frame=some L)(l:List Env):frs (env::l)=L::frs l:=by
 unfold frs;rw[List.filterMap_cons,hf]
theorem v6{pins:List (Addr×Obj)}{σ:St}{H:Hp}{s:Shared}{h':Heap}{e:Addr}{cls:Value}{vs:List Value}(I:zg (aX (CXE P w) P w K mg base N qual scope f cdv A outer s₀ H₀ E) pins σ H s)
  (hx:Heap.MadeExcOf s.heap h' e cls vs) (q:E cls none H):(aX (CXE P w) P w K mg base N qual scope f cdv A outer s₀ H₀ E).xe (.ref e) { s with heap:=h' }:=by
 have hin:∀env∈(aX (CXE P w) P w K mg base N qual scope f cdv A outer s₀ H₀ E).stack,∀a,env.frame=some a->a∈frs (aX (CXE P w) P w K mg base N qual scope f cdv A outer s₀ H₀ E).stack :=
  λenv he a ha=>List.mem_filterMap.mpr ⟨env,he,ha⟩
 have neL:∀b o,s₀.heap.get? b=some o->b∉frs outer->b∉frs (aX (CXE P w) P w K mg base N qual scope f cdv A outer s₀ H₀ E).stack:=λb o eb hb hm=>by
  rcases List.mem_cons.mp (I.stkSub b hm) with z|z
  ·exact absurd z (Nat.ne_of_lt (Nat.lt_of_lt_of_le (Heap.lt_size eb) I.ok.above))
  ·exact hb z
 refine wpAny_leaves_madeW (base:=W.hideAll s.heap (frs (aX (CXE P w) P w K mg base N qual scope f cdv A outer s₀ H₀ E).stack)) (h:=s.heap) (L:=s₀.heap.objs.size) I.ok.frames rfl (λb o z=>W.of_hideAll _ z) (W.funFrames_hide I.stack hin) hx λh'' t fl _ _ up=>?_;have big:FG (W.hideAll s.heap (frs (aX (CXE P w) P w K mg base N qual scope f cdv A outer s₀ H₀ E).stack)) (frs outer) H s₀.heap:=by
  refine⟨λb o eb=>?_,λb o eb hb=>?_⟩
  ·obtain⟨ob,z⟩:=(I.hok b o eb).has
   refine⟨ob,W.hideAll_get _ z λhm=>?_⟩;rw[I.stkFree b hm]at eb;cases eb
  ·obtain⟨ob,z⟩:=I.base.there b o eb (by intro z;cases z)
   exact⟨ob,W.hideAll_get _ z (neL b o eb hb)⟩
 have st1:(W.hideAll s.heap (frs (aX (CXE P w) P w K mg base N qual scope f cdv A outer s₀ H₀ E).stack)).StaysIn s.heap:=λb o z=>W.of_hideAll _ z;have sl:s.heap.UpToSlots h'':=(Heap.UpToSlots.of_keeps hx.keeps).trans up;exact⟨e,t,cls,H,_,rfl,I.os,I.bare,Un.fly I.base big st1 fl.1 sl λb hb=>⟨I.ok.frf b hb,λo eo=>by
   obtain⟨_,o',eo',nf⟩:=I.funs.mem hb;rw[eo]at eo';cases eo';exact nf⟩,HOk.fly I.hok big st1 fl.1,fl,big,q⟩
theorem ua{E1:XK}(hE:∀c o H',E1 c o H'->E c o H'):fH (CXE P w) (aX (CXE P w) P w K mg base N qual scope f cdv A outer s₀ H₀ E) E1:=by
 intro pins σ H s e s' I h;obtain⟨ea,t,cls,H',B,rfl,os,bare,un,hok,fl,big,q⟩:=h;refine wpAny_leaves_onW (L:=s₀.heap.objs.size) I.ok.frames rfl fl λh'' fl' up=>?_;have out:∀x o,s₀.heap.get? x=some o->x∈frs (aX (CXE P w) P w K mg base N qual scope f cdv A outer s₀ H₀ E).stack->x∈frs outer:=λx o ex hm=>by
  rcases List.mem_cons.mp (I.stkSub x hm) with z|z
  ·exact absurd z (Nat.ne_of_lt (Nat.lt_of_lt_of_le (Heap.lt_size ex) I.ok.above))
  ·exact z
 have sub:∀x∈frs outer,x∈frs (aX (CXE P w) P w K mg base N qual scope f cdv A outer s₀ H₀ E).stack:=λx hx=>by
  show x∈frs (_::outer);rw[rN (L:=s₀.heap.objs.size) rfl];exact List.mem_cons_of_mem _ hx
 have un1:Un (frs outer) [] H₀ H' s₀.heap s'.heap:=Un.shed I.base un sub out;have big1:FG B (frs outer) H' s₀.heap:=by
  refine⟨big.tr,λb o eb hb=>?_⟩;obtain⟨ob,z⟩:=I.base.there b o eb (by intro z;cases z);exact big.old b ob z λhm=>hb (out b o eb hm)
 refine⟨ea,t,cls,H',B,rfl,os.trans I.os,bare,Un.fly un1 big1 fl.1 fl'.1 up λb hb=>⟨I.ok.frf b hb,λo eo=>?_⟩,HOk.fly hok big1 fl.1 fl'.1,fl',big1,hE _ _ _ q⟩;obtain⟨_,o',eo',nf⟩:=fl'.2.2.1.mem hb;obtain⟨_,o2,eo2,nf2⟩:=fl.2.2.1.mem (sub b hb);rw[eo]at eo2;cases eo2;exact nf2
end
structure Ac(K:W.Frag)(mg:Str->Option Value)(x:Str)(C:Addr):Prop where
 bound:mg x=some (.ref C)
 obj:∀h:Heap,K.In h->∃bm N nm qn bs hd sn sub ab col dd k0 k1 k2 k3 k5 mN,h.get? C=some (excClassObj nm qn C N bs bm hd sn sub ab col dd k0 k1 k2 k3 k5 "ValueError.__new__")/\h.Ns N mN/\mN "__init__" = none /\
  OwnTail h [.type "ValueError",.type "Exception",.type "BaseException",.type "object"] bm
theorem uT{K:W.Frag}{h:Heap}{C:Addr}{bmB:List Value}{newId:String}(X:K.In h)(q:W.excIn K C bmB newId=true) :
  ∃bm N nm qn bs hd sn sub ab col dd k0 k1 k2 k3 k5 mN,h.get? C=some (excClassObj nm qn C N bs bm hd sn sub ab col dd k0 k1 k2 k3 k5 newId)/\h.Ns N mN/\mN "__init__" = none/\OwnTail h bmB bm:=by
 unfold W.excIn at q
 split at q
 next dct cl sls look =>
  split at q
  next C2 bms a0 a1 a2 a3 nid a5 hmro hsls =>
   simp only[Bool.not_eq_true',beq_iff_eq,Bool.and_eq_true]at q;obtain⟨⟨⟨⟨⟨q1,q2⟩,q3⟩,q4⟩,q5⟩,q6⟩:=q;subst q1 q2;obtain⟨c1,c2,c3,c4,c5,c6,c7,c8,c9,c10,c11⟩:=cl;dsimp only at hmro q3 q5 q6;subst hmro q3;obtain⟨lst⟩:=sls;simp only at hsls;subst hsls;exact⟨bms,c4,c1,c5,c2,c6,c7,c8,c9,c10,dct,a0,a1,a2,a3,a5,_,X _ _ look,.of_isNs (W.isNs_of_in X q5),W.nsMap_none_of_in X q5 q6,W.tail_of_in X q4⟩
  next=>cases q
 next=>cases q
theorem wZ{K:W.Frag}{mg:Str->Option Value}{h:Heap}{x:Str}{C:Addr}(X:K.In h)(G:h.Ns mainGlobals mg)(a:W.nsIn K mainGlobals x=some (some (.ref C)))
  (q:W.excIn K C [.type "ValueError",.type "Exception",.type "BaseException",.type "object"] "ValueError.__new__" = true):Ac K mg x C:=⟨W.mg_of X G a,λ_ Y=>uT Y q⟩
section
variable {P:Program} {w:World} {K:W.Frag} {mg:Str->Option Value} {base:Heap} {N:List Str} {qual:Str} {scope:Scope} {f:Addr} {cdv:Value} {A:Around} {outer:List Env} {s₀:Shared} {H₀:Hp} {E:XK}
theorem fO{x:Str}{C:Addr}{np cpos pos:Pos}(O:Ac K mg x C)(hg:Gl (aX (CXE P w) P w K mg base N qual scope f cdv A outer s₀ H₀ E) x)(hdb:(x == ("__debug__" : Str))=false:=by decide) :
  PS (aX (CXE P w) P w K mg base N qual scope f cdv A outer s₀ H₀ E) (.Raise (some (.Call (.Name x np) [] [] cpos)) none pos) (λ_ _ H=>E (.ref C) none H):=by
 intro pins s σ H D I h;obtain⟨bm,N',nm,qn,bs,hd,sn,sub,ab,col,dd,k0,k1,k2,k3,k5,mN,hC,hN,hni,T⟩:=O.obj s.heap I.kIn;refine wpAny_Raise_call_subT (C:=C) (nm:=nm) (q:=qn) (N:=N') (bs:=bs) (bm:=bm) (hdct:=hd) (sn:=sn) (sub:=sub) (ab:=ab) (col:=col) (dd:=dd) (k0:=k0) (k1:=k1) (k2:=k2) (k3:=k3) (k5:=k5) PySem.F.excBase_ValueError (mN:=mN) (T.hasType (by decide +kernel)) (I.ok.hd rfl) rfl hni (eZ I hg O.bound ⟨rfl,?_⟩ hdb);exact evalArgs_empty ⟨rfl,Nat.zero_le _,hC,hN,T,λh' e hx=>v6 I hx h⟩
end
noncomputable abbrev Cx.inH(X:Cx)(e:Addr):Cx:={ X with A:=X.A.mark (some (.ref e)),calm:=false,xe:=λ_ _=>False }
theorem zg.inH{X:Cx}{pins:List (Addr×Obj)}{σ:St}{H:Hp}{s:Shared}(I:zg X pins σ H s)(e:Addr):zg (X.inH e) pins σ H s :=
 ⟨⟨I.ok.mod,I.ok.kind,I.ok.glob,I.ok.blt,I.ok.above,I.ok.inj,I.ok.has,I.ok.cab,(λz=>by cases z),I.ok.frames,I.ok.stk,I.ok.exf,I.ok.bs,I.ok.bsz,I.ok.noex,I.ok.exfs,I.ok.funs,I.ok.frf⟩,
  I.os,I.bare,I.base,I.loc,I.cell,I.free,I.freeC,I.pin,I.hok,I.len⟩
theorem zg.outH{X:Cx}{e:Addr}{pins:List (Addr×Obj)}{σ:St}{H:Hp}{s:Shared}(ok:X.Ok)(I:zg (X.inH e) pins σ H s):zg X pins σ H s :=
 ⟨ok,I.os,I.bare,I.base,I.loc,I.cell,I.free,I.freeC,I.pin,I.hok,I.len⟩
noncomputable abbrev TX:=(Value->St->Hp->Prop)->TS
noncomputable def XP(X:Cx)(pins:List (Addr×Obj))(R:Value->St->Hp->Prop)(ev:Value)(s':Shared):Prop :=
 ∃(s1:Shared) (σ1:St) (H1:Hp) (E1:XK),zg X pins σ1 H1 s1/\CXE X.prog X.w X.stack H1 s1 E1 ev s'/\∀c o H',E1 c o H'->R c σ1 H'
noncomputable def PX(X:Cx)(st:Stmt)(t:TX):Prop :=
 ∀(pins:List (Addr×Obj)) (s:Shared) (σ:St) (H:Hp) (D:AL) (R:Value->St->Hp->Prop),zg X pins σ H s->t R D σ H->wpAny (model X.prog X.w) X.A (exec st X.env) (SP X pins D) (XP X pins R) s
noncomputable def PXs(X:Cx)(st:List Stmt)(t:TX):Prop :=
 ∀(pins:List (Addr×Obj)) (s:Shared) (σ:St) (H:Hp) (D:AL) (R:Value->St->Hp->Prop),zg X pins σ H s->t R D σ H->wpAny (model X.prog X.w) X.A (execs st X.env) (SP X pins D) (XP X pins R) s
structure Fx(P:Program)(w:World)(K:W.Frag)(mg:Str->Option Value)(base:Heap)(x:Str)(ps:List Str)(k:Nat)(ds:List V)(sp:Sp):Prop where
 ex:∃(f:Addr) (fd:FuncData) (its:List Value),mg x=some (.ref f)/\W.keepIn K (.ref f)=true/\d7 K fd ps []/\d7 K fd ps its/\aJ ds its/\AT P w K mg base (CXE P w) k f fd ps sp
structure Fu(K:W.Frag)(mg:Str->Option Value)(x:Str)(st:Stmt)(ds:List V):Prop where
 ex:∃(f T:Addr) (oT:Obj) (n:Nat) (its:List Value) (oc:Value) (od:Option Addr) (kV doc pm:Value) (an:Option Addr) (cdv ct:Value) (osl:Array (Option Value)),
  mg x=some (.ref f)/\K.lookup f=some ⟨oc,od,.func (W.fnOf x x (aP st) (aH st) (ak st) (.ref T) kV doc pm an cdv ct),osl⟩/\W.codeIn K cdv x=true/\W.keepIn K (.ref f)=true/\K.lookup T=some oT/\oT.data = .seq its.toArray n/\aJ ds its
theorem xb{K:W.Frag}{mg:Str->Option Value}{h:Heap}{x:Str}{st:Stmt}{ds:List V}{its:List Value}{f T:Addr}{oT:Obj}{n:Nat}{oc:Value}{od an:Option Addr}{osl:Array (Option Value)}{kV doc pm cdv ct:Value}(X:K.In h)(G:h.Ns mainGlobals mg)
  (a:W.nsIn K mainGlobals x=some (some (.ref f))) (l:K.lookup f=some ⟨oc,od,.func (W.fnOf x x (aP st) (aH st) (ak st) (.ref T) kV doc pm an cdv ct),osl⟩) (c:W.codeIn K cdv x=true) (k:W.keepIn K (.ref f)=true)
  (t:K.lookup T=some oT) (d:oT.data = .seq its.toArray n) (v:aJ ds its):Fu K mg x st ds:=⟨⟨f,T,oT,n,its,oc,od,kV,doc,pm,an,cdv,ct,osl,W.mg_of X G a,l,c,k,t,d,v⟩⟩
theorem Fu.fx{P:Program}{w:World}{K:W.Frag}{mg:Str->Option Value}{base:Heap}{x:Str}{st:Stmt}{ds:List V}{N ps:List Str}{k:Nat}{sp:Sp}(D:Fu K mg x st ds)(S:zf N ps (ak st))
  (hb:∀(T:Addr) (kV doc pm:Value) (an:Option Addr) (cdv ct:Value) (us its:List Value) (oT:Obj) (n:Nat) (s:Shared),aJ ds its->us.length=ps.length->s.heap.get? T=some oT->oT.data = .seq its.toArray n ->
   BindsTo s (W.fnOf x x (aP st) (aH st) (ak st) (.ref T) kV doc pm an cdv ct) ⟨us,[]⟩ (ps.zip us))
  (hd:∀(T:Addr) (kV doc pm:Value) (an:Option Addr) (cdv ct:Value) (us its:List Value) (oT:Obj) (n:Nat) (s:Shared),aJ ds its->(us++its).length=ps.length->s.heap.get? T=some oT->oT.data = .seq its.toArray n ->
   BindsTo s (W.fnOf x x (aP st) (aH st) (ak st) (.ref T) kV doc pm an cdv ct) ⟨us,[]⟩ (ps.zip (us++its)))
  (len:∀vs H Q E,sp vs H Q E->vs.length=ps.length)
  (hbody:∀(f:Addr) (cdv:Value) (A:Around) (outer:List Env) (s:Shared) (H:Hp) (vs:List V) (Q:VK) (E:XK),zy k (A.deeper (envOfC x (ak st) s.heap.objs.size f cdv))->sp vs H Q E ->
   ∃t,PSs (aX (CXE P w) P w K mg base N x (ak st) f cdv A outer s H E) (aH st) t/\t { nx:=λ_ H'=>Q .non H',rt:=Q } (dY N vs) H):Fx P w K mg base x ps (k+1) ds sp:=by
 obtain⟨f,T,oT,n,its,oc,od,kV,doc,pm,an,cdv,ct,osl,hm,lk,hcd,hk,hT,hs,hv⟩:=D.ex;refine⟨⟨f,_,its,hm,hk,λs us KX hl=>?_,λs us KX hl=>hd T kV doc pm an cdv ct us its oT n s hv hl (KX _ _ hT) hs,hv,lZ lk hcd S len λA outer s H vs Q E hr hsp=>hbody f cdv A outer s H vs Q E hr hsp⟩⟩;rw[List.append_nil]at hl ⊢;exact hb T kV doc pm an cdv ct us its oT n s hv hl (KX _ _ hT) hs
theorem Df.fx{P:Program}{w:World}{K:W.Frag}{mg:Str->Option Value}{base:Heap}{x:Str}{st:Stmt}{N ps:List Str}{k:Nat}{sp:Sp}(D:Df K mg x st)(S:zf N ps (ak st))
  (hbind:∀(kV doc pm:Value) (an:Option Addr) (cdv ct:Value) (us:List Value),us.length=ps.length->bindArgs (W.fnOf x x (aP st) (aH st) (ak st) .none kV doc pm an cdv ct) ⟨us,[]⟩=pure (ps.zip us))
  (len:∀vs H Q E,sp vs H Q E->vs.length=ps.length)
  (hbody:∀(f:Addr) (cdv:Value) (A:Around) (outer:List Env) (s:Shared) (H:Hp) (vs:List V) (Q:VK) (E:XK),zy k (A.deeper (envOfC x (ak st) s.heap.objs.size f cdv))->sp vs H Q E ->
   ∃t,PSs (aX (CXE P w) P w K mg base N x (ak st) f cdv A outer s H E) (aH st) t/\t { nx:=λ_ H'=>Q .non H',rt:=Q } (dY N vs) H):Fx P w K mg base x ps (k+1) [] sp:=by
 obtain⟨f,oc,od,kV,doc,pm,an,cdv,ct,osl,hm,lk,hcd,hk⟩:=D.ex;have hb:d7 K (W.fnOf x x (aP st) (aH st) (ak st) .none kV doc pm an cdv ct) ps []:=.all (hbind kV doc pm an cdv ct);exact⟨⟨f,_,[],hm,hk,hb,hb,.nil,lZ lk hcd S len λA outer s H vs Q E hr hsp=>hbody f cdv A outer s H vs Q E hr hsp⟩⟩
theorem lA{P:Program}{w:World}{K:W.Frag}{mg:Str->Option Value}{base:Heap}{N:List Str}{qual:Str}{scope:Scope}{f:Addr}{cdv:Value}{A:Around}{outer:List Env}{s₀:Shared}{H₀:Hp}{E:XK}
  {x:Str} {ps:List Str} {k:Nat} {ds:List V} {sp:Sp} {p pos:Pos} {e:Expr} {es:List Expr} {t:TA} (F:Fx P w K mg base x ps k ds sp) (hr:zy k (aX (CXE P w) P w K mg base N qual scope f cdv A outer s₀ H₀ E).A) (hg:Gl (aX (CXE P w) P w K mg base N qual scope f cdv A outer s₀ H₀ E) x)
  (ha:PA (aX (CXE P w) P w K mg base N qual scope f cdv A outer s₀ H₀ E) (e::es) t)
  (hdb:(x == ("__debug__" : Str))=false:=by decide) (he:starEach (e::es) (aX (CXE P w) P w K mg base N qual scope f cdv A outer s₀ H₀ E).env=(false,eval e (aX (CXE P w) P w K mg base N qual scope f cdv A outer s₀ H₀ E).env)::starEach es (aX (CXE P w) P w K mg base N qual scope f cdv A outer s₀ H₀ E).env:=by rfl)
  (hpl:(backTo pos (starEach es (aX (CXE P w) P w K mg base N qual scope f cdv A outer s₀ H₀ E).env)).any (·.1)=false:=by rfl) :
  PE (aX (CXE P w) P w K mg base N qual scope f cdv A outer s₀ H₀ E) (.Call (.Name x p) (e::es) [] pos) (ol sp [] E t):=by
 obtain⟨g,fd,its,hm,hk,hb,_,_,G⟩:=F.ex;exact ko G hr hg hm hk hb .nil (ua λ_ _ _ z=>z) ha hdb he hpl
theorem jN{P:Program}{w:World}{X:Cx}:fH (CXE P w) X E0:=λ_ _ _ _ _ _ _ h=>by
 obtain⟨_,_,_,_,_,_,_,_,_,_,_,_,q⟩:=h;exact q.elim
theorem iQ{X:Cx}{x:Str}{ps:List Str}{k:Nat}{ds:List V}{sp:Sp}{p pos:Pos}{e:Expr}{es:List Expr}{t:TA}(F:Fx X.prog X.w X.K X.mg X.base x ps k ds sp)(hr:zy k X.A)(hg:Gl X x)(ha:PA X (e::es) t)
  (hdb:(x == ("__debug__" : Str))=false:=by decide) (he:starEach (e::es) X.env=(false,eval e X.env)::starEach es X.env:=by rfl) (hpl:(backTo pos (starEach es X.env)).any (·.1)=false:=by rfl) :
  PE X (.Call (.Name x p) (e::es) [] pos) (ol sp [] E0 t):=by
 obtain⟨g,fd,its,hm,hk,hb,_,_,G⟩:=F.ex;exact ko G hr hg hm hk hb .nil jN ha hdb he hpl
section
variable {X:Cx}
theorem vZ{pins:List (Addr×Obj)}{s:Shared}{σ:St}{H:Hp}{Q:VK}{R:Value->St->Hp->Prop}{x:Str}{ps:List Str}{k:Nat}{ds:List V}{sp:Sp}{p pos:Pos}{e:Expr}{es:List Expr}{t:TA}(I:zg X pins σ H s)
  (F:Fx X.prog X.w X.K X.mg X.base x ps k ds sp) (hr:zy k X.A) (hg:Gl X x) (ha:PA X.nox (e::es) t) (q:t σ H λvs H1=>sp vs H1 Q λc _ H2=>R c σ H2)
  (hdb:(x == ("__debug__" : Str))=false) (he:starEach (e::es) X.env=(false,eval e X.env)::starEach es X.env) (hpl:(backTo pos (starEach es X.env)).any (·.1)=false) :
  wpAny (model X.prog X.w) X.A (eval (.Call (.Name x p) (e::es) [] pos) X.env) (EP X pins σ Q) (XP X pins R) s:=by
 obtain⟨f,fd,its,hm,hk,hb,_,_,G⟩:=F.ex;refine wpAny_Call_Name_kw (eZ I hg hm ?_ hdb);refine W.callWith_K (h₀:=X.base) I.ok.mod.kin hk (wpAny_mono (ha pos pins s σ H _ (I.wish _) q) (λus s1 ⟨vs,H1,J1,r,q1⟩=>?_) λ_ _ z=>False.elim z) he hpl;have I1:zg X pins σ H1 s1:=J1.unwish;refine⟨I1.kIn,?_⟩;have hl:(us++[]).length=ps.length:=by rw[List.append_nil,<- r.length];exact G.len _ _ _ _ q1
 have hbb:=hb s1 us I1.kIn hl;rw[List.append_nil]at hbb;refine wpAny_call (codeAny_mono (G.run X.A X.stack s1 H1 ⟨us,[]⟩ us vs Q _ hr I1.env0 hbb r q1) λrr s' hq=>?_);cases rr with
 | error ev=>exact⟨s1,σ,H1,(λc _ H2=>R c σ H2),I1,hq,λc o H' z=>z⟩
 | ok flw =>
  cases flw with
  | ret u=>exact I1.after hq
  | next=>exact False.elim hq
  | brk=>exact False.elim hq
  | cont=>exact False.elim hq
variable {x fn:Str} {i:Nat} {ps:List Str} {k:Nat} {ds:List V} {sp:Sp} {e:Expr} {es:List Expr} {ta:TA} {px pf cpos pos:Pos}
theorem tP(F:Fx X.prog X.w X.K X.mg X.base fn ps k ds sp)(hr:zy k X.A)(hg:Gl X fn)(ha:PA X.nox (e::es) ta)(hs:swapsWith (.Call (.Name fn pf) (e::es) [] cpos) none pos.line X.env=pure false:=by rfl)
  (hdb:(fn == ("__debug__" : Str))=false:=by decide) (he:starEach (e::es) X.env=(false,eval e X.env)::starEach es X.env:=by rfl) (hpl:(backTo cpos (starEach es X.env)).any (·.1)=false:=by rfl) :
  PX X (.Expr (.Call (.Name fn pf) (e::es) [] cpos) pos) (λR D σ H=>ta σ H λvs H1=>sp vs H1 (λ_ H2=>D.nx σ H2) λc _ H2=>R c σ H2):=by
 intro pins s σ H D R I h;exact wpAny_Expr_any (thn (vZ I F hr hg ha h hdb he hpl) λv s1 ⟨y,H1,I1,r1,q1⟩=>⟨σ,H1,I1,q1⟩) I.quiet hs
theorem tO{st:Stmt}{t:TX}(h1:PX X st t):PXs X [st] t:=by
 intro pins s σ H D R I h;refine wpAny_execs_cons (thn (h1 pins s σ H D R I h) λf s1 q=>?_);cases f with
 | next=>exact wpAny_execs_nil q
 | ret v=>exact q
 | brk=>exact q
 | cont=>exact q
end
end L2
namespace Sp2
open PySem PySem.Spec L2 Mth Sp1
theorem rj{H:Hp}{x:V}(h:g7 H x=true):∃p a b,x = .ref p/\H p=some (.tup [.int a,.int b])/\Ds a b:=by
 unfold g7 at h
 split at h
 ·split at h
  ·rename_i p _ xs e
   unfold jq at h
   split at h
   ·rename_i a b
    unfold lowB at h;rw[Bool.and_eq_true,decide_eq_true_eq,decide_eq_true_eq]at h;exact⟨p,a,b,rfl,e,h.1,h.2⟩
   ·cases h
  ·cases h
 ·cases h
theorem rg{H:Hp}{p:Addr}{a b:Int}(e:H p=some (.tup [.int a,.int b])):g7 H (.ref p)=lowB a b:=by
 simp only[g7,e,jq]
theorem x8{a b:Int}(h:Ds a b):lowB a b=true:=by
 unfold lowB;rw[decide_eq_true h.pos,decide_eq_true h.one];rfl
inductive Bs (vs:List V) (H:Hp) (Q:VK) (x_3:XK):Prop
 | mk:∀(p:Addr) (xs:List V),(vs = [.ref p])->(H p=some (.lst xs))->(Q (.int ((xs.length:Int) - 1)) H)->Bs vs H Q x_3
theorem x6{n:Int}(h0:-1000<=n)(h1:n<=1000):-(2^64)<n/\n<2^64:=by
 have e:(2:Int)^64=18446744073709551616:=by decide
 rw[e];omega
theorem xn{ns:List Int}{k:Int}(j:Nat)(e:k=(j:Int))(h:j<ns.length):atI (ns.map V.int) k=some (.int ns[j]):=by
 subst e;exact cw (by rw[List.getElem?_map,List.getElem?_eq_getElem h];rfl)
theorem dj{n:Int}(h0:-1000<=n)(h1:n<=1000):ap n<=10:=by
 refine bM (n:=10) ?_;show _<1024;omega
end Sp2
namespace L2
open PySem PySem.Spec PyProof.Rows
noncomputable abbrev Cx.blk(X:Cx)(N':List Str)(scope:Scope)(cl:List (Str×Addr))(fp:List Addr)(s₀:Shared)(H₀:Hp):Cx :=
 { X with N:=N',s₀:=s₀,H₀:=H₀,env:=compEnvC scope cl s₀.heap.objs.size X.env,outer:=X.stack,ex:=fp,fn:=λ_=>false,pn:=[],xe:=λ_ _=>False }
theorem bL{α:Type}{y:Str}{c:α}:∀{l:List (Str×α)},l.lookup y=some c->(y,c)∈l
 | [],h=>by simp at h
 | (n,d)::r,h=>by
  rw[List.lookup_cons]at h;cases e:y == n with
  | true =>
   rw[e]at h;cases h;rw[beq_iff_eq.mp e];exact List.mem_cons_self
  | false =>
   rw[e]at h;exact List.mem_cons_of_mem _ (bL h)
structure A6(X:Cx)(scope:Scope)(cl:List (Str×Addr))(x:Str)(fv:List (Str×Nat)):Prop where
 clos:closureFor scope X.env=pure cl
 kind:scope.kind = .function
 cell:∀y∈scope.names,y.2≠.cell
 names:∀y∈scope.names,y.2 = .local->scope.names.lookup y.1=some .local
 own:scope.names.lookup x=some .local
 cells:∀p∈cl,X.env.cells.lookup p.1=some p.2
 has:((relabel scope X.env).names.all λq=>!(q.2 == .cell || q.2 == .free) || (cl.lookup q.1).isSome)=true
 nd:(x::fv.map (·.1)).Nodup
 slot:∀p∈fv,X.N[p.2]? = some p.1/\X.env.kindOf p.1=some .cell/\Vis X.env.scope p.1/\(cl.lookup p.1).isSome=true/\((relabel scope X.env).names.lookup p.1=some .cell)
 stk:X.stack=X.env::X.outer/\X.env.frame=some X.env.locals
 noex:X.ex = []
noncomputable def fvs(fv:List (Str×Nat))(σ:St):St:=fv.map λp=>(σ[p.2]?).join
noncomputable def xM(wi:TI)(fv:List (Str×Nat))(te:TE):TE:=λσ H Q=>wi σ H λJ H1=>∀p,H1 p=none->∃W:Nat->Nat->List V->Hp->Prop,(∃m,W 0 m [] (upd H1 p (.lst [])))/\∀i m acc H2,W i m acc H2 ->
 H2 p=some (.lst acc)/\acc.length<sizeLine/\((J.stop i H2/\Q (.ref p) H2)\/(J.go i H2/\∀x H3,J.yld i H2 x H3->te (some x::fvs fv σ) H3 λy H4=>H4 p=some (.lst acc)/\∃m',m'<m/\W (i+1) m' (acc++[y]) (upd H4 p (.lst (acc++[y])))))
section
variable {X:Cx} {scope:Scope} {cl:List (Str×Addr)} {x:Str} {fv:List (Str×Nat)} {elt iter:Expr} {px pos:Pos} {te:TE}
theorem xk{pins:List (Addr×Obj)}{σ:St}{H:Hp}{s:Shared}{fp:List Addr}(C:A6 X scope cl x fv)(I:zg X pins σ H s)(hf:∀b∈fp,ei X pins H b)(ho:∀b∈fp,b<s.heap.objs.size):(X.blk (x::fv.map (·.1)) scope cl fp s H).Ok:=by
 have hcl:∀y c,cl.lookup y=some c->X.env.cells.lookup y=some c:=λy c h=>C.cells _ (bL h);have old:∀b∈fp,X.s₀.heap.objs.size<=b:=λb hb=>by
  rcases(hf b hb).2.2.2.1 with z|z
  ·rw[C.noex]at z
   cases z
  ·exact z
 refine⟨I.ok.mod,by show(relabel scope X.env).kind=_;exact C.kind,I.ok.glob,I.ok.blt,Nat.le_refl _,λy z c h1 h2=>I.ok.inj y z c (hcl y c h1) (hcl z c h2),λy hy=>?_,(λy c h=>by cases h),I.ok.hd,I.ok.frames,.inl rfl,λb hb=>?_,λb o e=>I.bs b o e,Nat.le_trans I.ok.bsz I.sz,λb o e hb=>?_,λb hb hm=>?_,I.stack,I.stkFree⟩
 ·have q:=C.has
  rw[List.all_eq_true]at q;have hm:∃k,(y,k)∈(relabel scope X.env).names/\(k = .cell\/k = .free):=by
   rcases hy with hy|hy
   ·exact⟨_,bL hy,.inl rfl⟩
   ·exact⟨_,bL hy,.inr rfl⟩
  obtain⟨k,hk,hk2⟩:=hm;have q2:=q _ hk;have q3:(cl.lookup y).isSome=true:=by
   rcases hk2 with rfl|rfl
   ·simpa using q2
   ·simpa using q2
  exact Option.isSome_iff_exists.mp q3
 ·obtain⟨f0,f1,f2,f3,f4,f5⟩:=hf b hb
  refine⟨?_,λy c h=>f4 y c (hcl y c h)⟩;exact Nat.ne_of_lt (ho b hb)
 ·have z:=Heap.lt_size e
  have z2:=old b hb;exact absurd (Nat.lt_of_lt_of_le z (Nat.le_trans I.ok.bsz z2)) (Nat.lt_irrefl _)
 ·obtain⟨f0,f1,f2,f3,f4,f5⟩:=hf b hb
  rcases List.mem_cons.mp (I.stkSub b hm) with z|z
  ·exact f1 z
  ·exact f2 z
theorem ve{pins:List (Addr×Obj)}{σ:St}{H:Hp}{s s4:Shared}{fp:List Addr}(C:A6 X scope cl x fv)(I:zg X pins σ H s)(hf:∀b∈fp,ei X pins H b)(ho:∀b∈fp,b<s.heap.objs.size)
  (hs:s4.os=s.os/\s4.gens=s.gens) (ns:s4.heap.Ns s.heap.objs.size λ_=>none) (kp:∀b o,s.heap.get? b=some o->s4.heap.get? b=some o) :
  zg (X.blk (x::fv.map (·.1)) scope cl fp s H) [] (none::fvs fv σ) H s4:=by
 have hcl:∀y c,cl.lookup y=some c->X.env.cells.lookup y=some c:=λy c h=>C.cells _ (bL h);refine⟨xk C I hf ho,hs.1,by rw[hs.2];exact I.bare,Un.kept kp,⟨_,ns,λi y v e1 e2 e3=>?_⟩,λy c h=>?_,I.hok.fresh (Nat.le_refl _),λy c h=>I.freeC y c (hcl y c h),λp hp=>by simp at hp,I.hok.kept kp,by simp[fvs]⟩
 ·cases i with
  | zero=>simp at e2
  | succ j =>
   have e1':(fv.map (·.1))[j]? = some y:=by simpa using e1
   have e2':(fvs fv σ)[j]? = some (some v):=by simpa using e2
   rw[List.getElem?_map]at e1';unfold fvs at e2';rw[List.getElem?_map]at e2';cases hq:fv[j]? with
   | none =>
    rw[hq]at e1';cases e1'
   | some q =>
    rw[hq]at e1' e2';have ey:q.1=y:=Option.some.inj e1';have ev:(σ[q.2]?).join=some v:=Option.some.inj e2';have hm:q∈fv:=List.mem_of_getElem? hq;obtain⟨s1,s2,s3,s4',s5⟩:=C.slot q hm;have ev2:σ[q.2]? = some (some v):=by
     cases hz:σ[q.2]? with
     | none =>
      rw[hz]at ev;cases ev
     | some z =>
      rw[hz]at ev;have ev':z=some v:=ev;rw[ev']
    obtain⟨m,hn,hl⟩:=I.loc;obtain⟨u,r,lk⟩:=hl q.2 q.1 v s1 ev2 s3;obtain⟨c,hc⟩:=Option.isSome_iff_exists.mp s4';refine⟨u,r,.inr ⟨.inl (by rw[<- ey];exact s5),c,by rw[<- ey];exact hc,?_⟩⟩;rcases lk with⟨k,_⟩|⟨_,c',hc',z⟩
    ·rw[s2]at k
     cases k
    ·rw[hcl _ _ hc]at hc'
     cases hc';obtain⟨o,ho',hd⟩:=z;exact⟨o,kp _ _ ho',hd⟩
 ·obtain⟨v,o,ho',hd⟩:=I.cell y c (hcl y c h)
  exact⟨v,o,kp _ _ ho',hd⟩
theorem vc{pins:List (Addr×Obj)}{σ:St}{H2:Hp}{s2:Shared}{it:Addr}{fp:List Addr}{tn:Nat->Heap->Prop}{J:It}{RR:Value->Addr->Result->Shared->Prop}{E:Value->Shared->Prop}{Qf:V->Hp->Prop}
  (hcalm:X.calm=true) (C:A6 X scope cl x fv) (I2:zg X pins σ H2 s2) (T:CU X.prog X.w X.K (.Name x px) J fp it tn) (st:tn 0 s2.heap) (f2:∀b∈fp,ei X pins H2 b)
  (rd:∀p,H2 p=none->∃W:Nat->Nat->List V->Hp->Prop,(∃m,W 0 m [] (upd H2 p (.lst [])))/\∀i m acc H2,W i m acc H2 ->
   H2 p=some (.lst acc)/\acc.length<sizeLine/\((J.stop i H2/\Qf (.ref p) H2)\/(J.go i H2/\∀x H3,J.yld i H2 x H3->te (some x::fvs fv σ) H3 λy H4=>H4 p=some (.lst acc)/\∃m',m'<m/\W (i+1) m' (acc++[y]) (upd H4 p (.lst (acc++[y]))))))
  (he:∀(s₀:Shared) (H₀:Hp),PE (X.blk (x::fv.map (·.1)) scope cl fp s₀ H₀) elt te)
  (hRR:∀(p C:Addr) (H':Hp) (s':Shared),(∃m,s'.heap.Ns C m)->C≠X.env.locals->H' C=none->X.s₀.heap.objs.size<=C->(∀y c,X.env.cells.lookup y=some c->c≠C)->(∀q∈X.pn++pins,q.1≠C)->zg X pins σ H' s'->Qf (.ref p) H'->RR (.ref p) C (.ok .next) s') :
  wpAny (model X.prog X.w) X.A (newList []) (λacc s₃=>wpAny (model X.prog X.w) X.A (newFunctionEnv scope X.env.globals cl [] X.env.qual none .none (some X.env)) (λcenv s₄ =>
   codeAny (model X.prog X.w) X.A (.compStart (.ListComp elt [⟨.Name x px,iter,[],0⟩] scope pos) 0 (.ref it) acc { cenv with scope:=relabel scope X.env }) (RR acc cenv.locals) s₄) E s₃) E s2:=by
 refine wpAny_newObj_type ?_;have hfresh:=I2.fresh;have I3:zg X pins σ (upd H2 s2.heap.objs.size (.lst [])) { s2 with heap:=s2.heap.push { cls:=.type "list",data:=.seq ([]:List Value).toArray } } :=
  I2.laid (t':=s2.toks) (λb u q=>Heap.get?_push_of_some _ q) (Nat.le_refl _) ⟨Nat.zero_le _,[],0,.nil,Heap.get?_push_size _ rfl⟩
 generalize hs3:({ s2 with heap:=s2.heap.push { cls:=.type "list",data:=.seq ([]:List Value).toArray } }:Shared)=s3 at I3 ⊢;have hp3:s2.heap.objs.size<s3.heap.objs.size:=by rw[<- hs3];exact Nat.lt_of_lt_of_le (Nat.lt_succ_self _) (Nat.le_of_eq (Heap.size_push _ _).symm)
 have k23:∀b o,s2.heap.get? b=some o->s3.heap.get? b=some o:=λb o e=>by rw[<- hs3];exact Heap.get?_push_of_some _ e
 have fpo:∀b∈fp,b<s2.heap.objs.size:=λb hb=>by
  obtain⟨o,e,_⟩:=T.obj 0 _ st b hb;exact Heap.lt_size e
 have f3:∀b∈fp,ei X pins (upd H2 s2.heap.objs.size (.lst [])) b:=λb hb=>⟨by rw[aF (Nat.ne_of_lt (fpo b hb))];exact(f2 b hb).1,(f2 b hb).2⟩;refine wpAny_newFunctionEnv C.cell (by intro y hy;simp at hy) (λh1 hns1 hsb1=>?_) C.kind;have kp:∀b o,s3.heap.get? b=some o->h1.get? b=some o:=λb o e=>(hsb1.2 b (Nat.ne_of_lt (Heap.lt_size e))).trans (Heap.get?_push_of_some _ e);have I4:=ve (s4:={ s3 with heap:=h1,toks:=s3.toks+([]:List (Str×Value)).length }) C I3 f3 (λb hb=>Nat.lt_trans (fpo b hb) hp3) ⟨rfl,rfl⟩ hns1 kp;have st4:tn 0 h1:=T.keep 0 _ _ st λb _ o e=>kp b o (k23 b o e);obtain⟨W,⟨m0,w0⟩,step⟩:=rd _ hfresh;have loop:codeAny (model X.prog X.w) X.A (.compLoop (.ListComp elt [⟨.Name x px,iter,[],0⟩] scope pos) 0 (.ref it) (.ref s2.heap.objs.size) (compEnvC scope cl s3.heap.objs.size X.env)) (RR (.ref s2.heap.objs.size) s3.heap.objs.size)
   { s3 with heap:=h1,toks:=s3.toks+([]:List (Str×Value)).length }:=by
  refine codeAny_compLoop_list (λn s=>∃i acc σv H',zg (X.blk (x::fv.map (·.1)) scope cl fp s3 (upd H2 s2.heap.objs.size (.lst []))) [] (σv::fvs fv σ) H' s/\tn i s.heap/\(∀b∈fp,H' b=none)/\W i n acc H') ?_ m0 ⟨0,[],none,_,I4,st4,λb hb=>(f3 b hb).1,w0⟩;rintro n s ⟨i,acc,σv,H',I',st',fr',w'⟩;obtain⟨hp,hlen,alt⟩:=step i n acc H' w';have fpk:∀{H5:Hp},(∀b∈fp,H5 b=none)->∀b∈fp,ei (X.blk (x::fv.map (·.1)) scope cl fp s3 (upd H2 s2.heap.objs.size (.lst []))) [] H5 b:=λh5 b hb =>
   ⟨h5 b hb,(I'.ok.exf b hb).1,I'.ok.exfs b hb,.inl hb,λy c e=>(I'.ok.exf b hb).2 y c e,λq hq=>by simp at hq⟩
  rcases alt with⟨stop,qf⟩|⟨go,turn⟩
  ·refine wpAny_mono (T.done (X.blk (x::fv.map (·.1)) scope cl fp s3 (upd H2 s2.heap.objs.size (.lst []))) rfl rfl rfl hcalm i [] s _ H' (λ_ _=>False) I' (fpk fr') st' stop) (λr s5 ⟨hr,I5⟩=>?_) λ_ _ z=>False.elim z
   subst hr;refine hRR _ _ H' s5 (let ⟨m,hn,_⟩:=I5.loc;⟨m,hn⟩) (Nat.ne_of_gt I3.lt) I5.free I3.sz (λy c e=>?_) (λq hq=>?_) ?_ qf
   ·obtain⟨v,z⟩:=I3.cell y c e
    exact Nat.ne_of_lt z.lt
   ·exact Nat.ne_of_lt (Heap.lt_size (I3.pin q hq).1)
   ·exact I3.call' (s':=s5) (ch:=fp) I5.os I5.base I5.hok I5.bare λb hb=>⟨(f2 b hb).2.2.2.1,(f2 b hb).2.1,(f2 b hb).2.2.2.2.1,(f2 b hb).2.2.2.2.2⟩
  ·refine wpAny_mono (T.item (X.blk (x::fv.map (·.1)) scope cl fp s3 (upd H2 s2.heap.objs.size (.lst []))) rfl rfl rfl hcalm i [] s _ H' (λ_ _=>False) I' (fpk fr') st' go) (λr s5 ⟨u,hr,h5⟩=>?_) λ_ _ z=>False.elim z
   subst hr;have e5:assign (.Name x px) (compEnvC scope cl s3.heap.objs.size X.env) u=(letOwnedTupleGo (.Name x px) (.ref it) u >>= λ_=>assign (.Name x px) (compEnvC scope cl s3.heap.objs.size X.env) u):=by
    rw[show letOwnedTupleGo (.Name x px) (.ref it) u=pure () from rfl];rfl
   show wpAny _ _ (assign (.Name x px) (compEnvC scope cl s3.heap.objs.size X.env) u) _ _ _;rw[e5];refine wpAny_bind (wpAny_mono h5 (λ_ s6 ⟨y,H6,I6,r6,y6,st6,fr6⟩=>?_) λ_ _ z=>False.elim z);have I6':=I6.pinned (fpk fr6) (T.obj _ _ st6);have lx:(relabel scope X.env).names.lookup x=some .local:=lookup_relabel_local C.own;refine wpAny_mono (aK (X:=X.blk (x::fv.map (·.1)) scope cl fp s3 (upd H2 s2.heap.objs.size (.lst []))) (i:=0) C.nd rfl (.inl lx) (.inr lx) _ s6 _ H6 y u (λσ7 H7=>σ7=some y::fvs fv σ/\H7=H6) I6' r6 ⟨rfl,rfl⟩) (λ_ s7 ⟨σ7,H7,I7,e7,e7'⟩=>?_) λ_ _ z=>False.elim z;subst e7 e7';refine wpAny_mono (he s3 _ _ s7 _ _ _ I7 (turn y _ y6)) (λv8 s8 ⟨y8,H8,I8,r8,q8,m',hm',w8⟩=>?_) λ_ _ z=>False.elim z;refine wpAny_mono (gH (X:=X.blk (x::fv.map (·.1)) scope cl fp s3 (upd H2 s2.heap.objs.size (.lst []))) _ s8 _ H8 (.ref s2.heap.objs.size) [y8] (.ref s2.heap.objs.size) [v8] (λ_ H9=>H9=upd H8 s2.heap.objs.size (.lst (acc++[y8]))) I8 rfl (.cons r8 .nil) ⟨_,acc,y8,rfl,rfl,q8,hlen,rfl⟩) (λ_ s9 ⟨_,H9,I9,_,e9⟩=>?_) λ_ _ z=>False.elim z;subst e9;refine⟨m',hm',i+1,acc++[y8],some y,_,I9.unpinned,T.keep _ _ _ st6 λb hb o e=>(I9.pin (b,o) (List.mem_append_right _ (List.mem_append_right _ (cM hb e)))).1,λb hb=>?_,w8⟩;obtain⟨o,e,d⟩:=T.obj _ _ st6 b hb;exact(I9.pin (b,o) (List.mem_append_right _ (List.mem_append_right _ (cM hb e)))).2.1
 exact codeAny_compStart_list loop (T.self _ 0 _ _ _ st4 loop)
theorem tY{wi:TI}(hcalm:X.calm=true)(C:A6 X scope cl x fv)(hi:PI X (.Name x px) iter wi)(he:∀(fp:List Addr) (s₀:Shared) (H₀:Hp),PE (X.blk (x::fv.map (·.1)) scope cl fp s₀ H₀) elt te)
  (hs:∀v,foldedSetIterable iter X.env v=pure v:=by intro _;rfl):PE X (.ListComp elt [⟨.Name x px,iter,[],0⟩] scope pos) (xM wi fv te):=by
 intro pins s σ H Q I h;rw[eval_ListComp];refine wpAny_comprehension_free (use:=none) rfl hs C.clos C.kind C.names (wpAny_mono (hi pins s σ H _ I h) (λv s1 h1=>wpAny_mono h1 (λitv s2 h2=>?_) λ_ _ z=>z) λ_ _ z=>z);obtain⟨it,fp,tn,J,H2,rfl,I2,T,st2,f2,rd⟩:=h2;refine vc (Qf:=Q) hcalm C I2 T st2 f2 rd (he fp) λp D H' s' ns nL nH n0 nC nP I8 q=>?_;obtain⟨m,hn⟩:=ns;exact⟨m,hn,λh'' sb=>⟨.ref p,H',I8.turned (t':=s'.toks) (λb o hb e=>(sb.2 b hb).trans e) nH nL (.inr n0) nC nP,rfl,q⟩⟩
end
theorem nQ{n:Nat}{lo:Int}{fv:List (Str×Nat)}{te:TE}{σ:St}{H1:Hp}{Qp:Hp->Prop}{l:Addr}(Pv:Nat->List V->Hp->Prop)(h0:Pv 0 [] (upd H1 l (.lst [])))(hp:∀i acc H2,i<=n->Pv i acc H2->H2 l=some (.lst acc)/\acc.length<sizeLine)
  (hs:∀i acc H2 (K:VK),i<n->Pv i acc H2->(∀y H4,H4 l=some (.lst acc)->Pv (i+1) (acc++[y]) (upd H4 l (.lst (acc++[y])))->K y H4)->te (some (.int (lo+i))::fvs fv σ) H2 K) (hd:∀acc H2,Pv n acc H2->Qp H2) :
  ∃W:Nat->Nat->List V->Hp->Prop,(∃m,W 0 m [] (upd H1 l (.lst [])))/\∀i m acc H2,W i m acc H2 ->
   H2 l=some (.lst acc)/\acc.length<sizeLine/\(((Itr lo n).stop i H2/\Qp H2)\/((Itr lo n).go i H2/\∀x H3,(Itr lo n).yld i H2 x H3->te (some x::fvs fv σ) H3 λy H4=>H4 l=some (.lst acc)/\∃m',m'<m/\W (i+1) m' (acc++[y]) (upd H4 l (.lst (acc++[y]))))):=by
 refine⟨λi m acc H2=>m=n - i/\i<=n/\Pv i acc H2,⟨n,by simp,Nat.zero_le _,h0⟩,?_⟩;rintro i m acc H2 ⟨rfl,hi,p⟩;refine⟨(hp i acc H2 hi p).1,(hp i acc H2 hi p).2,?_⟩
 by_cases hlt:i<n
 ·refine .inr ⟨hlt,λx H3 y=>?_⟩
  obtain⟨e1,e2⟩:=y;subst e1 e2;exact hs i acc _ _ hlt p λy H4 z1 z2=>⟨z1,n - (i+1),by omega,rfl,hlt,z2⟩
 ·have e:i=n:=by omega
  subst e;exact .inl ⟨Nat.le_refl _,hd acc H2 p⟩
theorem fV{X:Cx}{K:W.Frag}(h:X.K=K):IxR X (EL K):=h▸bA
theorem fb{X:Cx}{K:W.Frag}(h:X.K=K):IxR X (Fk K):=h▸av
theorem p6{K:W.Frag}{a:Addr}{xs:List V}{fv:List (Str×Nat)}{te:TE}{σ:St}{H1:Hp}{Qp:Hp->Prop}{l:Addr}(Pv:Nat->List V->Hp->Prop)(h0:Pv 0 [] (upd H1 l (.lst [])))(hp:∀i acc H2,i<=xs.length->Pv i acc H2->SqL K H2 a xs/\H2 l=some (.lst acc)/\acc.length<sizeLine)
  (hs:∀i x acc H2 (Kc:VK),xs[i]? = some x->Pv i acc H2->(∀y H4,H4 l=some (.lst acc)->Pv (i+1) (acc++[y]) (upd H4 l (.lst (acc++[y])))->Kc y H4)->te (some x::fvs fv σ) H2 Kc) (hd:∀acc H2,Pv xs.length acc H2->Qp H2) :
  ∃W:Nat->Nat->List V->Hp->Prop,(∃m,W 0 m [] (upd H1 l (.lst [])))/\∀i m acc H2,W i m acc H2 ->
   H2 l=some (.lst acc)/\acc.length<sizeLine/\(((Itl K a).stop i H2/\Qp H2)\/((Itl K a).go i H2/\∀x H3,(Itl K a).yld i H2 x H3->te (some x::fvs fv σ) H3 λy H4=>H4 l=some (.lst acc)/\∃m',m'<m/\W (i+1) m' (acc++[y]) (upd H4 l (.lst (acc++[y]))))):=by
 refine⟨λi m acc H2=>m=xs.length - i/\i<=xs.length/\Pv i acc H2,⟨xs.length,by simp,Nat.zero_le _,h0⟩,?_⟩;rintro i m acc H2 ⟨rfl,hi,p⟩;obtain⟨q1,q2,q3⟩:=hp i acc H2 hi p;refine⟨q2,q3,?_⟩
 by_cases hlt:i<xs.length
 ·refine .inr ⟨⟨xs,xs[i],q1,List.getElem?_eq_getElem hlt⟩,λx H3 y=>?_⟩
  obtain⟨e1,e2⟩:=y;subst e1;exact hs i x acc _ _ (e2 xs q1) p λy H4 z1 z2=>⟨z1,xs.length - (i+1),by omega,rfl,hlt,z2⟩
 ·have e:i=xs.length:=by omega
  subst e;exact .inl ⟨⟨xs,q1,Nat.le_refl _⟩,hd acc H2 p⟩
theorem j9{xs:List V}{us:List Value}{j:Nat}(r:aJ xs us)(h:j<us.length):∃a,xs[j]? = some a/\aN a us[j]:=by
 have hl:=r.length;have hj:j<xs.length:=by omega
 obtain⟨u,e,q⟩:=r.get (i:=j) (x:=xs[j]) (List.getElem?_eq_getElem hj);rw[List.getElem?_eq_getElem h]at e;cases e;exact⟨xs[j],List.getElem?_eq_getElem hj,q⟩
end L2
namespace L2
open PySem
theorem zy.units10{k:Nat}{A:Around}(r:zy k A):A.units+10<cLine:=by have:=r.un;omega
end L2
namespace Sp3
open PySem PySem.Spec L2 Mth Sp1 Sp2
noncomputable abbrev Crn:=List (Addr×Int×Int)
end Sp3
namespace PySem
open Sem (wp)
noncomputable abbrev Lk{α:Type}(M:Model)(h:Heap)(t:Sem α)(r:α):Prop:=∀(A:Around) (Q:α->Shared->Prop) (E:Value->Shared->Prop) (g:Array GenState) (d:Drawn) (tk:Nat) (os:OsState),Q r ⟨h,g,d,tk,os⟩->wpAny M A t Q E ⟨h,g,d,tk,os⟩
section
variable {prog:Program} {w:World} {A:Around} {E:Value->Shared->Prop} {h:Heap} {g:Array GenState} {d:Drawn} {t:Nat} {os:OsState} {a:Addr} {o:Obj}
 {nm q:Str} {C N:Addr} {bs bm:List Value} {hdct:Bool} {sn:List Str} {sub:List Value} {ab:Bool} {col:Option Bool} {dd:Option Addr} {k0 k1 k2 k3 k5:Option Value} {newId:String}
theorem ju{R:Result->Shared->Prop}(atC:h.get? C=some (excClassObj nm q C N bs bm hdct sn sub ab col dd k0 k1 k2 k3 k5 newId))(hO:bm.contains (.type "object")=true)
  (atE:h.get? a=some o) (clE:o.cls = .ref C) (fin:R (.ok (.ret (.ref C))) ⟨h,g,d,t,os⟩) :
  codeAny (model prog w) A (.call (.builtin "getset_descriptor.__get__") ⟨[.builtin "object.__class__",.ref a,.ref C],[]⟩) R ⟨h,g,d,t,os⟩:=by
 have tg:(⟨h,g,d,t,os⟩:Shared).TypeIs (.builtin "object.__class__") "getset_descriptor":=F.typeOf_object_class;have e0:(".".intercalate ("object.__class__".cutAt '.').dropLast) = "object":=by
  have e0:"object.__class__".cutAt '.' = ["object","__class__"]:=by first|rfl|decide +kernel
  rw[e0];decide +kernel
 have cont:(Value.ref C::bm).contains (.type (".".intercalate ("object.__class__".cutAt '.').dropLast))=true:=by
  rw[e0,List.contains_cons,hO,Bool.or_true]
 refine codeAny_call_builtin F.slot_gs_get.plain F.entry_gs_get (F.slot_gs_get.check _ _ _ _ _ _ _ _ tg (F.args_gs_get _ _ _) ?_)
 repeat (any_goals (first|assumption|(with_reducible refine wpAny_loadPart_at atE ?_;rw[clE])|(with_reducible refine wpAny_isSubtype_exc atC ?_;rw[cont])|wp_step))
 refine⟨Code.quiet_builtin _ (by decide +kernel),codeAny_builtin F.entry_object_class ?_⟩
 repeat (any_goals (first|assumption|(with_reducible refine wpAny_loadPart_at atE ?_;rw[clE])|wp_step))
theorem kT{M:Model}{nameV:Value}{Q:Unit->Shared->Prop}(atC:h.get? C=some (excClassObj nm q C N bs bm hdct sn sub ab col dd k0 k1 k2 k3 k5 newId))(hB:bm.contains (.type "BaseException")=true)
  (atE:h.get? a=some o) (clE:o.cls = .ref C) (fin:Q () ⟨h,g,d,t,os⟩):wpAny M A (checkBuiltinCall "BaseException.__getattribute__" ⟨[.ref a,nameV],[]⟩) Q E ⟨h,g,d,t,os⟩:=by
 have kd:builtinKind "BaseException.__getattribute__" = some .slot:=by decide +kernel
 have spl:splitId "BaseException.__getattribute__" = some ("BaseException","__getattribute__"):=by decide +kernel
 have cont:(Value.ref C::bm).contains (.type "BaseException")=true:=by rw[List.contains_cons,hB,Bool.or_true]
 have okA:=F.args_bexc_ga (.ref a) nameV;simp only[checkBuiltinCall,kd,spl];refine wpAny_bind ?_
 ·unfold isInstance
  repeat (first|(with_reducible refine wpAny_loadPart_at atE ?_;rw[clE])|(with_reducible refine wpAny_isSubtype_exc atC ?_;rw[cont])|wp_step)
  exact fin
theorem il{tk:Tok}{Q:Fin->Shared->Prop}(atC:h.get? C=some (excClassObj nm q C N bs bm hdct sn sub ab col dd k0 k1 k2 k3 k5 newId))(hO:bm.contains (.type "object")=true)
  (lc:Lk (model prog w) h (typeLookup (.ref C) "__class__") (some (.builtin "object.__class__"))) (atE:h.get? a=some o) (clE:o.cls = .ref C) (fin:Q (.done (.ret (.ref C))) ⟨h,g,d,t,os⟩) :
  wpAny (model prog w) A (Builtin.«object.__getattribute__» ⟨[.ref a,.str "__class__" tk],[]⟩) Q E ⟨h,g,d,t,os⟩:=by
 have tg:(⟨h,g,d,t,os⟩:Shared).TypeIs (.builtin "object.__class__") "getset_descriptor":=F.typeOf_object_class;have tyC:=F.typeOf_object_class;have getL:=F.slot_gs_get.lookup;have setL:=F.slot_gs_set.lookup
 repeat (any_goals (first|assumption|(with_reducible refine wpAny_loadPart_at atE ?_;rw[clE])|with_reducible refine lc _ _ _ _ _ _ _ ?_|wp_step))
 refine ju atC hO atE clE ?_
 repeat (any_goals (first|assumption|wp_step))
theorem kS{tk:Tok}{Q:Value->Shared->Prop}(atC:h.get? C=some (excClassObj nm q C N bs bm hdct sn sub ab col dd k0 k1 k2 k3 k5 newId))(hO:bm.contains (.type "object")=true)(hB:bm.contains (.type "BaseException")=true)
  (lc:Lk (model prog w) h (typeLookup (.ref C) "__class__") (some (.builtin "object.__class__"))) (lg:Lk (model prog w) h (typeLookup (.ref C) "__getattribute__") (some (.builtin "BaseException.__getattribute__"))) (ln:Lk (model prog w) h (typeLookup (.ref C) "__getattr__") none)
  (atE:h.get? a=some o) (clE:o.cls = .ref C) (fin:Q (.ref C) ⟨h,g,d,t,os⟩) :
  wpAny (model prog w) A (getAttrBy (.ref a) (.str "__class__" tk) false) Q E ⟨h,g,d,t,os⟩:=by
 have bnd:=F.excAttr_ValueError.ga.bind (.ref a);have nh2:(Value.builtin "BaseException.__getattribute__" == Value.builtin "object.__getattribute__")=false:=by decide +kernel
 have nh1:(onTheHeap (Value.ref C) && Value.builtin "BaseException.__getattribute__" == Value.builtin "object.__getattribute__")=false:=by rw[nh2];rfl
 repeat (any_goals (first|assumption|(with_reducible refine wpAny_loadPart_at atE ?_;rw[clE])|with_reducible refine lg _ _ _ _ _ _ _ ?_|with_reducible refine ln _ _ _ _ _ _ _ ?_|wp_step))
 refine codeAny_call_builtin F.excAttr_ValueError.ga.plain F.entry_bexc_ga (kT atC hB atE clE (il atC hO lc atE clE ?_))
 repeat (any_goals (first|assumption|wp_step))
theorem ji{Q:Option Value->Shared->Prop}(atC:h.get? C=some (excClassObj nm q C N bs bm hdct sn sub ab col dd k0 k1 k2 k3 k5 newId))(hO:bm.contains (.type "object")=true)(hB:bm.contains (.type "BaseException")=true)
  (lc:Lk (model prog w) h (typeLookup (.ref C) "__class__") (some (.builtin "object.__class__"))) (lg:Lk (model prog w) h (typeLookup (.ref C) "__getattribute__") (some (.builtin "BaseException.__getattribute__"))) (ln:Lk (model prog w) h (typeLookup (.ref C) "__getattr__") none)
  (atE:h.get? a=some o) (clE:o.cls = .ref C) (fin:Q (some (.ref C)) ⟨h,g,d,t+1,os⟩) :
  wpAny (model prog w) A (getAttr? (.ref a) "__class__") Q E ⟨h,g,d,t,os⟩:=by
 unfold getAttr?
 repeat (any_goals (first|assumption|with_reducible refine kS atC hO hB lc lg ln atE clE ?_|wp_step))
end
end PySem
namespace L2
open PySem PySem.Spec PyProof.Rows
noncomputable def nN(C a:Addr):HO:=.ext λh=>∃o,h.get? a=some o/\o.cls = .ref C
theorem uU{P:Program}{w:World}{H:Hp}{h:Heap}{a C:Addr}(e:∃o,h.get? a=some o/\o.cls = .ref C):a6 P w H h a (nN C a) :=
 ⟨e,let ⟨o,e1,_⟩:=e;⟨o,e1⟩,λ_ _ ⟨o,e1,e2⟩ k=>⟨o,k o e1,e2⟩⟩
structure ES(K:W.Frag)(C:Addr):Prop where
 ga:W.findIn K (.ref C) "__getattribute__" = some (some (.builtin "BaseException.__getattribute__"))
 gn:W.findIn K (.ref C) "__getattr__" = some none
 cl:W.findIn K (.ref C) "__class__" = some (some (.builtin "object.__class__"))
theorem rA{K:W.Frag}{M:Model}{h:Heap}{C:Addr}{n:Str}{r:Option Value}(X:K.In h)(e:W.findIn K (.ref C) n=some r):Lk M h (typeLookup (.ref C) n) r :=
 λ_ _ _ _ _ _ _ q=>(W.looks_findIn X e).here q
theorem iY{K:W.Frag}{mg:Str->Option Value}{n:Str}{C a:Addr}(O:Ac K mg n C)(f:ES K C):W.KitX K (.ref a) (.ref C) (λh=>∃o,h.get? a=some o/\o.cls = .ref C) where
 ty:=λM h _ p=>by
  obtain⟨o,e1,e2⟩:=p;exact e2▸(W.Looks.ld e1).andThen .now
 it:=λM h X _=>by
  obtain⟨bm,N',nm,qn,bs,hd,sn,sub,ab,col,dd,k0,k1,k2,k3,k5,mN,atC,_⟩:=O.obj h X;intro A' Q' E' s' k q;unfold isType loadHead;exact wpAny_bind (wpAny_loadPart (k _ _ atC) (wpAny_pure q))
 ne:=λh tp dd' its n' sl X htp=>by
  obtain⟨bm,N',nm,qn,bs,hd,sn,sub,ab,col,dd,k0,k1,k2,k3,k5,mN,atC,_⟩:=O.obj h X;refine Bool.eq_false_iff.mpr λq=>?_;cases Value.ref.inj (beq_iff_eq.mp q);rw[atC]at htp;have z:=congrArg Obj.cls (Option.some.inj htp);exact absurd (Value.type.inj z) (by decide)
 ca:=λ{prog w A E Q s} X p k=>by
  obtain⟨h,g,d,t,os⟩:=s;obtain⟨o,e1,e2⟩:=p;obtain⟨bm,N',nm,qn,bs,hd,sn,sub,ab,col,dd,k0,k1,k2,k3,k5,mN,atC,_,_,T⟩:=O.obj h X;exact ji atC (T.hasType (by decide +kernel)) (T.hasType (by decide +kernel)) (rA X f.cl) (rA X f.ga) (rA X f.gn) e1 e2 k
section
variable {X:Cx}
inductive Fl (K:W.Frag) (C:Addr) (xs:List V) (H:Hp) (Q:VK):Prop
 | mk:∀(a:Addr) (v:V) (b:Bool),(xs = [.ref a,v])->(H a=some (nN C a))->(((∃D,v = .ref D/\W.kitOne K (.ref C) (.ref D)=some b)\/(∃T,v = .ty T/\W.kitOne K (.ref C) (.type T)=some b)\/(∃(p:Addr) (ds:List Addr),v = .ref p/\H p=some (.tup (ds.map V.ref))/\W.kitAny K (.ref C) (ds.map Value.ref)=some b)))->(Q (.bl b) H)->Fl K C xs H Q
theorem jA:∀{ds:List Addr} {us:List Value},aJ (ds.map V.ref) us->us=ds.map Value.ref
 | [],us,r=>by cases r;rfl
 | d::ds,us,r=>by
  cases r with
  | cons h t =>
   rw[jA t];cases h;rfl
theorem nR{n:Str}{C:Addr}(O:Ac X.K X.mg n C)(f:ES X.K C):cU X (.builtin "isinstance") (Fl X.K C):=by
 intro pins s σ H xs us Q I rs h;obtain⟨a,v,b,rfl,ea,hv,q⟩:=h;obtain⟨u,u',rfl,ru,rv⟩:=og rs;cases ru;have p:∃o,s.heap.get? a=some o/\o.cls = .ref C:=(show a6 X.prog X.w H s.heap a (nN C a) from I.hok a _ ea).1;rcases hv with⟨D,rfl,e⟩|⟨T,rfl,e⟩|⟨p',ds,rfl,et,e⟩
 ·cases rv
  exact W.kia_one (iY O f) I.kIn p e (by intro z;cases z) λtk=>⟨.bl _,H,I.tok _,rfl,q⟩
 ·cases (show u'=Value.type T from rv)
  exact W.kia_one (iY O f) I.kIn p e (by intro z;cases z) λtk=>⟨.bl _,H,I.tok _,rfl,q⟩
 ·cases rv
  obtain⟨_,its,rv',⟨oc,odi,oda,osl⟩,eo,ec,nn,ed⟩:=I.hok _ _ et;dsimp only at ec ed;subst ec ed;cases jA rv';exact W.kia_tup (iY O f) I.kIn p eo e (by intro z;cases z) λtk=>⟨.bl _,H,I.tok _,rfl,q⟩
end
section
variable {X:Cx} {pins:List (Addr×Obj)} {σ:St} {H:Hp} {s:Shared}
theorem zg.track{a:Addr}{o:HO}(I:zg X pins σ H s)(hn:H a=none)(h0:X.s₀.heap.get? a=none)(hl:a≠X.env.locals)(hc:∀x c,X.env.cells.lookup x=some c->c≠a)(hp:∀p∈X.pn++pins,p.1≠a)
  (ho:a6 X.prog X.w (upd H a o) s.heap a o):zg X pins σ (upd H a o) s where
 ok:=I.ok
 os:=I.os
 bare:=I.bare
 base:={
  keep:=I.base.keep
  slot:=I.base.slot
  free:=λb ob e n hx=>by
   rw[aF (λz=>by subst z;rw[h0]at e;cases e)];exact I.base.free b ob e n hx
  there:=I.base.there
  tups:=λb xs q=>by
   have z:=I.base.tups b xs q;rw[aF (aT z hn)];exact z
  frzs:=λb ob u q=>by
   have z:=I.base.frzs b ob u q;rw[aF (aT z hn)];exact z
  tbls:=λb ps q=>by
   obtain⟨m,z⟩:=I.base.tbls b ps q;exact⟨m,by rw[aF (aT z hn)];exact z⟩ }
 loc:=I.loc
 cell:=I.cell
 free:=by rw[aF (Ne.symm hl)];exact I.free
 freeC:=λx c e=>by rw[aF (hc x c e)];exact I.freeC x c e
 pin:=λp m=>by
  obtain⟨p1,p2,p3⟩:=I.pin p m;exact⟨p1,by rw[aF (hp p m)];exact p2,p3⟩
 hok:=λb u q=>by
  by_cases hb:b=a
  ·subst hb
   rw[upd_same]at q;cases q;exact ho
  ·rw[aF hb]at q
   exact(I.hok b u q).stay (λ_ _ _ r=>r) (λc r=>by rw[aF (aT r hn)];exact r) λc xs r=>by rw[aF (aT r hn)];exact r
 len:=I.len
theorem iB{M:Model}{A:Around}{E:Value->Shared->Prop}{i:Nat}{x:Str}{pos:Pos}{Q:Unit->Shared->Prop}(I:zg X pins σ H s)(hN:X.N.Nodup)(hi:X.N[i]? = some x)(hk:X.env.kindOf x=some .local)
  (h:∀s',zg X pins (σ.set i none) H s'->Q () s'):wpAny M A (do bindName X.env x .none;unbindBehindTheSuite X.env x pos) Q E s:=by
 obtain⟨m,hn,hl⟩:=id I.loc;have plain:(X.env.scope.kind == .class || (X.env.scope.kind == .module && X.env.locals != X.env.globals))=false:=by rw[I.ok.kind];rfl
 have iσ:i<σ.length:=by rw[I.len];exact(List.getElem?_eq_some_iff.mp hi).1
 have cne:=I.cne;refine wpAny_nameGoes_keeps hk hn plain (λh' v hn' sb=>?_);have far:∀{b:Addr} {o:Obj},X.s₀.heap.get? b=some o->b≠X.env.locals:=λe=>Nat.ne_of_lt (Nat.lt_of_lt_of_le (Heap.lt_size e) I.ok.above);refine h _ ⟨I.ok,I.os,I.bare,⟨λb o e n hb hx=>(sb.2 b (far e)).trans (I.base.keep b o e n hb hx),λb o e n hb hx=>?_,I.base.free,λb o e hx=>?_,I.base.tups,I.base.frzs,I.base.tbls⟩,⟨_,hn',λj y v' e1 e2 e3=>?_⟩,λy c e=>?_,I.free,I.freeC,λp hp=>?_,λb ob e=>?_,by simpa using I.len⟩
 ·obtain⟨sl,z⟩:=I.base.slot b o e n hb hx
  exact⟨sl,(sb.2 b (far e)).trans z⟩
 ·obtain⟨o',z⟩:=I.base.there b o e hx
  exact⟨o',(sb.2 b (far e)).trans z⟩
 ·by_cases hj:j=i
  ·subst hj
   rw[List.getElem?_set_self iσ]at e2;cases e2
  ·rw[List.getElem?_set_ne (Ne.symm hj)]at e2
   obtain⟨u',r',q⟩:=hl j y v' e1 e2 e3;refine⟨u',r',?_⟩;rcases q with⟨k,e⟩|⟨k,c,e,z⟩
   ·have ny:y≠x:=λe=>hj (iT hN e1 (e▸hi))
    exact .inl ⟨k,by simp[ny,e]⟩
   ·exact .inr ⟨k,c,e,z.sameBut sb (cne y c e)⟩
 ·obtain⟨w',z⟩:=I.cell y c e
  exact⟨w',z.sameBut sb (cne y c e)⟩
 ·obtain⟨e,n,ne,nf,d⟩:=I.pin p hp
  exact⟨(sb.2 p.1 ne).trans e,n,ne,nf,d⟩
 ·refine(I.hok b ob e).stay (λc w' hc q=>(sb.2 c ?_).trans q) (λ_ q=>q) λ_ _ q=>q
  rintro rfl;rcases hc with rfl|hc
  ·rw[I.free]at e
   cases e
  ·rw[I.free]at hc
   cases hc
end
noncomputable def AL.drop(D:AL)(i:Nat):AL:={ nx:=λσ H=>D.nx (σ.set i none) H,rt:=D.rt,bk:=λσ H=>D.bk (σ.set i none) H,ct:=λσ H=>D.ct (σ.set i none) H }
section
variable {X:Cx}
theorem p8{pins:List (Addr×Obj)}{σ:St}{H:Hp}{s s':Shared}{E1:XK}{ev:Value}{x en:Str}{B C:Addr}{np pos:Pos}{b0:Stmt}{suite:List Stmt}{rest:List ExceptHandler}{D:AL}{th:TS}{Ex:Value->Shared->Prop}{i:Nat}
  (I:zg X pins σ H s) (stk:X.stack=X.env::X.outer) (hf:X.env.frame=some X.env.locals) (O:Ac X.K X.mg x B) (hg:Gl X x) (hm:W.exmOne X.K (.ref C) (.ref B)=some true) (hex:X.ex = []) (hN:X.N.Nodup) (hi:X.N[i]? = some en) (hk:X.env.kindOf en=some .local) (h:CXE X.prog X.w X.stack H s E1 ev s')
  (hE:∀c o H',E1 c o H'->c = .ref C/\∀e:Addr,H' e=none->th (D.drop i) (σ.set i (some (.ref e))) (upd H' e (nN C e))) (hb:∀e:Addr,PSs (X.inH e) (b0::suite) th) (hdb:(x == ("__debug__" : Str))=false:=by decide) :
  wpAny (model X.prog X.w) X.A (noteFrame ev X.env) (λ_ s2=>wpAny (model X.prog X.w) X.A (setFlight ev none) (λ_ s3 =>
   wpAny (model X.prog X.w) X.A (handleBy ev X.env (.ExceptHandler (some (.Name x np)) (some en) (b0::suite) pos::rest)) (SP X pins D) Ex s3) Ex s2) Ex s':=by
 obtain⟨ea,t,cls,H',B',rfl,os,bare,un,hok,fl,big,q⟩:=h;obtain⟨rfl,rd⟩:=hE _ _ _ q;have hfr:=I.ok.frames;rw[stk]at hfr;have fr:∀b∈frs X.stack,H b=none/\∀o,s'.heap.get? b=some o->∀vs,o.data≠.fields vs:=λb hb=>⟨I.stkFree b hb,λo eo=>by
  obtain⟨_,o',eo',nf⟩:=fl.2.2.1.mem hb;rw[eo]at eo';cases eo';exact nf⟩
 have J:∀h2:Heap,B'.StaysIn h2->s'.heap.UpToSlots h2->zg X pins σ H' { s' with heap:=h2 }:=λh2 st2 sl =>
  I.call' (s':={ s' with heap:=h2 }) (ch:=[]) os (Un.fly un big fl.1 st2 sl fr) (HOk.fly hok big fl.1 st2) bare λb z=>absurd z (by simp)
 have hn:H' ea=none:=by
  cases hz:H' ea with
  | none=>rfl
  | some o =>
   obtain⟨ob,e⟩:=big.tr ea o hz;rw[fl.2.1]at e;cases e
 have new:∀b o,s.heap.get? b=some o->b≠ea:=λb o e z=>by
  subst z
  by_cases hb:b∈frs X.stack
  ·obtain⟨_,o',eo',nf⟩:=fl.2.2.1.mem hb
   obtain⟨oe',vs,e1,_,e2,_⟩:=fl.first
   rw[eo']at e1;cases e1;exact nf vs e2
  ·obtain⟨ob,e1⟩:=big.old b o e hb
   rw[fl.2.1]at e1;cases e1
 have fl0:=fl;rw[stk]at fl0;refine wpAny_looks_onW (L:=X.env.locals) hfr hf fl0 λh4 hheld up4=>?_;refine wpAny_landsW hheld λh5 fl5 up5=>?_;have up45:=up4.trans up5;have I5:=(J h5 fl5.1 up45).inH ea;obtain⟨oe,he,hc⟩:=fl5.there;refine wpAny_handleBy_cons (codeAny_handlers_test (eZ I5 hg O.bound ?_ hdb)) (by intro z;cases z);have LT:W.Looks (model X.prog X.w) h5 (typeOf (.ref ea)) (.ref C):=hc▸(W.Looks.ld he).andThen .now;refine(W.exm_one I5.kIn LT hm).here (codeAny_handlers_suite_as ?_);refine lands_againW fl5 λh6 fl6 up6=>?_;have I6:=(J h6 fl6.1 (up45.trans up6)).inH ea;have I7:=I6.track (a:=ea) (o:=nN C ea) hn (by
  cases hz:X.s₀.heap.get? ea with
  | none=>rfl
  | some o =>
   obtain⟨o',e⟩:=I.base.there ea o hz (by rw[hex];exact List.not_mem_nil);exact absurd rfl (new ea o' e)) (λz=>by
  obtain⟨m,⟨o',_,_,e,_⟩,_⟩:=I.loc;exact new _ o' e z.symm) (λy c e z=>by
  obtain⟨v,o',e',_⟩:=I.cell y c e;exact new _ o' e' z) (λp hp z=>new _ _ (I.pin p hp).1 z) (uU fl6.there)
 refine iH (X:=X.inH ea) I7 hN hi (.inl hk) (show aN (.ref ea) (.ref ea) from rfl) (λs8 I8=>?_) (.inr hk);refine wpAny_mono (hb ea pins _ _ _ (D.drop i) I8 (rd ea hn)) (λf s9 z=>?_) λ_ _ z=>False.elim z;cases f with
 | next =>
  obtain⟨σ',H2,I9,q9⟩:=z;exact iB (I9.outH I.ok) hN hi hk λs10 I10=>⟨_,_,I10,q9⟩
 | brk =>
  obtain⟨σ',H2,I9,q9⟩:=z;exact iB (I9.outH I.ok) hN hi hk λs10 I10=>⟨_,_,I10,q9⟩
 | cont =>
  obtain⟨σ',H2,I9,q9⟩:=z;exact iB (I9.outH I.ok) hN hi hk λs10 I10=>⟨_,_,I10,q9⟩
 | ret u =>
  obtain⟨v,σ',H2,I9,r,q9⟩:=z;exact iB (I9.outH I.ok) hN hi hk λs10 I10=>⟨v,_,_,I10,r,q9⟩
end
end L2
namespace Sp8
open PySem PySem.Spec L2 Mth Sp1 Sp2 Sp3
end Sp8
namespace L2
open PySem PySem.Spec PyProof.Rows
theorem jx:bootBuiltins "ValueError" = some (.type "ValueError"):=by decide +kernel
theorem SqT.mod{K:W.Frag}{H:Hp}{a:Addr}{oc:Value}{od:Option Addr}{its:Array Value}{n:Nat}{sl:Array (Option Value)}{xs:List V}(hk:K.lookup a=some ⟨oc,od,.seq its n,sl⟩)(hc:oc = .type "tuple")(hz:its.size<=100)(r:aJ xs its.toList):SqT K H a xs :=
 .inr ⟨_,its,n,hk,hc,rfl,Nat.le_of_lt (aR (by omega)),r⟩
end L2
namespace Sp24
open PySem PySem.Spec L2 Mth Sp1 Sp2 Sp3 Sp8
noncomputable def sg(n:Int):Int:=if n>0 then 1 else if n<0 then -1 else 0
noncomputable def ssq(n:Int):Int:=n*(if n<0 then -n else n)
noncomputable def swr(w p u:Int):Int:=sg (ssq w+ssq p*u)
noncomputable def bH(w p u s b:Int):Int:=if sg w*sg (ssq p*u+ssq s*b)>=0 then sg (sg w+sg (ssq p*u+ssq s*b)) else sg w*swr (w*w - p*p*u - s*s*b) (-2*p*s) (u*b)
noncomputable def ro(a0 a1 a2 a3 b0 b1 b2 b3:Int):Int:=bH (a0*b3 - b0*a3) (a1*b3) a2 (-b1*a3) b2
theorem iK(n:Int):-1<=sg n/\sg n<=1:=by
 unfold sg
 split
 ·omega
 ·split <;> omega
theorem ip(n:Int):ap (sg n)<=10:=dj (by have:=iK n;omega) (by have:=iK n;omega)
theorem iI{n:Int}{k:Nat}(h:ap n<=k):ap (ssq n)<=k+k:=bits_mul h (bits_abs h)
inductive Bb (vs:List V) (H:Hp) (Q:VK) (x_3:XK):Prop
 | mk:∀n:Int,(vs = [.int n])->(Q (.int (sg n)) H)->Bb vs H Q x_3
structure Rt(K:W.Frag)(H:Hp)(p:Addr)(a0 a1 a2 a3:Int):Prop where
 at_:SqT K H p [.int a0,.int a1,.int a2,.int a3]
 b0:ap a0<=450
 b1:ap a1<=450
 b2:ap a2<=1000
 b3:ap a3<=450
inductive D3 (K:W.Frag) (vs:List V) (H:Hp) (Q:VK) (x_3:XK):Prop
 | mk:∀(p q:Addr) (a0 a1 a2 a3 b0 b1 b2 b3:Int),(vs = [.ref p,.ref q])->(Rt K H p a0 a1 a2 a3)->(Rt K H q b0 b1 b2 b3)->(Q (.int (ro a0 a1 a2 a3 b0 b1 b2 b3)) H)->D3 K vs H Q x_3
structure Cn(H:Hp)(p:Addr)(x y:Int):Prop where
 at_:H p=some (.tup [.int x,.int y])
 bx:ap x<=50
 by_:ap y<=50
theorem Cn.mono{H H':Hp}{p:Addr}{x y:Int}(c:Cn H p x y)(s:Same H H'):Cn H' p x y:=⟨s _ _ c.at_,c.bx,c.by_⟩
structure Sq(H:Hp)(p:Addr)(a b:Int):Prop where
 at_:H p=some (.tup [.int a,.int b])
 ba:ap a<=230
 bb:ap b<=130
theorem Sq.mono{H H':Hp}{p:Addr}{x y:Int}(c:Sq H p x y)(s:Same H H'):Sq H' p x y:=⟨s _ _ c.at_,c.ba,c.bb⟩
noncomputable def lo(x y x' y' a b:Int):Int:=sg (a - ((x' - x)*(x' - x)+(y' - y)*(y' - y))*b)
inductive EI (vs:List V) (H:Hp) (Q:VK) (x_3:XK):Prop
 | mk:∀(p q r:Addr) (x y x' y' a b:Int),(vs = [.ref p,.ref q,.ref r])->(Cn H p x y)->(Cn H q x' y')->(Sq H r a b)->(Q (.int (lo x y x' y' a b)) H)->EI vs H Q x_3
noncomputable def cg(bx by_ ex ey:Int):Int:=(ex - bx)*(ex - bx)+(ey - by_)*(ey - by_)
noncomputable def rAl(cx cy bx by_ ex ey:Int):Int:=(cx - bx)*(ex - bx)+(cy - by_)*(ey - by_)
noncomputable def rBe(cx cy bx by_ ex ey:Int):Int:=(cx - bx)*(ey - by_) - (cy - by_)*(ex - bx)
noncomputable def rUn(cx cy bx by_ ex ey a b:Int):Int:=b*(a*cg bx by_ ex ey - b*rBe cx cy bx by_ ex ey*rBe cx cy bx by_ ex ey)
inductive CL (vs:List V) (H:Hp) (Q:VK) (x_3:XK):Prop
 | mk:∀(pc pb pe ps:Addr) (cx cy bx by_ ex ey a b:Int),(vs = [.ref pc,.ref pb,.ref pe,.ref ps])->(Cn H pc cx cy)->(Cn H pb bx by_)->(Cn H pe ex ey)->(Sq H ps a b)->(∀r H',Same H H'->H' r=some (.tup [.int (rAl cx cy bx by_ ex ey*b),.int (rUn cx cy bx by_ ex ey a b),.int (cg bx by_ ex ey*b)])->Q (.ref r) H')->CL vs H Q x_3
noncomputable def pwN(cx cy bx by_ ex ey a b room:Int):Bool :=
 if [bx,by_] = [ex,ey] then !decide (lo cx cy bx by_ a b>=room)
 else decide (sg (rUn cx cy bx by_ ex ey a b)<room) || (decide (ro 1 0 0 1 (rAl cx cy bx by_ ex ey*b) (-1) (rUn cx cy bx by_ ex ey a b) (cg bx by_ ex ey*b)<room) ||
  decide (ro (rAl cx cy bx by_ ex ey*b) 1 (rUn cx cy bx by_ ex ey a b) (cg bx by_ ex ey*b) 0 0 0 1<room))
noncomputable def sqV(H:Hp):V->Bool
 | .ref p=>match H p with
  | some (.tup [.int a,.int b])=>lowB a b && !decide (a<0)
  | _=>false
 | _=>false
inductive B2 (C:Addr) (vs:List V) (H:Hp) (Q:VK) (E:XK):Prop
 | mk:∀x,(vs = [x])->(Al H x)->((sqV H x=false->E (.ref C) none H))->((sqV H x=true->Q .non H))->B2 C vs H Q E
theorem tF{H:Hp}{x:V}(h:g7 H x=false):sqV H x=false:=by
 unfold sqV
 split
 ·split
  ·rename_i p _ a b e
   rw[rg e]at h;rw[h,Bool.false_and]
  ·rfl
 ·rfl
theorem tm{H:Hp}{p:Addr}{a b:Int}(e:H p=some (.tup [.int a,.int b])):sqV H (.ref p)=(lowB a b && !decide (a<0)):=by
 simp only[sqV,e]
end Sp24
namespace L2
open PySem PySem.Spec PyProof.Rows
theorem xi:bootBuiltins "all" = some (.builtin "all"):=by decide +kernel
theorem yw{bs:List Bool}{us:List Value}{i:Nat}{v:Value}(r:aJ (bs.map V.bl) us)(h:us[i]? = some v):∃b,bs[i]? = some b/\v = .bool b:=by
 have hl:=r.length;rw[List.length_map]at hl;have hi:i<us.length:=(List.getElem?_eq_some_iff.mp h).1;have hj:i<bs.length:=by omega
 obtain⟨u,e,q⟩:=r.get (i:=i) (x:=.bl bs[i]) (by rw[List.getElem?_map,List.getElem?_eq_getElem hj];rfl);rw[h]at e;cases e;exact⟨bs[i],List.getElem?_eq_getElem hj,q⟩
theorem qh(bs:List Bool):((List.range bs.length).all λi=>(bs[i]?).getD true)=bs.all id:=by
 rw[Bool.eq_iff_iff];simp only[List.all_eq_true,List.mem_range,id];constructor
 ·intro h b hb
  obtain⟨i,hi,rfl⟩:=List.mem_iff_getElem.mp hb;have z:=h i hi;rw[List.getElem?_eq_getElem hi]at z;exact z
 ·intro h i hi
  rw[List.getElem?_eq_getElem hi];exact h _ (List.getElem_mem hi)
theorem sD{X:Cx}(hc:X.calm=true):cU X (.builtin "all") (λxs H Q=>∃(p:Addr) (bs:List Bool),xs = [.ref p]/\SqL X.K H p (bs.map V.bl)/\Q (.bl (bs.all id)) H):=by
 intro pins s σ H xs us Q I r h;obtain⟨p,bs,rfl,hq,q⟩:=h;obtain⟨u,rfl,rx⟩:=fw r;cases rx;obtain⟨its,rv,pl,_⟩:=I.list hq;have hl:=pl.isList;have lt:p<s.heap.objs.size:=by
  obtain⟨_,e,_⟩:=hl;exact Heap.lt_size e
 refine call_all_walk (wpAny_pyIter_list hl ?_);refine⟨s.heap.objs.size,[s.heap.objs.size,p],[s.heap.objs.size],its.toArray.size,_,_,λi=>(bs[i]?).getD true,rfl,Walks.list (A:=X.A.in1) (I.ok.hd hc) _ p (Nat.ne_of_lt lt) its.toArray,?_⟩;refine⟨⟨⟨_,Heap.get?_push_size _ rfl,rfl,rfl⟩,hl.push _⟩,λi v s' Q' E' hP hQ=>?_,λh' tk hk=>?_⟩
 ·obtain⟨b,e,rfl⟩:=yw rv (by simpa using hP)
  simp only[e,Option.getD_some]at hQ;exact wpAny_truthy_bool hQ
 ·have el:its.toArray.size=bs.length:=by
   have:=rv.length;rw[List.length_map]at this;rw[List.size_toArray];omega
  rw[el,qh];refine⟨.bl _,H,I.kept (t':=tk) λb o e=>?_,rfl,q⟩;exact hk b o (λhm=>by rw[List.mem_singleton.mp hm]at e;exact Nat.lt_irrefl _ (Heap.lt_size e)) (Heap.get?_push_of_some _ e)
end L2
namespace Sp7
open PySem PySem.Spec L2 Mth Sp1 Sp2 Sp3
noncomputable def uz:Int:=999999999999
noncomputable def Sm(x:Int):Prop:=-uz<=x/\x<=uz
structure LineM(H:Hp)(l:Addr)(qs:Crn):Prop where
 lst:H l=some (.lst (qs.map λq=>V.ref q.1))
 crn:∀q∈qs,H q.1=some (.tup [.int q.2.1,.int q.2.2])/\Sm q.2.1/\Sm q.2.2
theorem LineM.mono{H H':Hp}{l:Addr}{qs:Crn}(L:LineM H l qs)(s:Same H H'):LineM H' l qs:=⟨s _ _ L.lst,λq h=>⟨s _ _ (L.crn q h).1,(L.crn q h).2⟩⟩
noncomputable def retScope(s:Stmt):Scope:=match s with
 | .Return (some (.Call _ [.ListComp _ _ sc _] _ _)) _=>sc
 | .Return (some (.ListComp _ _ sc _)) _=>sc
 | _=>{ kind:=.function,names:=[],isGenerator:=false,isCoroutine:=false }
end Sp7
namespace L2
open PySem PySem.Spec PyProof.Rows
theorem Same.at{H H':Hp}{b:Addr}{o:HO}(s:Same H H')(e:H b=some o):H' b=some o:=s b o e
theorem Same.rfl'{H:Hp}:Same H H:=λ_ _ e=>e
theorem alloc{H:Hp}{o:HO}{Q:Addr->Hp->Prop}(h:∀p H1,Same H H1->H1 p=some o->Q p H1):∀p,H p=none->Q p (upd H p o):=λp hp=>h p _ (Same.new hp) upd_same
theorem bits_add2{i j:Int}{m n:Nat}(hi:ap i<=m)(hj:ap j<=n):ap (i+j)<=max m n+1:=ci (ar hi (Nat.le_max_left _ _)) (ar hj (Nat.le_max_right _ _))
theorem bC{p:Prop}[Decidable p](h:decide p=true):p:=of_decide_eq_true h
theorem bP{p:Prop}[Decidable p](h:decide p=false):¬p:=of_decide_eq_false h
theorem CM.of{i j:Int}{m n:Nat}(hi:ap i<=m)(hj:ap j<=n)(h:m<=1000000/\n<=1000000):CM i j:=CM.b hi hj (by have:(2:Nat)^20=1048576:=(by decide);omega) (by have:(2:Nat)^20=1048576:=(by decide);omega)
theorem bits_of_le{i:Int}{m n:Nat}(h:ap i<=m)(hm:m<=n):ap i<=n:=Nat.le_trans h hm
noncomputable def SameT(H H':Hp):Prop:=∀b xs,H b=some (.tup xs)->H' b=some (.tup xs)
theorem Same.t{H H':Hp}(s:Same H H'):SameT H H':=λb xs e=>s b _ e
theorem SameT.trans{H H1 H2:Hp}(a:SameT H H1)(b:SameT H1 H2):SameT H H2:=λc xs e=>b c xs (a c xs e)
theorem SameT.upd{H:Hp}{l:Addr}{xs ys:List V}(hl:H l=some (.lst xs)):SameT H (upd H l (.lst ys)):=λb zs e=>by
 rw[aF (oF e hl (by intro z;cases z))];exact e
theorem Same.upd{H0 H:Hp}{l:Addr}{o:HO}(s:Same H0 H)(hl:H0 l=none):Same H0 (upd H l o):=λb u e=>by
 rw[aF (aT e hl)];exact s b u e
noncomputable def nZ(J:It)(fv:List (Str×Nat))(te:TE)(σ:St)(H1:Hp)(Q:VK):Prop:=∀p,H1 p=none->∃W:Nat->Nat->List V->Hp->Prop,(∃m,W 0 m [] (upd H1 p (.lst [])))/\∀i m acc H2,W i m acc H2 ->
 H2 p=some (.lst acc)/\acc.length<sizeLine/\((J.stop i H2/\Q (.ref p) H2)\/(J.go i H2/\∀x H3,J.yld i H2 x H3->te (some x::fvs fv σ) H3 λy H4=>H4 p=some (.lst acc)/\∃m',m'<m/\W (i+1) m' (acc++[y]) (upd H4 p (.lst (acc++[y])))))
noncomputable def vS(wi:TI)(fv:List (Str×Nat))(te:TE):TE:=λσ H Q=>wi σ H λJ H1=>nZ J fv te σ H1 Q
section
variable {X:Cx} {scope:Scope} {cl:List (Str×Addr)} {x:Str} {fv:List (Str×Nat)} {elt iter:Expr} {px pos:Pos} {te:TE}
theorem dF{wi:TI}(hcalm:X.calm=true)(C:A6 X scope cl x fv)(hi:PI X (.Name x px) iter wi)(he:∀(fp:List Addr) (s₀:Shared) (H₀:Hp),PE (X.blk (x::fv.map (·.1)) scope cl fp s₀ H₀) elt te)
  (hs:∀v,foldedSetIterable iter X.env v=pure v:=by intro _;rfl):PE X (.ListComp elt [⟨.Name x px,iter,[],0⟩] scope pos) (vS wi fv te):=tY hcalm C hi he hs
end
theorem kR{K:W.Frag}{a:Addr}{xs:List V}{fv:List (Str×Nat)}{te:TE}{σ:St}{H1:Hp}{Q:VK}(hL:SqL K H1 a xs)(hlen:xs.length<1000)(R:Nat->V->Hp->Prop)(hR:∀i v H H',SameT H H'->R i v H->R i v H')
  (hs:∀i x H2 (Kc:VK),xs[i]? = some x->Same H1 H2->(∀y H4,Same H2 H4->R i y H4->Kc y H4)->te (some x::fvs fv σ) H2 Kc)
  (hd:∀l ys H',H1 l=none->Same H1 H'->H' l=some (.lst ys)->ys.length=xs.length->(∀i y,ys[i]? = some y->R i y H')->Q (.ref l) H') :
  nZ (Itl K a) fv te σ H1 Q:=by
 intro l hl;refine p6 (K:=K) (a:=a) (xs:=xs) (l:=l) (fv:=fv) (Qp:=λH2=>Q (.ref l) H2) (λi acc H2=>acc.length=i/\Same H1 H2/\H2 l=some (.lst acc)/\∀j y,acc[j]? = some y->R j y H2)
  ⟨rfl,Same.new hl,upd_same,λj y h=>by simp at h⟩ ?_ ?_ ?_
 ·rintro i acc H2 hi ⟨e1,sm,e3,_⟩
  exact⟨sm.seq hL,e3,aR (by omega)⟩
 ·rintro i x acc H2 Kc hx ⟨e1,sm,e3,hr⟩ kk
  refine hs i x H2 Kc hx sm λy H4 s4 ry=>kk y H4 (s4 _ _ e3) ⟨by simp[e1],(sm.trans s4).upd hl,upd_same,λj z hz=>?_⟩;have t4:=SameT.upd (ys:=acc++[y]) (s4 _ _ e3);rcases Nat.lt_trichotomy j acc.length with h|h|h
  ·rw[List.getElem?_append_left h]at hz
   exact hR _ _ _ _ (s4.t.trans t4) (hr j z hz)
  ·subst h
   rw[List.getElem?_append_right (Nat.le_refl _),Nat.sub_self]at hz;cases hz;rw[e1];exact hR _ _ _ _ t4 ry
  ·rw[List.getElem?_eq_none (by simp;omega)]at hz
   cases hz
 ·rintro acc H2 ⟨e1,sm,e3,hr⟩
  exact hd l acc H2 hl sm e3 e1 hr
theorem o8{n:Nat}{lo:Int}{fv:List (Str×Nat)}{te:TE}{σ:St}{H1:Hp}{Q:VK}(hlen:n<1000)(R:Nat->V->Hp->Prop)(hR:∀i v H H',SameT H H'->R i v H->R i v H')
  (hs:∀i H2 (Kc:VK),i<n->Same H1 H2->(∀y H4,Same H2 H4->R i y H4->Kc y H4)->te (some (.int (lo+i))::fvs fv σ) H2 Kc)
  (hd:∀l ys H',H1 l=none->Same H1 H'->H' l=some (.lst ys)->ys.length=n->(∀i y,ys[i]? = some y->R i y H')->Q (.ref l) H') :
  nZ (Itr lo n) fv te σ H1 Q:=by
 intro l hl;refine nQ (n:=n) (lo:=lo) (l:=l) (fv:=fv) (Qp:=λH2=>Q (.ref l) H2) (λi acc H2=>acc.length=i/\Same H1 H2/\H2 l=some (.lst acc)/\∀j y,acc[j]? = some y->R j y H2)
  ⟨rfl,Same.new hl,upd_same,λj y h=>by simp at h⟩ ?_ ?_ ?_
 ·rintro i acc H2 hi ⟨e1,sm,e3,_⟩
  exact⟨e3,aR (by omega)⟩
 ·rintro i acc H2 Kc hx ⟨e1,sm,e3,hr⟩ kk
  refine hs i H2 Kc hx sm λy H4 s4 ry=>kk y H4 (s4 _ _ e3) ⟨by simp[e1],(sm.trans s4).upd hl,upd_same,λj z hz=>?_⟩;have t4:=SameT.upd (ys:=acc++[y]) (s4 _ _ e3);rcases Nat.lt_trichotomy j acc.length with h|h|h
  ·rw[List.getElem?_append_left h]at hz
   exact hR _ _ _ _ (s4.t.trans t4) (hr j z hz)
  ·subst h
   rw[List.getElem?_append_right (Nat.le_refl _),Nat.sub_self]at hz;cases hz;rw[e1];exact hR _ _ _ _ t4 ry
  ·rw[List.getElem?_eq_none (by simp;omega)]at hz
   cases hz
 ·rintro acc H2 ⟨e1,sm,e3,hr⟩
  exact hd l acc H2 hl sm e3 e1 hr
section
variable {X:Cx} {pos:Pos} {es:List Expr} {ta:TA}
inductive Fo (f:List V->HO) (xs:List V) (H1:Hp) (Q:VK):Prop
 | mk (z:xs.length<=sizeLine) (q:∀p H2,Same H1 H2->H2 p=some (f xs)->H1 p=none->Q (.ref p) H2):Fo f xs H1 Q
noncomputable def xA(t:TA):TE:=λσ H Q=>t σ H λxs H1=>Fo .tup xs H1 Q
noncomputable def xJ(t:TA):TE:=λσ H Q=>t σ H λxs H1=>Fo .lst xs H1 Q
theorem ay{x1}(h:PA X es ta):PE X (.Tuple es x1 pos) (xA ta):=by
 intro pins s σ H Q I hq;refine wpAny_Tuple_spliced (thn (h pos pins s σ H _ I hq) λus s1 ⟨xs,H1,I1,r,z,q⟩=>⟨by rw[<- r.length];exact z,?_⟩);have hf:H1 s1.heap.objs.size=none:=I1.hok.fresh (Nat.le_refl _);refine⟨.ref s1.heap.objs.size,upd H1 s1.heap.objs.size (.tup xs),I1.laid (t':=s1.toks) (λb u e=>Heap.get?_push_of_some _ e) (Nat.le_refl _) ?_,rfl,q _ _ (Same.new hf) upd_same hf⟩;exact⟨z,us,r,⟨_,Heap.get?_push_size _ rfl,rfl,_,rfl⟩⟩
theorem aU(h:PA X es ta):PE X (.List es pos) (xJ ta):=by
 intro pins s σ H Q I hq;refine wpAny_List_spliced (thn (h pos pins s σ H _ I hq) λus s1 ⟨xs,H1,I1,r,z,q⟩=>⟨by rw[<- r.length];exact z,?_⟩);have hf:H1 s1.heap.objs.size=none:=I1.hok.fresh (Nat.le_refl _);refine⟨.ref s1.heap.objs.size,upd H1 s1.heap.objs.size (.lst xs),I1.laid (t':=s1.toks) (λb u e=>Heap.get?_push_of_some _ e) (Nat.le_refl _) ?_,rfl,q _ _ (Same.new hf) upd_same hf⟩;exact⟨z,us,0,r,Heap.get?_push_size _ rfl⟩
inductive EW (K:W.Frag) (x:V) (lo:Option Int) (hi:Option Int) (H:Hp) (Q:VK):Prop
 | mk:∀a xs,(x = .ref a)->(SqL K H a xs)->(∀p H2,Same H H2->H2 p=some (.lst (fF xs lo hi))->H p=none->Q (.ref p) H2)->EW K x lo hi H Q
theorem fL:SlR X (EW X.K):=λpins s σ H x v vl vu lo hi sl Q I rx hs pl pu ⟨a,xs,e,hx,q⟩ =>
 tG pins s σ H x v vl vu lo hi sl Q I rx hs pl pu ⟨a,xs,e,hx,λp hp=>q p _ (Same.new hp) upd_same hp⟩
inductive EY (x:V) (y:V) (H:Hp) (Q:VK):Prop
 | mk:∀l b xs zs,(x = .ref l)->(y = .ref b)->(H l=some (.lst xs))->(H b=some (.lst zs))->(xs.length+zs.length<=sizeLine)->(∀p H2,Same H H2->H2 p=some (.lst (xs++zs))->H p=none->Q (.ref p) H2)->EY x y H Q
theorem ix:OpR X (binaryOp .Add) EY:=λpins s σ H x y v u Q I rx ry ⟨l,b,xs,zs,e1,e2,h1,h2,hz,q⟩ =>
 wB pins s σ H x y v u Q I rx ry ⟨l,b,xs,zs,e1,e2,h1,h2,hz,λp hp=>q p _ (Same.new hp) upd_same hp⟩
theorem jw:cU X (.type "list") (λxs H Q=>∃p ys,xs = [.ref p]/\(SqL X.K H p ys\/SqT X.K H p ys)/\∀l H2,Same H H2->H2 l=some (.lst ys)->H l=none->Q (.ref l) H2):=λpins s σ H xs us Q I r ⟨p,ys,e,hq,q⟩ =>
 kW pins s σ H xs us Q I r ⟨p,ys,e,hq,λl hl=>q l _ (Same.new hl) upd_same hl⟩
structure DB(H H':Hp)(l:Addr)(xs ys:List V):Prop where
 was:H l=some (.lst xs)
 now:H' l=some (.lst ys)
 oth:∀b,b≠l->H' b=H b
theorem DB.mk'{H:Hp}{l:Addr}{xs ys:List V}(h:H l=some (.lst xs)):DB H (L2.upd H l (.lst ys)) l xs ys:=⟨h,upd_same,λ_ n=>aF n⟩
theorem DB.t{H H':Hp}{l:Addr}{xs ys:List V}(u:DB H H' l xs ys):SameT H H':=λb zs e=>by
 rw[u.oth b (oF e u.was (by intro z;cases z))];exact e
theorem DB.same{H0 H H':Hp}{l:Addr}{xs ys:List V}(u:DB H H' l xs ys)(s:Same H0 H)(h:H0 l=none):Same H0 H':=λb o e=>by
 rw[u.oth b (aT e h)];exact s b o e
theorem DB.at{H H':Hp}{l b:Addr}{xs ys:List V}{o:HO}(u:DB H H' l xs ys)(n:b≠l)(e:H b=some o):H' b=some o:=by
 rw[u.oth b n];exact e
inductive Dl (x:V) (vs:List V) (H:Hp) (Q:VK):Prop
 | mk:∀l xs y,(x = .ref l)->(vs = [y])->(H l=some (.lst xs))->(xs.length<sizeLine)->(∀H',DB H H' l xs (xs++[y])->Q .non H')->Dl x vs H Q
theorem bK:MtM X "list.append" Dl:=λpins s σ H x xs v us Q I rx rs ⟨l,ys,y,e1,e2,h,hz,q⟩ =>
 gH pins s σ H x xs v us Q I rx rs ⟨l,ys,y,e1,e2,h,hz,q _ (.mk' h)⟩
inductive ED (o:V) (i:V) (v:V) (H:Hp) (Q:(Hp->Prop)):Prop
 | mk:∀p xs k j,(o = .ref p)->(i = .int k)->(H p=some (.lst xs))->(ixN xs.length k=some j)->(∀H',DB H H' p xs (xs.set j v)->Q H')->ED o i v H Q
theorem pD:xr X ED:=λpins s σ H o i v uo ui uv Q I ro ri rv ⟨p,xs,k,j,e1,e2,h,hj,q⟩ =>
 qz pins s σ H o i v uo ui uv Q I ro ri rv ⟨p,xs,k,j,e1,e2,h,hj,q _ (.mk' h)⟩
inductive Cy (x:V) (vs:List V) (H:Hp) (Q:VK):Prop
 | mk:∀l xs,(x = .ref l)->(vs = [])->(H l=some (.lst xs))->(∀H',DB H H' l xs xs.reverse->Q .non H')->Cy x vs H Q
theorem gW:MtM X "list.reverse" Cy:=λpins s σ H x xs v us Q I rx rs ⟨l,ys,e1,e2,h,q⟩ =>
 mY pins s σ H x xs v us Q I rx rs ⟨l,ys,e1,e2,h,q _ (.mk' h)⟩
end
theorem yT{K:W.Frag}{H:Hp}{l:Addr}{xs:List V}{i:Int}{Q:VK}(e:H l=some (.lst xs))(h0:0<=i)(h1:i<(xs.length:Int))(h:∀v∈xs,Q v H):EL K (.ref l) (.int i) H Q:=by
 obtain⟨v,hv,mv⟩:=Sp1.atI_mem h0 h1;exact⟨l,xs,i,v,rfl,rfl,SqL.of e,hv,h v mv⟩
theorem kH{α:Type}{xs:List α}(h:xs.length=3):∃a b c,xs = [a,b,c]:=match xs,h with | [a,b,c],_=>⟨a,b,c,rfl⟩
theorem cJ{α:Type}{xs:List α}(h:xs.length=2):∃a b,xs = [a,b]:=match xs,h with | [a,b],_=>⟨a,b,rfl⟩
theorem uw{α:Type}{xs:List α}(h:xs.length=4):∃a b c d,xs = [a,b,c,d]:=match xs,h with | [a,b,c,d],_=>⟨a,b,c,d,rfl⟩
theorem ut{α:Type}{xs:List α}(h:xs.length=5):∃a b c d e,xs = [a,b,c,d,e]:=match xs,h with | [a,b,c,d,e],_=>⟨a,b,c,d,e,rfl⟩
theorem len6{α:Type}{xs:List α}(h:xs.length=6):∃a b c d e f,xs = [a,b,c,d,e,f]:=match xs,h with | [a,b,c,d,e,f],_=>⟨a,b,c,d,e,f,rfl⟩
section
variable {X:Cx} {pins:List (Addr×Obj)} {σ:St} {H:Hp} {s:Shared}
theorem zg.turnedL{h':Heap}{t':Nat}{ch:List Addr}(I:zg X pins σ H s)(k:∀b o,b∉ch->s.heap.get? b=some o->h'.get? b=some o)(hf:∀b∈ch,ei X pins H b):zg X pins σ H { s with heap:=h',toks:=t' }:=by
 have nit:∀b u,H b=some u->b∉ch:=λb u e z=>by
  have n:=(hf b z).1;rw[n]at e;cases e
 refine I.step (g':=s.gens) (d':=s.drawn) (ch:=ch) (λb hb=>?_) (λb o _ _ hc e _=>k b o hc e) (λb o _ _ hc e _=>⟨o.slots,k b o hc e⟩) (λ_ _ _ _ n=>n)
  (λb o hc e=>⟨o,k b o hc e⟩) (λ_ _ e=>e) (λ_ _ _ e=>e) (λb ps e=>⟨#[],by rw[e];simp⟩) (λm hm=>?_) (λb u e=>?_) I.bare
 ·obtain⟨f0,f1,f2,f3,f4,f5⟩:=hf b hb
  exact⟨f3,f1,f4,f5⟩
 ·obtain⟨o,es,ep,ho,r⟩:=hm
  exact⟨o,es,ep,k _ o (λz=>(hf _ z).2.1 rfl) ho,r⟩
 ·refine(I.hok b u e).stay (λc v hc q=>k c v ?_ q) (λ_ q=>q) λ_ _ q=>q
  rcases hc with z|z
  ·rw[z];exact nit b u e
  ·exact nit c _ z
theorem jD{E:Value->Shared->Prop}{elts:List Expr}{kt:Nat}{pos:Pos}{i n:Nat}{z:Addr}{fpw wr:List Addr}{Pt:Nat->Array Value->Prop}{Stt:Nat->Heap->Prop}{Mid:Nat->Addr->Heap->Prop}{R:Value->Shared->Prop}
  (W:WalksT X.prog X.w X.A z fpw wr n Pt Stt Mid) (I:zg X pins σ H s) (hwr:∀b∈wr,ei X pins H b) (hi:i<n) (st:Stt i s.heap)
  (k:∀T vals s2,Pt i vals->s.heap.objs.size<=T->s2.heap.IsTuple T vals->Stt (i+1) s2.heap->zg X pins σ H s2->(∀b o,b∉wr->s.heap.get? b=some o->s2.heap.get? b=some o)->R (.ref T) s2) :
  wpAny (model X.prog X.w) X.A (pyNext (.ref z)) (λr s1=>∃u,r=some u/\wpAny (model X.prog X.w) X.A (letOwnedTupleGo (.Tuple elts kt pos) (.ref z) u) (λ_ s2=>R u s2) E s1) E s:=by
 refine W.item i s _ E hi st λT vals h' tk hp hT tup mid kk=>⟨.ref T,rfl,?_⟩;refine W.go elts kt pos i T _ _ E mid λh2 st2 k2=>?_;have kall:∀b o,b∉wr->s.heap.get? b=some o->h2.get? b=some o:=λb o hb e=>k2 b o hb (kk b o hb e);obtain⟨o,eo,ro⟩:=tup;exact k T vals _ hp hT ⟨o,k2 T o (W.apart i T _ mid) eo,ro⟩ st2 (I.turnedL (t':=tk) kall hwr) kall
theorem jE{T:Addr}{s2:Shared}{xs:List V}{us:List Value}(I:zg X pins σ H s)(J:zg X pins σ H s2)(hT:s.heap.objs.size<=T)(ht:s2.heap.IsTuple T us.toArray)(r:aJ xs us)(hz:xs.length<=sizeLine):zg X pins σ (upd H T (.tup xs)) s2/\H T=none:=by
 have hn:H T=none:=I.hok.fresh hT;obtain⟨f0,f1,f2,f3,f4,f5⟩:=I.fpOk hT hn;refine⟨J.track hn ?_ f1 f4 f5 ⟨hz,us,r,ht⟩,hn⟩;cases e:X.s₀.heap.get? T with
 | none=>rfl
 | some o =>
  have h1:=Heap.lt_size e;have h2:=I.sz;exact absurd (Nat.lt_of_lt_of_le h1 (Nat.le_trans h2 hT)) (Nat.lt_irrefl _)
end
noncomputable def Itz(K:W.Frag)(l1 l2:Addr):It :=
  ⟨λi H=>∃xs ys x y,SqL K H l1 xs/\SqL K H l2 ys/\xs[i]? = some x/\ys[i]? = some y,
   λi H v H'=>∃p x y,v = .ref p/\H p=none/\H'=upd H p (.tup [x,y])/\∀xs ys,SqL K H l1 xs->SqL K H l2 ys->xs[i]? = some x/\ys[i]? = some y,
   λi H=>∃xs ys,SqL K H l1 xs/\SqL K H l2 ys/\i=min xs.length ys.length⟩
noncomputable def Ite(K:W.Frag)(l:Addr):It :=
  ⟨λi H=>∃xs x,SqL K H l xs/\xs[i]? = some x,
   λi H v H'=>∃p x,v = .ref p/\H p=none/\H'=upd H p (.tup [.int (i:Int),x])/\∀xs,SqL K H l xs->xs[i]? = some x,
   λi H=>∃xs,SqL K H l xs/\i=xs.length⟩
theorem qp{P:Program}{w:World}{K:W.Frag}{elts:List Expr}{kt:Nat}{pos:Pos}(z TI TO i1 i2 l1 l2:Addr)(D:ZipApart z TI TO i1 i2 l1 l2) :
  CU P w K (.Tuple elts kt pos) (Itz K l1 l2) [z,TI,TO,i1,i2] z (λi h=>IsZip h z TI TO .none/\IsPair h TI (.ref i1) (.ref i2)/\(∃a b,IsPair h TO a b)/\h.IsListIter i1 l1 i/\h.IsListIter i2 l2 i) where
 mem:=by simp
 obj:=λi h st b hb=>by
  obtain⟨hz,hTI,⟨a,c,hTO⟩,⟨o1,e1,c1,d1⟩,⟨o2,e2,c2,d2⟩⟩:=st;simp only[List.mem_cons,List.not_mem_nil,or_false]at hb;rcases hb with rfl|rfl|rfl|rfl|rfl
  ·exact⟨_,hz,λv y=>by cases y⟩
  ·exact⟨_,hTI,λv y=>by cases y⟩
  ·exact⟨_,hTO,λv y=>by cases y⟩
  ·exact⟨o1,e1,λv y=>by rw[d1]at y;cases y⟩
  ·exact⟨o2,e2,λv y=>by rw[d2]at y;cases y⟩
 keep:=λi h h' st k=>by
  obtain⟨hz,hTI,⟨a,c,hTO⟩,h1,h2⟩:=st;exact⟨k z (by simp) _ hz,k TI (by simp) _ hTI,⟨a,c,k TO (by simp) _ hTO⟩,h1.at λo e=>k i1 (by simp) o e,h2.at λo e=>k i2 (by simp) o e⟩
 item:=by
  intro X hP hw hK hc i pins s σ H E I hf st hg;subst hP hw hK;obtain⟨xs,ys,x,y,q1,q2,hx,hy⟩:=hg;obtain⟨its,r1,p1,_⟩:=I.list q1;obtain⟨jts,r2,p2,_⟩:=I.list q2;obtain⟨u1,hu1,ru1⟩:=r1.get hx;obtain⟨u2,hu2,ru2⟩:=r2.get hy;have W:=WalksT.zip2 (prog:=X.prog) (w:=X.w) (I.ok.hd hc) z TI TO i1 i2 l1 l2 D its.toArray jts.toArray;have hn:i<min its.toArray.size jts.toArray.size:=by
   have g1:=(List.getElem?_eq_some_iff.mp hu1).1;have g2:=(List.getElem?_eq_some_iff.mp hu2).1;simp only[List.size_toArray];omega
  obtain⟨hz,hTI,hTO,h1,h2⟩:=st;refine jD W I (λb hb=>hf b (by simp at hb ⊢;rcases hb with h|h|h|h <;> simp[h])) hn ⟨hz,hTI,hTO,h1,h2,p1.isList,p2.isList⟩ λT vals s2 hp hT tup st2 J2 kall=>?_;obtain⟨v1,v2,e1,e2,rfl⟩:=hp;have e1':its[i]? = some v1:=by simpa using e1
  have e2':jts[i]? = some v2:=by simpa using e2
  rw[hu1]at e1';rw[hu2]at e2';cases e1';cases e2';obtain⟨J3,nT⟩:=jE (xs:=[x,y]) (us:=[u1,u2]) I J2 hT tup (.cons ru1 (.cons ru2 .nil)) (Sp1.sz (by simp));obtain⟨hz2,hTI2,hTO2,h12,h22,_,_⟩:=st2;refine⟨.ref T,upd H T (.tup [x,y]),J3,rfl,⟨T,x,y,rfl,nT,rfl,λas bs qa qb=>?_⟩,⟨hz2,hTI2,hTO2,h12,h22⟩,λb hb=>?_⟩
  ·rw[I.list_inj qa q1,I.list_inj qb q2]
   exact⟨hx,hy⟩
  ·have hb':∃o,s.heap.get? b=some o:=by
    obtain⟨a,c,hTO⟩:=hTO;obtain⟨o1,e1,_⟩:=h1;obtain⟨o2,e2,_⟩:=h2;simp only[List.mem_cons,List.not_mem_nil,or_false]at hb;rcases hb with rfl|rfl|rfl|rfl|rfl
    ·exact⟨_,hz⟩
    ·exact⟨_,hTI⟩
    ·exact⟨_,hTO⟩
    ·exact⟨_,e1⟩
    ·exact⟨_,e2⟩
   obtain⟨o,eo⟩:=hb';rw[aF (Nat.ne_of_lt (Nat.lt_of_lt_of_le (Heap.lt_size eo) hT))];exact(hf b hb).1
 done:=by
  intro X hP hw hK hc i pins s σ H E I hf st hg;subst hP hw hK;obtain⟨xs,ys,q1,q2,rfl⟩:=hg;obtain⟨its,r1,p1,_⟩:=I.list q1;obtain⟨jts,r2,p2,_⟩:=I.list q2;have W:=WalksT.zip2 (prog:=X.prog) (w:=X.w) (I.ok.hd hc) z TI TO i1 i2 l1 l2 D its.toArray jts.toArray;obtain⟨hz,hTI,hTO,h1,h2⟩:=st;have el:min its.toArray.size jts.toArray.size=min xs.length ys.length:=by
   rw[List.size_toArray,List.size_toArray,r1.length,r2.length]
  refine W.done s _ E ?_ λh' tk kk=>⟨rfl,I.turnedL (t':=tk) kk λb hb=>hf b (by simp at hb ⊢;rcases hb with h|h|h|h <;> simp[h])⟩;rw[el];exact⟨hz,hTI,hTO,h1,h2,p1.isList,p2.isList⟩
 self:=λ_ _ _ _ _ st h=>wpAny_pyIter_zip st.1 h
theorem pA{P:Program}{w:World}{K:W.Frag}{elts:List Expr}{kt:Nat}{pos:Pos}(e it l:Addr)(hei:e≠it)(hle:l≠e)(hli:l≠it) :
  CU P w K (.Tuple elts kt pos) (Ite K l) [e,it] e (λi h=>(∃old,IsEnum h e it i old)/\h.IsListIter it l i) where
 mem:=by simp
 obj:=λi h st b hb=>by
  obtain⟨⟨old,he⟩,⟨o1,e1,c1,d1⟩⟩:=st;simp only[List.mem_cons,List.not_mem_nil,or_false]at hb;rcases hb with rfl|rfl
  ·exact⟨_,he,λv y=>by cases y⟩
  ·exact⟨o1,e1,λv y=>by rw[d1]at y;cases y⟩
 keep:=λi h h' st k=>by
  obtain⟨⟨old,he⟩,h1⟩:=st;exact⟨⟨old,k e (by simp) _ he⟩,h1.at λo x=>k it (by simp) o x⟩
 item:=by
  intro X hP hw hK hc i pins s σ H E I hf st hg;subst hP hw hK;obtain⟨xs,x,q1,hx⟩:=hg;obtain⟨its,r1,p1,_⟩:=I.list q1;obtain⟨u1,hu1,ru1⟩:=r1.get hx;have W:=WalksT.enumerate (prog:=X.prog) (w:=X.w) (I.ok.hd hc) e it l hei hle hli its.toArray;have hn:i<its.toArray.size:=by
   have g1:=(List.getElem?_eq_some_iff.mp hu1).1;simp only[List.size_toArray];omega
  obtain⟨he,h1⟩:=st;refine jD W I (λb hb=>hf b (by simpa using hb)) hn ⟨he,h1,p1.isList⟩ λT vals s2 hp hT tup st2 J2 kall=>?_;obtain⟨tk,v1,e1,rfl⟩:=hp;have e1':its[i]? = some v1:=by simpa using e1
  rw[hu1]at e1';cases e1';obtain⟨J3,nT⟩:=jE (xs:=[.int (i:Int),x]) (us:=[.int i tk,u1]) I J2 hT tup (.cons ⟨_,rfl⟩ (.cons ru1 .nil)) (Sp1.sz (by simp));obtain⟨he2,h12,_⟩:=st2;refine⟨.ref T,upd H T (.tup [.int (i:Int),x]),J3,rfl,⟨T,x,rfl,nT,rfl,λas qa=>?_⟩,⟨he2,h12⟩,λb hb=>?_⟩
  ·rw[I.list_inj qa q1]
   exact hx
  ·have hb':∃o,s.heap.get? b=some o:=by
    obtain⟨old,he⟩:=he;obtain⟨o1,e1,_⟩:=h1;simp only[List.mem_cons,List.not_mem_nil,or_false]at hb;rcases hb with rfl|rfl
    ·exact⟨_,he⟩
    ·exact⟨_,e1⟩
   obtain⟨o,eo⟩:=hb';rw[aF (Nat.ne_of_lt (Nat.lt_of_lt_of_le (Heap.lt_size eo) hT))];exact(hf b hb).1
 done:=by
  intro X hP hw hK hc i pins s σ H E I hf st hg;subst hP hw hK;obtain⟨xs,q1,rfl⟩:=hg;obtain⟨its,r1,p1,_⟩:=I.list q1;have W:=WalksT.enumerate (prog:=X.prog) (w:=X.w) (I.ok.hd hc) e it l hei hle hli its.toArray;obtain⟨he,h1⟩:=st;refine W.done s _ E ?_ λh' tk kk=>⟨rfl,I.turnedL (t':=tk) kk λb hb=>hf b (by simpa using hb)⟩;rw[List.size_toArray,<- r1.length];exact⟨he,h1,p1.isList⟩
 self:=λ_ _ _ _ _ st h=>by
  obtain⟨⟨old,he⟩,_⟩:=st;exact wpAny_pyIter_enum he h
section
variable {X:Cx} {elts:List Expr} {kt:Nat} {tpos:Pos}
noncomputable def yV(K:W.Frag)(ta:TA):TI:=λσ H R=>ta σ H λvs H1=>∃a b,vs = [.ref a,.ref b]/\(∃xs,SqL K H1 a xs)/\(∃ys,SqL K H1 b ys)/\R (Itz K a b) H1
noncomputable def ye(K:W.Frag)(ta:TA):TI:=λσ H R=>ta σ H λvs H1=>∃a,vs = [.ref a]/\(∃xs,SqL K H1 a xs)/\R (Ite K a) H1
theorem xh:bootBuiltins "zip" = some (.type "zip"):=by decide +kernel
theorem kX:bootBuiltins "enumerate" = some (.type "enumerate"):=by decide +kernel
theorem we{a b:Expr}{ta:TA}{p pos:Pos}(hg:Gl X "zip")(hm:X.mg "zip" = none)(ha:PA X [a,b] ta)(hs:starEach [a,b] X.env = [(false,eval a X.env),(false,eval b X.env)]:=by rfl)(hs2:starEach [b] X.env = [(false,eval b X.env)]:=by rfl) :
  PI X (.Tuple elts kt tpos) (.Call (.Name "zip" p) [a,b] [] pos) (yV X.K ta):=by
 intro pins s σ H R I h;refine Call_ (dW I hg hm xh (PyProof.Rows.callWith_type1 (thn (ha pos pins s σ H _ I h) λus s1 ⟨vs,H1,I1,r1,q1⟩=>?_) (by rw[hs,hs2]) (by rw[hs2];rfl)));obtain⟨l1,l2,e,⟨xs,hx⟩,⟨ys,hy⟩,q⟩:=q1;subst e;cases r1 with
 | cons r rr =>
  cases rr with
  | cons r' rr =>
   cases rr;cases r;cases r';obtain⟨its,_,p1,_⟩:=I1.list hx;obtain⟨jts,_,p2,_⟩:=I1.list hy;refine call_zip_2 p1.isList p2.isList λh' hz hTI hTO hi1 hi2 hsz hk=>?_;refine wpAny_pyIter_zip hz ?_;have a1:l1<s1.heap.objs.size:=by obtain⟨_,e,_⟩:=p1.isList;exact Heap.lt_size e
   have a2:l2<s1.heap.objs.size:=by obtain⟨_,e,_⟩:=p2.isList;exact Heap.lt_size e
   refine⟨s1.heap.objs.size+4,[s1.heap.objs.size+4,s1.heap.objs.size+2,s1.heap.objs.size+3,s1.heap.objs.size,s1.heap.objs.size+1],_,_,H1,rfl,I1.kept (t':=s1.toks) hk,qp _ _ _ _ _ l1 l2 (zipApart_new a1 a2),⟨hz,hTI,⟨_,_,hTO⟩,hi1,hi2⟩,λb hb=>?_,q⟩;have hb':s1.heap.objs.size<=b:=by
    simp only[List.mem_cons,List.not_mem_nil,or_false]at hb;rcases hb with rfl|rfl|rfl|rfl|rfl <;> omega
   exact I1.fpOk hb' (I1.hok.fresh hb')
theorem iw{a:Expr}{ta:TA}{p pos:Pos}(hg:Gl X "enumerate")(hm:X.mg "enumerate" = none)(ha:PA X [a] ta)(hs:starEach [a] X.env = [(false,eval a X.env)]:=by rfl) :
  PI X (.Tuple elts kt tpos) (.Call (.Name "enumerate" p) [a] [] pos) (ye X.K ta):=by
 intro pins s σ H R I h;refine Call_ (dW I hg hm kX (PyProof.Rows.callWith_type1 (thn (ha pos pins s σ H _ I h) λus s1 ⟨vs,H1,I1,r1,q1⟩=>?_) hs rfl));obtain⟨l,e,⟨xs,hx⟩,q⟩:=q1;subst e;cases r1 with
 | cons r rr =>
  cases rr;cases r;obtain⟨its,_,p1,_⟩:=I1.list hx;refine call_enumerate_list p1.isList λh' he hi hsz hk=>?_;refine wpAny_pyIter_enum he ?_;have a1:l<s1.heap.objs.size:=by obtain⟨_,e,_⟩:=p1.isList;exact Heap.lt_size e
  refine⟨s1.heap.objs.size+1,[s1.heap.objs.size+1,s1.heap.objs.size],_,_,H1,rfl,I1.kept (t':=s1.toks) hk,pA _ _ l (Nat.succ_ne_self _) (Nat.ne_of_lt (Nat.lt_succ_of_lt a1)) (Nat.ne_of_lt a1),⟨⟨_,he⟩,hi⟩,λb hb=>?_,q⟩;have hb':s1.heap.objs.size<=b:=by
   simp only[List.mem_cons,List.not_mem_nil,or_false]at hb;rcases hb with rfl|rfl <;> omega
  exact I1.fpOk hb' (I1.hok.fresh hb')
end
theorem gc{K:W.Frag}{a:Addr}{xs:List V}{g:TG}{tb:TS}{D:AL}{σ:St}{H:Hp}(Pv:Nat->St->Hp->Prop)(h0:Pv 0 σ H)(hl:∀i σ H,i<=xs.length->Pv i σ H->SqL K H a xs)
  (hs:∀i x p σ H H1,xs[i]? = some x->Pv i σ H->Same H H1->H1 p=some (.tup [.int (i:Int),x])->g (.ref p) σ H1 λσ2 H2=>tb { D with nx:=Pv (i+1),ct:=Pv (i+1),bk:=D.nx } σ2 H2) (hd:∀σ H,Pv xs.length σ H->D.nx σ H) :
  ∃W:Nat->Nat->St->Hp->Prop,(∃m,W 0 m σ H)/\∀i m σ H,W i m σ H ->
   ((Ite K a).stop i H/\D.nx σ H)\/((Ite K a).go i H/\∃N:St->Hp->Prop,(∀σ' H',N σ' H'->∃m',m'<m/\W (i+1) m' σ' H')/\∀x H',(Ite K a).yld i H x H'->g x σ H' λσ2 H2=>tb { D with nx:=N,ct:=N,bk:=D.nx } σ2 H2):=by
 refine⟨λi m σ H=>m=xs.length - i/\i<=xs.length/\Pv i σ H,⟨_,rfl,Nat.zero_le _,h0⟩,?_⟩;rintro i m σ H ⟨rfl,hi,p⟩;have q1:=hl i σ H hi p
 by_cases hlt:i<xs.length
 ·refine .inr ⟨⟨xs,xs[i],q1,by simp[hlt]⟩,Pv (i+1),λσ' H' p'=>⟨_,by omega,rfl,hlt,p'⟩,λv H' y=>?_⟩
  obtain⟨t,x,rfl,nt,rfl,e⟩:=y;exact hs i x t σ H _ (e xs q1) p (Same.new nt) upd_same
 ·have e:i=xs.length:=by omega
  subst e;exact .inl ⟨⟨xs,q1,rfl⟩,hd σ H p⟩
inductive D where
 | non|bl (b:Bool)|int (i:Int)|str (x:Str)|tup (ds:List D)|lst (ds:List D)
inductive Rp (H:Hp):Nat->V->D->Prop where
 | non {n:Nat}:Rp H n .non .non
 | bl {n:Nat} {b:Bool}:Rp H n (.bl b) (.bl b)
 | int {n:Nat} {i:Int}:Rp H n (.int i) (.int i)
 | str {n:Nat} {x:Str}:Rp H n (.str x) (.str x)
 | tup {n:Nat} {p:Addr} {xs:List V} {ds:List D} (e:H p=some (.tup xs)) (hl:xs.length=ds.length) (h:∀(j:Nat) x d,xs[j]? = some x->ds[j]? = some d->Rp H n x d):Rp H (n+1) (.ref p) (.tup ds)
 | lst {n:Nat} {p:Addr} {xs:List V} {ds:List D} (e:H p=some (.lst xs)) (hl:xs.length=ds.length) (h:∀(j:Nat) x d,xs[j]? = some x->ds[j]? = some d->Rp H n x d):Rp H (n+1) (.ref p) (.lst ds)
mutual
noncomputable def deq:D->D->Bool
 | .non,.non=>true
 | .bl a,.bl b=>a == b
 | .bl a,.int b=>(if a then 1 else 0) == b
 | .int a,.bl b=>a == (if b then 1 else 0)
 | .int a,.int b=>a == b
 | .str a,.str b=>a == b
 | .tup xs,.tup ys=>gA xs ys
 | .lst xs,.lst ys=>gA xs ys
 | _,_=>false
noncomputable def gA:List D->List D->Bool
 | [],[]=>true
 | x::xs,y::ys=>deq x y && gA xs ys
 | _,_=>false
end
theorem dM:∀(ds es:List D),((List.range (min ds.length es.length)).all (λj=>deq (ds.getD j .non) (es.getD j .non)) && ds.length == es.length)=gA ds es
 | [],[]=>by simp[gA]
 | [],e::es=>by simp[gA]
 | d::ds,[]=>by simp[gA]
 | d::ds,e::es=>by
  have ih:=dM ds es;have hm:min (d::ds).length (e::es).length=min ds.length es.length+1:=by simp only[List.length_cons];omega
  rw[hm,List.range_succ_eq_map,List.all_cons,List.all_map];simp only[gA,List.getD_cons_zero,List.length_cons];rw[<- ih,Bool.and_assoc]
  congr 1
  simp[Function.comp_def]
theorem jg{ds es:List D}(h:ds.length≠es.length):gA ds es=false:=by
 rw[<- dM];simp[h]
theorem fe{ds es:List D}(h:ds.length=es.length):(List.range ds.length).all (λj=>deq (ds.getD j .non) (es.getD j .non))=gA ds es:=by
 rw[<- dM,h];simp
theorem oY{ds es:List D}(hl:ds.length=es.length)(h:∀(j:Nat) d e,ds[j]? = some d->es[j]? = some e->deq d e=true):gA ds es=true:=by
 rw[<- fe hl,List.all_eq_true];intro j hj;have hj':j<ds.length:=List.mem_range.mp hj;have hj2:j<es.length:=by omega
 have e1:ds[j]? = some ds[j]:=List.getElem?_eq_getElem hj';have e2:es[j]? = some es[j]:=List.getElem?_eq_getElem hj2;rw[List.getD_eq_getElem?_getD,List.getD_eq_getElem?_getD,e1,e2];exact h j _ _ e1 e2
theorem i8{α β:Type}{xs:List α}{ds:List β}{j:Nat}{d:β}(hl:xs.length=ds.length)(h:ds[j]? = some d):∃x,xs[j]? = some x:=by
 have:=(List.getElem?_eq_some_iff.mp h).1;exact⟨xs[j],List.getElem?_eq_getElem (by omega)⟩
theorem Rp.self{H:Hp}{n m:Nat}{v:V}{d e:D}(r:Rp H n v d)(q:Rp H m v e):deq d e=true:=by
 induction r generalizing m e with
 | non=>cases q;rfl
 | bl=>cases q;simp[deq]
 | int=>cases q;simp[deq]
 | str=>cases q;simp[deq]
 | tup e1 hl h ih =>
  cases q with
  | tup e2 hl2 h2 =>
   rw[e1]at e2;cases e2;refine oY (by omega) λj a b ea eb=>?_;obtain⟨x,hx⟩:=i8 hl ea;exact ih j x a hx ea (h2 j x b hx eb)
  | lst e2 hl2 h2=>rw[e1]at e2;cases e2
 | lst e1 hl h ih =>
  cases q with
  | tup e2 hl2 h2=>rw[e1]at e2;cases e2
  | lst e2 hl2 h2 =>
   rw[e1]at e2;cases e2;refine oY (by omega) λj a b ea eb=>?_;obtain⟨x,hx⟩:=i8 hl ea;exact ih j x a hx ea (h2 j x b hx eb)
section
variable {X:Cx} {pins:List (Addr×Obj)} {σ:St} {H:Hp} {s:Shared}
theorem fc{A:Around}{xs ys:List V}{us ws:List Value}{ds es:List D}(r:aJ xs us)(r':aJ ys ws)(hl:xs.length=ds.length)(hl':ys.length=es.length)
  (h:∀(j:Nat) x y d e u w,xs[j]? = some x->ys[j]? = some y->ds[j]? = some d->es[j]? = some e->aN x u->aN y w->SeqAt.EqAt A s u w (deq d e))
  (j:Nat) (h1:j<us.toArray.size) (h2:j<ws.toArray.size):SeqAt.EqAt A s us.toArray[j] ws.toArray[j] (deq (ds.getD j .non) (es.getD j .non)):=by
 rw[List.size_toArray]at h1 h2;obtain⟨a,ea,ra⟩:=j9 r h1;obtain⟨c,ec,rc⟩:=j9 r' h2;have g1:=(List.getElem?_eq_some_iff.mp ea).1;have g2:=(List.getElem?_eq_some_iff.mp ec).1;have e1:ds[j]? = some ds[j]:=List.getElem?_eq_getElem (by omega);have e2:es[j]? = some es[j]:=List.getElem?_eq_getElem (by omega);rw[List.getD_eq_getElem?_getD,List.getD_eq_getElem?_getD,e1,e2];exact h j a c _ _ _ _ ea ec e1 e2 ra rc
theorem Rp.eqAt{n:Nat}{x:V}{d:D}(r:Rp H n x d):∀{m:Nat} {y:V} {e:D} {A:Around} {u v:Value},Rp H m y e->zg X pins σ H s->aN x u->aN y v->A.units+n<cLine->SeqAt.EqAt A s u v (deq d e):=by
 induction r with
 | non =>
  intro m y e A u v q I ru rv hu;cases ru;cases q with
  | non=>cases rv;exact SeqAt.EqAt.same _
  | bl=>cases rv;exact SeqAt.EqAt.none_bool _
  | int=>obtain⟨_,rfl⟩:=rv;exact SeqAt.EqAt.none_int _ _
  | str=>obtain⟨_,rfl⟩:=rv;exact SeqAt.EqAt.none_str _ _
  | tup e1 hl h=>cases rv;obtain⟨its,_,pl,_⟩:=I.tuple (SqT.of e1);exact SeqAt.EqAt.none_tuple pl (by omega)
  | lst e1 hl h=>cases rv;obtain⟨its,_,pl,_⟩:=I.list (SqL.of e1);exact SeqAt.EqAt.none_list pl.isList (by omega)
 | bl =>
  intro m y e A u v q I ru rv hu;cases ru;cases q with
  | non=>cases rv;exact SeqAt.EqAt.bool_none _
  | bl=>cases rv;exact SeqAt.EqAt.bool_bool _ _
  | int=>obtain⟨_,rfl⟩:=rv;exact SeqAt.EqAt.bool_int _ _ _
  | str=>obtain⟨_,rfl⟩:=rv;exact SeqAt.EqAt.bool_str _ _ _
  | tup e1 hl h=>cases rv;obtain⟨its,_,pl,_⟩:=I.tuple (SqT.of e1);exact SeqAt.EqAt.bool_tuple _ pl (by omega)
  | lst e1 hl h=>cases rv;obtain⟨its,_,pl,_⟩:=I.list (SqL.of e1);exact SeqAt.EqAt.bool_list _ pl.isList (by omega)
 | int =>
  intro m y e A u v q I ru rv hu;obtain⟨_,rfl⟩:=ru;cases q with
  | non=>cases rv;exact SeqAt.EqAt.int_none _ _
  | bl=>cases rv;exact SeqAt.EqAt.int_bool _ _ _
  | int=>obtain⟨_,rfl⟩:=rv;exact SeqAt.EqAt.int_int _ _ _ _
  | str=>obtain⟨_,rfl⟩:=rv;exact SeqAt.EqAt.int_str _ _ _ _
  | tup e1 hl h=>cases rv;obtain⟨its,_,pl,_⟩:=I.tuple (SqT.of e1);exact SeqAt.EqAt.int_tuple _ _ pl (by omega)
  | lst e1 hl h=>cases rv;obtain⟨its,_,pl,_⟩:=I.list (SqL.of e1);exact SeqAt.EqAt.int_list _ _ pl.isList (by omega)
 | str =>
  intro m y e A u v q I ru rv hu;obtain⟨_,rfl⟩:=ru;cases q with
  | non=>cases rv;exact SeqAt.EqAt.str_none _ _
  | bl=>cases rv;exact SeqAt.EqAt.str_bool _ _ _
  | int=>obtain⟨_,rfl⟩:=rv;exact SeqAt.EqAt.str_int _ _ _ _
  | str=>obtain⟨_,rfl⟩:=rv;exact SeqAt.EqAt.str_str _ _ _ _
  | tup e1 hl h=>cases rv;obtain⟨its,_,pl,_⟩:=I.tuple (SqT.of e1);exact SeqAt.EqAt.str_tuple _ _ pl (by omega)
  | lst e1 hl h=>cases rv;obtain⟨its,_,pl,_⟩:=I.list (SqL.of e1);exact SeqAt.EqAt.str_list _ _ pl.isList (by omega)
 | @tup n p xs ds e0 hl h ih =>
  intro m y e A u v q I ru rv hu;cases ru;obtain⟨its,r1,pl,_⟩:=I.tuple (SqT.of e0);cases q with
  | non=>cases rv;exact SeqAt.EqAt.tuple_none pl (by omega)
  | bl=>cases rv;exact SeqAt.EqAt.tuple_bool _ pl (by omega)
  | int=>obtain⟨_,rfl⟩:=rv;exact SeqAt.EqAt.tuple_int _ _ pl (by omega)
  | str=>obtain⟨_,rfl⟩:=rv;exact SeqAt.EqAt.tuple_str _ _ pl (by omega)
  | lst e1 hl1 h1=>cases rv;obtain⟨jts,_,pl',_⟩:=I.list (SqL.of e1);exact SeqAt.EqAt.tuple_list pl pl'.isList (by omega)
  | @tup m p' ys es e1 hl1 h1 =>
   cases rv
   by_cases hne:p=p'
   ·subst hne
    have z:deq (.tup ds) (.tup es)=true:=Rp.self (Rp.tup e0 hl h) (Rp.tup e1 hl1 h1);rw[z];exact SeqAt.EqAt.same _
   ·obtain⟨jts,r2,pl',_⟩:=I.tuple (SqT.of e1)
    have y:=SeqAt.RcAt.tuples (A:=A) (e:=λj=>deq (ds.getD j .non) (es.getD j .non)) pl pl' (by omega) (fc r1 r2 hl hl1 λj x y d e u w a b c k ra rb=>ih j x d a c (h1 j y e b k) I ra rb (by show A.units+1+n<cLine;omega));rw[List.size_toArray,List.size_toArray,<- r1.length,<- r2.length,hl,hl1,dM]at y;exact SeqAt.EqAt.of_refs hne y
 | @lst n p xs ds e0 hl h ih =>
  intro m y e A u v q I ru rv hu;cases ru;obtain⟨its,r1,pl,_⟩:=I.list (SqL.of e0);cases q with
  | non=>cases rv;exact SeqAt.EqAt.list_none pl.isList (by omega)
  | bl=>cases rv;exact SeqAt.EqAt.list_bool _ pl.isList (by omega)
  | int=>obtain⟨_,rfl⟩:=rv;exact SeqAt.EqAt.list_int _ _ pl.isList (by omega)
  | str=>obtain⟨_,rfl⟩:=rv;exact SeqAt.EqAt.list_str _ _ pl.isList (by omega)
  | tup e1 hl1 h1=>cases rv;obtain⟨jts,_,pl',_⟩:=I.tuple (SqT.of e1);exact SeqAt.EqAt.list_tuple pl.isList pl' (by omega)
  | @lst m p' ys es e1 hl1 h1 =>
   cases rv
   by_cases hne:p=p'
   ·subst hne
    have z:deq (.lst ds) (.lst es)=true:=Rp.self (Rp.lst e0 hl h) (Rp.lst e1 hl1 h1);rw[z];exact SeqAt.EqAt.same _
   ·obtain⟨jts,r2,pl',_⟩:=I.list (SqL.of e1)
    have g1:=r1.length;have g2:=r2.length
    by_cases hz:ds.length=es.length
    ·have y:=SeqAt.RcAt.lists (A:=A) (e:=λj=>deq (ds.getD j .non) (es.getD j .non)) pl.isList pl'.isList (by rw[List.size_toArray,List.size_toArray];omega) (by omega) (fc r1 r2 hl hl1 λj x y d e u w a b c k ra rb=>ih j x d a c (h1 j y e b k) I ra rb (by show A.units+1+n<cLine;omega))
     rw[List.size_toArray,<- r1.length,hl,fe hz]at y;exact SeqAt.EqAt.of_refs hne y
    ·rw[show deq (.lst ds) (.lst es)=false from jg hz]
     exact SeqAt.EqAt.of_refs hne (SeqAt.RcAt.lists_lengths pl.isList pl'.isList (by rw[List.size_toArray,List.size_toArray];simp;omega) (by omega))
end
section
variable {X:Cx} {pins:List (Addr×Obj)} {σ:St} {H:Hp} {s:Shared}
theorem Rp.rcAt{A:Around}{n m:Nat}{x y:V}{d e:D}{u v:Value}(r:Rp H n x d)(q:Rp H m y e)(I:zg X pins σ H s)(ru:aN x u)(rv:aN y v)(hu:A.units+n+1<cLine):SeqAt.RcAt A s u v (deq d e):=by
 cases r with
 | non =>
  cases q with
  | non =>
   cases ru;cases rv;exact SeqAt.RcAt.none_none
  | bl =>
   cases ru;cases rv;exact SeqAt.RcAt.none_bool _
  | int =>
   cases ru;obtain⟨_,rfl⟩:=rv;exact SeqAt.RcAt.none_int _ _
  | str =>
   cases ru;obtain⟨_,rfl⟩:=rv;exact SeqAt.RcAt.none_str _ _
  | @tup m p' ys es e1 hl1 h1 =>
   cases ru;cases rv;obtain⟨jts,r2,pl',_⟩:=I.tuple (SqT.of e1);exact SeqAt.RcAt.none_tuple pl' (by omega)
  | @lst m p' ys es e1 hl1 h1 =>
   cases ru;cases rv;obtain⟨jts,r2,pl',_⟩:=I.list (SqL.of e1);exact SeqAt.RcAt.none_list pl'.isList (by omega)
 | bl =>
  cases q with
  | non =>
   cases ru;cases rv;exact SeqAt.RcAt.bool_none _
  | bl =>
   cases ru;cases rv;exact SeqAt.RcAt.bool_bool _ _
  | int =>
   cases ru;obtain⟨_,rfl⟩:=rv;exact SeqAt.RcAt.bool_int _ _ _
  | str =>
   cases ru;obtain⟨_,rfl⟩:=rv;exact SeqAt.RcAt.bool_str _ _ _
  | @tup m p' ys es e1 hl1 h1 =>
   cases ru;cases rv;obtain⟨jts,r2,pl',_⟩:=I.tuple (SqT.of e1);exact SeqAt.RcAt.bool_tuple _ pl' (by omega)
  | @lst m p' ys es e1 hl1 h1 =>
   cases ru;cases rv;obtain⟨jts,r2,pl',_⟩:=I.list (SqL.of e1);exact SeqAt.RcAt.bool_list _ pl'.isList (by omega)
 | int =>
  cases q with
  | non =>
   obtain⟨_,rfl⟩:=ru;cases rv;exact SeqAt.RcAt.int_none _ _
  | bl =>
   obtain⟨_,rfl⟩:=ru;cases rv;exact SeqAt.RcAt.int_bool _ _ _
  | int =>
   obtain⟨_,rfl⟩:=ru;obtain⟨_,rfl⟩:=rv;exact SeqAt.RcAt.int_int _ _ _ _
  | str =>
   obtain⟨_,rfl⟩:=ru;obtain⟨_,rfl⟩:=rv;exact SeqAt.RcAt.int_str _ _ _ _
  | @tup m p' ys es e1 hl1 h1 =>
   obtain⟨_,rfl⟩:=ru;cases rv;obtain⟨jts,r2,pl',_⟩:=I.tuple (SqT.of e1);exact SeqAt.RcAt.int_tuple _ _ pl' (by omega)
  | @lst m p' ys es e1 hl1 h1 =>
   obtain⟨_,rfl⟩:=ru;cases rv;obtain⟨jts,r2,pl',_⟩:=I.list (SqL.of e1);exact SeqAt.RcAt.int_list _ _ pl'.isList (by omega)
 | str =>
  cases q with
  | non =>
   obtain⟨_,rfl⟩:=ru;cases rv;exact SeqAt.RcAt.str_none _ _
  | bl =>
   obtain⟨_,rfl⟩:=ru;cases rv;exact SeqAt.RcAt.str_bool _ _ _
  | int =>
   obtain⟨_,rfl⟩:=ru;obtain⟨_,rfl⟩:=rv;exact SeqAt.RcAt.str_int _ _ _ _
  | str =>
   obtain⟨_,rfl⟩:=ru;obtain⟨_,rfl⟩:=rv;exact SeqAt.RcAt.str_str _ _ _ _
  | @tup m p' ys es e1 hl1 h1 =>
   obtain⟨_,rfl⟩:=ru;cases rv;obtain⟨jts,r2,pl',_⟩:=I.tuple (SqT.of e1);exact SeqAt.RcAt.str_tuple _ _ pl' (by omega)
  | @lst m p' ys es e1 hl1 h1 =>
   obtain⟨_,rfl⟩:=ru;cases rv;obtain⟨jts,r2,pl',_⟩:=I.list (SqL.of e1);exact SeqAt.RcAt.str_list _ _ pl'.isList (by omega)
 | @tup n p xs ds e0 hl h =>
  cases q with
  | non =>
   cases ru;cases rv;obtain⟨its,r1,pl,_⟩:=I.tuple (SqT.of e0);exact SeqAt.RcAt.tuple_none pl (by omega)
  | bl =>
   cases ru;cases rv;obtain⟨its,r1,pl,_⟩:=I.tuple (SqT.of e0);exact SeqAt.RcAt.tuple_bool _ pl (by omega)
  | int =>
   cases ru;obtain⟨_,rfl⟩:=rv;obtain⟨its,r1,pl,_⟩:=I.tuple (SqT.of e0);exact SeqAt.RcAt.tuple_int _ _ pl (by omega)
  | str =>
   cases ru;obtain⟨_,rfl⟩:=rv;obtain⟨its,r1,pl,_⟩:=I.tuple (SqT.of e0);exact SeqAt.RcAt.tuple_str _ _ pl (by omega)
  | @tup m p' ys es e1 hl1 h1 =>
   cases ru;cases rv;obtain⟨its,r1,pl,_⟩:=I.tuple (SqT.of e0);obtain⟨jts,r2,pl',_⟩:=I.tuple (SqT.of e1);have y:=SeqAt.RcAt.tuples (A:=A) (e:=λj=>deq (ds.getD j .non) (es.getD j .non)) pl pl' (by omega) (fc r1 r2 hl hl1 λj x y d e u w a b c k ra rb=>(h j x d a c).eqAt (h1 j y e b k) I ra rb (by show A.units+1+_<cLine;omega));rw[List.size_toArray,List.size_toArray,<- r1.length,<- r2.length,hl,hl1,dM]at y;exact y
  | @lst m p' ys es e1 hl1 h1 =>
   cases ru;cases rv;obtain⟨its,r1,pl,_⟩:=I.tuple (SqT.of e0);obtain⟨jts,r2,pl',_⟩:=I.list (SqL.of e1);exact SeqAt.RcAt.tuple_list pl pl'.isList (by omega)
 | @lst n p xs ds e0 hl h =>
  cases q with
  | non =>
   cases ru;cases rv;obtain⟨its,r1,pl,_⟩:=I.list (SqL.of e0);exact SeqAt.RcAt.list_none pl.isList (by omega)
  | bl =>
   cases ru;cases rv;obtain⟨its,r1,pl,_⟩:=I.list (SqL.of e0);exact SeqAt.RcAt.list_bool _ pl.isList (by omega)
  | int =>
   cases ru;obtain⟨_,rfl⟩:=rv;obtain⟨its,r1,pl,_⟩:=I.list (SqL.of e0);exact SeqAt.RcAt.list_int _ _ pl.isList (by omega)
  | str =>
   cases ru;obtain⟨_,rfl⟩:=rv;obtain⟨its,r1,pl,_⟩:=I.list (SqL.of e0);exact SeqAt.RcAt.list_str _ _ pl.isList (by omega)
  | @tup m p' ys es e1 hl1 h1 =>
   cases ru;cases rv;obtain⟨its,r1,pl,_⟩:=I.list (SqL.of e0);obtain⟨jts,r2,pl',_⟩:=I.tuple (SqT.of e1);exact SeqAt.RcAt.list_tuple pl.isList pl' (by omega)
  | @lst m p' ys es e1 hl1 h1 =>
   cases ru;cases rv;obtain⟨its,r1,pl,_⟩:=I.list (SqL.of e0);obtain⟨jts,r2,pl',_⟩:=I.list (SqL.of e1);have g1:=r1.length;have g2:=r2.length
   by_cases hz:ds.length=es.length
   ·have y:=SeqAt.RcAt.lists (A:=A) (e:=λj=>deq (ds.getD j .non) (es.getD j .non)) pl.isList pl'.isList (by rw[List.size_toArray,List.size_toArray];omega) (by omega) (fc r1 r2 hl hl1 λj x y d e u w a b c k ra rb=>(h j x d a c).eqAt (h1 j y e b k) I ra rb (by show A.units+1+_<cLine;omega))
    rw[List.size_toArray,<- r1.length,hl,fe hz]at y;exact y
   ·rw[show deq (.lst ds) (.lst es)=false from jg hz]
    exact SeqAt.RcAt.lists_lengths pl.isList pl'.isList (by rw[List.size_toArray,List.size_toArray];simp;omega) (by omega)
theorem Rp.rcNeAt{A:Around}{n m:Nat}{x y:V}{d e:D}{u v:Value}(r:Rp H n x d)(q:Rp H m y e)(I:zg X pins σ H s)(ru:aN x u)(rv:aN y v)(hu:A.units+n+1<cLine):SeqAt.RcNeAt A s u v (!(deq d e)):=by
 cases r with
 | non =>
  cases q with
  | non =>
   cases ru;cases rv;exact SeqAt.RcNeAt.none_none
  | bl =>
   cases ru;cases rv;exact SeqAt.RcNeAt.none_bool _
  | int =>
   cases ru;obtain⟨_,rfl⟩:=rv;exact SeqAt.RcNeAt.none_int _ _
  | str =>
   cases ru;obtain⟨_,rfl⟩:=rv;exact SeqAt.RcNeAt.none_str _ _
  | @tup m p' ys es e1 hl1 h1 =>
   cases ru;cases rv;obtain⟨jts,r2,pl',_⟩:=I.tuple (SqT.of e1);exact SeqAt.RcNeAt.none_tuple pl' (by omega)
  | @lst m p' ys es e1 hl1 h1 =>
   cases ru;cases rv;obtain⟨jts,r2,pl',_⟩:=I.list (SqL.of e1);exact SeqAt.RcNeAt.none_list pl'.isList (by omega)
 | bl =>
  cases q with
  | non =>
   cases ru;cases rv;exact SeqAt.RcNeAt.bool_none _
  | bl =>
   cases ru;cases rv;exact SeqAt.RcNeAt.bool_bool _ _
  | int =>
   cases ru;obtain⟨_,rfl⟩:=rv;exact SeqAt.RcNeAt.bool_int _ _ _
  | str =>
   cases ru;obtain⟨_,rfl⟩:=rv;exact SeqAt.RcNeAt.bool_str _ _ _
  | @tup m p' ys es e1 hl1 h1 =>
   cases ru;cases rv;obtain⟨jts,r2,pl',_⟩:=I.tuple (SqT.of e1);exact SeqAt.RcNeAt.bool_tuple _ pl' (by omega)
  | @lst m p' ys es e1 hl1 h1 =>
   cases ru;cases rv;obtain⟨jts,r2,pl',_⟩:=I.list (SqL.of e1);exact SeqAt.RcNeAt.bool_list _ pl'.isList (by omega)
 | int =>
  cases q with
  | non =>
   obtain⟨_,rfl⟩:=ru;cases rv;exact SeqAt.RcNeAt.int_none _ _
  | bl =>
   obtain⟨_,rfl⟩:=ru;cases rv;exact SeqAt.RcNeAt.int_bool _ _ _
  | int =>
   obtain⟨_,rfl⟩:=ru;obtain⟨_,rfl⟩:=rv;exact SeqAt.RcNeAt.int_int _ _ _ _
  | str =>
   obtain⟨_,rfl⟩:=ru;obtain⟨_,rfl⟩:=rv;exact SeqAt.RcNeAt.int_str _ _ _ _
  | @tup m p' ys es e1 hl1 h1 =>
   obtain⟨_,rfl⟩:=ru;cases rv;obtain⟨jts,r2,pl',_⟩:=I.tuple (SqT.of e1);exact SeqAt.RcNeAt.int_tuple _ _ pl' (by omega)
  | @lst m p' ys es e1 hl1 h1 =>
   obtain⟨_,rfl⟩:=ru;cases rv;obtain⟨jts,r2,pl',_⟩:=I.list (SqL.of e1);exact SeqAt.RcNeAt.int_list _ _ pl'.isList (by omega)
 | str =>
  cases q with
  | non =>
   obtain⟨_,rfl⟩:=ru;cases rv;exact SeqAt.RcNeAt.str_none _ _
  | bl =>
   obtain⟨_,rfl⟩:=ru;cases rv;exact SeqAt.RcNeAt.str_bool _ _ _
  | int =>
   obtain⟨_,rfl⟩:=ru;obtain⟨_,rfl⟩:=rv;exact SeqAt.RcNeAt.str_int _ _ _ _
  | str =>
   obtain⟨_,rfl⟩:=ru;obtain⟨_,rfl⟩:=rv;exact SeqAt.RcNeAt.str_str _ _ _ _
  | @tup m p' ys es e1 hl1 h1 =>
   obtain⟨_,rfl⟩:=ru;cases rv;obtain⟨jts,r2,pl',_⟩:=I.tuple (SqT.of e1);exact SeqAt.RcNeAt.str_tuple _ _ pl' (by omega)
  | @lst m p' ys es e1 hl1 h1 =>
   obtain⟨_,rfl⟩:=ru;cases rv;obtain⟨jts,r2,pl',_⟩:=I.list (SqL.of e1);exact SeqAt.RcNeAt.str_list _ _ pl'.isList (by omega)
 | @tup n p xs ds e0 hl h =>
  cases q with
  | non =>
   cases ru;cases rv;obtain⟨its,r1,pl,_⟩:=I.tuple (SqT.of e0);exact SeqAt.RcNeAt.tuple_none pl (by omega)
  | bl =>
   cases ru;cases rv;obtain⟨its,r1,pl,_⟩:=I.tuple (SqT.of e0);exact SeqAt.RcNeAt.tuple_bool _ pl (by omega)
  | int =>
   cases ru;obtain⟨_,rfl⟩:=rv;obtain⟨its,r1,pl,_⟩:=I.tuple (SqT.of e0);exact SeqAt.RcNeAt.tuple_int _ _ pl (by omega)
  | str =>
   cases ru;obtain⟨_,rfl⟩:=rv;obtain⟨its,r1,pl,_⟩:=I.tuple (SqT.of e0);exact SeqAt.RcNeAt.tuple_str _ _ pl (by omega)
  | @tup m p' ys es e1 hl1 h1 =>
   cases ru;cases rv;obtain⟨its,r1,pl,_⟩:=I.tuple (SqT.of e0);obtain⟨jts,r2,pl',_⟩:=I.tuple (SqT.of e1);have y:=SeqAt.RcNeAt.tuples (A:=A) (e:=λj=>deq (ds.getD j .non) (es.getD j .non)) pl pl' (by omega) (fc r1 r2 hl hl1 λj x y d e u w a b c k ra rb=>(h j x d a c).eqAt (h1 j y e b k) I ra rb (by show A.units+1+_<cLine;omega));rw[List.size_toArray,List.size_toArray,<- r1.length,<- r2.length,hl,hl1,dM]at y;exact y
  | @lst m p' ys es e1 hl1 h1 =>
   cases ru;cases rv;obtain⟨its,r1,pl,_⟩:=I.tuple (SqT.of e0);obtain⟨jts,r2,pl',_⟩:=I.list (SqL.of e1);exact SeqAt.RcNeAt.tuple_list pl pl'.isList (by omega)
 | @lst n p xs ds e0 hl h =>
  cases q with
  | non =>
   cases ru;cases rv;obtain⟨its,r1,pl,_⟩:=I.list (SqL.of e0);exact SeqAt.RcNeAt.list_none pl.isList (by omega)
  | bl =>
   cases ru;cases rv;obtain⟨its,r1,pl,_⟩:=I.list (SqL.of e0);exact SeqAt.RcNeAt.list_bool _ pl.isList (by omega)
  | int =>
   cases ru;obtain⟨_,rfl⟩:=rv;obtain⟨its,r1,pl,_⟩:=I.list (SqL.of e0);exact SeqAt.RcNeAt.list_int _ _ pl.isList (by omega)
  | str =>
   cases ru;obtain⟨_,rfl⟩:=rv;obtain⟨its,r1,pl,_⟩:=I.list (SqL.of e0);exact SeqAt.RcNeAt.list_str _ _ pl.isList (by omega)
  | @tup m p' ys es e1 hl1 h1 =>
   cases ru;cases rv;obtain⟨its,r1,pl,_⟩:=I.list (SqL.of e0);obtain⟨jts,r2,pl',_⟩:=I.tuple (SqT.of e1);exact SeqAt.RcNeAt.list_tuple pl.isList pl' (by omega)
  | @lst m p' ys es e1 hl1 h1 =>
   cases ru;cases rv;obtain⟨its,r1,pl,_⟩:=I.list (SqL.of e0);obtain⟨jts,r2,pl',_⟩:=I.list (SqL.of e1);have g1:=r1.length;have g2:=r2.length
   by_cases hz:ds.length=es.length
   ·have y:=SeqAt.RcNeAt.lists (A:=A) (e:=λj=>deq (ds.getD j .non) (es.getD j .non)) pl.isList pl'.isList (by rw[List.size_toArray,List.size_toArray];omega) (by omega) (fc r1 r2 hl hl1 λj x y d e u w a b c k ra rb=>(h j x d a c).eqAt (h1 j y e b k) I ra rb (by show A.units+1+_<cLine;omega))
    rw[List.size_toArray,<- r1.length,hl,fe hz]at y;exact y
   ·rw[show deq (.lst ds) (.lst es)=false from jg hz]
    exact SeqAt.RcNeAt.lists_lengths pl.isList pl'.isList (by rw[List.size_toArray,List.size_toArray];simp;omega) (by omega)
end
section
variable {X:Cx}
inductive Fm (neg:Bool) (x:V) (y:V) (H:Hp) (Q:VK):Prop
 | mk:∀d e,(Rp H 9 x d)->(Rp H 9 y e)->(Q (.bl (if neg then !(deq d e) else deq d e)) H)->Fm neg x y H Q
theorem wA(hu:X.A.units+10<cLine):OpR X (compareOp .Eq) (Fm false):=by
 intro pins s σ H x y v u Q I rx ry h;obtain⟨d,e,rd,re,k⟩:=h;exact rd.rcAt re I rx ry (by omega) _ _ _ _ ⟨.bl _,H,I,rfl,k⟩
theorem iR(hu:X.A.units+10<cLine):OpR X (compareOp .NotEq) (Fm true):=by
 intro pins s σ H x y v u Q I rx ry h;obtain⟨d,e,rd,re,k⟩:=h;exact rd.rcNeAt re I rx ry (by omega) _ _ _ _ ⟨.bl _,H,I,rfl,k⟩
end
section
variable {H:Hp} {n:Nat} {p:Addr} {x y z w:V} {a b c d:D}
theorem Rp.t2(e:H p=some (.tup [x,y]))(ha:Rp H n x a)(hb:Rp H n y b):Rp H (n+1) (.ref p) (.tup [a,b]):=.tup e rfl λj x d h k=>by
 match j with
 | 0=>cases h;cases k;exact ha
 | 1=>cases h;cases k;exact hb
 | j+2=>simp at h
theorem Rp.l0(e:H p=some (.lst [])):Rp H (n+1) (.ref p) (.lst []):=.lst e rfl λj x d h=>by simp at h
mutual
theorem dh:∀d:D,deq d d=true
 | .non=>rfl
 | .bl b=>by simp[deq]
 | .int i=>by simp[deq]
 | .str x=>by simp[deq]
 | .tup ds=>by simp only[deq];exact gQ ds
 | .lst ds=>by simp only[deq];exact gQ ds
theorem gQ:∀ds:List D,gA ds ds=true
 | []=>by simp[gA]
 | d::ds=>by simp only[gA,Bool.and_eq_true];exact⟨dh d,gQ ds⟩
end
end
structure Br(X:Cx)(scope:Scope)(cl:List (Str×Addr))(xs:List Str)(fv:List (Str×Nat)):Prop where
 clos:closureFor scope X.env=pure cl
 kind:scope.kind = .function
 cell:∀y∈scope.names,y.2≠.cell
 names:∀y∈scope.names,y.2 = .local->scope.names.lookup y.1=some .local
 own:∀x∈xs,scope.names.lookup x=some .local
 cells:∀p∈cl,X.env.cells.lookup p.1=some p.2
 has:((relabel scope X.env).names.all λq=>!(q.2 == .cell || q.2 == .free) || (cl.lookup q.1).isSome)=true
 nd:(xs++fv.map (·.1)).Nodup
 slot:∀p∈fv,X.N[p.2]? = some p.1/\X.env.kindOf p.1=some .cell/\Vis X.env.scope p.1/\(cl.lookup p.1).isSome=true/\((relabel scope X.env).names.lookup p.1=some .cell)
 stk:X.stack=X.env::X.outer/\X.env.frame=some X.env.locals
 noex:X.ex = []
noncomputable def PTs(X:Cx)(ifs:List Expr)(tc:TT):Prop :=
 ∀(pins:List (Addr×Obj)) (s:Shared) (σ:St) (H:Hp) (Q:Bool->Hp->Prop),zg X pins σ H s->tc σ H Q ->
  wpAny (model X.prog X.w) X.A (forIn ifs true λc r=>if r=true then do let ok <- isTrue c X.env (eval c X.env);pure (ForInStep.yield ok) else pure (ForInStep.yield r)) (λb s'=>∃H',zg X pins σ H' s'/\Q b H') X.xe s
noncomputable def vP:TT:=λ_ H Q=>Q true H
theorem tS{X:Cx}:PTs X [] vP:=λpins s σ H Q I h=>wpAny_tests_nil ⟨H,I,h⟩
theorem kg{X:Cx}{c:Expr}{tc:TT}(h:PT X c tc):PTs X [c] tc:=λpins s σ H Q I q=>wpAny_tests_one (h pins s σ H Q I q)
theorem mC{prog:Program}{w:World}{A:Around}{R:Result->Shared->Prop}{s:Shared}{elt target iter:Expr}{ifs:List Expr}{scope:Scope}{pos:Pos}{it acc:Value}{env:Env}(I:Nat->Shared->Prop)
  (turn:∀n s,I n s->wpAny (model prog w) A (pyNext it) (λr s1=>match r with
   | none=>R (.ok .next) s1
   | some v=>wpAny (model prog w) A (letOwnedTupleGo target it v) (λ_ s₀=>wpAny (model prog w) A (assign target env v) (λ_ s2 =>
     wpAny (model prog w) A (forIn ifs true λc r=>if r=true then do let ok <- isTrue c env (eval c env);pure (ForInStep.yield ok) else pure (ForInStep.yield r)) (λok s3 =>
      if ok=true then wpAny (model prog w) A (eval elt env) (λx s4 =>
       wpAny (model prog w) A (call (.builtin "list.append") [acc,x]) (λ_ s5=>∃m,m<n/\I m s5) (notedBy (model prog w) A env λe s'=>R (.error e) s') s4) (notedBy (model prog w) A env λe s'=>R (.error e) s') s3
      else ∃m,m<n/\I m s3) (notedBy (model prog w) A env λe s'=>R (.error e) s') s2) (notedBy (model prog w) A env λe s'=>R (.error e) s') s₀) (notedBy (model prog w) A env λe s'=>R (.error e) s') s1) (notedBy (model prog w) A env λe s'=>R (.error e) s') s)
  (n:Nat) (h:I n s):codeAny (model prog w) A (.compLoop (.ListComp elt [⟨target,iter,ifs,0⟩] scope pos) 0 it acc env) R s:=by
 refine codeAny_loop rfl I (λn s hI=>?_) n h;show wpAny _ A ((compTurn (.ListComp elt [⟨target,iter,ifs,0⟩] scope pos) 0 it acc env).onRaise (λx=>do noteFrame x env;theTreesLotGoes x)) _ _ s
 refine wpAny_noted ?_;rw[compTurn_list];refine wpAny_bind (wpAny_standAt (wpAny_bind (wpAny_mono (turn n s hI) (λr s1 h1=>?_) λ_ _ h'=>h')));cases r with
 | none=>exact wpAny_pure h1
 | some v =>
  refine wpAny_bind (wpAny_mono h1 (λ_ s₀ h₀=>?_) λ_ _ h'=>h');refine wpAny_bind (wpAny_mono h₀ (λ_ s2 h2=>wpAny_bind (wpAny_mono h2 (λok s3 h3=>?_) λ_ _ h'=>h')) λ_ _ h'=>h');cases ok with
  | false=>exact wpAny_pure ⟨rfl,h3⟩
  | true=>exact wpAny_bind (wpAny_bind (wpAny_mono h3 (λx s4 h4=>wpAny_bind (wpAny_mono h4 (λ_ s5 h5=>wpAny_pure (wpAny_pure ⟨rfl,h5⟩)) λ_ _ h'=>h')) λ_ _ h'=>h'))
noncomputable def dX(J:It)(n:Nat)(fv:List (Str×Nat))(g:TG)(tc:TT)(te:TE)(σ:St)(H1:Hp)(Q:VK):Prop:=∀p,H1 p=none->∃W:Nat->Nat->List V->Hp->Prop,(∃m,W 0 m [] (upd H1 p (.lst [])))/\∀i m acc H2,W i m acc H2 ->
 H2 p=some (.lst acc)/\acc.length<sizeLine/\((J.stop i H2/\Q (.ref p) H2)\/(J.go i H2/\∀x H3,J.yld i H2 x H3->∀τ:St,τ.length=n->g x (τ++fvs fv σ) H3 λσ2 H4=>(∃τ':St,τ'.length=n/\σ2=τ'++fvs fv σ) /\
  tc σ2 H4 λb H5=>if b=true then te σ2 H5 (λy H6=>H6 p=some (.lst acc)/\∃m',m'<m/\W (i+1) m' (acc++[y]) (upd H6 p (.lst (acc++[y])))) else ∃m',m'<m/\W (i+1) m' acc H5))
noncomputable def qu(wi:TI)(n:Nat)(fv:List (Str×Nat))(g:TG)(tc:TT)(te:TE):TE:=λσ H Q=>wi σ H λJ H1=>dX J n fv g tc te σ H1 Q
section
variable {X:Cx} {scope:Scope} {cl:List (Str×Addr)} {xs:List Str} {fv:List (Str×Nat)} {elt iter tg:Expr} {ifs:List Expr} {pos:Pos} {te:TE} {tc:TT} {g:TG}
theorem vd{pins:List (Addr×Obj)}{σ:St}{H:Hp}{s:Shared}{fp:List Addr}(C:Br X scope cl xs fv)(I:zg X pins σ H s)(hf:∀b∈fp,ei X pins H b)(ho:∀b∈fp,b<s.heap.objs.size):(X.blk (xs++fv.map (·.1)) scope cl fp s H).Ok:=by
 have hcl:∀y c,cl.lookup y=some c->X.env.cells.lookup y=some c:=λy c h=>C.cells _ (bL h);have old:∀b∈fp,X.s₀.heap.objs.size<=b:=λb hb=>by
  rcases(hf b hb).2.2.2.1 with z|z
  ·rw[C.noex]at z
   cases z
  ·exact z
 refine⟨I.ok.mod,by show(relabel scope X.env).kind=_;exact C.kind,I.ok.glob,I.ok.blt,Nat.le_refl _,λy z c h1 h2=>I.ok.inj y z c (hcl y c h1) (hcl z c h2),λy hy=>?_,(λy c h=>by cases h),I.ok.hd,I.ok.frames,.inl rfl,λb hb=>?_,λb o e=>I.bs b o e,Nat.le_trans I.ok.bsz I.sz,λb o e hb=>?_,λb hb hm=>?_,I.stack,I.stkFree⟩
 ·have q:=C.has
  rw[List.all_eq_true]at q;have hm:∃k,(y,k)∈(relabel scope X.env).names/\(k = .cell\/k = .free):=by
   rcases hy with hy|hy
   ·exact⟨_,bL hy,.inl rfl⟩
   ·exact⟨_,bL hy,.inr rfl⟩
  obtain⟨k,hk,hk2⟩:=hm;have q2:=q _ hk;have q3:(cl.lookup y).isSome=true:=by
   rcases hk2 with rfl|rfl
   ·simpa using q2
   ·simpa using q2
  exact Option.isSome_iff_exists.mp q3
 ·obtain⟨f0,f1,f2,f3,f4,f5⟩:=hf b hb
  refine⟨?_,λy c h=>f4 y c (hcl y c h)⟩;exact Nat.ne_of_lt (ho b hb)
 ·have z:=Heap.lt_size e
  have z2:=old b hb;exact absurd (Nat.lt_of_lt_of_le z (Nat.le_trans I.ok.bsz z2)) (Nat.lt_irrefl _)
 ·obtain⟨f0,f1,f2,f3,f4,f5⟩:=hf b hb
  rcases List.mem_cons.mp (I.stkSub b hm) with z|z
  ·exact f1 z
  ·exact f2 z
theorem sH{pins:List (Addr×Obj)}{σ:St}{H:Hp}{s s4:Shared}{fp:List Addr}(C:Br X scope cl xs fv)(I:zg X pins σ H s)(hf:∀b∈fp,ei X pins H b)(ho:∀b∈fp,b<s.heap.objs.size)
  (hs:s4.os=s.os/\s4.gens=s.gens) (ns:s4.heap.Ns s.heap.objs.size λ_=>none) (kp:∀b o,s.heap.get? b=some o->s4.heap.get? b=some o) :
  zg (X.blk (xs++fv.map (·.1)) scope cl fp s H) [] (List.replicate xs.length none++fvs fv σ) H s4:=by
 have hcl:∀y c,cl.lookup y=some c->X.env.cells.lookup y=some c:=λy c h=>C.cells _ (bL h);refine⟨vd C I hf ho,hs.1,by rw[hs.2];exact I.bare,Un.kept kp,⟨_,ns,λi y v e1 e2 e3=>?_⟩,λy c h=>?_,I.hok.fresh (Nat.le_refl _),λy c h=>I.freeC y c (hcl y c h),λp hp=>by simp at hp,I.hok.kept kp,by simp[fvs]⟩
 ·by_cases hi:i<xs.length
  ·rw[List.getElem?_append_left (by rw[List.length_replicate];exact hi),List.getElem?_replicate]at e2
   simp[hi]at e2
  ·obtain⟨j,rfl⟩:∃j,i=xs.length+j:=⟨i - xs.length,by omega⟩
   have e1':(fv.map (·.1))[j]? = some y:=by
    have z:(xs++fv.map (·.1))[xs.length+j]? = some y:=e1;rw[List.getElem?_append_right (by omega)]at z;simpa using z
   have e2':(fvs fv σ)[j]? = some (some v):=by
    rw[List.getElem?_append_right (by rw[List.length_replicate];omega),List.length_replicate]at e2;simpa using e2
   rw[List.getElem?_map]at e1';unfold fvs at e2';rw[List.getElem?_map]at e2';cases hq:fv[j]? with
   | none =>
    rw[hq]at e1';cases e1'
   | some q =>
    rw[hq]at e1' e2';have ey:q.1=y:=Option.some.inj e1';have ev:(σ[q.2]?).join=some v:=Option.some.inj e2';have hm:q∈fv:=List.mem_of_getElem? hq;obtain⟨s1,s2,s3,s4',s5⟩:=C.slot q hm;have ev2:σ[q.2]? = some (some v):=by
     cases hz:σ[q.2]? with
     | none =>
      rw[hz]at ev;cases ev
     | some z =>
      rw[hz]at ev;have ev':z=some v:=ev;rw[ev']
    obtain⟨m,hn,hl⟩:=I.loc;obtain⟨u,r,lk⟩:=hl q.2 q.1 v s1 ev2 s3;obtain⟨c,hc⟩:=Option.isSome_iff_exists.mp s4';refine⟨u,r,.inr ⟨.inl (by rw[<- ey];exact s5),c,by rw[<- ey];exact hc,?_⟩⟩;rcases lk with⟨k,_⟩|⟨_,c',hc',z⟩
    ·rw[s2]at k
     cases k
    ·rw[hcl _ _ hc]at hc'
     cases hc';obtain⟨o,ho',hd⟩:=z;exact⟨o,kp _ _ ho',hd⟩
 ·obtain⟨v,o,ho',hd⟩:=I.cell y c (hcl y c h)
  exact⟨v,o,kp _ _ ho',hd⟩
theorem mG{pins:List (Addr×Obj)}{σ:St}{H2:Hp}{s2:Shared}{it:Addr}{fp:List Addr}{tn:Nat->Heap->Prop}{J:It}{RR:Value->Addr->Result->Shared->Prop}{E:Value->Shared->Prop}{Qf:V->Hp->Prop}
  (hcalm:X.calm=true) (C:Br X scope cl xs fv) (I2:zg X pins σ H2 s2) (T:CU X.prog X.w X.K tg J fp it tn) (st:tn 0 s2.heap) (f2:∀b∈fp,ei X pins H2 b)
  (rd:dX J xs.length fv g tc te σ H2 Qf)
  (hg:∀(s₀:Shared) (H₀:Hp),PG (X.blk (xs++fv.map (·.1)) scope cl fp s₀ H₀) tg g) (ht:∀(s₀:Shared) (H₀:Hp),PTs (X.blk (xs++fv.map (·.1)) scope cl fp s₀ H₀) ifs tc)
  (he:∀(s₀:Shared) (H₀:Hp),PE (X.blk (xs++fv.map (·.1)) scope cl fp s₀ H₀) elt te)
  (hRR:∀(p C:Addr) (H':Hp) (s':Shared),(∃m,s'.heap.Ns C m)->C≠X.env.locals->H' C=none->X.s₀.heap.objs.size<=C->(∀y c,X.env.cells.lookup y=some c->c≠C)->(∀q∈X.pn++pins,q.1≠C)->zg X pins σ H' s'->Qf (.ref p) H'->RR (.ref p) C (.ok .next) s') :
  wpAny (model X.prog X.w) X.A (newList []) (λacc s₃=>wpAny (model X.prog X.w) X.A (newFunctionEnv scope X.env.globals cl [] X.env.qual none .none (some X.env)) (λcenv s₄ =>
   codeAny (model X.prog X.w) X.A (.compStart (.ListComp elt [⟨tg,iter,ifs,0⟩] scope pos) 0 (.ref it) acc { cenv with scope:=relabel scope X.env }) (RR acc cenv.locals) s₄) E s₃) E s2:=by
 refine wpAny_newObj_type ?_;have hfresh:=I2.fresh;have I3:zg X pins σ (upd H2 s2.heap.objs.size (.lst [])) { s2 with heap:=s2.heap.push { cls:=.type "list",data:=.seq ([]:List Value).toArray } } :=
  I2.laid (t':=s2.toks) (λb u q=>Heap.get?_push_of_some _ q) (Nat.le_refl _) ⟨Nat.zero_le _,[],0,.nil,Heap.get?_push_size _ rfl⟩
 generalize hs3:({ s2 with heap:=s2.heap.push { cls:=.type "list",data:=.seq ([]:List Value).toArray } }:Shared)=s3 at I3 ⊢;have hp3:s2.heap.objs.size<s3.heap.objs.size:=by rw[<- hs3];exact Nat.lt_of_lt_of_le (Nat.lt_succ_self _) (Nat.le_of_eq (Heap.size_push _ _).symm)
 have k23:∀b o,s2.heap.get? b=some o->s3.heap.get? b=some o:=λb o e=>by rw[<- hs3];exact Heap.get?_push_of_some _ e
 have fpo:∀b∈fp,b<s2.heap.objs.size:=λb hb=>by
  obtain⟨o,e,_⟩:=T.obj 0 _ st b hb;exact Heap.lt_size e
 have f3:∀b∈fp,ei X pins (upd H2 s2.heap.objs.size (.lst [])) b:=λb hb=>⟨by rw[aF (Nat.ne_of_lt (fpo b hb))];exact(f2 b hb).1,(f2 b hb).2⟩;refine wpAny_newFunctionEnv C.cell (by intro y hy;simp at hy) (λh1 hns1 hsb1=>?_) C.kind;have kp:∀b o,s3.heap.get? b=some o->h1.get? b=some o:=λb o e=>(hsb1.2 b (Nat.ne_of_lt (Heap.lt_size e))).trans (Heap.get?_push_of_some _ e);have I4:=sH (s4:={ s3 with heap:=h1,toks:=s3.toks+([]:List (Str×Value)).length }) C I3 f3 (λb hb=>Nat.lt_trans (fpo b hb) hp3) ⟨rfl,rfl⟩ hns1 kp;have st4:tn 0 h1:=T.keep 0 _ _ st λb _ o e=>kp b o (k23 b o e);obtain⟨W,⟨m0,w0⟩,step⟩:=rd _ hfresh;have loop:codeAny (model X.prog X.w) X.A (.compLoop (.ListComp elt [⟨tg,iter,ifs,0⟩] scope pos) 0 (.ref it) (.ref s2.heap.objs.size) (compEnvC scope cl s3.heap.objs.size X.env)) (RR (.ref s2.heap.objs.size) s3.heap.objs.size)
   { s3 with heap:=h1,toks:=s3.toks+([]:List (Str×Value)).length }:=by
  refine mC (λn s=>∃i acc τ H',τ.length=xs.length/\zg (X.blk (xs++fv.map (·.1)) scope cl fp s3 (upd H2 s2.heap.objs.size (.lst []))) [] (τ++fvs fv σ) H' s/\tn i s.heap/\(∀b∈fp,H' b=none)/\W i n acc H') ?_ m0 ⟨0,[],List.replicate xs.length none,_,List.length_replicate,I4,st4,λb hb=>(f3 b hb).1,w0⟩;rintro n s ⟨i,acc,τ,H',hτ,I',st',fr',w'⟩;obtain⟨hp,hlen,alt⟩:=step i n acc H' w';have fpk:∀{H5:Hp},(∀b∈fp,H5 b=none)->∀b∈fp,ei (X.blk (xs++fv.map (·.1)) scope cl fp s3 (upd H2 s2.heap.objs.size (.lst []))) [] H5 b:=λh5 b hb =>
   ⟨h5 b hb,(I'.ok.exf b hb).1,I'.ok.exfs b hb,.inl hb,λy c e=>(I'.ok.exf b hb).2 y c e,λq hq=>by simp at hq⟩
  rcases alt with⟨stop,qf⟩|⟨go,turn⟩
  ·refine wpAny_mono (T.done (X.blk (xs++fv.map (·.1)) scope cl fp s3 (upd H2 s2.heap.objs.size (.lst []))) rfl rfl rfl hcalm i [] s _ H' (λ_ _=>False) I' (fpk fr') st' stop) (λr s5 ⟨hr,I5⟩=>?_) λ_ _ z=>False.elim z
   subst hr;refine hRR _ _ H' s5 (let ⟨m,hn,_⟩:=I5.loc;⟨m,hn⟩) (Nat.ne_of_gt I3.lt) I5.free I3.sz (λy c e=>?_) (λq hq=>?_) ?_ qf
   ·obtain⟨v,z⟩:=I3.cell y c e
    exact Nat.ne_of_lt z.lt
   ·exact Nat.ne_of_lt (Heap.lt_size (I3.pin q hq).1)
   ·exact I3.call' (s':=s5) (ch:=fp) I5.os I5.base I5.hok I5.bare λb hb=>⟨(f2 b hb).2.2.2.1,(f2 b hb).2.1,(f2 b hb).2.2.2.2.1,(f2 b hb).2.2.2.2.2⟩
  ·refine wpAny_mono (T.item (X.blk (xs++fv.map (·.1)) scope cl fp s3 (upd H2 s2.heap.objs.size (.lst []))) rfl rfl rfl hcalm i [] s _ H' (λ_ _=>False) I' (fpk fr') st' go) (λr s5 ⟨u,hr,h5⟩=>?_) λ_ _ z=>False.elim z
   subst hr;refine wpAny_mono h5 (λ_ s6 ⟨y,H6,I6,r6,y6,st6,fr6⟩=>?_) λ_ _ z=>False.elim z;have I6':=I6.pinned (fpk fr6) (T.obj _ _ st6);have rt:=turn y _ y6 τ hτ;refine wpAny_mono (hg s3 _ _ s6 _ H6 y u _ I6' r6 rt) (λ_ s7 ⟨σ7,H7,I7,⟨τ',hτ',e7⟩,q7⟩=>?_) λ_ _ z=>False.elim z;subst e7;refine wpAny_mono (ht s3 _ _ s7 _ _ _ I7 q7) (λb s7b ⟨H7b,I7b,q7b⟩=>?_) λ_ _ z=>False.elim z;have kp6:∀{σ9:St} {H9:Hp} {s9:Shared},zg (X.blk (xs++fv.map (·.1)) scope cl fp s3 (upd H2 s2.heap.objs.size (.lst []))) ([]++iP fp s6.heap) σ9 H9 s9->tn (i+1) s9.heap/\∀b∈fp,H9 b=none:=λ{σ9 H9 s9} I9=>by
    refine⟨T.keep _ _ _ st6 λb hb o e=>(I9.pin (b,o) (List.mem_append_right _ (List.mem_append_right _ (cM hb e)))).1,λb hb=>?_⟩;obtain⟨o,e,d⟩:=T.obj _ _ st6 b hb;exact(I9.pin (b,o) (List.mem_append_right _ (List.mem_append_right _ (cM hb e)))).2.1
   cases b with
   | false =>
    obtain⟨m',hm',w8⟩:=q7b;exact⟨m',hm',i+1,acc,τ',_,hτ',I7b.unpinned,(kp6 I7b).1,(kp6 I7b).2,w8⟩
   | true =>
    refine wpAny_mono (he s3 _ _ s7b _ _ _ I7b q7b) (λv8 s8 ⟨y8,H8,I8,r8,q8,m',hm',w8⟩=>?_) λ_ _ z=>False.elim z;refine wpAny_mono (gH (X:=X.blk (xs++fv.map (·.1)) scope cl fp s3 (upd H2 s2.heap.objs.size (.lst []))) _ s8 _ H8 (.ref s2.heap.objs.size) [y8] (.ref s2.heap.objs.size) [v8] (λ_ H9=>H9=upd H8 s2.heap.objs.size (.lst (acc++[y8]))) I8 rfl (.cons r8 .nil) ⟨_,acc,y8,rfl,rfl,q8,hlen,rfl⟩) (λ_ s9 ⟨_,H9,I9,_,e9⟩=>?_) λ_ _ z=>False.elim z;subst e9;exact⟨m',hm',i+1,acc++[y8],τ',_,hτ',I9.unpinned,(kp6 I9).1,(kp6 I9).2,w8⟩
 exact codeAny_compStart_list loop (T.self _ 0 _ _ _ st4 loop)
theorem qI{wi:TI}(hcalm:X.calm=true)(C:Br X scope cl xs fv)(hi:PI X tg iter wi)(hg:∀(fp:List Addr) (s₀:Shared) (H₀:Hp),PG (X.blk (xs++fv.map (·.1)) scope cl fp s₀ H₀) tg g)(ht:∀(fp:List Addr) (s₀:Shared) (H₀:Hp),PTs (X.blk (xs++fv.map (·.1)) scope cl fp s₀ H₀) ifs tc)(he:∀(fp:List Addr) (s₀:Shared) (H₀:Hp),PE (X.blk (xs++fv.map (·.1)) scope cl fp s₀ H₀) elt te)
  (hs:∀v,foldedSetIterable iter X.env v=pure v:=by intro _;rfl):PE X (.ListComp elt [⟨tg,iter,ifs,0⟩] scope pos) (qu wi xs.length fv g tc te):=by
 intro pins s σ H Q I h;rw[eval_ListComp];refine wpAny_comprehension_free (use:=none) rfl hs C.clos C.kind C.names (wpAny_mono (hi pins s σ H _ I h) (λv s1 h1=>wpAny_mono h1 (λitv s2 h2=>?_) λ_ _ z=>z) λ_ _ z=>z);obtain⟨it,fp,tn,J,H2,rfl,I2,T,st2,f2,rd⟩:=h2;refine mG (Qf:=Q) hcalm C I2 T st2 f2 rd (hg fp) (ht fp) (he fp) λp D H' s' ns nL nH n0 nC nP I8 q=>?_;obtain⟨m,hn⟩:=ns;exact⟨m,hn,λh'' sb=>⟨.ref p,H',I8.turned (t':=s'.toks) (λb o hb e=>(sb.2 b hb).trans e) nH nL (.inr n0) nC nP,rfl,q⟩⟩
theorem eD{wi:TI}{y:Str}{j:Nat}{py spos:Pos}(hcalm:X.calm=true)(C:Br X scope cl xs fv)(hN:X.N.Nodup)(hj:X.N[j]? = some y)(hy:X.env.scope.names.lookup y=some .local)(hi:PI X tg iter wi)(hg:∀(fp:List Addr) (s₀:Shared) (H₀:Hp),PG (X.blk (xs++fv.map (·.1)) scope cl fp s₀ H₀) tg g)(ht:∀(fp:List Addr) (s₀:Shared) (H₀:Hp),PTs (X.blk (xs++fv.map (·.1)) scope cl fp s₀ H₀) ifs tc)(he:∀(fp:List Addr) (s₀:Shared) (H₀:Hp),PE (X.blk (xs++fv.map (·.1)) scope cl fp s₀ H₀) elt te)
  (hsw:swapsWith (.ListComp elt [⟨tg,iter,ifs,0⟩] scope pos) (some (.Name y py)) spos.line X.env=pure true:=by rfl)
  (hs:∀v,foldedSetIterable iter X.env v=pure v:=by intro _;rfl):PS X (.Assign [.Name y py] (.ListComp elt [⟨tg,iter,ifs,0⟩] scope pos) spos) (vT (qu wi xs.length fv g tc te) (oR j)):=by
 intro pins s σ H D I h;rw[exec_Assign_Name_used _ _ _ _ hsw];refine wpAny_bind (wpAny_standAt (wpAny_bind ?_));show wpAny _ _ (do let _ <- comprehension (.ListComp elt [⟨tg,iter,ifs,0⟩] scope pos) scope X.env _ (newList []) false (eval iter X.env) (some (assign (.Name y py) X.env))) _ _ s
 refine wpAny_bind (wpAny_mono (wpAny_comprehension_free (use:=some (assign (.Name y py) X.env)) (Q:=λ_ s'=>SP X pins D .next s') rfl hs C.clos C.kind C.names
  (wpAny_mono (hi pins s σ H _ I h) (λv s1 h1=>wpAny_mono h1 (λitv s2 h2=>?_) λ_ _ z=>z) λ_ _ z=>z)) (λ_ s' hq=>wpAny_pure (wpAny_pure hq)) λ_ _ z=>z)
 obtain⟨it,fp,tn,J,H2,rfl,I2,T,st2,f2,rd⟩:=h2;refine mG (Qf:=λv H'=>oR j v σ H' D.nx) hcalm C I2 T st2 f2 rd (hg fp) (ht fp) (he fp) λp D' H' s' ns nL nH n0 nC nP I8 q=>?_;obtain⟨m,hn⟩:=ns;show wpAny _ _ (assign (.Name y py) X.env (.ref p)) _ _ _;refine wpAny_assign_Name (jF I8 hN hj (.inl hy) (v:=.ref p) rfl (λs9 I9 ⟨a,sb,ha⟩=>?_) (.inr hy));have aD:D'≠a:=by
  rintro rfl;rcases ha with z|z
  ·exact nL z
  ·exact nC y _ z rfl
 exact⟨m,hn.sameBut sb aD,λh'' sb2=>⟨_,H',I9.turned (t':=s9.toks) (λb o hb e=>(sb2.2 b hb).trans e) nH nL (.inr n0) nC nP,q⟩⟩
end
theorem uZ{J:It}{n k:Nat}{fv:List (Str×Nat)}{g:TG}{te:TE}{σ:St}{H1:Hp}{Q:VK}(hlen:n<1000)(R:Nat->V->Hp->Prop)(hR:∀i v H H',SameT H H'->R i v H->R i v H')
  (hst:∀H2,Same H1 H2->J.stop n H2) (hgo:∀i H2,i<n->Same H1 H2->J.go i H2)
  (hs:∀i x H2 H3 (τ:St) (Kc:VK),i<n->Same H1 H2->J.yld i H2 x H3->τ.length=k->(∀y H4,Same H2 H4->R i y H4->Kc y H4)->g x (τ++fvs fv σ) H3 λσ2 H4=>(∃τ':St,τ'.length=k/\σ2=τ'++fvs fv σ)/\te σ2 H4 Kc)
  (hd:∀l ys H',H1 l=none->Same H1 H'->H' l=some (.lst ys)->ys.length=n->(∀i y,ys[i]? = some y->R i y H')->Q (.ref l) H') :
  dX J k fv g vP te σ H1 Q:=by
 intro l hl;refine⟨λi m acc H2=>m=n - i/\i<=n/\acc.length=i/\Same H1 H2/\H2 l=some (.lst acc)/\∀j y,acc[j]? = some y->R j y H2,⟨n,rfl,Nat.zero_le _,rfl,Same.new hl,upd_same,λj y h=>by simp at h⟩,?_⟩;rintro i m acc H2 ⟨rfl,hi,e1,sm,e3,hr⟩;refine⟨e3,aR (by omega),?_⟩
 by_cases hlt:i<n
 ·refine .inr ⟨hgo i H2 hlt sm,λx H3 y τ hτ=>?_⟩
  refine hs i x H2 H3 τ _ hlt sm y hτ λy H4 s4 ry=>⟨s4 _ _ e3,n - (i+1),by omega,rfl,hlt,by simp[e1],(sm.trans s4).upd hl,upd_same,λj z hz=>?_⟩;have t4:=SameT.upd (ys:=acc++[y]) (s4 _ _ e3);rcases Nat.lt_trichotomy j acc.length with h|h|h
  ·rw[List.getElem?_append_left h]at hz
   exact hR _ _ _ _ (s4.t.trans t4) (hr j z hz)
  ·subst h
   rw[List.getElem?_append_right (Nat.le_refl _),Nat.sub_self]at hz;cases hz;rw[e1];exact hR _ _ _ _ t4 ry
  ·rw[List.getElem?_eq_none (by simp;omega)]at hz
   cases hz
 ·have e:i=n:=by omega
  subst e;exact .inl ⟨hst H2 sm,hd l acc H2 hl sm e3 e1 hr⟩
theorem pZ{K:W.Frag}{a b:Addr}{xs ys:List V}{fv:List (Str×Nat)}{te:TE}{σ:St}{H1:Hp}{Q:VK}{g:TG}{k:Nat}(q1:SqL K H1 a xs)(q2:SqL K H1 b ys)(hlen:min xs.length ys.length<1000)(R:Nat->V->Hp->Prop)(hR:∀i v H H',SameT H H'->R i v H->R i v H')
  (hs:∀i x y p H2 (τ:St) (Kc:VK),xs[i]? = some x->ys[i]? = some y->Same H1 H2->H2 p=some (.tup [x,y])->τ.length=k->(∀y H4,Same H2 H4->R i y H4->Kc y H4)->g (.ref p) (τ++fvs fv σ) H2 λσ2 H4=>(∃τ':St,τ'.length=k/\σ2=τ'++fvs fv σ)/\te σ2 H4 Kc)
  (hd:∀l zs H',H1 l=none->Same H1 H'->H' l=some (.lst zs)->zs.length=min xs.length ys.length->(∀i y,zs[i]? = some y->R i y H')->Q (.ref l) H') :
  dX (Itz K a b) k fv g vP te σ H1 Q:=by
 refine uZ (n:=min xs.length ys.length) hlen R hR (λH2 s2=>⟨xs,ys,s2.seq q1,s2.seq q2,rfl⟩) (λi H2 hi s2=>⟨xs,ys,xs[i],ys[i],s2.seq q1,s2.seq q2,by simp[show i<xs.length by omega],by simp[show i<ys.length by omega]⟩) ?_ hd;intro i x H2 H3 τ Kc hi s2 y hτ kk;obtain⟨p,u,v,rfl,np,rfl,e⟩:=y;obtain⟨e1,e2⟩:=e xs ys (s2.seq q1) (s2.seq q2);have s3:Same H2 (upd H2 p (.tup [u,v])):=Same.new np;exact hs i u v p _ τ Kc e1 e2 (s2.trans s3) upd_same hτ λy H4 s4 r=>kk y H4 (s3.trans s4) r
section
variable {κ:Type} [DecidableEq κ]
noncomputable def cE(kvs:List (κ×V))(k:κ):Option V:=(kvs.find? λkv=>decide (kv.1=k)).map (·.2)
noncomputable def d8(kvs:List (κ×V))(k:κ)(v:V):List (κ×V) :=
 if (kvs.any λkv=>decide (kv.1=k))=true then kvs.map (λkv=>if kv.1=k then (kv.1,v) else kv) else kvs++[(k,v)]
theorem bO{p:κ×V}{r:List (κ×V)}{k:κ}(e:p.1=k):cE (p::r) k=some p.2:=by simp[cE,List.find?_cons,e]
theorem bE{p:κ×V}{r:List (κ×V)}{k:κ}(e:¬p.1=k):cE (p::r) k=cE r k:=by simp[cE,List.find?_cons,e]
theorem eB(k:κ):∀kvs:List (κ×V),(kvs.any λkv=>decide (kv.1=k))=(cE kvs k).isSome
 | []=>rfl
 | p::r=>by
  rw[List.any_cons]
  by_cases e:p.1=k
  ·simp only[bO e,decide_eq_true e,Bool.true_or,Option.isSome_some]
  ·rw[bE e,decide_eq_false e,Bool.false_or];exact eB k r
theorem k8(k j:κ)(y:V):∀kvs:List (κ×V),cE (kvs.map λkv=>if kv.1=k then (kv.1,y) else kv) j=(cE kvs j).map λx=>if j=k then y else x
 | []=>rfl
 | p::r=>by
  have ih:=k8 k j y r;rw[List.map_cons]
  by_cases h:p.1=k
  ·rw[if_pos h]
   by_cases e:p.1=j
   ·rw[bO (p:=(p.1,y)) e,bO e,Option.map_some,if_pos (e.symm.trans h)]
   ·rw[bE (p:=(p.1,y)) e,bE e,ih]
  ·rw[if_neg h]
   by_cases e:p.1=j
   ·rw[bO (p:=p) e,bO e,Option.map_some,if_neg (λz=>h (e.trans z))]
   ·rw[bE (p:=p) e,bE e,ih]
theorem jC(k j:κ)(y:V):∀kvs:List (κ×V),cE kvs k=none->cE (kvs++[(k,y)]) j=if j=k then some y else cE kvs j
 | [],_=>by
  by_cases e:k=j
  ·rw[if_pos e.symm];exact bO (p:=(k,y)) e
  ·rw[if_neg (λz=>e z.symm)];exact bE (p:=(k,y)) e
 | p::r,hn=>by
  rw[List.cons_append];have hk:¬p.1=k:=λz=>by rw[bO z]at hn;cases hn
  rw[bE hk]at hn;have ih:=jC k j y r hn
  by_cases e:p.1=j
  ·rw[bO e,bO e,if_neg (λz=>hk (e.trans z))]
  ·rw[bE e,bE e,ih]
theorem eA(kvs:List (κ×V))(k j:κ)(y:V):cE (d8 kvs k y) j=if j=k then some y else cE kvs j:=by
 unfold d8
 by_cases a:(kvs.any λkv=>decide (kv.1=k))=true
 ·rw[if_pos a,k8]
  rw[eB]at a
  by_cases e:j=k
  ·obtain⟨x,hx⟩:=Option.isSome_iff_exists.mp a
   rw[if_pos e,e,hx,Option.map_some,if_pos rfl]
  ·rw[if_neg e]
   cases cE kvs j with
   | none=>rfl
   | some x=>rw[Option.map_some,if_neg e]
 ·rw[if_neg a]
  refine jC k j y kvs ?_;rw[eB]at a;cases q:cE kvs k with
  | none=>rfl
  | some x=>rw[q]at a;exact(a rfl).elim
theorem gY(kvs:List (κ×V))(k:κ)(v:V):(d8 kvs k v).length<=kvs.length+1:=by
 unfold d8
 split
 ·rw[List.length_map];omega
 ·rw[List.length_append,List.length_cons,List.length_nil];omega
theorem iL{kvs:List (κ×V)}{k:κ}(v:V)(h:cE kvs k=none):d8 kvs k v=kvs++[(k,v)]:=by
 unfold d8;rw[eB,h];exact if_neg (by decide)
theorem gR.isSome_eq{o:Option V}{u:Option Value}(r:gR o u):o.isSome=u.isSome:=by
 cases o with
 | none=>cases u with
  | none=>rfl
  | some _=>exact(show False from r).elim
 | some _=>cases u with
  | none=>exact(show False from r).elim
  | some _=>rfl
theorem KV.val{kvs:List (κ×V)}{vs:List (κ×Value)}(r:KV kvs vs)(k:κ):gR (cE kvs k) (valueAt vs k):=by
 unfold KV at r
 induction r with
 | nil=>exact True.intro
 | @cons p q ps qs h t ih =>
  obtain⟨h1,h2⟩:=h
  by_cases e:p.1=k
  ·have e':q.1=k:=h1.symm.trans e
   have b:valueAt (q::qs) k=some q.2:=by simp[valueAt,List.find?_cons,e']
   rw[bO e,b];exact h2
  ·have e':¬q.1=k:=λz=>e (h1.trans z)
   have b:valueAt (q::qs) k=valueAt qs k:=by simp[valueAt,List.find?_cons,e']
   rw[bE e,b];exact ih
theorem KV.any{kvs:List (κ×V)}{vs:List (κ×Value)}(r:KV kvs vs)(k:κ):(kvs.any λkv=>decide (kv.1=k))=vs.any λkv=>decide (kv.1=k):=by
 unfold KV at r
 induction r with
 | nil=>rfl
 | cons h t ih=>rw[List.any_cons,List.any_cons,ih,h.1]
theorem KV.repl{kvs:List (κ×V)}{vs:List (κ×Value)}(r:KV kvs vs)(k:κ){y:V}{u:Value}(ry:aN y u) :
  KV (kvs.map λkv=>if kv.1=k then (kv.1,y) else kv) (vs.map λkv=>if kv.1=k then (kv.1,u) else kv):=by
 unfold KV at r ⊢
 induction r with
 | nil=>exact .nil
 | @cons p q ps qs h t ih =>
  rw[List.map_cons,List.map_cons];refine .cons ?_ ih;obtain⟨h1,h2⟩:=h
  by_cases e:p.1=k
  ·rw[if_pos e,if_pos (h1.symm.trans e)];exact⟨h1,ry⟩
  ·rw[if_neg e,if_neg (λz=>e (h1.trans z))];exact⟨h1,h2⟩
theorem KV.put{kvs:List (κ×V)}{vs:List (κ×Value)}(r:KV kvs vs)(k:κ){y:V}{u:Value}(ry:aN y u):KV (d8 kvs k y) (stored vs k u):=by
 unfold d8 stored;rw[r.any k]
 by_cases e:(vs.any λkv=>decide (kv.1=k))=true
 ·rw[if_pos e,if_pos e];exact r.repl k ry
 ·rw[if_neg e,if_neg e];exact Paired.snoc r ⟨rfl,ry⟩
theorem KV.length{kvs:List (κ×V)}{vs:List (κ×Value)}(r:KV kvs vs):kvs.length=vs.length:=Paired.length r
end
theorem lR{P:Program}{w:World}{k:Key}{u:Value}(r:aN (kV k) u):(bX P w).is k u=true:=by
 cases k with
 | inl i=>obtain⟨t,e⟩:=(show ∃t,u=Value.int i t from r);subst e;exact lK P w i t
 | inr x=>obtain⟨t,e⟩:=(show ∃t,u=Value.str x t from r);subst e;exact lJ P w x t
theorem jS{P:Program}{w:World}:∀{ks:List Key} {us:List Value},aJ (ks.map kV) us->ItemsAre (bX P w) ks us
 | [],_,r=>by rw[List.map_nil]at r;cases r;exact .nil
 | k::ks,_,r=>by
  rw[List.map_cons]at r;cases r with
  | cons h t=>exact .cons (lR h) (jS t)
noncomputable abbrev KT(H:Hp):List (List Key×V)->List (List Key×Addr×Value)->Prop:=Paired λp q=>p.1=q.1/\H q.2.1=some (.tup (p.1.map kV))/\aN p.2 q.2.2
theorem KT.val{H:Hp}{kvs:List (List Key×V)}{xs:List (List Key×Addr×Value)}(r:KT H kvs xs)(k:List Key):gR (cE kvs k) ((atKey xs k).map (·.2)):=by
 induction r with
 | nil=>exact True.intro
 | @cons p q ps qs h t ih =>
  obtain⟨h1,_,h2⟩:=h
  by_cases e:p.1=k
  ·have e':q.1=k:=h1.symm.trans e
   have b:atKey (q::qs) k=some q.2:=by simp[atKey,List.find?_cons,e']
   rw[bO e,b];exact h2
  ·have e':¬q.1=k:=λz=>e (h1.trans z)
   have b:atKey (q::qs) k=atKey qs k:=by simp[atKey,List.find?_cons,e']
   rw[bE e,b];exact ih
theorem KT.repl{H:Hp}{kvs:List (List Key×V)}{xs:List (List Key×Addr×Value)}(r:KT H kvs xs)(k:List Key){y:V}{u:Value}(ry:aN y u) :
  KT H (kvs.map λkv=>if kv.1=k then (kv.1,y) else kv) (xs.map (putAt k u)):=by
 induction r with
 | nil=>exact .nil
 | @cons p q ps qs h t ih =>
  rw[List.map_cons,List.map_cons];refine .cons ?_ ih;obtain⟨h1,h2,h3⟩:=h;unfold putAt
  by_cases e:p.1=k
  ·rw[if_pos e,if_pos (h1.symm.trans e)];exact⟨h1,h2,ry⟩
  ·rw[if_neg e,if_neg (λz=>e (h1.trans z))];exact⟨h1,h2,h3⟩
theorem KT.put{H:Hp}{kvs:List (List Key×V)}{xs:List (List Key×Addr×Value)}(r:KT H kvs xs)(k:List Key){b:Addr}{y:V}{u:Value}(hb:H b=some (.tup (k.map kV)))(ry:aN y u) :
  KT H (d8 kvs k y) (storedH xs k b u):=by
 have e:(kvs.any λkv=>decide (kv.1=k))=(atKey xs k).isSome:=by
  rw[eB,(r.val k).isSome_eq,Option.isSome_map]
 unfold d8 storedH;rw[e]
 by_cases q:(atKey xs k).isSome=true
 ·rw[if_pos q,if_pos q];exact r.repl k ry
 ·rw[if_neg q,if_neg q];exact Paired.snoc r ⟨rfl,hb,ry⟩
theorem KT.keeps{H H':Hp}{kvs:List (List Key×V)}{xs:List (List Key×Addr×Value)}(r:KT H kvs xs)(ht:∀b ys,H b=some (.tup ys)->H' b=some (.tup ys)):KT H' kvs xs :=
 Paired.mapP r λ_ _ z=>⟨z.1,ht _ _ z.2.1,z.2.2⟩
section
variable {P:Program} {w:World} {H:Hp} {h:Heap} {a:Addr}
theorem vy{u:HO}(ok:HOk P w H h)(e:Rd H a u):a6 P w H h a u:=e.ok ok
theorem my{kvs:List (Key×V)}(ok:HOk P w H h)(e:Rd H a (.dK kvs)):kvs.length<=sizeLine/\(a == sysModules)=false/\∃vs,KV kvs vs/\h.DictOf (bX P w) a vs :=
 show a6 P w H h a (.dK kvs) from vy ok e
theorem yu{kvs:List (Key×V)}(ok:HOk P w H h)(e:H a=some (.dK kvs)):kvs.length<=sizeLine/\(a == sysModules)=false/\∃vs,KV kvs vs/\h.DictOf (bX P w) a vs:=my ok (.inl e)
theorem iZ{ks:List Key}(ok:HOk P w H h)(e:H a=some (.tup (ks.map kV))):(tupleKind (bX P w)).is h ks a:=by
 obtain⟨_,its,r,o,h1,h2,n,h3⟩:=(show a6 P w H h a (.tup (ks.map kV)) from ok a _ e);exact⟨o,its.toArray,n,h1,h2,h3,by simpa using jS r⟩
theorem mo{kvs:List (List Key×V)}(ok:HOk P w H h)(e:Rd H a (.dT kvs)):kvs.length<=sizeLine/\(a == sysModules)=false /\
  ∃xs,KT H kvs xs/\h.DictOfH (tupleKind (bX P w)) a xs:=by
 obtain⟨z,y,xs,r,o,es,ep,h1,h2,h3,h4,h5⟩:=(show a6 P w H h a (.dT kvs) from vy ok e);refine⟨z,y,xs,r,o,es,ep,h1,h2,h3,h4,λx hx=>?_,h5⟩;have all:∀{l:List (List Key×V)} {m:List (List Key×Addr×Value)},KT H l m->∀x∈m,(tupleKind (bX P w)).is h x.1 x.2.1:=by
  intro l m q
  induction q with
  | nil=>intro x hx;exact nomatch hx
  | @cons p q ps qs hq t ih =>
   intro x hx;rcases List.mem_cons.mp hx with e|hx
   ·subst e
    exact iZ ok (by rw[<- hq.1];exact hq.2.1)
   ·exact ih x hx
 exact all r x hx
theorem yt{kvs:List (List Key×V)}(ok:HOk P w H h)(e:H a=some (.dT kvs)):kvs.length<=sizeLine/\(a == sysModules)=false /\
  ∃xs,KT H kvs xs/\h.DictOfH (tupleKind (bX P w)) a xs:=mo ok (.inl e)
end
noncomputable def er(H:Hp)(a:Addr)(y:V)(r:Option V):Prop :=
 (∃kvs k,Rd H a (.dK kvs)/\y=kV k/\r=cE kvs k)\/∃kvs k b,Rd H a (.dT kvs)/\y = .ref b/\H b=some (.tup (k.map kV))/\r=cE kvs k
noncomputable def jm(H:Hp)(a:Addr)(y v:V)(H':Hp):Prop :=
 (∃kvs k,H a=some (.dK kvs)/\y=kV k/\kvs.length<sizeLine/\H'=upd H a (.dK (d8 kvs k v))) \/
 ∃kvs k b,H a=some (.dT kvs)/\y = .ref b/\H b=some (.tup (k.map kV))/\kvs.length<sizeLine/\H'=upd H a (.dT (d8 kvs k v))
theorem er.t{H:Hp}{a b:Addr}{kvs:List (List Key×V)}{k:List Key}(e:H a=some (.dT kvs))(eb:H b=some (.tup (k.map kV))):er H a (.ref b) (cE kvs k):=.inr ⟨kvs,k,b,.inl e,rfl,eb,rfl⟩
theorem jm.t{H:Hp}{a b:Addr}{kvs:List (List Key×V)}{k:List Key}{v:V}(e:H a=some (.dT kvs))(eb:H b=some (.tup (k.map kV)))(hl:kvs.length<sizeLine) :
  jm H a (.ref b) v (upd H a (.dT (d8 kvs k v))):=.inr ⟨kvs,k,b,e,rfl,eb,hl,rfl⟩
section
variable {X:Cx} {pins:List (Addr×Obj)} {σ:St} {H:Hp} {s:Shared} {a:Addr} {y v:V} {u r:Value} {o:Option V} {A:Around} {E:Value->Shared->Prop}
theorem zg.big(I:zg X pins σ H s):sysModules<s.heap.objs.size:=by
 have h:mainGlobals<s.heap.objs.size:=(I.mod.glob.keeps I.bk).lt;exact Nat.lt_trans (by decide) h
theorem pY{Q:Value->Shared->Prop}(hu:A.units+1<cLine)(I:zg X pins σ H s)(g:er H a y (some v))(ry:aN y u)(h:∀w' s',zg X pins σ H s'->aN v w'->Q w' s') :
  wpAny (model X.prog X.w) A (getItem (.ref a) u) Q E s:=by
 rcases g with⟨kvs,k,e,ey,l⟩|⟨kvs,k,b,e,ey,eb,l⟩
 ·subst ey
  obtain⟨z,hd,vs,rel,dd⟩:=my I.hok e;obtain⟨w',hw,rw'⟩:=gR.some_of (v:=v) (o:=valueAt vs k) (by rw[l];exact rel.val k);exact wpAny_getItem_of (lR ry) dd.mapOf hw (h w' _ (I.tok _) rw')
 ·subst ey
  cases (show u=Value.ref b from ry);obtain⟨z,hd,xs,rel,dd⟩:=mo I.hok e;obtain⟨w',hw,rw'⟩:=gR.some_of (v:=v) (o:=(atKey xs k).map (·.2)) (by rw[l];exact rel.val k);obtain⟨p,hp,hp2⟩:=Option.map_eq_some_iff.mp hw;refine wpAny_getItem_heap (tupleKind_room_in1 hu) (iZ I.hok eb) dd hp ?_;rw[hp2];exact h w' _ (I.tok _) rw'
theorem y9{Q:Value->Shared->Prop}(hu:A.units+1<cLine)(I:zg X pins σ H s)(g:er H a y o)(ry:aN y u)(h:∀s',zg X pins σ H s'->Q (.bool o.isSome) s') :
  wpAny (model X.prog X.w) A (compareOp .In u (.ref a)) Q E s:=by
 rcases g with⟨kvs,k,e,ey,l⟩|⟨kvs,k,b,e,ey,eb,l⟩
 ·subst ey
  obtain⟨z,hd,vs,rel,dd⟩:=my I.hok e;refine wpAny_in_of (lR ry) hd dd.mapOf ?_;rw[<- (rel.val k).isSome_eq,<- l];exact h _ (I.tok _)
 ·subst ey
  cases (show u=Value.ref b from ry);obtain⟨z,hd,xs,rel,dd⟩:=mo I.hok e;refine wpAny_in_heap (tupleKind_room_in1 hu) (iZ I.hok eb) hd dd ?_;have q:=(rel.val k).isSome_eq;rw[Option.isSome_map]at q;rw[<- q,<- l];exact h _ (I.tok _)
theorem uW{Q:Value->Shared->Prop}(hu:A.units+1<cLine)(I:zg X pins σ H s)(g:er H a y o)(ry:aN y u)(h:∀s',zg X pins σ H s'->Q (.bool (!o.isSome)) s') :
  wpAny (model X.prog X.w) A (compareOp .NotIn u (.ref a)) Q E s:=by
 rcases g with⟨kvs,k,e,ey,l⟩|⟨kvs,k,b,e,ey,eb,l⟩
 ·subst ey
  obtain⟨z,hd,vs,rel,dd⟩:=my I.hok e;refine wpAny_notIn_of (lR ry) hd dd.mapOf ?_;rw[<- (rel.val k).isSome_eq,<- l];exact h _ (I.tok _)
 ·subst ey
  cases (show u=Value.ref b from ry);obtain⟨z,hd,xs,rel,dd⟩:=mo I.hok e;refine wpAny_notIn_heap (tupleKind_room_in1 hu) (iZ I.hok eb) hd dd ?_;have q:=(rel.val k).isSome_eq;rw[Option.isSome_map]at q;rw[<- q,<- l];exact h _ (I.tok _)
theorem o7{h':Heap}{t':Nat}{ob:HO}(I:zg X pins σ H s)(mu:Mut (H a))(hs:Heap.SameBut a s.heap h')(he:∃q,h'.get? a=some q)(new:a6 X.prog X.w (upd H a ob) h' a ob) :
  zg X pins σ (upd H a ob) { s with heap:=h',toks:=t' } :=
 I.write (x:=a) (e:=a) mu (.inl rfl) (λb q hb z=>(hs.2 b hb).trans z) he new
theorem w6{P:Program}{w:World}{H':Hp}{h':Heap}{kvs:List (Key×V)}{vs:List (Key×Value)}(z:kvs.length<=sizeLine)(hd:(a == sysModules)=false)(rel:KV kvs vs)(dd:h'.DictOf (bX P w) a vs) :
  a6 P w H' h' a (.dK kvs):=⟨z,hd,vs,rel,dd⟩
theorem pX{H':Hp}{Q:Unit->Shared->Prop}(hu:A.units+1<cLine)(I:zg X pins σ H s)(g:jm H a y v H')(ry:aN y u)(rv:aN v r)(h:∀s',zg X pins σ H' s'->Q () s') :
  wpAny (model X.prog X.w) A (setItem (.ref a) u r) Q E s:=by
 rcases g with⟨kvs,k,e,ey,l,eH⟩|⟨kvs,k,b,e,ey,eb,l,eH⟩
 ·subst ey eH
  obtain⟨z,hd,vs,rel,dd⟩:=yu I.hok e;have hz:vs.length<=sizeLine:=by rw[<- rel.length];exact z
  have hl:(d8 kvs k v).length<=sizeLine:=by have:=gY kvs k v;omega
  refine wpAny_setItem_pairs (hsz:=hz) (lR ry) dd λh' dd' hs=>h _ ?_;have he:∃q,h'.get? a=some q:=let ⟨q,_,_,hq,_⟩:=dd';⟨q,hq⟩;exact o7 I (by rw[e];exact True.intro) hs he (w6 hl hd (rel.put k rv) dd')
 ·subst ey eH
  cases (show u=Value.ref b from ry);obtain⟨z,hd,xs,rel,dd⟩:=yt I.hok e;have hz:xs.length<=sizeLine:=by rw[<- Paired.length rel];exact z
  have hl:(d8 kvs k v).length<=sizeLine:=by have:=gY kvs k v;omega
  refine wpAny_setItem_heap (hsz:=hz) (tupleKind_room_in1 hu) (iZ I.hok eb) dd λh' dd' hs=>h _ ?_;obtain⟨q,es,ep,hq,h2,h3,h4,_,h5⟩:=dd';refine o7 I (by rw[e];exact True.intro) hs ⟨q,hq⟩ ⟨hl,hd,_,(rel.put k eb rv).keeps λc ys ec=>?_,q,es,ep,hq,h2,h3,h4,h5⟩;rw[aF (oF ec e (λz=>nomatch z))]
  exact ec
end
noncomputable def yA(i:Expr):Prop:=∀ov iv,subscripted i false ov iv=operate [ov,iv] (getItem ov iv)
theorem tj{prog:Program}{w:World}{A:Around}{E:Value->Shared->Prop}{s:Shared}{env:Env}{value slice:Expr}{pos:Pos}{T id:String}{Q:Value->Shared->Prop}
  (hl:typeLookup (.type T) "__getitem__" = pure (some (.builtin id))) (hs:yA slice)
  (h:wpAny (model prog w) A (eval value env) (λo s1=>wpAny (model prog w) A (eval slice env) (λi s2=>s2.TypeIs o T/\wpAny (model prog w) A (getItem o i) Q E s2) E s1) E s) :
  wpAny (model prog w) A (eval (.Subscript value slice pos) env) Q E s:=by
 refine Subscript_ (wpAny_mono h (λo s1 h1=>wpAny_mono h1 (λi s2 h2=>?_) λ_ _ x=>x) λ_ _ x=>x);obtain⟨hT,h2⟩:=h2;unfold subscriptTail;refine wpAny_bind ?_;rw[getitemInPython_of_ne hT.not_modules];refine wpAny_bind (wpAny_specialOf hT hl ?_);have fin:wpAny (model prog w) A (subscripted slice false o i) (λr s3=>wpAny (model prog w) A (letTemporaryGo value o r >>= λ_=>pure r) Q E s3) E s2:=by
  rw[hs o i];exact wpAny_operating (wpAny_mono h2 (λr s3 h3=>wpAny_bind (wpAny_letTemporaryGo (wpAny_pure h3))) λ_ _ x=>x)
 first
  | exact wpAny_pure (wpAny_bind fin)
  | exact wpAny_bind (wpAny_pure (wpAny_bind fin))
  | exact wpAny_bind fin
theorem mz{X:Cx}{pins:List (Addr×Obj)}{σ:St}{H:Hp}{s:Shared}{a:Addr}{y:V}{o:Option V}(I:zg X pins σ H s)(g:er H a y o):s.TypeIs (.ref a) "dict":=by
 rcases g with⟨kvs,k,e,_,_⟩|⟨kvs,k,b,e,_,_,_⟩
 ·obtain⟨_,_,vs,_,dd⟩:=my I.hok e
  exact dd.typeIs
 ·obtain⟨_,_,xs,_,dd⟩:=mo I.hok e
  exact dd.typeIs
noncomputable def xL(td ty:TE):TE:=λσ H Q=>td σ H λx H1=>ty σ H1 λy H2=>∃a v,x = .ref a/\er H2 a y (some v)/\Q v H2
noncomputable def yM(ty td:TE):TE:=λσ H Q=>ty σ H λy H1=>td σ H1 λx H2=>∃a o,x = .ref a/\er H2 a y o/\Q (.bl o.isSome) H2
noncomputable def sW(ty td:TE):TE:=λσ H Q=>ty σ H λy H1=>td σ H1 λx H2=>∃a o,x = .ref a/\er H2 a y o/\Q (.bl (!o.isSome)) H2
noncomputable def xT(td ty tv:TE):TS:=λD σ H=>tv σ H λv H1=>td σ H1 λx H2=>ty σ H2 λy H3=>∃a H4,x = .ref a/\jm H3 a y v H4/\D.nx σ H4
section
variable {X:Cx} {o i e value:Expr} {pos pos' tpos:Pos} {td ty tv:TE}
theorem cP(hu:X.A.units+1<cLine)(ho:PE X o td)(hi:PE X i ty)(hs:yA i):PE X (.Subscript o i pos) (xL td ty):=by
 intro pins s σ H Q I h;refine tj PySem.F.slot_dict_getitem.lookup hs (thn (ho pins s σ H _ I h) λu s1 ⟨x,H1,I1,rx,q1⟩=>thn (hi pins s1 σ H1 _ I1 q1) λiv s2 ⟨y,H2,I2,ry,a,v,ex,g,q2⟩=>?_);subst ex;obtain rfl:u=Value.ref a:=rx;exact⟨mz I2 g,pY hu I2 g ry λw' s3 I3 rw'=>⟨v,H2,I3,rw',q2⟩⟩
theorem ku(hu:X.A.units+1<cLine)(hi:PE X i ty)(ho:PE X o td):PC X .In i o (yM ty td):=by
 intro pins s σ H Q I h;refine thn (hi pins s σ H _ I h) λiv s1 ⟨y,H1,I1,ry,q1⟩=>thn (ho pins s1 σ H1 _ I1 q1) λu s2 ⟨x,H2,I2,rx,a,ov,ex,g,q2⟩=>?_;subst ex;obtain rfl:u=Value.ref a:=rx;exact y9 hu I2 g ry λs3 I3=>⟨.bl ov.isSome,H2,I3,rfl,q2⟩
theorem pI(hu:X.A.units+1<cLine)(hi:PE X i ty)(ho:PE X o td):PC X .NotIn i o (sW ty td):=by
 intro pins s σ H Q I h;refine thn (hi pins s σ H _ I h) λiv s1 ⟨y,H1,I1,ry,q1⟩=>thn (ho pins s1 σ H1 _ I1 q1) λu s2 ⟨x,H2,I2,rx,a,ov,ex,g,q2⟩=>?_;subst ex;obtain rfl:u=Value.ref a:=rx;exact uW hu I2 g ry λs3 I3=>⟨.bl (!ov.isSome),H2,I3,rfl,q2⟩
theorem dl(hu:X.A.units+1<cLine)(ho:PE X o td)(hi:PE X i ty)(hv:PE X value tv)(hs:swapsWith value (some (.Subscript o i pos')) pos.line X.env=pure false) :
  PS X (.Assign [.Subscript o i pos'] value pos) (xT td ty tv):=by
 intro pins s σ H D I h;refine wpAny_Assign_Subscript (thn (hv pins s σ H _ I h) λr s1 ⟨v,H1,I1,rv,q1⟩=>thn (ho pins s1 σ H1 _ I1 q1) λu s2 ⟨x,H2,I2,rx,q2⟩=>thn (hi pins s2 σ H2 _ I2 q2) λiv s3 ⟨y,H3,I3,ry,a,H4,ex,g,q3⟩=>?_) hs;subst ex;obtain rfl:u=Value.ref a:=rx;exact pX hu I3 g ry rv λs4 I4=>⟨σ,H4,I4,q3⟩
end
theorem rW{P:Program}{w:World}{H:Hp}(h:Heap)(hb:sysModules<h.objs.size):a6 P w H (h.push { cls:=.type "dict",data:=.dict #[] }) h.objs.size (.dT []) :=
 ⟨Nat.zero_le _,beq_eq_false_iff_ne.mpr (Ne.symm (Nat.ne_of_lt hb)),[],.nil,_,#[],0,Heap.get?_push_size _ rfl,⟨rfl,rfl,rfl⟩,rfl,rfl,List.nodup_nil⟩
noncomputable def vR:TE:=λ_ H Q=>∀p,H p=none->Q (.ref p) (upd H p (.dT []))
section
variable {X:Cx} {pos:Pos}
theorem fS:PE X (.Dict [] [] pos) vR:=λpins s σ H Q I h =>
 wpAny_Dict_empty ⟨.ref s.heap.objs.size,_,I.laid (a:=s.heap.objs.size) (o:=.dT []) (t':=s.toks) (λ_ _ q=>Heap.get?_push_of_some _ q) (Nat.le_refl _) (rW s.heap I.big),rfl,h _ (I.hok.fresh (Nat.le_refl _))⟩
end
section
variable {X:Cx} {tg:Expr}
noncomputable def yJ(te:TE):TE:=λσ H Q=>te σ H λx H1=>∃a kvs,x = .ref a/\H1 a=some (.dT kvs)/\∀o,Q (.ref a) (upd H1 a (.frz o (.dT kvs)))
theorem wv{e:Expr}{te:TE}(h:PE X e te):PE X e (yJ te):=by
 intro pins s σ H Q I hq;refine thn (h pins s σ H _ I hq) λv s1 ⟨x,H1,I1,r1,a,kvs,ex,ea,k⟩=>?_;subst ex;have ok:=I1.hok a _ ea;obtain⟨_,_,_,_,o,_,_,g,_⟩:=(show a6 X.prog X.w H1 s1.heap a (.dT kvs) from ok);have tup:∀b xs,H1 b=some (.tup xs)->upd H1 a (.frz o (.dT kvs)) b=some (.tup xs):=λb xs q=>by
  rw[aF (λz=>by rw[z,ea]at q;cases q)];exact q
 have J:zg X pins σ (upd H1 a (.frz o (.dT kvs))) { s1 with heap:=s1.heap,toks:=s1.toks }:=I1.write (x:=a) (e:=a) (by rw[ea];trivial) (.inl rfl) (λ_ _ _ q=>q) ⟨o,g⟩
  ⟨g,ok.stay (λ_ _ _ q=>q) (λb q=>by rw[aF (λz=>by rw[z,ea]at q;cases q)];exact q) tup⟩
 exact⟨.ref a,_,J,r1,k o⟩
end
end L2
namespace L2
open PySem PySem.Spec PyProof.Rows PySem.W
noncomputable abbrev KnO(o:Obj):HO:=.frz o (.ext λ_=>True)
theorem lQ{P:Program}{w:World}{H:Hp}{h:Heap}{a:Addr}{o:Obj}(e:h.get? a=some o):a6 P w H h a (KnO o):=⟨e,trivial,⟨o,e⟩,λ_ _ _ _=>trivial⟩
theorem gK{P:Program}{w:World}{H:Hp}{h:Heap}{a:Addr}{o:Obj}(k:HOk P w H h)(e:H a=some (KnO o)):h.get? a=some o:=(show h.get? a=some o/\_ from k a _ e).1
noncomputable def dA(H:Hp)(c:Addr)(v:V):Prop:=∃o u,H c=some (KnO o)/\o.data = .cell (some u)/\aN v u
noncomputable def jn(H:Hp)(c:Addr)(q:Str):Prop:=∃o vs t,H c=some (KnO o)/\o.data = .fields vs/\vs[1]? = some (.str q t)
theorem jn.rec_{P:Program}{w:World}{H:Hp}{h:Heap}{c:Addr}{q:Str}(x:jn H c q)(k:HOk P w H h):h.CodeRec (.ref c) q:=by
 obtain⟨o,vs,t,e,d,g⟩:=x;exact⟨c,o,vs,t,rfl,gK k e,d,g⟩
noncomputable def cD(p:Addr)(H H':Hp):Prop:=∀b o,b≠p->H b=some o->H' b=some o
noncomputable def jo(K:Frag)(c p:Addr):Prop :=
 ∃o vs file tf flags tg inF text tt,K.lookup c=some o/\o.cls = .type "code"/\o.data = .fields vs/\vs[11]? = some (.ref p)/\vs.getD 11 .none = .ref p/\vs.getD 18 .none = .str file tf /\
  vs.getD 7 .none = .int flags tg/\vs.getD 9 .none = .bool inF/\vs.getD 10 .none = .int text tt/\c≠p
theorem jo.hd{K:Frag}{c p:Addr}{h:Heap}(x:jo K c p)(X:K.In h):CodeHd h c p:=by
 obtain⟨o,vs,file,tf,flags,tg,inF,text,tt,e,r⟩:=x;exact⟨o,vs,file,tf,flags,tg,inF,text,tt,X _ _ e,r⟩
noncomputable def vn(K:Frag)(mg:Str->Option Value):Prop :=
 ∃bm o,mg "__builtins__" = some (.ref bm)/\bm≠builtinsNs/\bm≠mainGlobals/\K.lookup bm=some o/\o.cls = .type "module"/\o.dict=some builtinsNs/\o.data = .plain
noncomputable def Tab(H:Hp)(p:Addr)(ls:List (Pos×Str)):Prop :=
 ∃ps,H p=some (.tbl ps)/\TriplesOk ps.toList/\∀l∈ls,codeAmong l.1 ps.toList=none\/∃c,codeAmong l.1 ps.toList=some (.ref c)/\jn H c l.2
theorem Tab.same{H H':Hp}{p:Addr}{ls:List (Pos×Str)}(t:Tab H p ls)(s:Same H H'):Tab H' p ls:=by
 obtain⟨ps,e,k,a⟩:=t;refine⟨ps,s _ _ e,k,λl hl=>(a l hl).imp_right ?_⟩;rintro⟨c,e2,o,vs,t,e3,r⟩;exact⟨c,e2,o,vs,t,s _ _ e3,r⟩
noncomputable def yC(H:Hp)(f:Addr)(q:Str)(params:Arguments)(body:Expr)(scope:Scope)(clos:List (Str×Addr)):Prop :=
 ∃pm c ctv,H f=some (KnO (kla_obj "<lambda>" q params body scope clos pm c ctv))/\jn H c q
theorem jy{pos pos':Pos}{c:Value}(l:List Value)(h:TriplesOk l)(ne:¬(pos'.line=pos.line/\pos'.col=pos.col)):codeAmong pos' (l++[rawInt pos.line,rawInt pos.col,c])=codeAmong pos' l:=by
 fun_induction TriplesOk l with
 | case1 =>
  show codeAmong pos' [rawInt pos.line,rawInt pos.col,c]=codeAmong pos' [];simp only[rawInt,codeAmong];rw[if_neg];intro z;rw[Bool.and_eq_true]at z;have z1:=eq_of_beq z.1;have z2:=eq_of_beq z.2;exact ne ⟨by omega,by omega⟩
 | case2 a ta b tb c' rest ih =>
  show codeAmong pos' (.int a ta::.int b tb::c'::(rest++[rawInt pos.line,rawInt pos.col,c]))=codeAmong pos' (.int a ta::.int b tb::c'::rest);unfold codeAmong;rw[ih h]
 | case3 l h1 h2=>exact h.elim
noncomputable def yH(p:Addr)(ls:List (Pos×Str))(q:Str)(params:Arguments)(body:Expr)(scope:Scope)(clos:List (Str×Addr)):TE:=λ_ H Q =>
 Tab H p ls/\∀f H',cD p H H'->Tab H' p ls->yC H' f q params body scope clos->H f=none->Q (.ref f) H'
section
variable {X:Cx} {params:Arguments} {body:Expr} {scope:Scope} {pos:Pos} {clos:List (Str×Addr)} {c p:Addr} {ls:List (Pos×Str)} {q:Str}
theorem wt(hcl:closureFor scope X.env=pure clos)(hcode:X.env.code = .ref c)(C:jo X.K c p)(B:vn X.K X.mg)(hdef:defaultsOf params X.env=([],[]))(hq:q=X.env.qual++"<lambda>")(hm:(pos,q)∈ls)
  (hd:∀l∈ls,l≠(pos,q)->¬(l.1.line=pos.line/\l.1.col=pos.col)):PE X (.Lambda params body scope pos) (yH p ls q params body scope clos):=by
 intro pins s σ H Q I h;obtain⟨⟨ps,hp,tk,ok⟩,k⟩:=h;subst hq;have hP:s.heap.get? p=some (tabObj ps):=I.hok p _ hp;have hg:s.heap.Ns mainGlobals X.mg:=I.mod.glob.keeps I.bk;have hgP:mainGlobals≠p:=λz=>by
  obtain⟨o,es,ep,e,d,_⟩:=hg;rw[z,hP]at e;cases e;cases d
 obtain⟨bm,ob,b1,b2,b3,b4,b5,b6,b7⟩:=B;have hbm:=I.kIn _ _ b4;have hbP:bm≠p:=λz=>by
  rw[z,hP]at hbm;cases hbm;cases b7
 have BA:s.heap.BuiltinsAt X.mg p:=⟨bm,ob,b1,b2,b3,hbP,hbm,b5,b6,b7⟩;have CH:=C.hd I.kIn;refine kla_eval hdef ?_;rcases ok _ hm with hn|⟨c',hc',ck⟩
 ·refine kla_makeFunction (mg:=X.mg) hcl I.ok.glob hg hcode CH hP tk hn hgP BA λc' ctv h' t' hx hge hlt hrec htb=>?_
  obtain⟨c2,oc,vs,t,e2,hoc,hd2,hv⟩:=hrec;cases e2;have hfo:h'.objs.size≠c':=Nat.ne_of_gt hlt;have hpo:p<s.heap.objs.size:=Heap.lt_size hP;have pc:p≠c':=Nat.ne_of_lt (Nat.lt_of_lt_of_le hpo hge);have pf:p≠h'.objs.size:=Nat.ne_of_lt (Nat.lt_trans (Nat.lt_of_lt_of_le hpo hge) hlt);have nc:H c'=none:=I.hok.fresh hge;have nf:H h'.objs.size=none:=I.hok.fresh (Nat.le_of_lt (Nat.lt_of_le_of_lt hge hlt));generalize hps:ps++#[rawInt pos.line,rawInt pos.col,.ref c']=ps' at htb;generalize hfob:kla_obj "<lambda>" (X.env.qual++"<lambda>") params body scope clos ((X.mg "__name__").getD .none) c' ctv=fo at *;have nfr:fo.isFreed=false:=by rw[<- hfob];rfl
  have ext:∀b o,b≠p->s.heap.get? b=some o->(h'.push fo).get? b=some o:=λb o ne e=>Heap.get?_push_of_some _ (hx b o ne e)
  let H':Hp:=upd (upd (upd H p (.tbl ps')) c' (KnO oc)) h'.objs.size (KnO fo)
  have Hf:H' h'.objs.size=some (KnO fo):=upd_same;have Hc:H' c'=some (KnO oc):=(aF hfo.symm).trans upd_same;have Hp':H' p=some (.tbl ps'):=(aF pf).trans ((aF pc).trans upd_same);have Hb:∀b,b≠p->b≠c'->b≠h'.objs.size->H' b=H b:=λb z1 z2 z3=>(aF z3).trans ((aF z2).trans (aF z1));have Hs:cD p H H':=λb o ne e=>by
   rw[Hb b ne (λz=>by rw[z,nc]at e;cases e) (λz=>by rw[z,nf]at e;cases e)];exact e
  have old:∀b o,s.heap.get? b=some o->b≠c'/\b≠h'.objs.size:=λb o e=>⟨Nat.ne_of_lt (Nat.lt_of_lt_of_le (Heap.lt_size e) hge),Nat.ne_of_lt (Nat.lt_trans (Nat.lt_of_lt_of_le (Heap.lt_size e) hge) hlt)⟩;have npn:∀b,H b=none->b≠p:=λb n z=>by rw[z,hp]at n;cases n
  have un:Un X.fs [] H H' s.heap (h'.push fo):=by
   refine⟨λb o e n _ _=>ext b o (npn b n) e,λb o e n _ _=>⟨o.slots,ext b o (npn b n) e⟩,λb o e n _=>?_,λb o e _=>?_,λb xs e=>Hs b _ (λz=>by rw[z,hp]at e;cases e) e,λb o u e=>Hs b _ (λz=>by rw[z,hp]at e;cases e) e,λb ps2 e=>?_⟩
   ·rw[Hb b (npn b n) (old b o e).1 (old b o e).2];exact n
   ·by_cases z:b=p
    ·subst z;exact⟨_,Heap.get?_push_of_some _ htb⟩
    ·exact⟨o,ext b o z e⟩
   ·by_cases z:b=p
    ·subst z
     rw[hp]at e;cases e;exact⟨_,by rw[Hp',<- hps]⟩
    ·exact⟨#[],by rw[Hs b _ z e];simp⟩
  have hok:HOk X.prog X.w H' (h'.push fo):=λb u e=>by
   by_cases z3:b=h'.objs.size
   ·subst z3
    rw[Hf]at e;cases e;exact lQ (Heap.get?_push_size _ nfr)
   ·by_cases z2:b=c'
    ·subst z2
     rw[Hc]at e;cases e;exact lQ (Heap.get?_push_of_some _ hoc)
    ·by_cases z1:b=p
     ·subst z1
      rw[Hp']at e;cases e;exact Heap.get?_push_of_some _ htb
     ·rw[Hb b z1 z2 z3]at e
      refine(I.hok b u e).stay (λd v hd' q=>ext d v ?_ q) (λd q=>Hs d _ (λz=>by rw[z,hp]at q;cases q) q) λd xs q=>Hs d _ (λz=>by rw[z,hp]at q;cases q) q;rcases hd' with rfl|hd'
      ·exact z1
      ·intro z
       rw[z,hp]at hd';cases hd'
  have CK:jn H' c' (X.env.qual++"<lambda>"):=⟨oc,vs,t,Hc,hd2,hv⟩;have e0:ps'.toList=ps.toList++[rawInt pos.line,rawInt pos.col,.ref c']:=by rw[<- hps];simp
  refine⟨.ref h'.objs.size,H',I.un (t':=t') un hok,rfl,k _ H' Hs ⟨ps',Hp',?_,λl hl=>?_⟩ ⟨_,c',ctv,by rw[Hf,<- hfob],CK⟩ nf⟩
  ·rw[e0]
   exact TriplesOk_snoc _ _ _ _ tk
  ·by_cases z:l=(pos,X.env.qual++"<lambda>")
   ·subst z
    refine .inr ⟨c',?_,CK⟩;rw[e0];exact codeAmong_snoc _ tk hn
   ·rw[e0,jy _ tk (hd l hl z)]
    refine(ok l hl).imp_right ?_;rintro⟨c3,e3,o3,vs3,t3,e4,r4⟩;exact⟨c3,e3,o3,vs3,t3,Hs _ _ (λz=>by rw[z,hp]at e4;cases e4) e4,r4⟩
 ·refine kla_makeFunctionHit (mg:=X.mg) hcl I.ok.glob hg hcode CH hP tk hc' BA λctv h' t' hx hsz=>?_
  have nf:H h'.objs.size=none:=I.hok.fresh hsz;have J:=I.laid (a:=h'.objs.size) (o:=KnO (kla_obj "<lambda>" (X.env.qual++"<lambda>") params body scope clos ((X.mg "__name__").getD .none) c' ctv)) (t':=t') (h':=h'.push (kla_obj "<lambda>" (X.env.qual++"<lambda>") params body scope clos ((X.mg "__name__").getD .none) c' ctv))
   (λb o e=>Heap.get?_push_of_some _ (hx b o e)) hsz (lQ (Heap.get?_push_size _ rfl))
  have S:Same H (upd H h'.objs.size (KnO (kla_obj "<lambda>" (X.env.qual++"<lambda>") params body scope clos ((X.mg "__name__").getD .none) c' ctv))):=λb o e=>by
   rw[aF (λz=>by rw[z,nf]at e;cases e)];exact e
  obtain⟨o,vs,t,e3,r⟩:=ck;exact⟨.ref h'.objs.size,_,J,rfl,k _ _ (λb o _ e=>S b o e) (Tab.same ⟨ps,hp,tk,ok⟩ S) ⟨_,c',ctv,upd_same,o,vs,t,S _ _ e3,r⟩ nf⟩
end
noncomputable abbrev cut(C:List Addr)(H:Hp):Hp:=λb=>if b∈C then none else H b
noncomputable abbrev qH(C:List Addr)(H H1:Hp):Hp:=λb=>if b∈C then H b else H1 b
theorem jh{C:List Addr}{H:Hp}{b:Addr}(h:b∈C):cut C H b=none:=if_pos h
theorem cp{C:List Addr}{H:Hp}{b:Addr}(h:b∉C):cut C H b=H b:=if_neg h
theorem ke{C:List Addr}{H H1:Hp}{b:Addr}(h:b∈C):qH C H H1 b=H b:=if_pos h
theorem cQ{C:List Addr}{H H1:Hp}{b:Addr}(h:b∉C):qH C H H1 b=H1 b:=if_neg h
theorem pG{C:List Addr}{H H1:Hp}(s:Same (cut C H) H1):Same H (qH C H H1):=λb o e=>by
 by_cases h:b∈C
 ·rw[ke h];exact e
 ·rw[cQ h];exact s b o ((cp h).trans e)
theorem xc{P:Program}{w:World}{H:Hp}{h:Heap}{C:List Addr}(hok:HOk P w H h)(hC:∀c∈C,∃o,H c=some (KnO o)):HOk P w (cut C H) h:=λb u e=>by
 have hb:b∉C:=λz=>by rw[jh z]at e;cases e
 rw[cp hb]at e;have ne:∀d o,H d=some o->(∀z,o≠KnO z)->d∉C:=λd o e n z=>by
  obtain⟨o',e'⟩:=hC d z;rw[e]at e';exact n o' (Option.some.inj e')
 refine(hok b u e).stay (λ_ _ _ q=>q) (λd q=>?_) λd xs q=>?_
 ·rw[cp (ne d _ q λz q=>by cases q)];exact q
 ·rw[cp (ne d _ q λz q=>by cases q)];exact q
noncomputable def se(P:Program)(w:World)(K:W.Frag)(mg:Str->Option Value)(base:Heap)(N:List Str)(qual:Str)(scope:Scope)(f:Addr)(cd:Value)(cl:List (Str×Addr))(A:Around)(outer:List Env)(s:Shared)(H:Hp):Cx where
 prog:=P
 w:=w
 K:=K
 mg:=mg
 base:=base
 A:=A.deeper (envX qual scope s.heap.objs.size f cd cl)
 N:=N
 s₀:=s
 H₀:=H
 env:=envX qual scope s.heap.objs.size f cd cl
 outer:=outer
 stack:=envX qual scope s.heap.objs.size f cd cl::outer
 ex:=[]
 calm:=true
 fn:=λ_=>false
 pn:=[]
 xe:=λ_ _=>False
structure Fr(x:Str)(scope:Scope)(cl:List (Str×Addr)):Prop where
 kind:scope.kind = .function
 co:scope.isCoroutine=false
 gen:scope.isGenerator=false
 cell:∀y∈scope.names,y.2≠.cell
 own:scope.names.lookup x=some .local
 has:(scope.names.all λq=>!(q.2 == .free) || (cl.lookup q.1).isSome)=true
 nd:(x::cl.map (·.1)).Nodup
 fr:∀p∈cl,scope.names.lookup p.1=some .free
 inj:∀p∈cl,∀q∈cl,p.2=q.2->p.1=q.1
theorem p7{cl:List (Str×Addr)}:∀(_:(cl.map (·.1)).Nodup) {j:Nat} {y:Str} {c:Addr},cl[j]? = some (y,c)->cl.lookup y=some c:=by
 induction cl with
 | nil=>intro _ j y c e;simp at e
 | cons a r ih =>
  intro nd j y c e;rw[List.map_cons,List.nodup_cons]at nd;rw[List.lookup_cons];cases j with
  | zero =>
   simp at e;subst e;simp
  | succ j =>
   have e':r[j]? = some (y,c):=by simpa using e
   have:y≠a.1:=λz=>nd.1 (List.mem_map.mpr ⟨(y,c),List.mem_of_getElem? e',z⟩);rw[beq_eq_false_iff_ne.mpr this];exact ih nd.2 e'
section
variable {P:Program} {w:World} {K:W.Frag} {mg:Str->Option Value} {base:Heap}
theorem uA{x q:Str}{scope:Scope}{cl:List (Str×Addr)}{f c:Addr}{A:Around}{outer:List Env}{s:Shared}{h₁:Heap}{tk:Nat}{H:Hp}{v:V}{u:Value}{ws:List V}(L:Fr x scope cl)(hd:A.handled=none)(e0:BK P w K mg base A outer s H)
  (cs:Paired (λ(p:Str×Addr) z=>dA H p.2 z) cl ws) (rv:aN v u) (hns:h₁.Ns s.heap.objs.size (λy=>[(x,u)].reverse.lookup y)) (hk:∀b o,s.heap.get? b=some o->h₁.get? b=some o) :
  zg (se P w K mg base (x::cl.map (·.1)) q scope f (.ref c) cl A outer s (cut (cl.map (·.2)) H)) [] (some v::ws.map some) (cut (cl.map (·.2)) H) { s with heap:=h₁,toks:=tk }:=by
 have get:∀{j:Nat} {p:Str×Addr},cl[j]? = some p->∃z,ws[j]? = some z/\dA H p.2 z:=by
  clear L hns
  induction cs with
  | nil=>intro j p e;simp at e
  | cons a r ih =>
   intro j p e;cases j with
   | zero=>simp at e;subst e;exact⟨_,rfl,a⟩
   | succ j=>exact ih (by simpa using e)
 have len:cl.length=ws.length:=Paired.length cs;have hC:∀d∈cl.map (·.2),∃o,H d=some (KnO o):=λd hd'=>by
  obtain⟨p,hp,rfl⟩:=List.mem_map.mp hd';obtain⟨j,hj⟩:=List.getElem?_of_mem hp;obtain⟨z,_,o,_,e,_⟩:=get hj;exact⟨o,e⟩
 have isC:∀y d,cl.lookup y=some d->d∈cl.map (·.2)/\∃z,s.heap.IsCell d z:=λy d e=>by
  have hm:=PySem.mem_of_lookup e;obtain⟨j,hj⟩:=List.getElem?_of_mem hm;obtain⟨z,_,o,u',e',d',_⟩:=get hj;exact⟨List.mem_map.mpr ⟨_,hm,rfl⟩,some u',o,gK e0.hok e',d'⟩
 have noA:∀b:Addr,b∉(se P w K mg base (x::cl.map (·.1)) q scope f (.ref c) cl A outer s (cut (cl.map (·.2)) H)).ex:=λb z=>absurd (show b∈([]:List Addr) from z) (by simp);have hcut:=xc (C:=cl.map (·.2)) e0.hok hC;have cn:∀b,H b=none->cut (cl.map (·.2)) H b=none:=λb n=>by
  by_cases z:b∈cl.map (·.2)
  ·exact jh z
  ·rw[cp z];exact n
 have inv:∀h':Heap,(∀b o,s.heap.get? b=some o->h'.get? b=some o)->Un (frs outer) [] (cut (cl.map (·.2)) H) (cut (cl.map (·.2)) H) s.heap h':=λh' k=>Un.kept k;refine⟨⟨e0.mod,L.kind,rfl,rfl,Nat.le_refl _,λy z d h1 h2=>?_,λy hy=>?_,λy d z=>(by cases z),λ_=>hd,Around.frames_deeper e0.frames,.inr ⟨rfl,rfl⟩,λb z=>absurd z (noA b),λb o e=>⟨(e0.bs b o e).1,cn b (e0.bs b o e).2⟩,e0.bsz,λb _ _=>noA b,λb z=>absurd z (noA b),e0.funs,λb hb=>cn b (e0.frf b hb)⟩,
  rfl,e0.bare,inv h₁ hk,⟨_,hns,λi y v' h1 h2 h3=>?_⟩,λy d h=>?_,?_,λy d h=>?_,λp hp=>absurd (show p∈([]:List (Addr×Obj)) from hp) (by simp),hcut.kept hk,?_⟩
 ·exact L.inj _ (PySem.mem_of_lookup h1) _ (PySem.mem_of_lookup h2) rfl
 ·have hy:scope.names.lookup y=some .cell\/scope.names.lookup y=some .free:=hy
  rcases hy with hy|hy
  ·exact absurd rfl (L.cell _ (PySem.mem_of_lookup hy))
  ·have q:=List.all_eq_true.mp L.has _ (PySem.mem_of_lookup hy)
   have q:(cl.lookup y).isSome=true:=by simpa only[beq_self_eq_true,Bool.not_true,Bool.false_or]using q
   exact Option.isSome_iff_exists.mp q
 ·have h1:(x::cl.map (·.1))[i]? = some y:=h1
  cases i with
  | zero =>
   have e1:x=y:=by simpa using h1
   have e2:v=v':=by simpa using h2
   subst e1 e2;exact⟨u,rv,.inl ⟨L.own,by simp⟩⟩
  | succ j =>
   have e1:(cl.map (·.1))[j]? = some y:=by simpa using h1
   rw[List.getElem?_map]at e1;cases hj:cl[j]? with
   | none=>rw[hj]at e1;cases e1
   | some p =>
    rw[hj]at e1;have e1:p.1=y:=by simpa using e1
    obtain⟨z,hz,o,u',e',d',r'⟩:=get hj;have e2:z=v':=by
     have:(ws.map some)[j]? = some (some v'):=by simpa using h2
     rw[List.getElem?_map,hz]at this;simpa using this
    subst e1 e2;refine⟨u',r',.inr ⟨.inr (L.fr p (List.mem_of_getElem? hj)),p.2,p7 (List.nodup_cons.mp L.nd).2 (c:=p.2) (y:=p.1) hj,o,hk _ _ (gK e0.hok e'),d'⟩⟩
 ·obtain⟨z,o,e,d'⟩:=(isC y d h).2
  exact⟨z,o,hk _ _ e,d'⟩
 ·exact cn _ (e0.hok.fresh (Nat.le_refl _))
 ·exact jh (isC y d h).1
 ·show(some v::ws.map some).length=(x::cl.map (·.1)).length
  simp[len]
noncomputable def xR(f:Addr)(q:Str)(params:Arguments)(body:Expr)(scope:Scope)(cl:List (Str×Addr))(pm:Value)(c:Addr)(ctv:Value)(te:TE):Sp:=λvs H Q _ =>
 ∃v ws,vs = [v]/\H f=some (KnO (kla_obj "<lambda>" q params body scope cl pm c ctv))/\jn H c q/\Paired (λ(p:Str×Addr) z=>dA H p.2 z) cl ws /\
  te (some v::ws.map some) (cut (cl.map (·.2)) H) λr H1=>(∀c∈cl.map (·.2),H1 c=none)->Q r (qH (cl.map (·.2)) H H1)
theorem wL{x q:Str}{params:Arguments}{body:Expr}{scope:Scope}{cl:List (Str×Addr)}{pm ctv:Value}{f c:Addr}{te:TE}{k:Nat}(L:Fr x scope cl)
  (hbody:∀(A:Around) (outer:List Env) (s:Shared) (H:Hp),zy k (A.deeper (envX q scope s.heap.objs.size f (.ref c) cl))->PE (se P w K mg base (x::cl.map (·.1)) q scope f (.ref c) cl A outer s H) body te) :
  AT P w K mg base CX0 (k+1) f (kla_fn "<lambda>" q params body scope cl pm (.ref c) ctv) [x] (xR f q params body scope cl pm c ctv te):=by
 refine⟨λvs H Q E h=>?_,λA outer s H args us vs Q E hr e0 hb r hsp=>?_⟩
 ·obtain⟨v,ws,rfl,_⟩:=h
  rfl
 ·obtain⟨v,ws,rfl,ef,ck,cs,h⟩:=hsp
  cases r with
  | cons rv r =>
   cases r;rename_i u;have lim:s.heap.NoLimit:=e0.mod.nolimit.keeps λb o e=>(e0.bs b o e).1;refine kla_callFunE hr.depth (gK e0.hok ef) rfl L.co L.gen rfl (ck.rec_ e0.hok) (hb _ _ _ _ ?_);refine wpAny_newFunctionEnv L.cell (λy hy=>?_) (λh1 hns hsb=>⟨lim.fresh _ hsb,?_⟩) L.kind
   ·obtain rfl:y=(x,u):=by simpa using hy
    exact L.own
   ·show codeAny _ _ (.expr body (envX q scope s.heap.objs.size f (.ref c) cl)) _ _
    have hk1:∀b o,s.heap.get? b=some o->h1.get? b=some o:=λb o e=>hsb.extBut b o (Nat.ne_of_lt (Heap.lt_size e)) (Heap.get?_push_of_some _ e);have I:=uA (q:=q) (f:=f) (c:=c) (tk:=s.toks+([x].zip [u]).length) L hr.hd e0 cs rv hns hk1;refine kla_codeExpr (wpAny_mono (hbody A outer s _ (hr.deeper _) _ _ _ _ _ I h) (λu' s' hq=>?_) λ_ _ z=>False.elim z);obtain⟨v',H1,J,r',q'⟩:=hq;have hC:∀d∈cl.map (·.2),∃o,H d=some (KnO o)/\s.heap.get? d=some o:=λd hd'=>by
     obtain⟨p,hp,rfl⟩:=List.mem_map.mp hd';have:∀{l:List (Str×Addr)} {ws:List V},Paired (λ(p:Str×Addr) z=>dA H p.2 z) l ws->p∈l->∃z,dA H p.2 z:=by
      intro l ws cs
      induction cs with
      | nil=>intro z;cases z
      | cons a r ih =>
       intro z;rcases List.mem_cons.mp z with rfl|z
       ·exact⟨_,a⟩
       ·exact ih z
     obtain⟨z,o,_,e,_⟩:=this cs hp;exact⟨o,e,gK e0.hok e⟩
    have B:Un (frs outer) [] (cut (cl.map (·.2)) H) H1 s.heap s'.heap:=J.base;have nin:∀b,(∀o,H b≠some (KnO o))->b∉cl.map (·.2):=λb n z=>by
     obtain⟨o,e,_⟩:=hC b z;exact n o e
    have out:∀b,H b=none->b∉cl.map (·.2):=λb n=>nin b λo e=>by rw[n]at e;cases e
    have h1n:∀d∈cl.map (·.2),H1 d=none:=λd hd'=>by
     obtain⟨o,_,e⟩:=hC d hd';exact B.free d o e (jh hd') (by simp)
    have sC:∀d∈cl.map (·.2),∀o,s.heap.get? d=some o->s'.heap.get? d=some o:=λd hd' o e=>by
     refine B.keep d o e (jh hd') (λz=>?_) (by simp);obtain⟨o',e',_⟩:=hC d hd';rw[e0.frf d z]at e';cases e'
    refine⟨v',qH (cl.map (·.2)) H H1,J.os,J.bare,⟨λb o e n hb hx=>?_,λb o e n hb hx=>?_,λb o e n hx=>?_,λb o e hx=>B.there b o e hx,λb xs e=>?_,λb o u e=>?_,λb ps e=>?_⟩,λb u e=>?_,r',q' h1n⟩
    ·exact B.keep b o e ((cp (out b n)).trans n) hb hx
    ·exact B.slot b o e ((cp (out b n)).trans n) hb hx
    ·rw[cQ (out b n)]
     exact B.free b o e ((cp (out b n)).trans n) hx
    ·have z:b∉cl.map (·.2):=nin b λo' e'=>by rw[e]at e';cases e'
     rw[cQ z];exact B.tups b xs ((cp z).trans e)
    ·by_cases z:b∈cl.map (·.2)
     ·rw[ke z];exact e
     ·rw[cQ z]
      exact B.frzs b o u ((cp z).trans e)
    ·have z:b∉cl.map (·.2):=nin b λo' e'=>by rw[e]at e';cases e'
     obtain⟨more,q⟩:=B.tbls b ps ((cp z).trans e);exact⟨more,by rw[cQ z];exact q⟩
    ·by_cases z:b∈cl.map (·.2)
     ·rw[ke z]at e
      obtain⟨o,e',g⟩:=hC b z;rw[e]at e';cases e';exact lQ (sC b z o g)
     ·rw[cQ z]at e
      refine(J.hok b u e).stay (λ_ _ _ q=>q) (λd q=>?_) λd xs q=>?_
      ·rw[cQ λz=>by rw[h1n d z]at q;cases q];exact q
      ·rw[cQ λz=>by rw[h1n d z]at q;cases q];exact q
end
structure FD(K:W.Frag)(mg:Str->Option Value)(x:Str)(st:Stmt)(p:Addr):Prop where
 ex:∃(f:Addr) (oc:Value) (od:Option Addr) (kV doc pm:Value) (an:Option Addr) (c:Addr) (ct:Value) (osl:Array (Option Value)),
  mg x=some (.ref f)/\K.lookup f=some ⟨oc,od,.func (W.fnOf x x (aP st) (aH st) (ak st) .none kV doc pm an (.ref c) ct),osl⟩/\W.codeIn K (.ref c) x=true/\W.keepIn K (.ref f)=true/\jo K c p
theorem FD.fn{P:Program}{w:World}{K:W.Frag}{mg:Str->Option Value}{base:Heap}{x:Str}{st:Stmt}{p:Addr}{N ps:List Str}{k:Nat}{sp:Sp}(D:FD K mg x st p)(S:zf N ps (ak st))
  (hbind:∀(kV doc pm:Value) (an:Option Addr) (cdv ct:Value) (us:List Value),us.length=ps.length->bindArgs (W.fnOf x x (aP st) (aH st) (ak st) .none kV doc pm an cdv ct) ⟨us,[]⟩=pure (ps.zip us))
  (len:∀vs H Q E,sp vs H Q E->vs.length=ps.length)
  (hbody:∀(f:Addr) (cdv:Value) (A:Around) (outer:List Env) (s:Shared) (H:Hp) (vs:List V) (Q:VK) (E:XK),(∃c,cdv = .ref c/\jo K c p)->zy k (A.deeper (envOfC x (ak st) s.heap.objs.size f cdv))->sp vs H Q E ->
   ∃t,PSs (aX CX0 P w K mg base N x (ak st) f cdv A outer s H E).nox (aH st) t/\t { nx:=λ_ H'=>Q .non H',rt:=Q } (dY N vs) H):Fn P w K mg base x ps (k+1) sp:=by
 obtain⟨f,oc,od,kV,doc,pm,an,c,ct,osl,hm,lk,hcd,hk,hc⟩:=D.ex;refine⟨⟨f,_,_,hm,hk,hbind kV doc pm an (.ref c) ct,⟨lk,rfl⟩,lZ lk hcd S len λA outer s H vs Q E hr hsp=>?_⟩⟩;obtain⟨t,h,q⟩:=hbody f (.ref c) A outer s H vs Q E ⟨c,rfl,hc⟩ hr hsp;exact⟨t,h.nox,q⟩
noncomputable def iW(e:Expr):Scope:=match e with
 | .Lambda _ _ sc _=>sc
 | _=>{ kind:=.function,names:=[],isGenerator:=false,isCoroutine:=false }
noncomputable def uC(e:Expr):Arguments:=match e with
 | .Lambda a _ _ _=>a
 | _=>{ posonlyargs:=[],args:=[],vararg:=none,kwonlyargs:=[],kw_defaults:=[],kwarg:=none,defaults:=[] }
noncomputable def uB(e:Expr):Expr:=match e with
 | .Lambda _ b _ _=>b
 | _=>.Name "" ⟨0,0,0,0⟩
noncomputable def iX(e:Expr):Pos:=match e with
 | .Lambda _ _ _ p=>p
 | _=>⟨0,0,0,0⟩
theorem sf{C:List Addr}{H:Hp}{b:Addr}{o:HO}(hC:∀c∈C,∃o,H c=some (KnO o))(e:H b=some o)(n:∀z,o≠KnO z):cut C H b=some o:=by
 rw[cp λz=>?_]
 ·exact e
 ·obtain⟨o',e'⟩:=hC b z
  rw[e]at e';exact n o' (Option.some.inj e')
theorem cD.keep{p:Addr}{H H':Hp}{b:Addr}{o:HO}{ls:List (Pos×Str)}(s:cD p H H')(t:Tab H p ls)(e:H b=some o)(n:∀ps,o≠.tbl ps):H' b=some o:=by
 obtain⟨ps,e1,_⟩:=t;refine s b o (λz=>?_) e;rw[z,e1]at e;exact n ps (Option.some.inj e).symm
theorem cD.trans{p:Addr}{H H1 H2:Hp}(a:cD p H H1)(b:cD p H1 H2):cD p H H2:=λc o n e=>b c o n (a c o n e)
theorem Same.p{p:Addr}{H H':Hp}(s:Same H H'):cD p H H':=λb o _ e=>s b o e
theorem sB{H:Hp}{cl:List (Str×Addr)}{ws:List V}(cs:Paired (λ(p:Str×Addr) z=>dA H p.2 z) cl ws):∀c∈cl.map (·.2),∃o,H c=some (KnO o):=by
 induction cs with
 | nil=>intro c h;cases h
 | cons a r ih =>
  intro c h;rcases List.mem_cons.mp h with rfl|h
  ·obtain⟨o,u,e,_⟩:=a
   exact⟨o,e⟩
  ·exact ih c h
end L2
namespace Sk
open PySem PySem.Spec L2
noncomputable abbrev cY:=List Key
inductive Lb
 | no
 | key (d:cY)
 | bend (d e:cY) (l m:Int×Int×Int×Int)
noncomputable def TpK(K:W.Frag)(H:Hp)(a:Addr)(xs:List V):Prop:=H a=some (.tup xs)\/∃(o:Obj) (its:Array Value) (n:Nat),K.lookup a=some o/\o.cls = .type "tuple"/\o.data = .seq its n/\its.size<=sizeLine/\aJ xs its.toList
theorem TpK.mono{K:W.Frag}{H H':Hp}{a:Addr}{xs:List V}(x:TpK K H a xs)(s:SameT H H'):TpK K H' a xs:=x.imp (λe=>s _ _ e) id
theorem TpK.sq{K:W.Frag}{H:Hp}{a:Addr}{xs:List V}(x:TpK K H a xs):SqT K H a xs:=x.elim (λe=>SqT.of e) .inr
section
variable {K:W.Frag}
theorem gU{α β:Type}{F:α->β->Prop}:∀{l:List α} {m:List β},Paired F l m->∀(i:Nat) (b:β),m[i]? = some b->∃a,l[i]? = some a/\F a b:=by
 intro l m p
 induction p with
 | nil=>intro i a e;simp at e
 | cons h r ih =>
  intro i a e;cases i with
  | zero=>simp at e;subst e;exact⟨_,rfl,h⟩
  | succ j=>exact ih j a (by simpa using e)
theorem mW{α β:Type}{F:α->β->Prop}:∀{l:List α} {m:List β},Paired F l m->Paired F l.reverse m.reverse:=by
 intro l m p
 induction p with
 | nil=>exact .nil
 | cons h r ih =>
  rw[List.reverse_cons,List.reverse_cons];exact Paired.snoc ih h
theorem k7:∀{kvs:List (cY×V)} {k:cY},k∉kvs.map (·.1)->cE kvs k=none:=by
 intro kvs
 induction kvs with
 | nil=>intro k _;rfl
 | cons a r ih =>
  intro k h;rw[List.map_cons,List.mem_cons,not_or]at h;rw[bE (λz=>h.1 z.symm)];exact ih h.2
theorem sQ{kvs:List (cY×V)}{k:cY}(h:k∈kvs.map (·.1)):(cE kvs k).isSome=true:=by
 induction kvs with
 | nil=>simp at h
 | cons a r ih =>
  by_cases z:a.1=k
  ·rw[bO z];rfl
  ·rw[bE z]
   rw[List.map_cons,List.mem_cons]at h;exact ih (h.resolve_left λq=>z q.symm)
noncomputable def zd(bs:List cY)(stp:cY->List (cY×Lb))(fin:cY->Bool):Prop:=∃R:List cY,(∀s∈bs,s∈R)/\(∀s∈R,∀e∈stp s,e.1∈R)/\∀s∈R,fin s=false
end
end Sk
namespace Dr
open PySem
end Dr
namespace L2
open PySem PySem.Spec PyProof.Rows
section
variable {X:Cx} {e:Expr} {te:TE} {p1 p2 q1 q2:Pos}
theorem mF:bootBuiltins "reversed" = some (.type "reversed"):=by decide +kernel
end
end L2
namespace Wk
open PySem PySem.Spec L2 Mth Sp1 Sp2 Sp3 Sp7 Dr
structure Pr where
 p:Addr
 x:Addr
 y:Addr
 a:Int
 b:Int
 c:Int
 d:Int
structure PrAt(H:Hp)(q:Pr):Prop where
 p_:H q.p=some (.tup [.ref q.x,.ref q.y])
 x_:H q.x=some (.tup [.int q.a,.int q.b])
 y_:H q.y=some (.tup [.int q.c,.int q.d])
 lx:Ds q.a q.b
 ly:Ds q.c q.d
 nx:0<=q.a
 ny:0<=q.c
 ba:ap q.a<=200
 bb:ap q.b<=60
 bc:ap q.c<=200
 bd:ap q.d<=60
noncomputable def prs(ps:List Pr):List V:=ps.map λq=>V.ref q.p
theorem fP(ps:List Pr):(prs ps).length=ps.length:=List.length_map _
theorem tT{ps:List Pr}{i:Nat}{v:V}(h:(prs ps)[i]? = some v):∃q,ps[i]? = some q/\v = .ref q.p:=by
 unfold prs at h;rw[List.getElem?_map]at h;obtain⟨q,hq,rfl⟩:=Option.map_eq_some_iff.mp h;exact⟨q,hq,rfl⟩
end Wk
namespace L2
open PySem PySem.Spec PyProof.Rows
theorem oB{X:Cx}{K:W.Frag}{pos:Pos}{es:List Expr}{k:Nat}{t:TGs}{n:Nat}(hK:X.K=K)(hc:X.calm=true)(h:PGs X es t)
  (hn:(assignEach es X.env).length=n:=by rfl) (hst:(assignEach es X.env).findIdx? (·.1)=none:=by rfl):PG X (.Tuple es k pos) (Fp K n t):=by
 subst hK;exact eE hc h hn hst
end L2
namespace Fnc
open PySem PySem.Spec L2 Mth Sp1 Sp2 Sp3 Sp7 Dr Wk
theorem di(i j:Int):decide (V.int i=V.int j)=decide (i=j):=by
 rw[Bool.eq_iff_iff];simp
end Fnc
namespace Sk
open PySem PySem.Spec L2 Sp24 Wk
noncomputable def ck(i j:Int):cY:=[.inl i,.inl j]
theorem xg{i j x y:Int}(h:ck i j=ck x y):i=x/\j=y:=by
 unfold ck at h;simp only[List.cons.injEq,Sum.inl.injEq,and_true]at h;exact h
noncomputable def fN(F:Int->Int->Bool)(i k:Nat):List (Int×Int):=((List.range k).filter λ(j:Nat)=>F (i:Int) (j:Int)).map λ(j:Nat)=>((i:Int),(j:Int))
noncomputable def gP(F:Int->Int->Bool)(n i:Nat):List (Int×Int):=(List.range i).flatMap λi'=>fN F i' n
noncomputable def nM(m n:Nat)(F:Int->Int->Bool):List (Int×Int):=gP F (n+1) (m+1)
theorem lL{F:Int->Int->Bool}{i k:Nat}{p:Int×Int}:p∈fN F i k↔p.1=i/\0<=p.2/\p.2<k/\F p.1 p.2=true:=by
 unfold fN;simp only[List.mem_map,List.mem_filter,List.mem_range];constructor
 ·rintro⟨j,⟨h1,h2⟩,rfl⟩
  exact⟨rfl,by simp,by simpa using h1,h2⟩
 ·rintro⟨h1,h2,h3,h4⟩
  obtain⟨x,y⟩:=p;dsimp only at h1 h2 h3 h4;subst h1;refine⟨y.toNat,⟨by omega,?_⟩,?_⟩
  ·rw[show((y.toNat:Nat):Int)=y by omega];exact h4
  ·rw[show((y.toNat:Nat):Int)=y by omega]
theorem lM{F:Int->Int->Bool}{n i:Nat}{p:Int×Int}:p∈gP F n i↔0<=p.1/\p.1<i/\0<=p.2/\p.2<n/\F p.1 p.2=true:=by
 unfold gP;simp only[List.mem_flatMap,List.mem_range,lL];constructor
 ·rintro⟨i',h1,h2,h3,h4,h5⟩
  exact⟨by omega,by omega,h3,h4,h5⟩
 ·rintro⟨h1,h2,h3,h4,h5⟩
  exact⟨p.1.toNat,by omega,by omega,h3,h4,h5⟩
theorem de{m n:Nat}{F:Int->Int->Bool}{x y:Int}:(x,y)∈nM m n F↔0<=x/\x<=m/\0<=y/\y<=n/\F x y=true:=by
 unfold nM;rw[lM];constructor
 ·rintro⟨h1,h2,h3,h4,h5⟩
  exact⟨h1,by simp at h2;omega,h3,by simp at h4;omega,h5⟩
 ·rintro⟨h1,h2,h3,h4,h5⟩
  exact⟨h1,by simp;omega,h3,by simp;omega,h5⟩
theorem jK{F:Int->Int->Bool}{i k:Nat}:fN F i (k+1)=fN F i k++(if F i k=true then [((i:Int),(k:Int))] else []):=by
 unfold fN;rw[List.range_succ,List.filter_append,List.map_append]
 congr 1
 by_cases h:F i k=true
 ·simp[h]
 ·simp[h]
theorem jV{F:Int->Int->Bool}{n i:Nat}:gP F n (i+1)=gP F n i++fN F i n:=by
 unfold gP;rw[List.range_succ,List.flatMap_append];simp
theorem lj{F:Int->Int->Bool}{i k:Nat}:(fN F i k).length<=k:=by
 unfold fN;rw[List.length_map];exact Nat.le_trans (List.length_filter_le _ _) (by simp)
theorem ml{F:Int->Int->Bool}{n:Nat}:∀{i:Nat},(gP F n i).length<=i*n
 | 0=>by simp[gP]
 | i+1=>by
  rw[jV,List.length_append];have:=ml (F:=F) (n:=n) (i:=i);have:=lj (F:=F) (i:=i) (k:=n);rw[Nat.succ_mul];omega
noncomputable def kvF(l:List (Int×Int)):List (cY×V):=l.map λp=>(ck p.1 p.2,.bl true)
theorem lP{l:List (Int×Int)}{x y:Int}:ck x y∈(kvF l).map (·.1)↔(x,y)∈l:=by
 unfold kvF;rw[List.map_map];constructor
 ·intro h
  obtain⟨p,hp,e⟩:=List.mem_map.mp h;obtain⟨h1,h2⟩:=xg e;rw[<- h1,<- h2];exact hp
 ·intro h
  exact List.mem_map.mpr ⟨(x,y),h,rfl⟩
theorem uD{l:List (Int×Int)}{x y:Int}:(cE (kvF l) (ck x y)).isSome=true↔(x,y)∈l:=by
 rw[<- lP];constructor
 ·intro h
  by_cases z:ck x y∈(kvF l).map (·.1)
  ·exact z
  ·rw[k7 z]at h;cases h
 ·exact sQ
noncomputable def k6(H:Hp)(d:Addr)(m n:Nat)(F:Int->Int->Bool):Prop:=∃o,H d=some (.frz o (.dT (kvF (nM m n F))))
theorem k6.mono{H H':Hp}{d:Addr}{m n:Nat}{F:Int->Int->Bool}(h:k6 H d m n F)(s:Same H H'):k6 H' d m n F:=let ⟨o,e⟩:=h;⟨o,s _ _ e⟩
theorem k6.get{H:Hp}{d b:Addr}{m n:Nat}{F:Int->Int->Bool}(h:k6 H d m n F){x y:Int}(hb:H b=some (.tup [.int x,.int y])):∃o,er H d (.ref b) o/\o.isSome=decide ((x,y)∈nM m n F):=by
 obtain⟨o,e⟩:=h;refine⟨_,.inr ⟨_,ck x y,b,.inr ⟨o,e⟩,rfl,hb,rfl⟩,?_⟩;rw[Bool.eq_iff_iff,uD,decide_eq_true_iff]
noncomputable def prC(q:Pr)(c:Int×Int):Prop:=q.a=c.1/\q.b=1/\q.c=c.2/\q.d=1
end Sk
namespace Fz
end Fz
namespace L2
open PySem PySem.Spec PyProof.Rows
noncomputable def ItR(K:W.Frag)(a:Addr)(n:Nat):It:=⟨λi H=>∃xs x,SqL K H a xs/\xs.length=n/\i<n/\xs[n - 1 - i]? = some x,λi H x H'=>H'=H/\∀xs,SqL K H a xs->xs[n - 1 - i]? = some x,λi _=>i=n⟩
theorem qq{P:Program}{w:World}{K:W.Frag}{tg:Expr}(a it:Addr)(n:Nat):CU P w K tg (ItR K a n) [it] it (λi h=>h.IsRevIter it a ((n:Int) - 1 - (i:Int))) where
 mem:=by simp
 obj:=λi h st b hb=>by
  have e:b=it:=by simpa using hb
  subst e;obtain⟨o,e,c,d⟩:=st;exact⟨o,e,λv z=>by rw[d]at z;cases z⟩
 keep:=λi h h' st k=>st.at λo e=>k it (by simp) o e
 item:=by
  intro X hP hw hK hc i pins s σ H E I hf st hg;subst hP hw hK;obtain⟨xs,x,hq,hn,hi,hx⟩:=hg;obtain⟨its,rv,p,hz⟩:=I.list hq;obtain⟨u,hu,ru⟩:=rv.get hx;obtain⟨f0,f1,f2,f3,f4,f5⟩:=hf it (by simp);have e0:(n:Int) - 1 - (i:Int)=((n - 1 - i:Nat):Int):=by omega
  have st0:s.heap.IsRevIter it a ((n:Int) - 1 - (i:Int)):=st;rw[e0]at st0;refine wpAny_pyNext_rev_item st0 p.isList (x:=u) (by simpa using hu) λh' st' sb=>?_;have I1:zg X pins σ H { s with heap:=h' }:=I.turned (t':=s.toks) (λb o hb e=>(sb.2 b hb).trans e) f0 f1 f3 f4 f5;have e1:((n - 1 - i:Nat):Int) - 1=(n:Int) - 1 - ((i+1:Nat):Int):=by omega
  rw[e1]at st';obtain⟨o,e,c,d⟩:=id st';exact⟨u,rfl,oO (s:={ s with heap:=h' }) e c d (by decide) ⟨x,H,I1,ru,⟨rfl,λys hy=>by rw[I.list_inj hy hq];exact hx⟩,st',λb hb=>(hf b hb).1⟩⟩
 done:=by
  intro X hP hw hK hc i pins s σ H E I hf st hg;subst hP hw hK;have hg:i=n:=hg;subst hg;obtain⟨f0,f1,f2,f3,f4,f5⟩:=hf it (by simp);have st0:s.heap.IsRevIter it a ((i:Int) - 1 - (i:Int)):=st;rw[show(i:Int) - 1 - (i:Int) = -1 by omega]at st0;exact wpAny_pyNext_rev_end (I.ok.hd hc) st0 λh' eb=>⟨rfl,I.turned (t':=s.toks) (λb o hb e=>eb b o hb e) f0 f1 f3 f4 f5⟩
 self:=λ_ _ _ _ _ st h=>wpAny_pyIter_revIter st h
noncomputable def yX(K:W.Frag)(te:TE):TI:=λσ H R=>te σ H λx H1=>∃a xs,[x] = [.ref a]/\SqL K H1 a xs/\R (ItR K a xs.length) H1
theorem wj{X:Cx}{tg e:Expr}{te:TE}{p1 q1:Pos}(gr:Gl X "reversed")(mr:X.mg "reversed" = none)(he:PE X e te)(h2:starEach [e] X.env = [(false,eval e X.env)]:=by rfl):PI X tg (.Call (.Name "reversed" p1) [e] [] q1) (yX X.K te):=by
 intro pins s σ H R I h;have h':(oj te vQ) σ H (λvs H1=>∃a xs,vs = [.ref a]/\SqL X.K H1 a xs/\R (ItR X.K a xs.length) H1):=h;refine wpAny_Call_Name_kw (dW I gr mr mF (PyProof.Rows.callWith_type1 (thn ((ad he ag h2) q1 pins s σ H (λvs H1=>∃a xs,vs = [.ref a]/\SqL X.K H1 a xs/\R (ItR X.K a xs.length) H1) I h') λus s1 ⟨vs,H1,I1,r1,q⟩=>?_) h2 rfl));obtain⟨a,xs,rfl,hx,k⟩:=q;obtain⟨u,rfl,ru⟩:=fw r1;cases ru;obtain⟨its,rv,pl,hz⟩:=I1.list hx;have hl:=rv.length;refine call_reversed_list pl.isList ?_;have al:a<s1.heap.objs.size:=by obtain⟨_,e,_⟩:=pl.isList;exact Heap.lt_size e
 have kp:∀b o,s1.heap.get? b=some o->(s1.heap.push (revObj a ((its.toArray.size:Int) - 1))).get? b=some o:=λb o e=>Heap.get?_push_of_some _ e;have it0:(s1.heap.push (revObj a ((its.toArray.size:Int) - 1))).IsRevIter s1.heap.objs.size a ((its.toArray.size:Int) - 1):=⟨_,Heap.get?_push_size _ rfl,rfl,rfl⟩;refine wpAny_pyIter_revIter (i:=(its.toArray.size:Int) - 1) it0 ?_;refine⟨_,[s1.heap.objs.size],_,_,H1,rfl,I1.kept (t':=s1.toks) kp,qq a s1.heap.objs.size xs.length,?_,λb hb=>?_,k⟩
 ·show Heap.IsRevIter _ _ _ ((xs.length:Int) - 1 - ((0:Nat):Int))
  rw[show(xs.length:Int) - 1 - ((0:Nat):Int)=(its.toArray.size:Int) - 1 by rw[List.size_toArray];omega];exact it0
 ·have e:b=s1.heap.objs.size:=by simpa using hb
  subst e;exact I1.fpOk (Nat.le_refl _) (I1.hok.fresh (Nat.le_refl _))
theorem uP{K:W.Frag}{a:Addr}{xs:List V}{g:TG}{tb:TS}{D:AL}{σ:St}{H:Hp}(Pv:Nat->St->Hp->Prop)(h0:Pv 0 σ H)(hl:∀i σ H,i<=xs.length->Pv i σ H->SqL K H a xs)
  (hs:∀i x σ H,i<xs.length->xs[xs.length - 1 - i]? = some x->Pv i σ H->g x σ H λσ2 H2=>tb { D with nx:=Pv (i+1),ct:=Pv (i+1),bk:=D.nx } σ2 H2) (hd:∀σ H,Pv xs.length σ H->D.nx σ H) :
  ∃W:Nat->Nat->St->Hp->Prop,(∃m,W 0 m σ H)/\∀i m σ H,W i m σ H ->
   ((ItR K a xs.length).stop i H/\D.nx σ H)\/((ItR K a xs.length).go i H/\∃N:St->Hp->Prop,(∀σ' H',N σ' H'->∃m',m'<m/\W (i+1) m' σ' H')/\∀x H',(ItR K a xs.length).yld i H x H'->g x σ H' λσ2 H2=>tb { D with nx:=N,ct:=N,bk:=D.nx } σ2 H2):=by
 refine⟨λi m σ H=>m=xs.length - i/\i<=xs.length/\Pv i σ H,⟨_,rfl,Nat.zero_le _,h0⟩,?_⟩;rintro i m σ H ⟨rfl,hi,p⟩;have q:=hl i σ H hi p
 by_cases hlt:i<xs.length
 ·refine .inr ⟨⟨xs,xs[xs.length - 1 - i],q,rfl,hlt,List.getElem?_eq_getElem (by omega)⟩,Pv (i+1),λσ' H' p'=>⟨xs.length - (i+1),by omega,rfl,hlt,p'⟩,λx H' ⟨e,y⟩=>?_⟩
  subst e;exact hs i x σ _ hlt (y xs q) p
 ·have e:i=xs.length:=by omega
  subst e;exact .inl ⟨rfl,hd σ H p⟩
theorem p4{α:Type}{K:W.Frag}{a:Addr}{xs:List V}{es:List α}{fv:List (Str×Nat)}{g:TG}{tc:TT}{te:TE}{σ:St}{H1:Hp}{Q:VK}{k:Nat}(hD:H1 a=some (.lst xs))(hlen:xs.length<1000)(R:α->V->Prop)(pr:Paired R es xs)(P:α->Bool)
  (hs:∀e x H2 (τ:St) (Kc:VK) (Kn:Hp->Prop),e∈es->R e x->Same H1 H2->τ.length=k->(P e=true->∀H4,Same H2 H4->Kc x H4)->(P e=false->∀H4,Same H2 H4->Kn H4) ->
   g x (τ++fvs fv σ) H2 λσ2 H4=>(∃τ':St,τ'.length=k/\σ2=τ'++fvs fv σ)/\tc σ2 H4 λb H5=>if b=true then te σ2 H5 Kc else Kn H5)
  (hd:∀l ys H',H1 l=none->Same H1 H'->H' l=some (.lst ys)->Paired R (es.filter P) ys->Q (.ref l) H'):dX (Itl K a) k fv g tc te σ H1 Q:=by
 intro l hl;have ll:=Paired.length pr;have la:l≠a:=λz=>by rw[z,hD]at hl;cases hl
 have gp:∀{l:List α} {m:List V},Paired R l m->∀(i:Nat) (b:V),m[i]? = some b->∃a,l[i]? = some a/\R a b:=by
  intro l m p
  induction p with
  | nil=>intro i a e;simp at e
  | cons h r ih =>
   intro i a e;cases i with
   | zero=>simp at e;subst e;exact⟨_,rfl,h⟩
   | succ j=>exact ih j a (by simpa using e)
 refine⟨λi m acc H2=>m=xs.length - i/\i<=xs.length/\acc.length<=i/\Same H1 H2/\H2 l=some (.lst acc)/\Paired R ((es.take i).filter P) acc,⟨_,rfl,Nat.zero_le _,Nat.le_refl _,Same.new hl,upd_same,.nil⟩,?_⟩;rintro i m acc H2 ⟨rfl,hi,e1,sm,e3,hr⟩;refine⟨e3,aR (by omega),?_⟩
 by_cases hlt:i<xs.length
 ·refine .inr ⟨⟨xs,xs[i],SqL.of (sm _ _ hD),List.getElem?_eq_getElem hlt⟩,λx H3 y τ hτ=>?_⟩
  obtain⟨rfl,e⟩:=y;have hx:=e xs (SqL.of (sm _ _ hD));obtain⟨ee,he,hre⟩:=gp pr i x hx;have tk:es.take (i+1)=es.take i++[ee]:=by rw[List.take_add_one,he];rfl
  refine hs ee x H3 τ _ _ (List.mem_of_getElem? he) hre sm hτ (λhsel H4 s4=>⟨s4 _ _ e3,xs.length - (i+1),by omega,rfl,hlt,by simp;exact e1,(sm.trans s4).upd hl,upd_same,?_⟩) λhsel H4 s4=>⟨xs.length - (i+1),by omega,rfl,hlt,by omega,sm.trans s4,s4 _ _ e3,?_⟩
  ·rw[tk,List.filter_append,List.filter_cons,hsel]
   exact Paired.snoc hr hre
  ·rw[tk,List.filter_append,List.filter_cons,hsel]
   simp only[Bool.false_eq_true,if_false,List.filter_nil,List.append_nil];exact hr
 ·have e:i=xs.length:=by omega
  subst e;rw[List.take_of_length_le (by omega)]at hr;exact .inl ⟨⟨xs,SqL.of (sm _ _ hD),Nat.le_refl _⟩,hd l acc H2 hl sm e3 hr⟩
end L2
namespace Sp5
open PySem PySem.Spec L2 Mth Sp1 Sp2 Sp3 Sp24
structure Ab(T a A:Int):Prop where
 nn:0<=A
 lo:A*A<=T*a
 hi:T*a<(A+1)*(A+1)
theorem oo{x y:Int}(hx:0<=x)(h:x<y):x*x<y*y:=by
 have h1:x*x<=y*x:=Int.mul_le_mul_of_nonneg_right (by omega) hx;have h2:y*x<y*y:=Int.mul_lt_mul_of_pos_left h (by omega);omega
theorem jH{x y:Int}(hy:0<=y)(h:x*x<=y*y):x<=y:=by
 by_cases hx:x<=y
 ·exact hx
 ·have:=oo hy (show y<x by omega)
  omega
theorem aY{x y:Int}(hx:0<=x)(h:x<=y):x*x<=y*y:=Int.mul_le_mul h h hx (by omega)
theorem Ab.uniq{T a A B:Int}(h:Ab T a A)(k:Ab T a B):A=B:=by
 have h1:A<=B:=by
  by_cases z:A<=B
  ·exact z
  ·have:=aY (x:=B+1) (y:=A) (by have:=k.nn;omega) (by omega)
   have:=k.hi;have:=h.lo;omega
 have h2:B<=A:=by
  by_cases z:B<=A
  ·exact z
  ·have:=aY (x:=A+1) (y:=B) (by have:=h.nn;omega) (by omega)
   have:=h.hi;have:=k.lo;omega
 omega
theorem Ab.mono{T a c A C:Int}(hT:0<=T)(h:Ab T a A)(k:Ab T c C)(hac:a<=c):A<=C:=by
 by_cases z:A<=C
 ·exact z
 ·have:=aY (x:=C+1) (y:=A) (by have:=k.nn;omega) (by omega)
  have:=k.hi;have:=h.lo;have:T*a<=T*c:=Int.mul_le_mul_of_nonneg_left hac hT;omega
structure BS(S M:Int):Prop where
 m1:1<=M
 s:216*(M*(M*M))<=S
theorem BS.mm{S M:Int}(h:BS S M):M<=M*M/\M*M<=M*(M*M):=by
 have h1:=h.m1;have a:1*M<=M*M:=Int.mul_le_mul_of_nonneg_right h1 (by omega);have b:1*(M*M)<=M*(M*M):=Int.mul_le_mul_of_nonneg_right h1 (by omega);omega
theorem BS.pos{S M:Int}(h:BS S M):216*M<=S:=by
 have:=h.mm;have:=h.s;omega
theorem BS.big{S M K:Int}(h:BS S M)(hK:K<=24*(S*M)):K<S*S:=by
 have p:=h.pos;have m1:=h.m1;have:S*(216*M)<=S*S:=Int.mul_le_mul_of_nonneg_left p (by omega);have e:S*(216*M)=216*(S*M):=by grind
 have q:0<S*M:=Int.mul_pos (by omega) (by omega);omega
theorem BS.fin{S M K f:Int}(h:BS S M)(f0:0<=f)(hf:f<=2*(M*M))(k0:0<=K)(hK:K<=24*(S*M)):2*((S*S)*(f*K))+K*K<(S*S)*(S*S):=by
 have m1:=h.m1;have p:=h.pos;have s0:0<S:=by omega
 have mm:=h.mm;have q:0<S*M:=Int.mul_pos s0 (by omega);have a1:f*K<=2*(M*M)*(24*(S*M)):=Int.mul_le_mul hf hK k0 (by omega);have a2:2*(M*M)*(24*(S*M))=48*(S*(M*(M*M))):=by grind
 have a3:S*(216*(M*(M*M)))<=S*S:=Int.mul_le_mul_of_nonneg_left h.s (by omega);have a4:S*(216*(M*(M*M)))=216*(S*(M*(M*M))):=by grind
 have a5:9*(f*K)<=2*(S*S):=by omega
 have b1:K*K<=(24*(S*M))*(24*(S*M)):=Int.mul_le_mul hK hK k0 (by omega);have b2:(24*(S*M))*(24*(S*M))=(S*S)*(576*(M*M)):=by grind
 have b3:216*(M*M)<=S:=by have:=h.s;omega
 have b4:1*S<=S*S:=Int.mul_le_mul_of_nonneg_right (by omega) (by omega);have t0:0<S*S:=Int.mul_pos s0 s0;have b5:3*(576*(M*M))<=S*S:=by
  have:216*S<=S*S:=by
   have:216*S<=S*S:=Int.mul_le_mul_of_nonneg_right (by omega) (by omega);exact this
  omega
 have c1:(S*S)*(9*(f*K))<=(S*S)*(2*(S*S)):=Int.mul_le_mul_of_nonneg_left a5 (by omega);have c2:(S*S)*(3*(576*(M*M)))<=(S*S)*(S*S):=Int.mul_le_mul_of_nonneg_left b5 (by omega);have d1:(S*S)*(9*(f*K))=9*((S*S)*(f*K)):=by grind
 have d2:(S*S)*(2*(S*S))=2*((S*S)*(S*S)):=by grind
 have d3:(S*S)*(3*(576*(M*M)))=3*((S*S)*(576*(M*M))):=by grind
 have t1:0<(S*S)*(S*S):=Int.mul_pos t0 t0;omega
theorem Ab.le{S M a A:Int}(h:BS S M)(r:Ab (S*S) a A)(ha:a<=M*M):A<=S*M:=by
 have m1:=h.m1;have p:=h.pos;refine jH (Int.mul_nonneg (by omega) (by omega)) ?_;have:(S*S)*a<=(S*S)*(M*M):=Int.mul_le_mul_of_nonneg_left ha (Int.mul_nonneg (by omega) (by omega));have e:(S*M)*(S*M)=(S*S)*(M*M):=by grind
 have:=r.lo;omega
theorem Ab.ge{S M a A:Int}(h:BS S M)(r:Ab (S*S) a A)(ha:1<=a):S<=A:=by
 have m1:=h.m1;have p:=h.pos
 by_cases z:S<=A
 ·exact z
 ·have:=aY (x:=A+1) (y:=S) (by have:=r.nn;omega) (by omega)
  have:(S*S)*1<=(S*S)*a:=Int.mul_le_mul_of_nonneg_left ha (Int.mul_nonneg (by omega) (by omega));have:=r.hi;omega
theorem D1{S M a c A C:Int}(h:BS S M)(ra:Ab (S*S) a A)(rc:Ab (S*S) c C)(hc:c<=M*M)(hac:c+1<=a):C+2<A:=by
 have m1:=h.m1;have p:=h.pos
 by_cases z:C+2<A
 ·exact z
 ·have c0:=rc.nn
  have h1:=aY (x:=A+1) (y:=C+3) (by have:=ra.nn;omega) (by omega);have e1:(C+3)*(C+3)=C*C+6*C+9:=by grind
  have h2:(S*S)*(c+1)<=(S*S)*a:=Int.mul_le_mul_of_nonneg_left hac (Int.mul_nonneg (by omega) (by omega));have e2:(S*S)*(c+1)=(S*S)*c+S*S:=by grind
  have:=ra.hi;have:=rc.lo;have hC:=rc.le h hc;have q:S*1<=S*M:=Int.mul_le_mul_of_nonneg_left m1 (by omega);have:=h.big (K:=6*C+9) (by omega);omega
theorem Ab.prod{T a c A C:Int}(hT:0<=T)(ha:0<=a)(hc:0<=c)(ra:Ab T a A)(rc:Ab T c C):(2*(A*C))*(2*(A*C))<=T*T*(4*(a*c))/\T*T*(4*(a*c))<=(2*((A+1)*(C+1)))*(2*((A+1)*(C+1))):=by
 have a0:=ra.nn;have c0:=rc.nn;have ta:0<=T*a:=Int.mul_nonneg hT ha;have tc:0<=T*c:=Int.mul_nonneg hT hc;have h1:(A*A)*(C*C)<=(T*a)*(T*c):=Int.mul_le_mul ra.lo rc.lo (Int.mul_nonneg c0 c0) ta;have h2:(T*a)*(T*c)<=((A+1)*(A+1))*((C+1)*(C+1)):=Int.mul_le_mul (Int.le_of_lt ra.hi) (Int.le_of_lt rc.hi) tc (Int.mul_nonneg (by omega) (by omega));have e1:(2*(A*C))*(2*(A*C))=4*((A*A)*(C*C)):=by grind
 have e2:(2*((A+1)*(C+1)))*(2*((A+1)*(C+1)))=4*(((A+1)*(A+1))*((C+1)*(C+1))):=by grind
 have e3:T*T*(4*(a*c))=4*((T*a)*(T*c)):=by grind
 rw[e1,e2,e3];omega
theorem qZ{S M a c A C f K:Int}(h:BS S M)(ha:0<=a)(hc:0<=c)(ra:Ab (S*S) a A)(rc:Ab (S*S) c C)(f1:1<=f)(hf:f<=2*(M*M))(k0:0<=K)(hK:K<=24*(S*M))(hfc:4*(a*c)+1<=f*f)(hle:(S*S)*f<=2*(A*C)+K):False:=by
 have m1:=h.m1;have p:=h.pos;have t0:0<S*S:=Int.mul_pos (by omega) (by omega);have big:=h.big hK;have g1:(S*S)*1<=(S*S)*f:=Int.mul_le_mul_of_nonneg_left f1 (by omega);have y0:0<=(S*S)*f - K:=by omega
 have y1:=aY (x:=(S*S)*f - K) (y:=2*(A*C)) y0 (by omega);have y2:=(Ab.prod (by omega) ha hc ra rc).1;have y3:(S*S)*(S*S)*(4*(a*c)+1)<=(S*S)*(S*S)*(f*f):=Int.mul_le_mul_of_nonneg_left hfc (Int.mul_nonneg (by omega) (by omega));have y4:=h.fin (by omega) hf k0 hK;have e1:((S*S)*f - K)*((S*S)*f - K)=(S*S)*(S*S)*(f*f) - 2*((S*S)*(f*K))+K*K:=by grind
 have e2:(S*S)*(S*S)*(4*(a*c)+1)=(S*S)*(S*S)*(4*(a*c))+(S*S)*(S*S):=by grind
 have kk:0<=K*K:=Int.mul_nonneg k0 k0;omega
theorem vD{S M a c A C f K:Int}(h:BS S M)(ha:0<=a)(hc:0<=c)(ra:Ab (S*S) a A)(rc:Ab (S*S) c C)(f0:0<=f)(hf:f<=2*(M*M))(k0:0<=K)(hK:K<=24*(S*M))(hfc:f*f+1<=4*(a*c))(hle:2*((A+1)*(C+1))<=(S*S)*f+K):False:=by
 have m1:=h.m1;have p:=h.pos;have t0:0<S*S:=Int.mul_pos (by omega) (by omega);have a0:=ra.nn;have c0:=rc.nn;have z0:0<=2*((A+1)*(C+1)):=by
  have:0<=(A+1)*(C+1):=Int.mul_nonneg (by omega) (by omega);omega
 have y1:=aY z0 hle;have y2:=(Ab.prod (by omega) ha hc ra rc).2;have y3:(S*S)*(S*S)*(f*f+1)<=(S*S)*(S*S)*(4*(a*c)):=Int.mul_le_mul_of_nonneg_left hfc (Int.mul_nonneg (by omega) (by omega));have y4:=h.fin f0 hf k0 hK;have e1:((S*S)*f+K)*((S*S)*f+K)=(S*S)*(S*S)*(f*f)+2*((S*S)*(f*K))+K*K:=by grind
 have e2:(S*S)*(S*S)*(f*f+1)=(S*S)*(S*S)*(f*f)+(S*S)*(S*S):=by grind
 omega
section
variable {S M a c A C v:Int}
theorem L1(h:BS S M)(ha:0<=a)(hc:0<=c)(haM:a<=M*M)(hcM:c<=M*M)(ra:Ab (S*S) a A)(rc:Ab (S*S) c C)(v0:0<=v)(hv:v<=M)(he:0<v*v - a - c)(hd:4*(a*c)+1<=(v*v - a - c)*(v*v - a - c)):2<v*S - A - C:=by
 by_cases z:2<v*S - A - C
 ·exact z
 exfalso;have m1:=h.m1;have p:=h.pos;have a0:=ra.nn;have c0:=rc.nn;have hA:=ra.le h haM;have hC:=rc.le h hcM;have q:S*1<=S*M:=Int.mul_le_mul_of_nonneg_left m1 (by omega);have vv:v*v<=M*M:=aY v0 hv;have s1:=aY (x:=v*S) (y:=A+C+2) (Int.mul_nonneg v0 (by omega)) (by omega);have e1:(v*S)*(v*S)=(S*S)*(v*v):=by grind
 have e2:(A+C+2)*(A+C+2)=A*A+C*C+2*(A*C)+4*A+4*C+4:=by grind
 have e3:(S*S)*(v*v - a - c)=(S*S)*(v*v) - (S*S)*a - (S*S)*c:=by grind
 have:=ra.lo;have:=rc.lo;exact qZ h ha hc ra rc (f:=v*v - a - c) (K:=4*A+4*C+4) (by omega) (by omega) (by omega) (by omega) hd (by omega)
theorem L2(h:BS S M)(ha:0<=a)(hc:0<=c)(ra:Ab (S*S) a A)(rc:Ab (S*S) c C)(v0:0<=v)(hv:v<=M)(hd:v*v - a - c<0\/(0<=v*v - a - c/\(v*v - a - c)*(v*v - a - c)+1<=4*(a*c))):v*S - A - C < -2:=by
 by_cases z:v*S - A - C < -2
 ·exact z
 exfalso;have m1:=h.m1;have p:=h.pos;have a0:=ra.nn;have c0:=rc.nn;have q:S*1<=S*M:=Int.mul_le_mul_of_nonneg_left m1 (by omega);have vs:v*S<=M*S:=Int.mul_le_mul_of_nonneg_right hv (by omega);have ms:M*S=S*M:=Int.mul_comm _ _;have vv:v*v<=M*M:=aY v0 hv;have s1:=aY (x:=A+1+(C+1)) (y:=v*S+4) (by omega) (by omega);have e1:(v*S+4)*(v*S+4)=(S*S)*(v*v)+8*(v*S)+16:=by grind
 have e2:(A+1+(C+1))*(A+1+(C+1))=(A+1)*(A+1)+(C+1)*(C+1)+2*((A+1)*(C+1)):=by grind
 have e3:(S*S)*(v*v - a - c)=(S*S)*(v*v) - (S*S)*a - (S*S)*c:=by grind
 have:=ra.hi;have:=rc.hi;have vs0:0<=v*S:=Int.mul_nonneg v0 (by omega);have z0:0<=(A+1)*(C+1):=Int.mul_nonneg (by omega) (by omega);rcases hd with hd|⟨hd0,hd⟩
 ·have g:(S*S)*(v*v - a - c)<=(S*S)*(-1):=Int.mul_le_mul_of_nonneg_left (by omega) (Int.mul_nonneg (by omega) (by omega))
  have:=h.big (K:=8*(v*S)+16) (by omega);omega
 ·exact vD h ha hc ra rc (f:=v*v - a - c) (K:=8*(v*S)+16) hd0 (by omega) (by omega) (by omega) hd (by omega)
theorem L3(h:BS S M)(ha:0<=a)(hc:0<=c)(ra:Ab (S*S) a A)(rc:Ab (S*S) c C)(v0:0<=v)(he:0<=v*v - a - c)(hd:(v*v - a - c)*(v*v - a - c)=4*(a*c)):-2<=v*S - A - C/\v*S - A - C<=2:=by
 have m1:=h.m1;have p:=h.pos;have a0:=ra.nn;have c0:=rc.nn;have t0:0<=S*S:=Int.mul_nonneg (by omega) (by omega);have vs0:0<=v*S:=Int.mul_nonneg v0 (by omega);have pr:=Ab.prod t0 ha hc ra rc;have e0:(S*S*(v*v - a - c))*(S*S*(v*v - a - c))=S*S*(S*S)*(4*(a*c)):=by rw[<- hd];grind
 have te:0<=S*S*(v*v - a - c):=Int.mul_nonneg t0 he;have k1:2*(A*C)<=S*S*(v*v - a - c):=jH te (by omega);have z0:0<=(A+1)*(C+1):=Int.mul_nonneg (by omega) (by omega);have k2:S*S*(v*v - a - c)<=2*((A+1)*(C+1)):=jH (by omega) (by omega);have e3:(S*S)*(v*v - a - c)=(S*S)*(v*v) - (S*S)*a - (S*S)*c:=by grind
 have e4:(v*S)*(v*S)=(S*S)*(v*v):=by grind
 have e5:(A+C)*(A+C)=A*A+C*C+2*(A*C):=by grind
 have e6:(A+1+(C+1))*(A+1+(C+1))=(A+1)*(A+1)+(C+1)*(C+1)+2*((A+1)*(C+1)):=by grind
 have:=ra.lo;have:=rc.lo;have:=ra.hi;have:=rc.hi;have h1:A+C<=v*S:=jH vs0 (by omega);have h2:v*S<=A+1+(C+1):=jH (by omega) (by omega);omega
theorem L4(h:BS S M)(ha:0<=a)(hc:0<=c)(haM:a<=M*M)(hcM:c<=M*M)(ra:Ab (S*S) a A)(rc:Ab (S*S) c C)(v0:0<v)(hd:0<v*v - a - c\/(v*v - a - c<=0/\(v*v - a - c)*(v*v - a - c)+1<=4*(a*c))):2<v*S+A - C:=by
 by_cases z:2<v*S+A - C
 ·exact z
 exfalso;have m1:=h.m1;have p:=h.pos;have a0:=ra.nn;have c0:=rc.nn;have hA:=ra.le h haM;have hC:=rc.le h hcM;have q:S*1<=S*M:=Int.mul_le_mul_of_nonneg_left m1 (by omega);have s1:=aY (x:=v*S) (y:=C - A+2) (Int.mul_nonneg (by omega) (by omega)) (by omega);have e1:(v*S)*(v*S)=(S*S)*(v*v):=by grind
 have e2:(C - A+2)*(C - A+2)=A*A+C*C - 2*(A*C)+4*C - 4*A+4:=by grind
 have e3:(S*S)*(v*v - a - c)=(S*S)*(v*v) - (S*S)*a - (S*S)*c:=by grind
 have e4:(A+1)*(C+1)=A*C+A+C+1:=by grind
 have:=ra.lo;have:=rc.lo;have ac0:0<=A*C:=Int.mul_nonneg a0 c0;rcases hd with hd|⟨hd0,hd⟩
 ·have g:(S*S)*1<=(S*S)*(v*v - a - c):=Int.mul_le_mul_of_nonneg_left (by omega) (Int.mul_nonneg (by omega) (by omega))
  have:=h.big (K:=4*C+4) (by omega);omega
 ·have e5:(S*S)*(-(v*v - a - c)) = -((S*S)*(v*v - a - c)):=by grind
  have vv:0<=v*v:=Int.mul_nonneg (by omega) (by omega);have e6:-(v*v - a - c) * -(v*v - a - c)=(v*v - a - c)*(v*v - a - c):=by grind
  exact vD h ha hc ra rc (f:=-(v*v - a - c)) (K:=6*C+2*A+6) (by omega) (by omega) (by omega) (by omega) (by rw[e6];exact hd) (by omega)
theorem L5(h:BS S M)(ha:0<=a)(hc:0<=c)(haM:a<=M*M)(hcM:c<=M*M)(hac:a<=c)(ra:Ab (S*S) a A)(rc:Ab (S*S) c C)(v0:0<v)(hv:v<=M)(he:v*v - a - c<0)(hd:4*(a*c)+1<=(v*v - a - c)*(v*v - a - c)):v*S+A - C < -2:=by
 by_cases z:v*S+A - C < -2
 ·exact z
 exfalso;have m1:=h.m1;have p:=h.pos;have a0:=ra.nn;have c0:=rc.nn;have hA:=ra.le h haM;have hC:=rc.le h hcM;have q:S*1<=S*M:=Int.mul_le_mul_of_nonneg_left m1 (by omega);have vs:v*S<=M*S:=Int.mul_le_mul_of_nonneg_right hv (by omega);have ms:M*S=S*M:=Int.mul_comm _ _;have t0:0<=S*S:=Int.mul_nonneg (by omega) (by omega);have hAC:=Ab.mono t0 ra rc hac;have vs0:0<=v*S:=Int.mul_nonneg (by omega) (by omega);have s1:=aY (x:=C - A) (y:=v*S+2) (by omega) (by omega);have e1:(v*S+2)*(v*S+2)=(S*S)*(v*v)+4*(v*S)+4:=by grind
 have e2:(C - A)*(C - A)=A*A+C*C - 2*(A*C):=by grind
 have e3:(S*S)*(v*v - a - c)=(S*S)*(v*v) - (S*S)*a - (S*S)*c:=by grind
 have e5:(S*S)*(-(v*v - a - c)) = -((S*S)*(v*v - a - c)):=by grind
 have e6:-(v*v - a - c) * -(v*v - a - c)=(v*v - a - c)*(v*v - a - c):=by grind
 have e7:(A+1)*(A+1)=A*A+2*A+1:=by grind
 have e8:(C+1)*(C+1)=C*C+2*C+1:=by grind
 have vv:0<=v*v:=Int.mul_nonneg (by omega) (by omega);have:=ra.hi;have:=rc.hi;exact qZ h ha hc ra rc (f:=-(v*v - a - c)) (K:=4*(v*S)+4+2*A+2*C) (by omega) (by omega) (by omega) (by omega) (by rw[e6];exact hd) (by omega)
theorem L6(h:BS S M)(ha:0<=a)(hc:0<=c)(hac:a<=c)(ra:Ab (S*S) a A)(rc:Ab (S*S) c C)(v0:0<v)(he:v*v - a - c<=0)(hd:(v*v - a - c)*(v*v - a - c)=4*(a*c)):-2<=v*S+A - C/\v*S+A - C<=2:=by
 have m1:=h.m1;have p:=h.pos;have a0:=ra.nn;have c0:=rc.nn;have t0:0<S*S:=Int.mul_pos (by omega) (by omega);have vs0:0<v*S:=Int.mul_pos (by omega) (by omega);have aa:a*a<=a*c:=Int.mul_le_mul_of_nonneg_left hac ha;have f2:2*a<=-(v*v - a - c):=jH (by omega) (by
  have e1:(2*a)*(2*a)=4*(a*a):=by grind
  have e2:-(v*v - a - c) * -(v*v - a - c)=(v*v - a - c)*(v*v - a - c):=by grind
  rw[e1,e2,hd];omega)
 have g0:0<=c - a - v*v:=by omega
 have gg:(c - a - v*v)*(c - a - v*v)=4*(v*v*a):=by
  have:(c - a - v*v)*(c - a - v*v) - 4*(v*v*a)=(v*v - a - c)*(v*v - a - c) - 4*(a*c):=by grind
  omega
 have:=ra.lo;have:=rc.lo;have:=ra.hi;have:=rc.hi;have e3:(S*S)*(c - a - v*v)=(S*S)*c - (S*S)*a - (S*S)*(v*v):=by grind
 have sg0:0<=S*(c - a - v*v):=Int.mul_nonneg (by omega) g0;have k1:C<=v*S+A:=by
  by_cases z:C<=v*S+A
  ·exact z
  exfalso;have s1:=aY (x:=v*S+(A+1)) (y:=C) (by omega) (by omega);have e1:(v*S+(A+1))*(v*S+(A+1))=(S*S)*(v*v)+S*(2*(v*(A+1)))+(A+1)*(A+1):=by grind
  have e2:(S*S)*(c - a - v*v)=S*(S*(c - a - v*v)):=by grind
  have l1:S*(2*(v*(A+1)))<S*(S*(c - a - v*v)):=by omega
  have l2:2*(v*(A+1))<S*(c - a - v*v):=Int.lt_of_mul_lt_mul_left l1 (by omega);have va:0<=v*(A+1):=Int.mul_nonneg (by omega) (by omega);have l3:=aY (x:=2*(v*(A+1))) (y:=S*(c - a - v*v)) (by omega) (by omega);have e4:(S*(c - a - v*v))*(S*(c - a - v*v))=4*(v*v*(S*S*a)):=by
   have:(S*(c - a - v*v))*(S*(c - a - v*v))=(S*S)*((c - a - v*v)*(c - a - v*v)):=by grind
   rw[this,gg];grind
  have e5:(2*(v*(A+1)))*(2*(v*(A+1)))=4*(v*v*((A+1)*(A+1))):=by grind
  have l4:v*v*(S*S*a)<v*v*((A+1)*(A+1)):=Int.mul_lt_mul_of_pos_left ra.hi (Int.mul_pos v0 v0);omega
 have k2:v*S+A<=C+1:=by
  by_cases z:v*S+A<=C+1
  ·exact z
  exfalso;have s1:=aY (x:=C+1) (y:=v*S+A) (by omega) (by omega);have e1:(v*S+A)*(v*S+A)=(S*S)*(v*v)+S*(2*(v*A))+A*A:=by grind
  have e2:(S*S)*(c - a - v*v)=S*(S*(c - a - v*v)):=by grind
  have l1:S*(S*(c - a - v*v))<S*(2*(v*A)):=by omega
  have l2:S*(c - a - v*v)<2*(v*A):=Int.lt_of_mul_lt_mul_left l1 (by omega);have l3:(S*(c - a - v*v))*(S*(c - a - v*v))<(2*(v*A))*(2*(v*A)):=oo sg0 l2;have e4:(S*(c - a - v*v))*(S*(c - a - v*v))=4*(v*v*(S*S*a)):=by
   have:(S*(c - a - v*v))*(S*(c - a - v*v))=(S*S)*((c - a - v*v)*(c - a - v*v)):=by grind
   rw[this,gg];grind
  have e5:(2*(v*A))*(2*(v*A))=4*(v*v*(A*A)):=by grind
  have l4:v*v*(A*A)<=v*v*(S*S*a):=Int.mul_le_mul_of_nonneg_left ra.lo (Int.mul_nonneg (by omega) (by omega));omega
 omega
end
theorem ce{x:Int}(h:0<x):sg x=1:=by unfold sg;rw[if_pos h]
theorem dD{x:Int}(h:x<0):sg x = -1:=by unfold sg;rw[if_neg (by omega),if_pos h]
theorem iJ{x:Int}(h:x=0):sg x=0:=by subst h;rfl
theorem cf(x:Int):sg (-x) = -sg x:=by
 rcases Int.lt_trichotomy x 0 with h|h|h
 ·rw[dD h,ce (by omega)];rfl
 ·subst h;rfl
 ·rw[ce h,dD (by omega)]
noncomputable def fI(x:Int):Int:=(if decide (x>2)=true then 1 else 0) - (if decide (x < -2)=true then 1 else 0)
theorem dy{x:Int}(h:2<x):fI x=1:=by
 unfold fI;rw[decide_eq_true (show x>2 from h),decide_eq_false (show ¬x < -2 by omega)];rfl
theorem iF{x:Int}(h:x < -2):fI x = -1:=by
 unfold fI;rw[decide_eq_false (show ¬x>2 by omega),decide_eq_true h];rfl
theorem gD{x:Int}(h:-2<=x/\x<=2):fI x=0:=by
 unfold fI;rw[decide_eq_false (show ¬x>2 by omega),decide_eq_false (show ¬x < -2 by omega)];rfl
theorem iE(x:Int):fI (-x) = -fI x:=by
 by_cases h:2<x
 ·rw[dy h,iF (by omega)]
 by_cases h2:x < -2
 ·rw[iF h2,dy (by omega)];rfl
 ·rw[gD (x:=x) (by omega),gD (by omega)];rfl
theorem bZ{x:Int}(h:0<=x):ssq x=x*x:=by unfold ssq;rw[if_neg (by omega)]
theorem cB{x:Int}(h:x<0):ssq x = -(x*x):=by unfold ssq;rw[if_pos h,Int.mul_neg]
section
variable {S M a c A C w:Int}
noncomputable def Gp(w a c:Int):Int:=if sg w*sg (a+c)>=0 then sg (sg w+sg (a+c)) else sg w*sg (ssq (w*w - a - c) - 4*(a*c))
noncomputable def Gm(w a c:Int):Int:=if sg w*sg (a - c)>=0 then sg (sg w+sg (a - c)) else sg w*sg (ssq (w*w - a - c)+4*(a*c))
theorem rt0(h:BS S M)(r:Ab (S*S) 0 A):A=0:=by
 have h0:Ab (S*S) 0 0:=⟨Int.le_refl _,by simp,by simp⟩;exact r.uniq h0
theorem pp(h:BS S M)(ha:0<=a)(hc:0<=c)(haM:a<=M*M)(hcM:c<=M*M)(ra:Ab (S*S) a A)(rc:Ab (S*S) c C)(hw0:-M<=w)(hw1:w<=M):fI (w*S+A+C)=Gp w a c:=by
 have m1:=h.m1;have p:=h.pos;have a0:=ra.nn;have c0:=rc.nn;unfold Gp
 by_cases w0:0<w
 ·have:1*S<=w*S:=Int.mul_le_mul_of_nonneg_right (by omega) (by omega)
  rw[dy (by omega),ce w0];rcases Int.lt_or_eq_of_le (show 0<=a+c by omega) with g|g
  ·rw[ce g];rfl
  ·rw[iJ g.symm];rfl
 by_cases wz:w=0
 ·subst wz
  by_cases a1:1<=a
  ·have:=ra.ge h a1
   rw[dy (by omega),ce (show 0<a+c by omega)];rfl
  by_cases c1:1<=c
  ·have:=rc.ge h c1
   rw[dy (by omega),ce (show 0<a+c by omega)];rfl
  have ea:a=0:=by omega
  have ec:c=0:=by omega
  subst ea ec;rw[rt0 h ra,rt0 h rc,Int.zero_mul];rfl
 have wn:w<0:=by omega
 have ws:w*S<=-1*S:=Int.mul_le_mul_of_nonneg_right (by omega) (by omega);rw[dD wn]
 by_cases ac:a+c=0
 ·have ea:a=0:=by omega
  have ec:c=0:=by omega
  subst ea ec;rw[rt0 h ra,rt0 h rc,iF (by omega)];rfl
 rw[ce (show 0<a+c by omega),if_neg (by decide)];have e1:w*S+A+C = -(-w*S - A - C):=by grind
 have e2:w*w - a - c = -w * -w - a - c:=by grind
 rw[e1,iE,e2];have hac:0<=a*c:=Int.mul_nonneg ha hc;generalize ee:-w * -w - a - c=e at *;rcases Int.lt_trichotomy (ssq e - 4*(a*c)) 0 with g|g|g
 ·have k:e<0\/(0<=e/\e*e+1<=4*(a*c)):=by
   by_cases e0:e<0
   ·exact .inl e0
   ·rw[bZ (by omega)]at g
    exact .inr ⟨by omega,by omega⟩
  rw[dD g,iF (L2 h ha hc ra rc (by omega) (by omega) (by rw[ee];exact k))];rfl
 ·have e0:0<=e:=by
   by_cases e0:e<0
   ·rw[cB e0]at g
    have:0<e*e:=Int.mul_pos_of_neg_of_neg e0 e0;omega
   ·omega
  rw[bZ e0]at g;rw[iJ (show ssq e - 4*(a*c)=0 by rw[bZ e0];exact g),gD (L3 h ha hc ra rc (by omega) (by rw[ee];exact e0) (by rw[ee];omega))];rfl
 ·have e0:0<e:=by
   by_cases e0:e<0
   ·rw[cB e0]at g
    have:0<e*e:=Int.mul_pos_of_neg_of_neg e0 e0;omega
   ·by_cases e1:e=0
    ·subst e1
     rw[show ssq 0=0 from rfl]at g;omega
    ·omega
  rw[ce g];rw[bZ (by omega)]at g;rw[dy (L1 h ha hc haM hcM ra rc (by omega) (by omega) (by rw[ee];exact e0) (by rw[ee];omega))];rfl
theorem xv(w a c:Int):Gm (-w) c a = -Gm w a c:=by
 unfold Gm;rw[cf,show c - a = -(a - c) by omega,cf,Int.neg_mul_neg,show -w * -w - c - a=w*w - a - c by grind,Int.mul_comm c a]
 by_cases g:sg w*sg (a - c)>=0
 ·rw[if_pos g,if_pos g,show -sg w + -sg (a - c) = -(sg w+sg (a - c)) by omega,cf]
 ·rw[if_neg g,if_neg g,Int.neg_mul]
theorem pm1(h:BS S M)(ha:0<=a)(hc:0<=c)(haM:a<=M*M)(hcM:c<=M*M)(ra:Ab (S*S) a A)(rc:Ab (S*S) c C)(w0:0<w)(hw1:w<=M)(hac:a<c):fI (w*S+A - C)=sg (ssq (w*w - a - c)+4*(a*c)):=by
 have hp:0<=a*c:=Int.mul_nonneg ha hc;generalize ee:w*w - a - c=e at *;rcases Int.lt_trichotomy (ssq e+4*(a*c)) 0 with g|g|g
 ·have e0:e<0:=by
   by_cases e0:e<0
   ·exact e0
   ·rw[bZ (by omega)]at g
    have:0<=e*e:=Int.mul_nonneg (by omega) (by omega);omega
  rw[dD g];rw[cB e0]at g;exact iF (L5 h ha hc haM hcM (by omega) ra rc w0 hw1 (by rw[ee];exact e0) (by rw[ee];omega))
 ·have e0:e<=0:=by
   by_cases e0:e<=0
   ·exact e0
   ·rw[bZ (by omega)]at g
    have:0<e*e:=Int.mul_pos (by omega) (by omega);omega
  rw[iJ g];have g2:e*e=4*(a*c):=by
   by_cases e1:e<0
   ·rw[cB e1]at g;omega
   ·have:e=0:=by omega
    subst this;rw[show ssq 0=0 from rfl]at g;omega
  exact gD (L6 h ha hc (by omega) ra rc w0 (by rw[ee];exact e0) (by rw[ee];exact g2))
 ·rw[ce g]
  refine dy (L4 h ha hc haM hcM ra rc w0 ?_);rw[ee]
  by_cases e0:0<e
  ·exact .inl e0
  ·refine .inr ⟨by omega,?_⟩
   by_cases e1:e<0
   ·rw[cB e1]at g;omega
   ·have:e=0:=by omega
    subst this;rw[show ssq 0=0 from rfl]at g;omega
theorem pm2(h:BS S M)(ha:0<=a)(hc:0<=c)(haM:a<=M*M)(hcM:c<=M*M)(ra:Ab (S*S) a A)(rc:Ab (S*S) c C)(w0:0<=w)(hw1:w<=M)(hz:0<w\/c<=a):fI (w*S+A - C)=Gm w a c:=by
 have m1:=h.m1;have p:=h.pos;have t0:0<=S*S:=Int.mul_nonneg (by omega) (by omega)
 by_cases hac:a<c
 ·have w1:0<w:=by omega
  rw[pm1 h ha hc haM hcM ra rc w1 hw1 hac];unfold Gm;rw[ce w1,dD (show a - c<0 by omega),if_neg (by decide),Int.one_mul]
 have hle:=Ab.mono t0 rc ra (show c<=a by omega);unfold Gm
 by_cases w1:0<w
 ·have:1*S<=w*S:=Int.mul_le_mul_of_nonneg_right (by omega) (by omega)
  rw[dy (by omega),ce w1];rcases Int.lt_or_eq_of_le (show 0<=a - c by omega) with g|g
  ·rw[ce g];rfl
  ·rw[iJ g.symm];rfl
 have wz:w=0:=by omega
 subst wz
 by_cases hlt:c+1<=a
 ·have:=D1 h ra rc hcM hlt
  rw[dy (by omega),ce (show 0<a - c by omega)];rfl
 ·have e:a=c:=by omega
  subst e;have e2:=ra.uniq rc;subst e2;rw[gD (by omega),iJ (show a - a=0 by omega)];rfl
theorem pm(h:BS S M)(ha:0<=a)(hc:0<=c)(haM:a<=M*M)(hcM:c<=M*M)(ra:Ab (S*S) a A)(rc:Ab (S*S) c C)(hw0:-M<=w)(hw1:w<=M):fI (w*S+A - C)=Gm w a c:=by
 by_cases g:0<w\/(w=0/\c<=a)
 ·exact pm2 h ha hc haM hcM ra rc (by omega) hw1 (by omega)
 ·have k:=pm2 h hc ha hcM haM rc ra (w:=-w) (by omega) (by omega) (by omega)
  rw[xv,show -w*S+C - A = -(w*S+A - C) by grind,iE]at k;omega
end
theorem sT{S M w m u n l A C:Int}(h:BS S M)(hu:0<=u)(hl:0<=l)(haM:m*m*u<=M*M)(hcM:n*n*l<=M*M)(ra:Ab (S*S) (m*m*u) A)(rc:Ab (S*S) (n*n*l) C)(hw0:-M<=w)(hw1:w<=M) :
  fI (w*S+A*sg m - C*sg n)=bH w m u (-n) l:=by
 have mm:0<=m*m:=by
  rcases Int.lt_or_le m 0 with g|g
  ·exact Int.le_of_lt (Int.mul_pos_of_neg_of_neg g g)
  ·exact Int.mul_nonneg g g
 have nn:0<=n*n:=by
  rcases Int.lt_or_le n 0 with g|g
  ·exact Int.le_of_lt (Int.mul_pos_of_neg_of_neg g g)
  ·exact Int.mul_nonneg g g
 have ha:0<=m*m*u:=Int.mul_nonneg mm hu;have hc:0<=n*n*l:=Int.mul_nonneg nn hl;have key:∀(x y z:Int),ssq m*u+ssq (-n)*l=x->ssq (-2*m * -n)*(u*l)=y->bH w m u (-n) l=if sg w*sg x>=0 then sg (sg w+sg x) else sg w*sg (ssq (w*w - m*m*u - n*n*l)+y):=by
  intro x y z hx hy;unfold bH swr;rw[hx,hy,show -n * -n*l=n*n*l by grind]
 have s1:∀{x:Int},0<=x->ssq x=x*x:=λh=>bZ h;have s2:∀{x:Int},x<=0->ssq x = -(x*x):=λ{x} h=>by
  by_cases g:x<0
  ·exact cB g
  ·have:x=0:=by omega
   subst this;rfl
 have sA:m=0->A=0:=λe=>by subst e;exact rt0 h (by simpa using ra)
 have sC:n=0->C=0:=λe=>by subst e;exact rt0 h (by simpa using rc)
 have A1:0<=m->A*sg m=A:=λg=>by
  by_cases e:m=0
  ·rw[sA e];simp
  ·rw[ce (by omega),Int.mul_one]
 have A2:m<=0->A*sg m = -A:=λg=>by
  by_cases e:m=0
  ·rw[sA e];simp
  ·rw[dD (by omega),Int.mul_neg,Int.mul_one]
 have C1:0<=n->C*sg n=C:=λg=>by
  by_cases e:n=0
  ·rw[sC e];simp
  ·rw[ce (by omega),Int.mul_one]
 have C2:n<=0->C*sg n = -C:=λg=>by
  by_cases e:n=0
  ·rw[sC e];simp
  ·rw[dD (by omega),Int.mul_neg,Int.mul_one]
 rcases Int.le_total 0 m with gm|gm
 ·rcases Int.le_total 0 n with gn|gn
  ·-- + -
   have hp:0<=m*n:=Int.mul_nonneg gm gn;rw[A1 gm,C1 gn,key (m*m*u - n*n*l) (4*(m*m*u*(n*n*l))) 0 (by rw[s1 gm,s2 (by omega)];grind) (by rw[show -2*m * -n=2*(m*n) by grind,s1 (by omega)];grind)];exact pm h ha hc haM hcM ra rc hw0 hw1
  ·-- + +
   have hp:m*n<=0:=Int.mul_nonpos_of_nonneg_of_nonpos gm gn;rw[A1 gm,C2 gn,key (m*m*u+n*n*l) (-(4*(m*m*u*(n*n*l)))) 0 (by rw[s1 gm,s1 (by omega)];grind) (by rw[show -2*m * -n=2*(m*n) by grind,s2 (by omega)];grind),show w*S+A - -C=w*S+A+C by omega];have k:=pp h ha hc haM hcM ra rc hw0 hw1;rw[k];rfl
 ·rcases Int.le_total 0 n with gn|gn
  ·-- - -
   have hp:m*n<=0:=Int.mul_nonpos_of_nonpos_of_nonneg gm gn;rw[A2 gm,C1 gn,key (-(m*m*u+n*n*l)) (-(4*(m*m*u*(n*n*l)))) 0 (by rw[s2 gm,s2 (by omega)];grind) (by rw[show -2*m * -n=2*(m*n) by grind,s2 (by omega)];grind),show w*S + -A - C = -(-w*S+A+C) by grind,iE];have k:=pp h ha hc haM hcM ra rc (w:=-w) (by omega) (by omega);rw[k];unfold Gp;rw[show -w * -w=w*w by grind,cf w,cf (m*m*u+n*n*l),Int.neg_mul,Int.mul_neg]
   by_cases g:-(sg w*sg (m*m*u+n*n*l))>=0
   ·rw[if_pos g,if_pos g,show sg w + -sg (m*m*u+n*n*l) = -(-sg w+sg (m*m*u+n*n*l)) by omega,cf]
   ·rw[if_neg g,if_neg g,Int.neg_mul,Int.neg_neg]
    rfl
  ·-- - +
   have hp:0<=m*n:=Int.mul_nonneg_of_nonpos_of_nonpos gm gn;rw[A2 gm,C2 gn,key (n*n*l - m*m*u) (4*(m*m*u*(n*n*l))) 0 (by rw[s2 gm,s1 (by omega)];grind) (by rw[show -2*m * -n=2*(m*n) by grind,s1 (by omega)];grind),show w*S + -A - -C=w*S+C - A by omega];have k:=pm h hc ha hcM haM rc ra hw0 hw1;rw[k];unfold Gm;rw[show w*w - n*n*l - m*m*u=w*w - m*m*u - n*n*l by omega,Int.mul_comm (n*n*l)]
end Sp5
namespace Sp6
open PySem PySem.Spec L2 Mth Sp1 Sp2 Sp3 Sp24 Sp5
noncomputable def sh:Nat->Int->Int->Int->Int->Option (List Int)
 | 0,_,_,_,_=>none
 | n+1,lo,hi,b,l=>if lo / b*b=lo then some [lo / b] else if (lo / b+1)*l<=hi then some [lo / b+1] else (sh n l b (hi - lo / b*l) (lo - lo / b*b)).map (lo / b::·)
noncomputable def fr:List Int->Int×Int
 | []=>(0,1)
 | [c]=>(c,1)
 | c::d::r=>(c*(fr (d::r)).1+(fr (d::r)).2,(fr (d::r)).1)
theorem oU{c:Int}{r:List Int}(h:r≠[]):fr (c::r)=(c*(fr r).1+(fr r).2,(fr r).1):=by
 cases r with
 | nil=>exact absurd rfl h
 | cons d r=>rfl
theorem ow:∀{n:Nat} {lo hi b l:Int} {ts:List Int},0<b->0<l->lo*l<hi*b->sh n lo hi b l=some ts->ts≠[]/\0<(fr ts).2/\lo*(fr ts).2<=(fr ts).1*b/\(fr ts).1*l<=hi*(fr ts).2/\(fr ts).2<=b/\(fr ts).2<=l/\(0<lo->0<(fr ts).1/\(fr ts).1<=lo/\(fr ts).1<=hi)
 | 0,_,_,_,_,_,_,_,_,h=>by cases h
 | n+1,lo,hi,b,l,ts,hb,hl,hd,h=>by
  unfold sh at h;generalize hq:lo / b=q at h;have m0:=Int.emod_nonneg lo (show b≠0 by omega);have m1:=Int.emod_lt_of_pos lo hb;have m2:q*b+lo % b=lo:=by rw[<- hq];have:=Int.ediv_mul_add_emod lo b;omega
  by_cases h1:q*b=lo
  ·rw[if_pos h1]at h
   cases h;have e1:q*l<hi:=by
    have:q*l*b<hi*b:=by rw[show q*l*b=q*b*l by grind,h1];exact hd
    exact Int.lt_of_mul_lt_mul_right this (by omega)
   refine⟨by simp,by show(0:Int)<1;decide,?_,?_,by show(1:Int)<=b;omega,by show(1:Int)<=l;omega,λh0=>?_⟩
   ·show lo*1<=q*b
    omega
   ·show q*l<=hi*1
    omega
   ·have q0:0<q:=by
     rcases Int.lt_or_le 0 q with g|g
     ·exact g
     ·have:=Int.mul_nonpos_of_nonpos_of_nonneg g (show 0<=b by omega)
      omega
    have q1:q*1<=q*b:=Int.mul_le_mul_of_nonneg_left (by omega) (by omega);have q2:q*1<=q*l:=Int.mul_le_mul_of_nonneg_left (by omega) (by omega);exact⟨q0,by show q<=lo;omega,by show q<=hi;omega⟩
  ·rw[if_neg h1]at h
   by_cases h2:(q+1)*l<=hi
   ·rw[if_pos h2]at h
    cases h;have e2:(q+1)*b=q*b+b:=by grind
    refine⟨by simp,by show(0:Int)<1;decide,?_,?_,by show(1:Int)<=b;omega,by show(1:Int)<=l;omega,λh0=>?_⟩
    ·show lo*1<=(q+1)*b
     omega
    ·show(q+1)*l<=hi*1
     omega
    ·have q0:0<=q:=by rw[<- hq];exact Int.ediv_nonneg (by omega) (by omega)
     have q1:q*1<=q*b:=Int.mul_le_mul_of_nonneg_left (by omega) q0;have q2:(q+1)*1<=(q+1)*l:=Int.mul_le_mul_of_nonneg_left (by omega) (by omega);exact⟨by show 0<q+1;omega,by show q+1<=lo;omega,by show q+1<=hi;omega⟩
   ·rw[if_neg h2]at h
    obtain⟨us,hu,rfl⟩:=Option.map_eq_some_iff.mp h;have e2:(q+1)*l=q*l+l:=by grind
    have hh:0<hi - q*l:=by
     have a1:q*b*l<lo*l:=Int.mul_lt_mul_of_pos_right (by omega) hl;have a2:q*l*b<hi*b:=by rw[show q*l*b=q*b*l by grind];omega
     have:=Int.lt_of_mul_lt_mul_right a2 (by omega);omega
    have hlr:0<lo - q*b:=by omega
    have hdet:l*(lo - q*b)<b*(hi - q*l):=by
     have e3:l*(lo - q*b)=lo*l - q*b*l:=by grind
     have e4:b*(hi - q*l)=hi*b - q*b*l:=by grind
     omega
    obtain⟨i1,i2,i3,i4,i5,i6,i7⟩:=ow hh hlr hdet hu;obtain⟨j1,j2,j3⟩:=i7 hl;rw[oU i1];generalize (fr us).1=t at *;generalize (fr us).2=u at *;refine⟨by simp,j1,?_,?_,j3,j2,λh0=>?_⟩
    ·show lo*t<=(q*t+u)*b
     have e5:(q*t+u)*b=q*b*t+b*u:=by grind
     have e6:t*(lo - q*b)=lo*t - q*b*t:=by grind
     omega
    ·show(q*t+u)*l<=hi*t
     have e5:(q*t+u)*l=q*l*t+l*u:=by grind
     have e6:t*(hi - q*l)=hi*t - q*l*t:=by grind
     omega
    ·have q0:0<=q:=by rw[<- hq];exact Int.ediv_nonneg (by omega) (by omega)
     have p0:0<=q*t:=Int.mul_nonneg q0 (by omega);have p1:q*t<=q*b:=Int.mul_le_mul_of_nonneg_left j3 q0;have p2:q*t<=q*l:=Int.mul_le_mul_of_nonneg_left j2 q0;exact⟨by show 0<q*t+u;omega,by show q*t+u<=lo;omega,by show q*t+u<=hi;omega⟩
theorem st{lo hi b l:Int}(hb:0<b)(hl:0<l)(hd:lo*l<hi*b)(h1:¬lo / b*b=lo)(h2:¬(lo / b+1)*l<=hi) :
  (0<hi - lo / b*l/\hi - lo / b*l<l)/\(0<lo - lo / b*b/\lo - lo / b*b<b)/\l*(lo - lo / b*b)<b*(hi - lo / b*l):=by
 have m0:=Int.emod_nonneg lo (show b≠0 by omega);have m1:=Int.emod_lt_of_pos lo hb;have m2:lo / b*b+lo % b=lo:=by have:=Int.ediv_mul_add_emod lo b;omega
 generalize lo / b=q at *;have e2:(q+1)*l=q*l+l:=by grind
 have hh:0<hi - q*l:=by
  have a1:q*b*l<lo*l:=Int.mul_lt_mul_of_pos_right (by omega) hl;have a2:q*l*b<hi*b:=by rw[show q*l*b=q*b*l by grind];omega
  have:=Int.lt_of_mul_lt_mul_right a2 (by omega);omega
 refine⟨⟨hh,by omega⟩,⟨by omega,by omega⟩,?_⟩;have e3:l*(lo - q*b)=lo*l - q*b*l:=by grind
 have e4:b*(hi - q*l)=hi*b - q*b*l:=by grind
 omega
structure Bd(N:Int)(ts:List Int):Prop where
 f:∀j,j<ts.length->(-N<=(fr (ts.drop j)).1/\(fr (ts.drop j)).1<=N)/\0<(fr (ts.drop j)).2/\(fr (ts.drop j)).2<=N
 c:∀x∈ts,-N<=x/\x<=N
theorem wG{N lo hi b l t u:Int}(hb:0<b)(hl:0<l)(hu:0<u)(ub:u<=b)(ul:u<=l)(h1:lo*u<=t*b)(h2:t*l<=hi*u)(lN:-N<=lo)(hN:hi<=N)(N0:0<=N):-N<=t/\t<=N:=by
 constructor
 ·refine Int.le_of_mul_le_mul_right (a:=b) ?_ hb
  have a1:-N*u<=lo*u:=Int.mul_le_mul_of_nonneg_right lN (by omega);have a2:N*u<=N*b:=Int.mul_le_mul_of_nonneg_left ub N0;have e1:-N*u = -(N*u):=by grind
  have e2:-N*b = -(N*b):=by grind
  omega
 ·refine Int.le_of_mul_le_mul_right (a:=l) ?_ hl
  have a1:hi*u<=N*u:=Int.mul_le_mul_of_nonneg_right hN (by omega);have a2:N*u<=N*l:=Int.mul_le_mul_of_nonneg_left ul N0;omega
theorem xa{N lo b:Int}(hb:0<b)(h1:-N<=lo)(h2:lo<=N)(N0:0<=N):-N<=lo / b/\lo / b<=N:=by
 constructor
 ·refine Int.le_ediv_of_mul_le hb ?_
  have:N*1<=N*b:=Int.mul_le_mul_of_nonneg_left (by omega) N0;have e2:-N*b = -(N*b):=by grind
  omega
 ·have:=Int.ediv_le_ediv hb h2
  have a:N / b<=N:=Int.ediv_le_self b N0;omega
theorem vq:∀{n:Nat} {N lo hi b l:Int} {ts:List Int},0<b->0<l->lo*l<hi*b->(-N<=lo/\lo<=N)->(-N<=hi/\hi<=N)->b<=N->l<=N->sh n lo hi b l=some ts->Bd (N+1) ts
 | 0,_,_,_,_,_,_,_,_,_,_,_,_,_,h=>by cases h
 | n+1,N,lo,hi,b,l,ts,hb,hl,hd,hlo,hhi,bN,lN,h=>by
  obtain⟨i1,i2,i3,i4,i5,i6,_⟩:=ow hb hl hd h;have top:(-(N+1)<=(fr ts).1/\(fr ts).1<=N+1)/\0<(fr ts).2/\(fr ts).2<=N+1:=by
   have:=wG (N:=N) hb hl i2 i5 i6 i3 i4 hlo.1 hhi.2 (by omega);exact⟨⟨by omega,by omega⟩,i2,by omega⟩
  have hq:=xa hb hlo.1 hlo.2 (show 0<=N by omega);unfold sh at h
  by_cases h1:lo / b*b=lo
  ·rw[if_pos h1]at h
   cases h;refine⟨λj hj=>?_,λx hx=>?_⟩
   ·have:j=0:=by simpa using hj
    subst this;exact top
   ·rw[List.mem_singleton.mp hx]
    omega
  ·rw[if_neg h1]at h
   by_cases h2:(lo / b+1)*l<=hi
   ·rw[if_pos h2]at h
    cases h;refine⟨λj hj=>?_,λx hx=>?_⟩
    ·have:j=0:=by simpa using hj
     subst this;exact top
    ·rw[List.mem_singleton.mp hx]
     omega
   ·rw[if_neg h2]at h
    obtain⟨us,hu,rfl⟩:=Option.map_eq_some_iff.mp h;obtain⟨⟨s1,s2⟩,⟨s3,s4⟩,s5⟩:=st hb hl hd h1 h2;have ih:=vq (N:=N) s1 s3 s5 ⟨by omega,by omega⟩ ⟨by omega,by omega⟩ (by omega) (by omega) hu;refine⟨λj hj=>?_,λx hx=>?_⟩
    ·cases j with
     | zero=>exact top
     | succ j=>exact ih.f j (by simpa using hj)
    ·rcases List.mem_cons.mp hx with rfl|hx
     ·omega
     ·exact ih.c x hx
noncomputable def flr(m u R:Int):Int:=if m<0 then (if R*R=u then -R else -R - 1) else R
noncomputable def SF(a0 a1 a2 a3 sc F:Int):Prop:=∃R,Ab 1 (sc*sc*a1*a1*a2) R/\F=(sc*a0+flr a1 (sc*sc*a1*a1*a2) R) / a3
theorem SF.uniq{a0 a1 a2 a3 sc F G:Int}(h:SF a0 a1 a2 a3 sc F)(k:SF a0 a1 a2 a3 sc G):F=G:=by
 obtain⟨R,h1,rfl⟩:=h;obtain⟨S,k1,rfl⟩:=k;rw[h1.uniq k1]
theorem fK{x y:Int}(h:x<=y):ssq x<=ssq y:=by
 rcases Int.lt_or_le x 0 with hx|hx
 ·rcases Int.lt_or_le y 0 with hy|hy
  ·rw[cB hx,cB hy]
   have:=aY (x:=-y) (y:=-x) (by omega) (by omega);have e1:-y * -y=y*y:=by grind
   have e2:-x * -x=x*x:=by grind
   omega
  ·rw[cB hx,bZ hy]
   have a:=Int.mul_nonneg hy hy;have b:0<=x*x:=by rw[show x*x = -x * -x by grind];exact Int.mul_nonneg (by omega) (by omega)
   omega
 ·rw[bZ hx,bZ (by omega)]
  exact aY hx h
theorem io{k x:Int}(hk:0<=k):ssq (k*x)=k*k*ssq x:=by
 rcases Int.lt_or_le x 0 with hx|hx
 ·rcases Int.lt_or_eq_of_le hk with h|h
  ·rw[cB (Int.mul_neg_of_pos_of_neg h hx),cB hx];grind
  ·subst h;simp[ssq]
 ·rw[bZ (Int.mul_nonneg hk hx),bZ hx];grind
theorem vL{W m u R:Int}(hu:0<=u)(r:Ab 1 (m*m*u) R)(h:W+flr m (m*m*u) R+1<=0):ssq W+ssq m*u<0:=by
 have lo:=r.lo;have hi:=r.hi;have nn:=r.nn;rw[Int.one_mul]at lo hi;unfold flr at h
 by_cases hm:m<0
 ·rw[if_pos hm]at h
  have em:ssq m*u = -(m*m*u):=by rw[cB hm];grind
  rw[em]
  by_cases hx:R*R=m*m*u
  ·rw[if_pos hx]at h
   have a:ssq W<=ssq (R - 1):=fK (by omega);rcases Int.lt_or_le (R - 1) 0 with g|g
   ·rw[cB g]at a
    have:R=0:=by omega
    subst this;simp at a hx;omega
   ·rw[bZ g]at a
    have:=oo (x:=R - 1) (y:=R) g (by omega);omega
  ·rw[if_neg hx]at h
   have a:ssq W<=ssq R:=fK (by omega);rw[bZ nn]at a;omega
 ·rw[if_neg hm]at h
  have em:ssq m*u=m*m*u:=by rw[bZ (by omega)]
  rw[em];have a:ssq W<=ssq (-(R+1)):=fK (by omega);rw[cB (by omega:-(R+1)<0)]at a;have e1:-(R+1) * -(R+1)=(R+1)*(R+1):=by grind
  omega
theorem SF.lt{a0 a1 a2 a3 sc F:Int}(h:SF a0 a1 a2 a3 sc F)(h2:0<=a2)(h3:0<a3)(hs:0<sc):ssq (a0*sc - (F+1)*a3)+ssq (a1*sc)*a2<0:=by
 obtain⟨R,r,rfl⟩:=h;have e:sc*sc*a1*a1*a2=a1*sc*(a1*sc)*a2:=by grind
 rw[e]at r ⊢;have hf:flr a1 (a1*sc*(a1*sc)*a2) R=flr (a1*sc) (a1*sc*(a1*sc)*a2) R:=by
  unfold flr
  by_cases g:a1<0
  ·rw[if_pos g,if_pos (Int.mul_neg_of_neg_of_pos g hs)]
  ·rw[if_neg g,if_neg (by have:=Int.mul_nonneg (show 0<=a1 by omega) (show 0<=sc by omega);omega)]
 rw[hf];refine vL h2 r ?_;generalize flr (a1*sc) (a1*sc*(a1*sc)*a2) R=f;have q:=Int.lt_ediv_add_one_mul_self (sc*a0+f) h3;have e2:sc*a0=a0*sc:=Int.mul_comm _ _;omega
theorem oE{a0 a1 a2 a3 sc L t u:Int}(hs:0<sc)(hu:0<u)(h3:0<a3)(h:ssq (a0*sc - L*a3)+ssq (a1*sc)*a2<0)(hL:L*u<=t*sc):ssq (a0*u - t*a3)+ssq (a1*u)*a2<0:=by
 have e1:ssq (a1*u*sc)=u*u*ssq (a1*sc):=by rw[show a1*u*sc=u*(a1*sc) by grind,io (by omega)]
 have e2:ssq (a1*u*sc)=sc*sc*ssq (a1*u):=by rw[show a1*u*sc=sc*(a1*u) by grind,io (by omega)]
 have e3:ssq ((a0*u - t*a3)*sc)=sc*sc*ssq (a0*u - t*a3):=by rw[Int.mul_comm,io (by omega)]
 have m:(a0*u - t*a3)*sc<=u*(a0*sc - L*a3):=by
  have:=Int.mul_le_mul_of_nonneg_right hL (show 0<=a3 by omega);have f1:(a0*u - t*a3)*sc=a0*u*sc - t*sc*a3:=by grind
  have f2:u*(a0*sc - L*a3)=a0*u*sc - L*u*a3:=by grind
  omega
 have m2:=fK m;rw[e3,io (k:=u) (by omega)]at m2;have pos:0<sc*sc:=Int.mul_pos hs hs;have pu:0<u*u:=Int.mul_pos hu hu;have key:sc*sc*(ssq (a0*u - t*a3)+ssq (a1*u)*a2)<0:=by
  have g1:sc*sc*(ssq (a0*u - t*a3)+ssq (a1*u)*a2)=sc*sc*ssq (a0*u - t*a3)+sc*sc*ssq (a1*u)*a2:=by grind
  rw[g1,<- e2,e1];have g2:u*u*(ssq (a0*sc - L*a3)+ssq (a1*sc)*a2)<0:=Int.mul_neg_of_pos_of_neg pu h;have g3:u*u*(ssq (a0*sc - L*a3)+ssq (a1*sc)*a2)=u*u*ssq (a0*sc - L*a3)+u*u*ssq (a1*sc)*a2:=by grind
  omega
 rcases Int.lt_or_le (ssq (a0*u - t*a3)+ssq (a1*u)*a2) 0 with g|g
 ·exact g
 ·have:=Int.mul_nonneg (show 0<=sc*sc by omega) g
  omega
noncomputable def scl(j:Nat):Int:=2^(2^j)
theorem cV(j:Nat):0<scl j:=Int.pow_pos (by decide)
noncomputable def Rm(a0 a1 a2 a3 b0 b1 b2 b3:Int)(j:Nat)(F G:Int):Prop:=SF a0 a1 a2 a3 (scl j) F/\SF (-b0) (-b1) b2 b3 (scl j) G
noncomputable def Wi(a0 a1 a2 a3 b0 b1 b2 b3 t u:Int):Prop:=∃(j:Nat) (F G:Int) (ts:List Int) (m:Nat),Rm a0 a1 a2 a3 b0 b1 b2 b3 j F G/\F+1+2<=-G - 1/\(∀i,i<j->∀F' G',Rm a0 a1 a2 a3 b0 b1 b2 b3 i F' G'->¬F'+1+2<=-G' - 1)/\sh m (F+1) (-G - 1) (scl j) (scl j)=some ts/\BW (fr ts).1 (fr ts).2 t u
theorem Wi.mid{a0 a1 a2 a3 b0 b1 b2 b3 t u:Int}(h:Wi a0 a1 a2 a3 b0 b1 b2 b3 t u)(a2n:0<=a2)(a3p:0<a3)(b2n:0<=b2)(b3p:0<b3):ssq (a0*u - t*a3)+ssq (a1*u)*a2<0/\ssq (t*b3 - b0*u)+ssq (-b1*u)*b2<0:=by
 obtain⟨j,F,G,ts,m,h1,h2,h3,h4,h5⟩:=h;have sp:=cV j;obtain⟨_,pos,i3,i4,_⟩:=ow sp sp (Int.mul_lt_mul_of_pos_right (show F+1 < -G - 1 by omega) sp) h4;have up:=h5.low.pos;have e:=h5.eq;generalize (fr ts).1=x at *;generalize (fr ts).2=y at *;constructor
 ·refine oE (sc:=scl j) (L:=F+1) sp up a3p (h1.1.lt a2n a3p sp) ?_
  refine Int.le_of_mul_le_mul_right (a:=y) ?_ pos;have q:=Int.mul_le_mul_of_nonneg_right i3 (show 0<=u by omega);have f1:(F+1)*u*y=(F+1)*y*u:=by grind
  have f2:t*scl j*y=x*scl j*u:=by
   rw[show t*scl j*y=t*y*scl j by grind,<- e]
   grind
  omega
 ·have q:=oE (a0:=-b0) (a1:=-b1) (a2:=b2) (a3:=b3) (sc:=scl j) (L:=G+1) (t:=-t) sp up b3p (h1.2.lt b2n b3p sp) (by
   refine Int.le_of_mul_le_mul_right (a:=y) ?_ pos;have q:=Int.mul_le_mul_of_nonneg_right i4 (show 0<=u by omega);have f1:(G+1)*u*y = -((-G - 1)*y*u):=by grind
   have f2:-t*scl j*y = -(x*scl j*u):=by
    rw[show -t*scl j*y = -(t*y*scl j) by grind,<- e]
    grind
   omega)
  have f:-b0*u - -t*b3=t*b3 - b0*u:=by grind
  rw[f]at q;exact q
theorem tJ(n:Nat):∃r:Nat,r*r<=n/\n<(r+1)*(r+1):=by
 induction n with
 | zero=>exact⟨0,by decide,by decide⟩
 | succ n ih =>
  obtain⟨r,h1,h2⟩:=ih
  by_cases h:(r+1)*(r+1)<=n+1
  ·refine⟨r+1,h,?_⟩
   have e:(r+1+1)*(r+1+1)=(r+1)*(r+1)+(r+1)+(r+1)+1:=by grind
   omega
  ·exact⟨r,by omega,by omega⟩
theorem qD{T a:Int}(h:0<=T*a):∃A,Ab T a A:=by
 obtain⟨r,h1,h2⟩:=tJ (T*a).toNat;have e:(((T*a).toNat:Nat):Int)=T*a:=by omega
 have h1':((r*r:Nat):Int)<=T*a:=by omega
 have h2':T*a<(((r+1)*(r+1):Nat):Int):=by omega
 have e2:(((r+1)*(r+1):Nat):Int)=((r:Int)+1)*((r:Int)+1):=by rw[Int.natCast_mul];norm_cast
 rw[e2]at h2';rw[Int.natCast_mul]at h1';exact⟨(r:Int),by omega,h1',h2'⟩
theorem rB{x y:Int}(hy:0<=y)(h:x*x<y*y):x<y:=by
 rcases Int.lt_or_le x y with g|g
 ·exact g
 ·have:=aY hy g
  omega
theorem jL{K S sc a1 a2 b3 R A:Int}(hK:0<K)(e:sc=K*S)(h3:0<b3)(r:Ab 1 (sc*sc*a1*a1*a2) R)(ra:Ab (S*S) (a1*b3*(a1*b3)*a2) A):b3*flr a1 (sc*sc*a1*a1*a2) R<=K*(A*sg (a1*b3)+1):=by
 have lo:=r.lo;have hi:=r.hi;have nn:=r.nn;rw[Int.one_mul]at lo hi;have la:=ra.lo;have ha:=ra.hi;have na:=ra.nn;have key:b3*b3*(sc*sc*a1*a1*a2)=K*K*(S*S*(a1*b3*(a1*b3)*a2)):=by rw[e];grind
 have pK:0<K*K:=Int.mul_pos hK hK;have p3:0<b3*b3:=Int.mul_pos h3 h3;unfold flr;rcases Int.lt_trichotomy a1 0 with g|g|g
 ·rw[if_pos g,dD (Int.mul_neg_of_neg_of_pos g h3)]
  have main:∀x:Int,0<=x->sc*sc*a1*a1*a2<=x*x->b3 * -x<=K*(A * -1+1):=λx hx hx2=>by
   have q1:K*A<=b3*x:=by
    refine Int.not_lt.mp λh=>?_;have h4:=oo (Int.mul_nonneg (show 0<=b3 by omega) hx) h;have f1:b3*x*(b3*x)=b3*b3*(x*x):=by grind
    have f2:K*A*(K*A)=K*K*(A*A):=by grind
    have f3:=Int.mul_le_mul_of_nonneg_left hx2 (show 0<=b3*b3 by omega);have f4:=Int.mul_le_mul_of_nonneg_left la (show 0<=K*K by omega);omega
   have f5:b3 * -x = -(b3*x):=by grind
   have f6:K*(A * -1+1)=K - K*A:=by grind
   omega
  by_cases hx:R*R=sc*sc*a1*a1*a2
  ·rw[if_pos hx]
   exact main R nn (by omega)
  ·rw[if_neg hx,show -R - 1 = -(R+1) by omega]
   exact main (R+1) (by omega) (by omega)
 ·subst g
  rw[if_neg (by omega)];have:R=0:=by
   have:R*R<=0:=by simpa using lo
   rcases Int.lt_or_eq_of_le nn with h|h
   ·have:=Int.mul_pos h h
    omega
   ·exact h.symm
  subst this;rw[Int.zero_mul,iJ rfl];omega
 ·rw[if_neg (by omega),ce (Int.mul_pos g h3)]
  have q1:b3*R<K*(A+1):=by
   refine rB (Int.mul_nonneg (by omega) (by omega)) ?_;have f1:b3*R*(b3*R)=b3*b3*(R*R):=by grind
   have f2:K*(A+1)*(K*(A+1))=K*K*((A+1)*(A+1)):=by grind
   have f3:=Int.mul_le_mul_of_nonneg_left lo (show 0<=b3*b3 by omega);have f4:=Int.mul_lt_mul_of_pos_left ha pK;omega
  have f6:K*(A*1+1)=K*(A+1):=by grind
  omega
theorem qr{x:Int}(h:fI x = -1):x < -2:=by
 rcases Int.lt_or_le x (-2) with g|g
 ·exact g
 ·rcases Int.lt_or_le 2 x with g2|g2
  ·rw[dy g2]at h;cases h
  ·rw[gD ⟨g,g2⟩]at h;cases h
theorem room{a0 a1 a2 a3 b0 b1 b2 b3 K S M:Int}{j:Nat}(a2n:0<=a2)(a3p:0<a3)(b2n:0<=b2)(b3p:0<b3)(ho:ro a0 a1 a2 a3 b0 b1 b2 b3 = -1)(hK:0<K)(e:scl j=K*S)(hS:BS S M)(hW:-M<=a0*b3 - b0*a3/\a0*b3 - b0*a3<=M)
  (hm:a1*b3*(a1*b3)*a2<=M*M) (hn:b1*a3*(b1*a3)*b2<=M*M) (h4:4*(a3*b3)<=K):∀F G,Rm a0 a1 a2 a3 b0 b1 b2 b3 j F G->F+1+2<=-G - 1:=by
 rintro F G ⟨⟨R1,r1,rfl⟩,⟨R2,r2,rfl⟩⟩;have sqn:∀x:Int,0<=x*x:=λx=>by
  rcases Int.lt_or_le x 0 with g|g
  ·exact Int.le_of_lt (Int.mul_pos_of_neg_of_neg g g)
  ·exact Int.mul_nonneg g g
 obtain⟨A,ra⟩:=qD (T:=S*S) (a:=a1*b3*(a1*b3)*a2) (Int.mul_nonneg (sqn S) (Int.mul_nonneg (sqn _) a2n));obtain⟨C,rc⟩:=qD (T:=S*S) (a:=b1*a3*(b1*a3)*b2) (Int.mul_nonneg (sqn S) (Int.mul_nonneg (sqn _) b2n));have t:=sT hS a2n b2n hm hn ra rc hW.1 hW.2;unfold ro at ho;rw[show -(b1*a3) = -b1*a3 by grind,ho]at t;have lowt:=qr t;have rc':Ab (S*S) (-b1*a3*(-b1*a3)*b2) C:=by rw[show -b1*a3*(-b1*a3)*b2=b1*a3*(b1*a3)*b2 by grind];exact rc
 have x1:=jL hK e b3p r1 ra;have x2:=jL hK e a3p r2 rc';have sn:sg (-b1*a3) = -sg (b1*a3):=by rw[show -b1*a3 = -(b1*a3) by grind,cf]
 rw[sn]at x2;generalize flr a1 (scl j*scl j*a1*a1*a2) R1=f1 at *;generalize flr (-b1) (scl j*scl j * -b1 * -b1*b2) R2=g1 at *;have y1:=Int.ediv_mul_le (scl j*a0+f1) (show a3≠0 by omega);have y2:=Int.ediv_mul_le (scl j * -b0+g1) (show b3≠0 by omega);generalize (scl j*a0+f1) / a3=F at *;generalize (scl j * -b0+g1) / b3=G at *;have z1:=Int.mul_le_mul_of_nonneg_right y1 (show 0<=b3 by omega);have z2:=Int.mul_le_mul_of_nonneg_right y2 (show 0<=a3 by omega);have pos:0<a3*b3:=Int.mul_pos a3p b3p;have tot:(F+G)*(a3*b3)<=K * -1:=by
  have e1:(F+G)*(a3*b3)=F*a3*b3+G*b3*a3:=by grind
  have e2:(scl j*a0+f1)*b3+(scl j * -b0+g1)*a3=K*(S*(a0*b3 - b0*a3))+b3*f1+a3*g1:=by rw[e];grind
  have e3:K*(A*sg (a1*b3)+1)+K*(C * -sg (b1*a3)+1)+K*(S*(a0*b3 - b0*a3))=K*((a0*b3 - b0*a3)*S+A*sg (a1*b3) - C*sg (b1*a3)+2):=by grind
  have e4:K*((a0*b3 - b0*a3)*S+A*sg (a1*b3) - C*sg (b1*a3)+2)<=K * -1:=Int.mul_le_mul_of_nonneg_left (by omega) (by omega);omega
 have fin:(F+G)*(a3*b3)<=-4*(a3*b3):=by omega
 have:=Int.le_of_mul_le_mul_right fin pos;omega
end Sp6
namespace Sp5
open PySem PySem.Spec L2 Mth Sp1 Sp2 Sp3 Sp24
theorem fJ(x:Int):ssq (-x) = -ssq x:=by
 rcases Int.lt_trichotomy x 0 with h|h|h
 ·rw[cB h,bZ (x:=-x) (by omega)];grind
 ·subst h;rfl
 ·rw[bZ (x:=x) (by omega),cB (x:=-x) (by omega)];grind
theorem gE(w m u n l:Int):bH (-w) n l (-m) u = -bH w m u (-n) l:=by
 unfold bH swr;rw[fJ m,fJ n,cf w,show ssq n*l + -ssq m*u = -(ssq m*u + -ssq n*l) by grind,cf (ssq m*u + -ssq n*l),Int.neg_mul_neg,show -w * -w - n*n*l - -m * -m*u=w*w - m*m*u - -n * -n*l by grind,show -2*n * -m = -2*m * -n by grind,Int.mul_comm l u]
 by_cases g:sg w*sg (ssq m*u + -ssq n*l)>=0
 ·rw[if_pos g,if_pos g,show -sg w + -sg (ssq m*u + -ssq n*l) = -(sg w+sg (ssq m*u + -ssq n*l)) by omega,cf]
 ·rw[if_neg g,if_neg g,Int.neg_mul]
theorem cO(a0 a1 a2 a3 b0 b1 b2 b3:Int):ro b0 b1 b2 b3 a0 a1 a2 a3=0 - ro a0 a1 a2 a3 b0 b1 b2 b3:=by
 unfold ro;have h:=gE (a0*b3 - b0*a3) (a1*b3) a2 (b1*a3) b2;rw[Int.neg_mul a1 b3,Int.neg_mul b1 a3,show b0*a3 - a0*b3 = -(a0*b3 - b0*a3) by omega,h];omega
theorem om(W m u:Int):bH W m u 0 0=if sg W*sg (ssq m*u)>=0 then sg (sg W+sg (ssq m*u)) else sg W*sg (W*W - m*m*u):=by
 unfold bH swr;have e0:ssq (0:Int)=0:=rfl;have sq:∀e:Int,sg (ssq e)=sg e:=λe=>by
  rcases Int.lt_trichotomy e 0 with h|h|h
  ·rw[cB h,dD h,dD (by have:=Int.mul_pos_of_neg_of_neg h h;omega)]
  ·subst h;rfl
  ·rw[bZ (by omega),ce h,ce (Int.mul_pos h h)]
 have e1:-2*m*0=0:=by omega
 have e2:ssq m*u+0*0=ssq m*u:=by omega
 have e3:W*W - m*m*u - 0*0*0=W*W - m*m*u:=by omega
 rw[e1,e0,e2,e3,show ssq (W*W - m*m*u)+0*(u*0)=ssq (W*W - m*m*u) by omega,sq]
theorem qN{W w U:Int}(hw:0<w)(hU:0<=U):(bH W w U 0 0<0↔W<0/\w*w*U<W*W)/\(bH W w U 0 0=0↔W<=0/\W*W=w*w*U)/\(0<bH W w U 0 0↔0<W\/W*W<w*w*U):=by
 rw[om,bZ (show 0<=w by omega)];have ww:0<w*w:=Int.mul_pos hw hw;have wu:0<=w*w*U:=Int.mul_nonneg (by omega) hU;generalize w*w*U=V at *;have WW:0<W->0<W*W:=λh=>Int.mul_pos h h;have WN:W<0->0<W*W:=λh=>Int.mul_pos_of_neg_of_neg h h;rcases Int.lt_trichotomy W 0 with h|h|h
 ·have k:=WN h
  rw[dD h];rcases Int.lt_or_eq_of_le wu with g|g
  ·rw[ce g,if_neg (by decide)]
   rcases Int.lt_trichotomy (W*W - V) 0 with d|d|d
   ·rw[dD d];omega
   ·rw[iJ d];omega
   ·rw[ce d];omega
  ·rw[<- g]
   show(sg (-1+sg 0)<0↔_)/\(sg (-1+sg 0)=0↔_)/\(0<sg (-1+sg 0)↔_);rw[show sg (-1+sg 0) = -1 from rfl];omega
 ·subst h
  rw[show sg 0=0 from rfl,Int.zero_mul,if_pos (by decide),Int.zero_add,Int.zero_mul];rcases Int.lt_or_eq_of_le wu with g|g
  ·rw[ce g,show sg 1=1 from rfl];omega
  ·rw[<- g,show sg (sg 0)=0 from rfl];omega
 ·have k:=WW h
  rw[ce h];rcases Int.lt_or_eq_of_le wu with g|g
  ·rw[ce g,if_pos (by decide),show sg (1+1)=1 from rfl];omega
  ·rw[<- g,show sg 0=0 from rfl,if_pos (by decide),show sg (1+0)=1 from rfl];omega
theorem vz{W w U:Int}(hw:0<w)(hU:0<=U):(0<bH W (-w) U 0 0↔0<W/\w*w*U<W*W)/\(bH W (-w) U 0 0=0↔0<=W/\W*W=w*w*U)/\(bH W (-w) U 0 0<0↔W<0\/W*W<w*w*U):=by
 have k:=qN (W:=-W) hw hU;have e:bH W (-w) U 0 0 = -bH (-W) w U 0 0:=by
  rw[om,om,cf W,cB (show -w<0 by omega),show -w * -w=w*w by grind,show -W * -W=W*W by grind,bZ (show 0<=w by omega),Int.neg_mul,cf (w*w*U),Int.neg_mul,Int.mul_neg]
  by_cases g:-(sg W*sg (w*w*U))>=0
  ·rw[if_pos g,if_pos g,show sg W + -sg (w*w*U) = -(-sg W+sg (w*w*U)) by omega,cf]
  ·rw[if_neg g,if_neg g,Int.neg_mul,Int.neg_neg]
 rw[show -W * -W=W*W by grind]at k;rw[e];omega
structure Gv(A B C be x y P L U:Int):Prop where
 pa:0<A
 py:0<y
 pb:be*be=A*C - B*B
 eP:P=B*y
 eL:L=A*y
 eU:U=y*(x*A - y*be*be)
section
variable {A B C be x y P L U:Int}
theorem Gv.kU(g:Gv A B C be x y P L U):U=y*(x*A - (A*C - B*B)*y):=by
 rw[g.eU,show y*(x*A - y*be*be)=y*(x*A - y*(be*be)) by grind,g.pb];grind
theorem ki{k z:Int}(hk:0<k):(0<k*z↔0<z)/\(k*z=0↔z=0)/\(k*z<0↔z<0):=by
 rcases Int.lt_trichotomy z 0 with h|h|h
 ·have:=Int.mul_neg_of_pos_of_neg hk h
  omega
 ·subst h;simp
 ·have:=Int.mul_pos hk h
  omega
theorem Gv.ya(g:Gv A B C be x y P L U):0<y*A:=Int.mul_pos g.py g.pa
theorem bD(p q r s t w:Int):ro p q r s t 0 0 w=bH (p*w - t*s) (q*w) r 0 0:=by
 unfold ro;rw[show -0*s=0 by omega]
theorem Gv.lowE(g:Gv A B C be x y P L U):ro P (-1) U L 1 0 0 1=bH (P - L) (-1) U 0 0:=by rw[bD];congr 1 <;> omega
theorem Gv.lowB(g:Gv A B C be x y P L U):ro P (-1) U L 0 0 0 1=bH P (-1) U 0 0:=by rw[bD];congr 1 <;> omega
theorem Gv.highE(g:Gv A B C be x y P L U):ro P 1 U L 1 0 0 1=bH (P - L) 1 U 0 0:=by rw[bD];congr 1 <;> omega
theorem Gv.highB(g:Gv A B C be x y P L U):ro P 1 U L 0 0 0 1=bH P 1 U 0 0:=by rw[bD];congr 1 <;> omega
theorem kC{W U:Int}(hU:0<=U):(bH W 1 U 0 0<0↔W<0/\U<W*W)/\(bH W 1 U 0 0=0↔W<=0/\W*W=U)/\(0<bH W 1 U 0 0↔0<W\/W*W<U):=by
 have h:=qN (W:=W) (w:=1) (by decide) hU;rw[Int.one_mul,Int.one_mul]at h;exact h
theorem kD{W U:Int}(hU:0<=U):(0<bH W (-1) U 0 0↔0<W/\U<W*W)/\(bH W (-1) U 0 0=0↔0<=W/\W*W=U)/\(bH W (-1) U 0 0<0↔W<0\/W*W<U):=by
 have h:=vz (W:=W) (w:=1) (by decide) hU;rw[Int.one_mul,Int.one_mul]at h;exact h
structure Opn(A B C P L U:Int):Prop where
 u:0<=U
 e:¬(0<P - L/\U<(P - L)*(P - L))
 b:¬(P<0/\U<P*P)
theorem Gv.shut(g:Gv A B C be x y P L U)(n:¬(sg U<0\/ro 1 0 0 1 P (-1) U L<0\/ro P 1 U L 0 0 0 1<0)):Opn A B C P L U:=by
 have u:0<=U:=by
  by_cases h:U<0
  ·exact absurd (.inl (by rw[dD h];decide)) n
  ·omega
 refine⟨u,λh=>n (.inr (.inl ?_)),λh=>n (.inr (.inr ?_))⟩
 ·rw[cO P (-1) U L 1 0 0 1,g.lowE]
  have:=(kD u).1.mpr h;omega
 ·rw[g.highB]
  exact(kC u).1.mpr h
theorem Gv.shut'(g:Gv A B C be x y P L U)(n:sg U<0\/ro 1 0 0 1 P (-1) U L<0\/ro P 1 U L 0 0 0 1<0):U<0\/(0<P - L/\U<(P - L)*(P - L))\/(P<0/\U<P*P):=by
 by_cases u:U<0
 ·exact .inl u
 have u:0<=U:=by omega
 rcases n with n|n|n
 ·rcases Int.lt_or_eq_of_le u with h|h
  ·rw[ce h]at n;omega
  ·rw[<- h]at n;exact absurd n (by decide)
 ·rw[cO P (-1) U L 1 0 0 1,g.lowE]at n
  exact .inr (.inl ((kD u).1.mp (by omega)))
 ·rw[g.highB]at n
  exact .inr (.inr ((kC u).1.mp n))
noncomputable def dG(P U L:Int):Int×Int×Int×Int:=if ro P (-1) U L 0 0 0 1<0 then (0,0,0,1) else (P,-1,U,L)
noncomputable def cC(P U L:Int):Int×Int×Int×Int:=if ro P 1 U L 1 0 0 1>0 then (1,0,0,1) else (P,1,U,L)
end
noncomputable abbrev N4:=Int×Int×Int×Int
noncomputable def ltB(l:N4)(a b:Int):Int:=ro l.1 l.2.1 l.2.2.1 l.2.2.2 a 0 0 b
noncomputable def gtB(m:N4)(a b:Int):Int:=ro a 0 0 b m.1 m.2.1 m.2.2.1 m.2.2.2
noncomputable def dO(o:Option (N4×N4))(a b:Int):Bool:=match o with
 | none=>false
 | some (l,m)=>decide (ltB l a b<1) && decide (gtB m a b<1)
noncomputable def vM(o:Option (N4×N4))(a b:Int):Bool:=match o with
 | none=>false
 | some (l,m)=>decide (ltB l a b = -1) && decide (gtB m a b = -1)
theorem vI(m:N4)(a b:Int):gtB m a b=0 - ltB m a b:=cO _ _ _ _ _ _ _ _
theorem oJ{a b:Int}:ltB (0,0,0,1) a b=sg (-a)/\ltB (1,0,0,1) a b=sg (b - a):=by
 have h:∀W:Int,bH W 0 0 0 0=sg W:=λW=>by
  rw[om,show ssq 0*0=0 by omega,show sg 0=0 from rfl,Int.mul_zero,if_pos (by decide),Int.add_zero];rcases Int.lt_trichotomy W 0 with h|h|h
  ·rw[dD h];rfl
  ·rw[iJ h];rfl
  ·rw[ce h];rfl
 unfold ltB;dsimp only;rw[bD,bD,Int.zero_mul,Int.mul_one,Int.one_mul,h,h];constructor
 ·congr 1;omega
 ·rfl
theorem ox{x:Int}:sg x<1↔x<=0:=by
 rcases Int.lt_trichotomy x 0 with h|h|h
 ·rw[dD h];omega
 ·rw[iJ h];omega
 ·rw[ce h];omega
section
variable {A B C be x y P L U a b:Int}
theorem Gv.kt(g:Gv A B C be x y P L U)(a b:Int):(P*b - a*L)*(P*b - a*L) - b*b*U=y*A*((A*a*a - 2*B*a*b+C*b*b)*y - x*(b*b)):=by
 rw[g.kU,g.eP,g.eL];grind
theorem Gv.ct(g:Gv A B C be x y P L U)(a b:Int):((P*b - a*L)*(P*b - a*L)<=b*b*U↔(A*a*a - 2*B*a*b+C*b*b)*y<=x*(b*b))/\((P*b - a*L)*(P*b - a*L)<b*b*U↔(A*a*a - 2*B*a*b+C*b*b)*y<x*(b*b)):=by
 have h:=ki (z:=(A*a*a - 2*B*a*b+C*b*b)*y - x*(b*b)) g.ya;rw[<- g.kt a b]at h;omega
theorem jG{u v:Int}(h0:0<=u)(h:u<=v):u*u<=v*v:=Int.mul_le_mul h h h0 (by omega)
theorem Gv.lpos(g:Gv A B C be x y P L U):0<L:=by rw[g.eL];exact Int.mul_pos g.pa g.py
theorem jP(b p:Int):b*p*(b*p)=b*b*(p*p):=by grind
theorem Gv.wle(g:Gv A B C be x y P L U)(ha:0<=a):P*b - a*L<=b*P:=by
 have:=Int.mul_nonneg ha (Int.le_of_lt g.lpos);rw[Int.mul_comm P b];omega
theorem Gv.wge(g:Gv A B C be x y P L U)(hab:a<=b):b*(P - L)<=P*b - a*L:=by
 have h:=Int.mul_le_mul_of_nonneg_right hab (Int.le_of_lt g.lpos);rw[Int.mul_sub,Int.mul_comm b P];omega
theorem Gv.low_le(g:Gv A B C be x y P L U)(u0:0<=U)(ha:0<=a)(hb:0<b):(ltB (dG P U L) a b<1↔¬(0<P*b - a*L/\b*b*U<(P*b - a*L)*(P*b - a*L)))/\(ltB (dG P U L) a b = -1->P*b - a*L<0\/(P*b - a*L)*(P*b - a*L)<b*b*U):=by
 have bb:0<b*b:=Int.mul_pos hb hb;unfold dG
 by_cases h:ro P (-1) U L 0 0 0 1<0
 ·rw[if_pos h,oJ.1]
  rw[g.lowB]at h;have k:=(kD (W:=P) u0).2.2.mp h;have wle:=g.wle (b:=b) ha;generalize P*b - a*L=W at *;have key:W<0\/W*W<b*b*U:=by
   by_cases hw:W<0
   ·exact .inl hw
   ·have hP:¬P<0:=λz=>by
     have:=Int.mul_neg_of_pos_of_neg hb z;omega
    have k2:P*P<U:=by omega
    have s1:=jG (show 0<=W by omega) wle;rw[jP]at s1;have s2:=Int.mul_lt_mul_of_pos_left k2 bb;exact .inr (by omega)
  refine⟨⟨λ_ ⟨h1,h2⟩=>by omega,λ_=>?_⟩,λ_=>key⟩;exact ox.mpr (by omega)
 ·rw[if_neg h]
  show(ro P (-1) U L a 0 0 b<1↔_)/\(ro P (-1) U L a 0 0 b = -1->_);rw[bD,show -1*b = -b by omega];have k:=vz (W:=P*b - a*L) hb u0;omega
theorem Gv.high_ge(g:Gv A B C be x y P L U)(u0:0<=U)(hab:a<=b)(hb:0<b):(gtB (cC P U L) a b<1↔¬(P*b - a*L<0/\b*b*U<(P*b - a*L)*(P*b - a*L)))/\(gtB (cC P U L) a b = -1->0<P*b - a*L\/(P*b - a*L)*(P*b - a*L)<b*b*U):=by
 have bb:0<b*b:=Int.mul_pos hb hb;rw[vI];unfold cC
 by_cases h:ro P 1 U L 1 0 0 1>0
 ·rw[if_pos h,oJ.2]
  rw[g.highE]at h;have k:=(kC (W:=P - L) u0).2.2.mp h;have wge:=g.wge (a:=a) hab;generalize P*b - a*L=W at *;have key:0<W\/W*W<b*b*U:=by
   by_cases hw:0<W
   ·exact .inl hw
   ·have hP:¬0<P - L:=λz=>by
     have:=Int.mul_pos hb z;omega
    have k2:(P - L)*(P - L)<U:=by omega
    have s1:=jG (u:=-W) (v:=b * -(P - L)) (by omega) (by rw[Int.mul_neg];omega);rw[jP,show -W * -W=W*W by grind,show -(P - L) * -(P - L)=(P - L)*(P - L) by grind]at s1;have s2:=Int.mul_lt_mul_of_pos_left k2 bb;exact .inr (by omega)
  refine⟨⟨λ_ ⟨h1,h2⟩=>by omega,λ_=>?_⟩,λ_=>key⟩;have:0<=sg (b - a):=by
   rcases Int.lt_or_eq_of_le (show 0<=b - a by omega) with z|z
   ·rw[ce z];decide
   ·rw[<- z];decide
  omega
 ·rw[if_neg h]
  show(0 - ro P 1 U L a 0 0 b<1↔_)/\(0 - ro P 1 U L a 0 0 b = -1->_);rw[bD,Int.one_mul];have k:=qN (W:=P*b - a*L) hb u0;omega
theorem sqx(x:Int):0<=x*x:=by
 rcases Int.le_total 0 x with h|h
 ·exact Int.mul_nonneg h h
 ·exact Int.mul_nonneg_of_nonpos_of_nonpos h h
theorem Gv.far(g:Gv A B C be x y P L U)(n:U<0\/(0<P - L/\U<(P - L)*(P - L))\/(P<0/\U<P*P))(ha:0<=a)(hab:a<=b)(hb:0<b):b*b*U<(P*b - a*L)*(P*b - a*L):=by
 have bb:0<b*b:=Int.mul_pos hb hb;rcases n with n|⟨n1,n2⟩|⟨n1,n2⟩
 ·have h1:=Int.mul_neg_of_pos_of_neg bb n
  have h2:=sqx (P*b - a*L);omega
 ·have wge:=g.wge (a:=a) hab
  have s1:=jG (u:=b*(P - L)) (Int.mul_nonneg (by omega) (by omega)) wge;rw[jP]at s1;have s2:=Int.mul_lt_mul_of_pos_left n2 bb;omega
 ·have wle:=g.wle (b:=b) ha
  have s1:=jG (u:=b * -P) (v:=-(P*b - a*L)) (Int.mul_nonneg (by omega) (by omega)) (by rw[Int.mul_neg];omega);rw[jP,show -P * -P=P*P by grind,show -(P*b - a*L) * -(P*b - a*L)=(P*b - a*L)*(P*b - a*L) by grind]at s1;have s2:=Int.mul_lt_mul_of_pos_left n2 bb;omega
end
end Sp5
namespace Pas
open PySem PySem.Spec L2 Sp24 Sp5
noncomputable def ro4(a b:N4):Int:=ro a.1 a.2.1 a.2.2.1 a.2.2.2 b.1 b.2.1 b.2.2.1 b.2.2.2
theorem lp(a b:N4):ro4 b a=0 - ro4 a b:=cO _ _ _ _ _ _ _ _
structure Rv where
 lo:N4
 hi:N4
 ah:Option (Int×Int×Int)
noncomputable def mxN(lo r:N4):N4:=if ro4 lo r<0 then r else lo
noncomputable def pas(g:Option (N4×N4))(st tu:Option Rv)(sd td:Int×Int×Int):Option Rv :=
 match g with
 | none=>none
 | some p=>if tu.isSome=true then some ⟨p.1,p.2,some td⟩ else
  match st with
  | none=>none
  | some r=>if ro4 (mxN p.1 r.lo) p.2<=0 then some ⟨mxN p.1 r.lo,p.2,some sd⟩ else none
noncomputable abbrev GF:=Int->Int->Int->Option (N4×N4)
noncomputable def Lc(G:GF)(U:Nat->Option Rv)(i:Nat):Nat->Option Rv
 | 0=>none
 | j+1=>pas (G 1 i ((j+1:Nat):Int)) (Lc G U i j) (U j) (1,(i:Int),(j:Int)) (0,(i:Int),(j:Int))
noncomputable def Uc(G:GF)(bg:Nat->Option Rv):Nat->Nat->Option Rv
 | 0=>bg
 | i+1=>λj=>pas (G 0 ((i+1:Nat):Int) j) (Uc G bg i j) (Lc G (Uc G bg i) i j) (0,(i:Int),(j:Int)) (1,(i:Int),(j:Int))
structure A9(n m:Nat)(G:GF)(F:Nat->Nat->Bool)(S T:Nat->Nat->Prop):Prop where
 t1:∀a b q,a<=b->T b q->T a q
 t2:∀p q q',q<=q'->T p q->T p q'
 t3:∀p q,p<=n->q<=m->T p q->F p q=true->S p q
 t4:∀p q,S p q->T p q
 top:∀p,p<=n->F p m=true->S p m
 dn0:∀i j,i<=n->j<m->S i (j+1)->G 0 i j=none->S i j
 dn1:∀i j k p p',i<=n->j<m->S i (j+1)->k<i->G 0 i j=some p->G 0 k j=some p'->ro4 p.2 p'.1<0->S k j
 ov0:∀i j,i<n->j<=m->S i j->G 1 i j=none->S (i+1) j
 ov1:∀i j k p p',i<n->j<k->k<=m->S i j->G 1 i j=some p->G 1 i k=some p'->ro4 p'.2 p.1<0->S (i+1) k
 own:∀k i j p,G k i j=some p->ro4 p.1 p.2<=0
 gt:∀i j,i<=n->j<m->F i (j+1)=false->∃p,G 0 i j=some p/\∀(k:Nat) p',G 0 k j=some p'->ro4 p'.1 p.2<=0
 gl:∀i j,i<n->j<=m->F i j=false->∃p,G 1 i j=some p/\∀(k:Nat) p',G 1 i k=some p'->ro4 p.1 p'.2<=0
section
variable {n m:Nat} {G:GF} {F:Nat->Nat->Bool} {S T:Nat->Nat->Prop}
noncomputable def At(m:Nat)(T:Nat->Nat->Prop)(i j:Nat):Prop:=j<m/\¬T i j/\(T i (j+1)\/j+1=m)
noncomputable def OKU(n m:Nat)(G:GF)(T:Nat->Nat->Prop)(i j:Nat)(r:N4):Prop:=∀(b:Nat),i<=b->b<=n->At m T b j->∀p,G 0 b j=some p->ro4 r p.2<=0
noncomputable def OKL(m:Nat)(G:GF)(T:Nat->Nat->Prop)(i j:Nat)(r:N4):Prop:=∀(q:Nat),j<=q->q<=m->¬T (i+1) q->∀p,G 1 i q=some p->ro4 r p.2<=0
theorem A9.far(D:A9 n m G F S T){i j:Nat}(hi:i<=n)(a:At m T i j)(f:F i (j+1)=true):S i (j+1):=by
 obtain⟨hj,_,h|h⟩:=a
 ·exact D.t3 i (j+1) hi hj h f
 ·rw[h]at f ⊢
  exact D.top i hi f
theorem A9.openU(D:A9 n m G F S T){i j:Nat}(hi:i<=n)(a:At m T i j):∃p,G 0 i j=some p/\OKU n m G T i j p.1:=by
 have op:∃p,G 0 i j=some p:=by
  cases f:F i (j+1) with
  | false =>
   obtain⟨p,h,_⟩:=D.gt i j hi a.1 f;exact⟨p,h⟩
  | true =>
   cases g:G 0 i j with
   | some p=>exact⟨p,rfl⟩
   | none=>exact absurd (D.t4 _ _ (D.dn0 i j hi a.1 (D.far hi a f) g)) a.2.1
 obtain⟨p,hp⟩:=op;refine⟨p,hp,λb hb hn ab p' hp'=>?_⟩;rcases Nat.lt_or_eq_of_le hb with lt|rfl
 ·cases f:F b (j+1) with
  | false =>
   obtain⟨p2,h2,h3⟩:=D.gt b j hn ab.1 f;rw[hp']at h2;cases h2;exact h3 i p hp
  | true =>
   have sb:=D.far hn ab f;rcases Int.lt_or_le (ro4 p'.2 p.1) 0 with z|z
   ·exact absurd (D.t4 _ _ (D.dn1 b j i p' p hn ab.1 sb lt hp' hp z)) a.2.1
   ·rw[lp p'.2 p.1]
    omega
 ·rw[hp]at hp'
  cases hp';exact D.own _ _ _ p hp
theorem A9.openL(D:A9 n m G F S T){i q:Nat}(hi:i<n)(hq:q<=m)(t:T i q)(nt:¬T (i+1) q):∃p,G 1 i q=some p/\OKL m G T i q p.1:=by
 have op:∃p,G 1 i q=some p:=by
  cases f:F i q with
  | false =>
   obtain⟨p,h,_⟩:=D.gl i q hi hq f;exact⟨p,h⟩
  | true =>
   cases g:G 1 i q with
   | some p=>exact⟨p,rfl⟩
   | none=>exact absurd (D.t4 _ _ (D.ov0 i q hi hq (D.t3 i q (by omega) hq t f) g)) nt
 obtain⟨p,hp⟩:=op;refine⟨p,hp,λq' hq' hm nt' p' hp'=>?_⟩;rcases Nat.lt_or_eq_of_le hq' with lt|rfl
 ·cases f:F i q with
  | false =>
   obtain⟨p2,h2,h3⟩:=D.gl i q hi hq f;rw[hp]at h2;cases h2;exact h3 q' p' hp'
  | true =>
   rcases Int.lt_or_le (ro4 p'.2 p.1) 0 with z|z
   ·exact absurd (D.t4 _ _ (D.ov1 i q q' p p' hi lt hm (D.t3 i q (by omega) hq t f) hp hp' z)) nt'
   ·rw[lp p'.2 p.1]
    omega
 ·rw[hp]at hp'
  cases hp';exact D.own _ _ _ p hp
theorem qS(a b:N4):mxN a b=a\/mxN a b=b:=by
 unfold mxN
 split
 ·exact .inr rfl
 ·exact .inl rfl
theorem lB{p:N4×N4}{g:Option (N4×N4)}{st tu:Option Rv}{sd td:Int×Int×Int}(hg:g=some p)(h:tu.isSome=true):pas g st tu sd td=some ⟨p.1,p.2,some td⟩:=by
 rw[hg];show(if tu.isSome=true then _ else _)=_
 rw[if_pos h]
theorem qJ{p:N4×N4}{g:Option (N4×N4)}{st tu:Option Rv}{sd td:Int×Int×Int}{r:Rv}(hg:g=some p)(hs:st=some r)(o1:ro4 p.1 p.2<=0)(o2:ro4 r.lo p.2<=0):∃r',pas g st tu sd td=some r'/\(r'.lo=p.1\/r'.lo=r.lo):=by
 rw[hg,hs];show ∃r',(if tu.isSome=true then _ else if ro4 (mxN p.1 r.lo) p.2<=0 then _ else _)=some r'/\_
 split
 ·exact⟨_,rfl,.inl rfl⟩
 ·have:ro4 (mxN p.1 r.lo) p.2<=0:=by
   rcases qS p.1 r.lo with e|e
   ·rw[e];exact o1
   ·rw[e];exact o2
  rw[if_pos this];exact⟨_,rfl,qS _ _⟩
theorem lI(D:A9 n m G F S T){i j:Nat}(hj:j<m)(nt:¬T i j):∃j',j<=j'/\At m T i j':=by
 obtain⟨d,hd⟩:∃d,m - j=d:=⟨_,rfl⟩
 induction d generalizing j with
 | zero=>omega
 | succ d ih =>
  by_cases h:T i (j+1)\/j+1=m
  ·exact⟨j,Nat.le_refl _,hj,nt,h⟩
  ·obtain⟨j',h1,h2⟩:=ih (j:=j+1) (by omega) (λz=>h (.inl z)) (by omega)
   exact⟨j',by omega,h2⟩
theorem A9.up(D:A9 n m G F S T){U:Nat->Option Rv}{i j:Nat}(hi:i<n)(a:At m T i j)(hu:(U j).isSome=true):∀q,j<q->q<m->¬T (i+1) q->∃r,Lc G U i q=some r/\OKL m G T i q r.lo:=by
 intro q
 induction q with
 | zero=>intro h;omega
 | succ q ih =>
  intro h1 h2 h3;have tq:T i (q+1):=by
   rcases a.2.2 with t|t
   ·exact D.t2 i (j+1) (q+1) (by omega) t
   ·omega
  obtain⟨p,hp,ok⟩:=D.openL hi (by omega) tq h3;rcases Nat.lt_or_eq_of_le (show j<=q by omega) with lt|rfl
  ·obtain⟨r,hr,okr⟩:=ih lt (by omega) λz=>h3 (D.t2 _ _ _ (by omega) z)
   have okr':OKL m G T i (q+1) r.lo:=λq' hq'=>okr q' (by omega);obtain⟨r',e,l⟩:=qJ (tu:=U q) (sd:=(1,(i:Int),(q:Int))) (td:=(0,(i:Int),(q:Int))) hp hr (D.own _ _ _ p hp) (okr' (q+1) (Nat.le_refl _) (by omega) h3 p hp);refine⟨r',e,?_⟩;rcases l with l|l
   ·rw[l];exact ok
   ·rw[l];exact okr'
  ·exact⟨_,lB hp hu,ok⟩
theorem A9.on(D:A9 n m G F S T){bg:Nat->Option Rv}{i j:Nat}{r:Rv}(hi:i<n)(a:At m T i j)(hu:Uc G bg i j=some r)(ok:OKU n m G T i j r.lo):∃j' r',At m T (i+1) j'/\Uc G bg (i+1) j'=some r'/\OKU n m G T (i+1) j' r'.lo:=by
 obtain⟨j',h1,a'⟩:=lI D (i:=i+1) a.1 λz=>a.2.1 (D.t1 i (i+1) j (by omega) z);obtain⟨p,hp,okp⟩:=D.openU (i:=i+1) (by omega) a';rcases Nat.lt_or_eq_of_le h1 with lt|rfl
 ·obtain⟨rl,hl,_⟩:=D.up (U:=Uc G bg i) hi a (by rw[hu];rfl) j' lt a'.1 a'.2.1
  exact⟨j',_,a',lB hp (by rw[hl];rfl),okp⟩
 ·have okr:OKU n m G T (i+1) j r.lo:=λb hb=>ok b (by omega)
  obtain⟨r',e,l⟩:=qJ (tu:=Lc G (Uc G bg i) i j) (sd:=(0,(i:Int),(j:Int))) (td:=(1,(i:Int),(j:Int))) hp hu (D.own _ _ _ p hp) (okr (i+1) (Nat.le_refl _) (by omega) a' p hp);refine⟨j,r',a',e,?_⟩;rcases l with l|l
  ·rw[l];exact okp
  ·rw[l];exact okr
theorem A9.all(D:A9 n m G F S T){bg:Nat->Option Rv}{j0:Nat}{r0:Rv}(a0:At m T 0 j0)(h0:bg j0=some r0)(ok0:OKU n m G T 0 j0 r0.lo):∀i,i<=n->∃j r,At m T i j/\Uc G bg i j=some r/\OKU n m G T i j r.lo:=by
 intro i
 induction i with
 | zero=>exact λ_=>⟨j0,r0,a0,h0,ok0⟩
 | succ i ih =>
  intro hi;obtain⟨j,r,a,hu,ok⟩:=ih (by omega);exact D.on (by omega) a hu ok
theorem A9.last(D:A9 n m G F S T){bg:Nat->Option Rv}{j0:Nat}{r0:Rv}(a0:At m T 0 j0)(h0:bg j0=some r0)(ok0:OKU n m G T 0 j0 r0.lo)(hn:1<=n)(no:∀q,¬T n q):(Uc G bg (n - 1) (m - 1)).isSome=true\/(Lc G (Uc G bg (n - 1)) (n - 1) (m - 1)).isSome=true:=by
 obtain⟨j,r,a,hu,ok⟩:=D.all a0 h0 ok0 (n - 1) (by omega);rcases Nat.lt_or_ge j (m - 1) with z|z
 ·obtain⟨rl,hl,_⟩:=D.up (U:=Uc G bg (n - 1)) (by omega) a (by rw[hu];rfl) (m - 1) z (by omega) (by rw[Nat.sub_add_cancel hn];exact no _)
  exact .inr (by rw[hl];rfl)
 ·have:j=m - 1:=by have:=a.1;omega
  subst this;exact .inl (by rw[hu];rfl)
end
end Pas
namespace L2
open PySem PySem.Spec PyProof.Rows
theorem qy{K:W.Frag}{H H':Hp}{a:Addr}{xs:List V}(h:SqT K H a xs)(s:Same H H'):SqT K H' a xs:=by
 rcases h with(h|⟨o,h⟩)|h
 ·exact .inl (.inl (s _ _ h))
 ·exact .inl (.inr ⟨o,s _ _ h⟩)
 ·exact .inr h
end L2
namespace Sp11
open PySem PySem.Spec L2 Mth Sp1 Sp2
inductive AU (C:Addr) (vs:List V) (H:Hp) (Q:VK) (E:XK):Prop
 | mk:∀(a b:Int) (n:Nat),(vs = [.int a,.int b])->((ap a<=n/\ap b<=n/\n<=7900))->((b=0->E (.ref C) none H))->((b≠0->∀(p:Addr) (t u:Int),BW a b t u->ap t<=n->ap u<=n->H p=none->Q (.ref p) (upd H p (.tup [.int t,.int u]))))->AU C vs H Q E
structure El(H:Hp)(p:Addr)(a b:Int)(n:Nat):Prop where
 at_:H p=some (.tup [.int a,.int b])
 low:Ds a b
 ba:ap a<=n
 bb:ap b<=n
theorem El.mono{H H':Hp}{p:Addr}{a b:Int}{n:Nat}(f:El H p a b n)(s:Same H H'):El H' p a b n:=⟨s _ _ f.at_,f.low,f.ba,f.bb⟩
inductive EB (num den:Int->Int->Int->Int->Int) (vs:List V) (H:Hp) (Q:VK) (x_3:XK):Prop
 | mk:∀(p q:Addr) (a b c d:Int) (n:Nat),(vs = [.ref p,.ref q])->(El H p a b n)->(El H q c d n)->(n<=3900)->(den a b c d≠0)->(∀(r:Addr) (t u:Int) (H':Hp),BW (num a b c d) (den a b c d) t u->El H' r t u (2*n+1)->Same H H'->Q (.ref r) H')->EB num den vs H Q x_3
theorem Al.mono{H H':Hp}{x:V}(h:Al H x)(s:Same H H'):Al H' x:=by
 obtain⟨⟨t,k⟩,pt⟩:=h;refine⟨⟨t,k.mono s⟩,λp xs e1 e2 y hy=>?_⟩;subst e1;have e3:H p=some (.tup xs):=by
  cases k with
  | lst e=>rw[s _ _ e]at e2;cases e2
  | tup e=>rw[s _ _ e]at e2;cases e2;exact e
  | dict e=>rw[s _ _ e]at e2;cases e2
 obtain⟨t',k'⟩:=pt p xs rfl e3 y hy;exact⟨t',k'.mono s⟩
noncomputable abbrev Crn:=List (Addr×Int×Int)
end Sp11
namespace Hd
open PySem PySem.W PySem.Spec L2
noncomputable def ur(o:Obj):Bool:=match o.data with
 | .freed=>false
 | _=>true
noncomputable def pL:Nat->List Obj->Frag
 | _,[]=>[]
 | n,a::r=>bif ur a then (n,a)::pL (n+1) r else pL (n+1) r
noncomputable def frag(h:Heap):Frag:=pL 0 h.objs.toList
noncomputable def fnFact(K:Frag)(x:Str):Option (Arguments×List Stmt×Scope×Value):=match nsIn K mainGlobals x with
 | some (some (.ref f))=>(match K.lookup f with
  | some ⟨_,_,.func fd,_⟩=>(match fd.body,fd.closure with
   | .stmts b,[]=>bif (fd.name == x && (fd.qualname == x && (Nat.beq fd.globals mainGlobals && (Nat.beq fd.builtins builtinsNs && codeIn K fd.code x)))) then some (fd.params,b,fd.scope,fd.defaults) else none
   | _,_=>none)
  | _=>none)
 | _=>none
theorem eN{K:Frag}{x:Str}{a:Arguments}{b:List Stmt}{sc:Scope}{dv:Value}(e:fnFact K x=some (a,b,sc,dv)) :
  ∃(f:Addr) (oc:Value) (od:Option Addr) (kV doc pm:Value) (an:Option Addr) (cdv ct:Value) (osl:Array (Option Value)),
   nsIn K mainGlobals x=some (some (.ref f))/\K.lookup f=some ⟨oc,od,.func (fnOf x x a b sc dv kV doc pm an cdv ct),osl⟩/\codeIn K cdv x=true/\keepIn K (.ref f)=true:=by
 unfold fnFact at e
 split at e
 ·rename_i f hf
  split at e
  ·rename_i oc od fd osl hl
   split at e
   ·rename_i b' hb hc
    cases hq:(fd.name == x && (fd.qualname == x && (Nat.beq fd.globals mainGlobals && (Nat.beq fd.builtins builtinsNs && codeIn K fd.code x)))) with
    | false=>rw[hq]at e;cases e
    | true =>
     rw[hq]at e;simp only[Bool.and_eq_true]at hq;obtain⟨h1,h2,h3,h4,h5⟩:=hq
     replace h1:=eq_of_beq h1
     replace h2:=eq_of_beq h2
     replace h3:=Nat.eq_of_beq_eq_true h3
     replace h4:=Nat.eq_of_beq_eq_true h4
     simp only[cond_true,Option.some.injEq,Prod.mk.injEq]at e;obtain⟨e1,e2,e3,e4⟩:=e;obtain⟨n,qn,ps,bd,s,gl,cl,df,kw,dc,pm,an,cd,ct,bl⟩:=fd;simp only at h1 h2 h3 h4 h5 e1 e2 e3 e4 hb hc;subst h1 h2 h3 h4 e1 e2 e3 e4 hb hc;refine⟨f,oc,od,kw,dc,pm,an,cd,ct,osl,hf,hl,h5,?_⟩;unfold keepIn;dsimp only;rw[hl]
   ·cases e
  ·cases e
 ·cases e
theorem df_of{K:Frag}{mg:Str->Option Value}{h:Heap}{x:Str}{st:Stmt}(X:K.In h)(G:h.Ns mainGlobals mg)(e:fnFact K x=some (aP st,aH st,ak st,.none)):Df K mg x st:=by
 obtain⟨f,oc,od,kV,doc,pm,an,cdv,ct,osl,h1,h2,h3,h4⟩:=eN e;exact yv X G h1 h2 h3 h4
noncomputable def bareV:Value->V
 | .none=>.non
 | .bool b=>.bl b
 | .int i _=>.int i
 | .str x _=>.str x
 | .bytes b _=>.byt b
 | .float b _=>.flt b
 | .ref a=>.ref a
 | .type n=>.ty n
 | _=>.ty "no plain value"
noncomputable def gF:Value->Bool
 | .ellipsis | .notImplemented | .builtin _=>false
 | _=>true
theorem qg:∀{v:Value},gF v=true->aN (bareV v) v
 | .none,_=>rfl
 | .bool _,_=>rfl
 | .int _ t,_=>⟨t,rfl⟩
 | .str _ t,_=>⟨t,rfl⟩
 | .bytes _ t,_=>⟨t,rfl⟩
 | .float _ t,_=>⟨t,rfl⟩
 | .ref _,_=>rfl
 | .type _,_=>rfl
 | .ellipsis,h=>by cases h
 | .notImplemented,h=>by cases h
 | .builtin _,h=>by cases h
theorem gC:∀{l:List Value},l.all gF=true->aJ (l.map bareV) l
 | [],_=>.nil
 | _::_,h=>by
  rw[List.all_cons,Bool.and_eq_true]at h;exact .cons (qg h.1) (gC h.2)
noncomputable def qA(K:Frag)(v:Value):Option (List V):=match v with
 | .ref a=>(match K.lookup a with
  | some ⟨_,_,.seq its _,_⟩=>bif its.toList.all gF then some (its.toList.map bareV) else none
  | _=>none)
 | _=>none
theorem mQ{K:Frag}{v:Value}{ds:List V}(e:qA K v=some ds):∃(a:Addr) (o:Obj) (its:List Value) (n:Nat),v = .ref a/\K.lookup a=some o/\o.data = .seq its.toArray n/\aJ ds its:=by
 unfold qA at e
 split at e
 ·rename_i a
  split at e
  ·rename_i oc od its n osl hl
   cases hq:its.toList.all gF with
   | false=>rw[hq]at e;cases e
   | true =>
    rw[hq]at e;cases e;exact⟨a,_,its.toList,n,rfl,hl,rfl,gC hq⟩
  ·cases e
 ·cases e
noncomputable def fnFactD(K:Frag)(x:Str):Option (Arguments×List Stmt×Scope×List V):=match fnFact K x with
 | some (a,b,s,dv)=>(match qA K dv with
  | some ds=>some (a,b,s,ds)
  | none=>none)
 | none=>none
theorem dfd_of{K:Frag}{mg:Str->Option Value}{h:Heap}{x:Str}{st:Stmt}{ds:List V}(X:K.In h)(G:h.Ns mainGlobals mg)(e:fnFactD K x=some (aP st,aH st,ak st,ds)):Fu K mg x st ds:=by
 unfold fnFactD at e
 split at e
 ·rename_i a b s dv hf
  split at e
  ·rename_i ds' hs
   simp only[Option.some.injEq,Prod.mk.injEq]at e;obtain⟨e1,e2,e3,e4⟩:=e;subst e1 e2 e3 e4;obtain⟨f,oc,od,kV,doc,pm,an,cdv,ct,osl,h1,h2,h3,h4⟩:=eN hf;obtain⟨T,oT,its,n,rfl,hl,hd,hv⟩:=mQ hs;exact xb X G h1 h2 h3 h4 hl hd hv
  ·cases e
 ·cases e
noncomputable def cls(K:Frag)(x:Str):Addr:=match nsIn K mainGlobals x with
 | some (some (.ref C))=>C
 | _=>0
noncomputable def excFact(K:Frag)(x:Str):Bool:=match nsIn K mainGlobals x with
 | some (some (.ref C))=>excIn K C [.type "ValueError",.type "Exception",.type "BaseException",.type "object"] "ValueError.__new__"
 | _=>false
theorem exc_of{K:Frag}{mg:Str->Option Value}{h:Heap}{x:Str}(X:K.In h)(G:h.Ns mainGlobals mg)(e:excFact K x=true):Ac K mg x (cls K x):=by
 unfold excFact at e
 split at e
 ·rename_i C hC
  have:cls K x=C:=by unfold cls;rw[hC]
  rw[this];exact wZ X G hC e
 ·cases e
noncomputable def tupFact(K:Frag)(x:Str):Option (List V):=match nsIn K mainGlobals x with
 | some (some (.ref a))=>(match K.lookup a with
  | some ⟨.type "tuple",_,.seq its _,_⟩=>bif its.toList.all gF then some (its.toList.map bareV) else none
  | _=>none)
 | _=>none
theorem tup_of{K:Frag}{x:Str}{ds:List V}(e:tupFact K x=some ds):∃(a:Addr) (od:Option Addr) (its:List Value) (n:Nat) (osl:Array (Option Value)),nsIn K mainGlobals x=some (some (.ref a))/\K.lookup a=some ⟨.type "tuple",od,.seq its.toArray n,osl⟩/\aJ ds its:=by
 unfold tupFact at e
 split at e
 ·rename_i a ha
  split at e
  ·rename_i od its n osl hl
   cases hq:its.toList.all gF with
   | false=>rw[hq]at e;cases e
   | true =>
    rw[hq]at e;cases e;exact⟨a,od,its.toList,n,osl,ha,hl,gC hq⟩
  ·cases e
 ·cases e
noncomputable def noFact(K:Frag)(x:Str):Bool:=match nsIn K mainGlobals x with
 | some none=>true
 | _=>false
theorem no_of{K:Frag}{x:Str}(e:noFact K x=true):nsIn K mainGlobals x=some none:=by
 unfold noFact at e
 split at e
 ·rename_i h
  exact h
 ·cases e
theorem at_map{α β:Type}{f g:α->β}{l:List α}(e:l.map f=l.map g)(i:Nat){a:α}(h:l[i]? = some a):f a=g a:=by
 have q:=congrArg (λl:List β=>l[i]?) e;simp only[List.getElem?_map,h,Option.map_some,Option.some.injEq]at q;exact q
theorem at_all{α:Type}{f:α->Bool}{l:List α}(e:l.all f=true)(i:Nat){a:α}(h:l[i]? = some a):f a=true :=
 List.all_eq_true.mp e a (List.mem_of_getElem? h)
theorem at_two{α:Type}{l m:List α}(e:l=m)(i:Nat){a b:α}(h:l[i]? = some a)(h':m[i]? = some b):a=b:=by
 subst e;rw[h]at h';exact Option.some.inj h'
theorem vals_sz{ds:List V}{its:List Value}(u:aJ ds its)(h:ds.length<=100):its.toArray.size<=100:=by
 rw[List.size_toArray,<- u.length];exact h
theorem pair2{α β:Type _}{a a':α}{b b':β}(h:a=a')(g:b=b'):(a,b)=(a',b'):=by rw[h,g]
end Hd
namespace PySem
namespace F
end F
end PySem
namespace L2
open PySem PySem.Spec PyProof.Rows
inductive Dk (x:V) (vs:List V) (H:Hp) (Q:VK):Prop
 | mk:∀l b xs zs,(x = .ref l)->(vs = [.ref b])->(H l=some (.lst xs))->(H b=some (.lst zs))->(xs.length+zs.length<=sizeLine)->(∀H',DB H H' l xs (xs++zs)->Q .non H')->Dk x vs H Q
theorem mZ{X:Cx}:MtM X "list.extend" Dk:=λpins s σ H x xs v us Q I rx rs ⟨l,b,ys,zs,e1,e2,h,h2,hz,q⟩ =>
 pM pins s σ H x xs v us Q I rx rs ⟨l,b,ys,zs,e1,e2,h,h2,hz,q _ (.mk' h)⟩
structure CZ(K:W.Frag)(mg:Str->Option Value)(x:Str)(C:Addr):Prop where
 bound:mg x=some (.ref C)
 cls:E5 K C
 makes:W.makesIn K C=true
 kp:W.keepIn K (.ref C)=true
structure FE(K:W.Frag)(C:Addr)(m q:Str)(st:Stmt):Prop where
 ex:∃(f:Addr) (oc:Value) (od:Option Addr) (kV doc pm:Value) (an:Option Addr) (cdv ct:Value) (osl:Array (Option Value)),
  FC K C m f/\K.lookup f=some ⟨oc,od,.func (W.fnOf m q (aP st) (aH st) (ak st) .none kV doc pm an cdv ct),osl⟩/\W.codeIn K cdv q=true
structure Mt(P:Program)(w:World)(K:W.Frag)(mg:Str->Option Value)(base:Heap)(C:Addr)(m:Str)(ps:List Str)(k:Nat)(sp:Sp):Prop where
 ex:∃(f:Addr) (fd:FuncData),FC K C m f/\d7 K fd ps []/\AT P w K mg base (CXE P w) k f fd ps sp
theorem FE.mt{P:Program}{w:World}{K:W.Frag}{mg:Str->Option Value}{base:Heap}{C:Addr}{m q:Str}{st:Stmt}{N ps:List Str}{k:Nat}{sp:Sp}(D:FE K C m q st)(S:zf N ps (ak st))
  (hbind:∀(kV doc pm:Value) (an:Option Addr) (cdv ct:Value) (us:List Value),us.length=ps.length->bindArgs (W.fnOf m q (aP st) (aH st) (ak st) .none kV doc pm an cdv ct) ⟨us,[]⟩=pure (ps.zip us))
  (len:∀vs H Q E,sp vs H Q E->vs.length=ps.length)
  (hbody:∀(f:Addr) (cdv:Value) (A:Around) (outer:List Env) (s:Shared) (H:Hp) (vs:List V) (Q:VK) (E:XK),zy k (A.deeper (envOfC q (ak st) s.heap.objs.size f cdv))->sp vs H Q E ->
   ∃t,PSs (aX (CXE P w) P w K mg base N q (ak st) f cdv A outer s H E) (aH st) t/\t { nx:=λ_ H'=>Q .non H',rt:=Q } (dY N vs) H):Mt P w K mg base C m ps (k+1) sp:=by
 obtain⟨f,oc,od,kV,doc,pm,an,cdv,ct,osl,hm,lk,hcd⟩:=D.ex;exact⟨⟨f,_,hm,.all (hbind kV doc pm an cdv ct),lZ lk hcd S len λA outer s H vs Q E hr hsp=>hbody f cdv A outer s H vs Q E hr hsp⟩⟩
section
variable {X:Cx} {C:Addr} {m:Str} {ps:List Str} {k:Nat} {sp:Sp} {o e:Expr} {es:List Expr} {ta:TE} {t:TA} {apos pos:Pos}
theorem v9{st:Stmt}{t:TS}(h:PS X.nox st t):PS X st t:=λpins s σ H D I hw =>
 wpAny_mono (h pins s σ H D (I.wish _) hw) (λ_ _ q=>q.unwish) λ_ _ z=>False.elim z
end
end L2
namespace Hd
open PySem PySem.W PySem.Spec L2
noncomputable def ownFact(K:Frag)(x:Str):Bool:=match nsIn K mainGlobals x with
 | some (some (.ref C))=>plainGet K C Str.empty && (hasDictIn K C && (plainOver K C && (makesIn K C && keepIn K (.ref C))))
 | _=>false
theorem own_of{K:Frag}{mg:Str->Option Value}{h:Heap}{x:Str}(X:K.In h)(G:h.Ns mainGlobals mg)(e:ownFact K x=true)(sa:findIn K (.ref (cls K x)) "__setattr__" = some (some (.builtin "object.__setattr__"))):CZ K mg x (cls K x):=by
 unfold ownFact at e
 split at e
 ·rename_i C hC
  have hc:cls K x=C:=by unfold cls;rw[hC]
  rw[hc]at sa ⊢;simp only[Bool.and_eq_true]at e;obtain⟨e1,e2,e3,e4,e5⟩:=e;exact⟨mg_of X G hC,⟨e1,e2,e3,sa⟩,e4,e5⟩
 ·cases e
noncomputable def mtFact(K:Frag)(x m q:Str):Option (Arguments×List Stmt×Scope×Value):=match findIn K (.ref (cls K x)) m with
 | some (some (.ref f))=>(match K.lookup f with
  | some ⟨.type n,_,.func fd,_⟩=>(match fd.body,fd.closure with
   | .stmts b,[]=>bif (n == "function" && (fd.name == m && (fd.qualname == q && (Nat.beq fd.globals mainGlobals && (Nat.beq fd.builtins builtinsNs && codeIn K fd.code q))))) then some (fd.params,b,fd.scope,fd.defaults) else none
   | _,_=>none)
  | _=>none)
 | _=>none
theorem dfm_of{K:Frag}{x m q:Str}{st:Stmt}(e:mtFact K x m q=some (aP st,aH st,ak st,.none)):FE K (cls K x) m q st:=by
 unfold mtFact at e
 split at e
 ·rename_i f hf
  split at e
  ·rename_i n od fd osl hl
   split at e
   ·rename_i b' hb hc
    cases hq:(n == "function" && (fd.name == m && (fd.qualname == q && (Nat.beq fd.globals mainGlobals && (Nat.beq fd.builtins builtinsNs && codeIn K fd.code q))))) with
    | false=>rw[hq]at e;cases e
    | true =>
     rw[hq]at e;simp only[Bool.and_eq_true]at hq;obtain⟨h0,h1,h2,h3,h4,h5⟩:=hq
     replace h0:=eq_of_beq h0
     replace h1:=eq_of_beq h1
     replace h2:=eq_of_beq h2
     replace h3:=Nat.eq_of_beq_eq_true h3
     replace h4:=Nat.eq_of_beq_eq_true h4
     simp only[cond_true,Option.some.injEq,Prod.mk.injEq]at e;obtain⟨e1,e2,e3,e4⟩:=e;obtain⟨n',qn,ps,bd,s,gl,cl,df,kw,dc,pm,an,cd,ct,bl⟩:=fd;simp only at h1 h2 h3 h4 h5 e1 e2 e3 e4 hb hc;subst h0 h1 h2 h3 h4 e2 hb hc e4;refine⟨⟨f,.type "function",od,kw,dc,pm,an,cd,ct,osl,⟨hf,?_,?_⟩,?_,h5⟩⟩
     ·unfold isFn typeIn
      dsimp only;rw[hl];exact beq_self_eq_true _
     ·unfold keepIn
      dsimp only;rw[hl]
     ·rw[hl,<- e1,<- e3]
   ·cases e
  ·cases e
 ·cases e
end Hd
namespace L2
open PySem PySem.Spec PyProof.Rows
section
variable {X:Cx}
variable {C:Addr} {ps:List Str} {k:Nat} {sp:Sp} {pos:Pos} {e:Expr} {es:List Expr} {t:TA}
theorem xX{x:Str}{p:Pos}(O:CZ X.K X.mg x C)(F:Mt X.prog X.w X.K X.mg X.base C "__init__" ps k sp)(hr:zy (k+1) X.A)(hg:Gl X x)(ha:PA X (e::es) t)(hdb:(x == ("__debug__" : Str))=false:=by decide)(he:starEach (e::es) X.env=(false,eval e X.env)::starEach es X.env:=by rfl)(hpl:(backTo pos (starEach es X.env)).any (·.1)=false:=by rfl) :
  PE X (.Call (.Name x p) (e::es) [] pos) (vp C sp [] E0 t):=by
 obtain⟨f,fd,hm,hb,G⟩:=F.ex;exact tX ⟨O.makes,hm.at_,hm.fn,O.kp⟩ G hr hg O.bound hb .nil jN ha hdb he hpl
end
theorem mI(val:Nat->Int):∀k,argBest (λi j=>decide (val i<val j)) k<=k/\∀i,i<=k->val (argBest (λi j=>decide (val i<val j)) k)<=val i
 | 0=>⟨Nat.le_refl _,λi hi=>by rw[Nat.le_zero.mp hi];exact Int.le_refl _⟩
 | k+1=>by
  obtain⟨h1,h2⟩:=mI val k;unfold argBest
  split
  ·rename_i h
   have h:=of_decide_eq_true h;refine⟨Nat.le_refl _,λi hi=>?_⟩;rcases Nat.lt_or_ge k i with z|z
   ·rw[show i=k+1 by omega]
    exact Int.le_refl _
   ·have:=h2 i z
    omega
  ·rename_i h
   have h:¬val (k+1)<val (argBest (λi j=>decide (val i<val j)) k):=λz=>h (decide_eq_true z);refine⟨by omega,λi hi=>?_⟩;rcases Nat.lt_or_ge k i with z|z
   ·rw[show i=k+1 by omega]
    omega
   ·exact h2 i z
section
variable {X:Cx}
inductive EX (K:W.Frag) (xs:List V) (H:Hp) (Q:VK):Prop
 | mk:∀(l:Addr) (ns:List Int),(xs = [.ref l])->(SqL K H l (ns.map V.int))->(0<ns.length)->(∀m,m∈ns->(∀x∈ns,m<=x)->Q (.int m) H)->EX K xs H Q
theorem qc(hc:X.calm=true):cU X (.builtin "min") (EX X.K):=by
 intro pins s σ H xs us Q I r h;obtain⟨l,ns,rfl,hq,h0,q⟩:=h;obtain⟨u,rfl,ru⟩:=fw r;have ru:u=Value.ref l:=ru;subst ru;obtain⟨its,rv,pl,hz⟩:=I.list hq;have hls:l<s.heap.objs.size:=by obtain⟨_,e,_⟩:=pl.isList;exact Heap.lt_size e
 have len:its.length=ns.length:=by have:=rv.length;rw[List.length_map]at this;exact this.symm
 have hval:∀(i:Nat) (v:Value),its.toArray[i]? = some v->∃t,v = .int (ns.getD i 0) t:=λi v e=>by
  have e:its[i]? = some v:=by simpa using e
  have:i<its.length:=(List.getElem?_eq_some_iff.mp e).1;have h2:(ns.map V.int)[i]? = some (.int (ns.getD i 0)):=by
   rw[List.getElem?_map,List.getD_eq_getElem?_getD,List.getElem?_eq_getElem (by omega)];rfl
  obtain⟨u,hu,ru⟩:=rv.get h2;rw[e]at hu;cases hu;exact ru
 have up:∀o:Obj,s.heap.objs.size<(s.heap.push o).objs.size:=λo=>by rw[Heap.size_push];exact Nat.lt_succ_self _
 refine call_min_walk (wpAny_pyIter_list pl.isList ?_);have W:=Walks.list (prog:=X.prog) (w:=X.w) (A:=X.A.in1) (I.ok.hd hc) s.heap.objs.size l (Nat.ne_of_lt hls) its.toArray;refine⟨s.heap.objs.size,_,_,_,_,_,_,rfl,W,⟨⟨_,Heap.get?_push_size _ rfl,rfl,rfl⟩,pl.isList.at λo e=>Heap.get?_push_of_some _ e⟩,λb hb=>?_,by rw[List.size_toArray];omega,CmpOf.ints_lt (λi=>ns.getD i 0) hval,λv h' tk hP hk=>?_⟩
 ·rcases List.mem_cons.mp hb with z|z
  ·rw[z];exact up _
  ·rw[List.mem_singleton.mp z];exact Nat.lt_trans hls (up _)
 ·obtain⟨t,rfl⟩:=hval _ _ hP
  obtain⟨a1,a2⟩:=mI (λi=>ns.getD i 0) (its.toArray.size - 1);generalize argBest (λi j=>decide (ns.getD i 0<ns.getD j 0)) (its.toArray.size - 1)=b at a1 a2;have sz:its.toArray.size=ns.length:=by rw[List.size_toArray,len]
  rw[sz]at a1 a2;have hb:b<ns.length:=by omega
  have gd:∀i,(hi:i<ns.length)->ns.getD i 0=ns[i]:=λi hi=>by rw[List.getD_eq_getElem?_getD,List.getElem?_eq_getElem hi];rfl
  refine⟨.int (ns.getD b 0),H,I.kept λc o e=>hk c o (by rw[List.mem_singleton];exact Nat.ne_of_lt (Heap.lt_size e)) (Heap.get?_push_of_some _ e),⟨t,rfl⟩,q _ ?_ λx hx=>?_⟩
  ·rw[gd b hb]
   exact List.getElem_mem hb
  ·obtain⟨i,hi,rfl⟩:=List.mem_iff_getElem.mp hx
   have:=a2 i (by omega);rw[gd i hi]at this;exact this
end
section
variable {prog:Program} {w:World} {A:Around} {l q:Addr} {n:Nat} {P:Nat->Value->Prop} {G:Shared->Prop} {R:Result->Shared->Prop}
structure E4(prog:Program)(w:World)(A:Around)(l q:Addr)(n:Nat)(P:Nat->Value->Prop)(kf:Nat->Int)(G:Shared->Prop)(S I:Addr):Prop where
 lst:∀s,G s->∃vs:List Value,s.heap.IsList l vs.toArray/\vs.length=n/\∀i v,vs[i]? = some v->P i v
 nlI:l≠I
 nSI:S≠I
 stay:∀s h' tk,G s->(∀b o,b≠S->b≠I->s.heap.get? b=some o->h'.get? b=some o)->G { s with heap:=h',toks:=tk }
 turn:∀(i:Nat) (v:Value) (s:Shared) (oS oI:Obj),P i v->(∀z,oS.data≠.cell z)->(∀z,oI.data≠.cell z)->G s->s.heap.get? S=some oS->s.heap.get? I=some oI ->
  wpAny (model prog w) A.in1 (call (.ref q) [v]) (λu s'=>(∃t,u = .int (kf i) t)/\G s'/\s'.heap.get? S=some oS/\s'.heap.get? I=some oI) (λ_ _=>False) s
theorem oG{kf:Nat->Int}{i j:Nat}(h:∀j',j'<=j->kf i<=kf j'/\(j'<i->kf i<kf j'))(hij:i<=j) :
  (kf (j+1)<kf i->∀j',j'<=j+1->kf (j+1)<=kf j'/\(j'<j+1->kf (j+1)<kf j'))/\(¬kf (j+1)<kf i->∀j',j'<=j+1->kf i<=kf j'/\(j'<i->kf i<kf j')):=by
 constructor
 ·intro hb j' hj'
  by_cases e:j'=j+1
  ·subst e
   exact⟨Int.le_refl _,λz=>absurd z (Nat.lt_irrefl _)⟩
  ·have:=(h j' (by omega)).1
   exact⟨by omega,λ_=>by omega⟩
 ·intro hb j' hj'
  by_cases e:j'=j+1
  ·subst e
   exact⟨by omega,λ_=>by omega⟩
  ·exact h j' (by omega)
theorem uk{kf:Nat->Int}{S I:Addr}(hh:A.handled=none)(M:E4 prog w A l q n P kf G S I)
  (hR:∀i v s',P i v->(∀j,j<n->kf i<=kf j/\(j<i->kf i<kf j))->G s'->R (.ok (.ret v)) s') :
  ∀(r j i:Nat) (s:Shared) (vb:Value) (tb:Tok) (c:Nat),n - (j+1)=r->j+1<=n->G s->s.heap.get? S=some (seqObj "list" #[vb,.int (kf i) tb] c)->s.heap.IsListIter I l (j+1) ->
   P i vb->i<=j->(∀j',j'<=j->kf i<=kf j'/\(j'<i->kf i<kf j'))->codeAny (model prog w) A (.builtin "min.loop" ⟨[.ref I,.ref q,.ref S],[]⟩) R s:=by
 have hname:(toString "min"++toString ".loop" : String) = "min.loop":=by decide
 intro r
 induction r with
 | zero =>
  intro j i s vb tb c hr hj g nS hit hvb hij hbest;have hin:j+1=n:=by omega
  obtain⟨vs,hls,hn,hP⟩:=M.lst s g;have W:=Walks.list (prog:=prog) (w:=w) (A:=A.in1) hh I l M.nlI vs.toArray;have hsz:vs.toArray.size=vs.length:=List.size_toArray ..;refine codeAny_builtin PySem.F.entry_min_loop ?_;rw[Around.under_plainId PySem.F.plain_min_loop _];show wpAny _ A.in1 (seqItems? (.ref S) >>= _) _ _ _;refine wpAny_bind (wpAny_seqItems nS rfl ?_);show wpAny _ A.in1 (tryCatch (pyNext (.ref I)) _ >>= _) _ _ _;refine wpAny_bind (wpAny_tryCatch (W.done _ _ _ ⟨by rw[hsz,hn,<- hin];exact hit,hls⟩ λh' tk' hk'=>?_));have hS':=hk' S _ (by simpa using M.nSI) nS;have s1:=Heap.SameBut.update h' S (Obj.mapSeq λ_=>(#[]:Array Value));show wpAny _ A.in1 (updateSeq S (λ_=>#[]) >>= _) _ _ _;refine wpAny_bind ?_;refine wpAny_updateSeq hS' rfl (wpAny_bind (wpAny_letGo (wpAny_pure ?_)));exact hR i vb _ hvb (λj' hj'=>hbest j' (by omega)) (M.stay s _ _ g λb o n1 n2 e=>(s1.2 b n1).trans (hk' b o (by simpa using n2) e))
 | succ r ih =>
  intro j i s vb tb c hr hj g nS hit hvb hij hbest;have hlt:j+1<n:=by omega
  obtain⟨vs,hls,hn,hPv⟩:=M.lst s g;have W:=Walks.list (prog:=prog) (w:=w) (A:=A.in1) hh I l M.nlI vs.toArray;have hsz:vs.toArray.size=vs.length:=List.size_toArray ..;refine codeAny_builtin PySem.F.entry_min_loop ?_;rw[Around.under_plainId PySem.F.plain_min_loop _];show wpAny _ A.in1 (seqItems? (.ref S) >>= _) _ _ _;refine wpAny_bind (wpAny_seqItems nS rfl ?_);show wpAny _ A.in1 (tryCatch (pyNext (.ref I)) _ >>= _) _ _ _;refine wpAny_bind (wpAny_tryCatch (W.item (j+1) _ _ _ (by rw[hsz,hn];exact hlt) ⟨hit,hls⟩ λv h' tk' hP hst' hk'=>?_));have hv:P (j+1) v:=hPv (j+1) v (by simpa using hP);obtain⟨oI',hoI',hoc,hod⟩:=id hst'.1;have g1:G { s with heap:=h',toks:=tk' }:=M.stay s _ _ g λb o n1 n2 e=>hk' b o (by simpa using n2) e;have nS1:=hk' S _ (by simpa using M.nSI) nS;show wpAny _ A.in1 (tryCatch (holding [v] (call (.ref q) [v])) _ >>= _) _ _ _;refine wpAny_bind (wpAny_tryCatch (wpAny_holding (wpAny_mono (M.turn (j+1) v _ _ oI' hv (λz y=>by cases y) (λz y=>by rw[hod]at y;cases y) g1 nS1 hoI') (λx s2 he=>?_) λ_ _ hF=>hF.elim)));obtain⟨⟨t2,rfl⟩,g2,nS2,nI2⟩:=he;have hit2:s2.heap.IsListIter I l (j+1+1):=⟨oI',nI2,hoc,hod⟩;show wpAny _ A.in1 (tryCatch (holding [v,.int (kf (j+1)) t2] (richCompare .Lt (.int (kf (j+1)) t2) (.int (kf i) tb) >>= _)) _ >>= _) _ _ _;refine wpAny_bind (wpAny_tryCatch (wpAny_holding (wpAny_bind (CmpOf.ints_lt (prog:=prog) (w:=w) (A:=A.in1) (P:=λi v=>∃t,v = .int (kf i) t) kf (λi v h=>h) (j+1) i _ _ _ _ _ ⟨t2,rfl⟩ ⟨tb,rfl⟩ ?_))));refine wpAny_bind (wpAny_holding (wpAny_truthy_bool ?_));refine wpAny_bind (wpAny_letGo (wpAny_pure ?_))
  by_cases hb':kf (j+1)<kf i
  ·have s1:=Heap.SameBut.update s2.heap S (Obj.mapSeq λ_=>#[v,.int (kf (j+1)) t2])
   obtain⟨c2,hc2⟩:∃c2,(s2.heap.update S (Obj.mapSeq λ_=>#[v,.int (kf (j+1)) t2])).get? S=some (seqObj "list" #[v,.int (kf (j+1)) t2] c2):=⟨_,get?_update_seq nS2 λ_=>#[v,.int (kf (j+1)) t2]⟩;simp only[hb',decide_true,if_true];refine wpAny_bind ?_;refine wpAny_updateSeq nS2 rfl (wpAny_bind (wpAny_letGo ?_));rw[hname];exact wpAny_pure ⟨plainId_quiet PySem.F.plain_min_loop _,ih (j+1) (j+1) _ v t2 c2 (by omega) hlt (M.stay s2 _ _ g2 λb o n1 _ e=>(s1.2 b n1).trans e) hc2 ⟨oI',(s1.2 I M.nSI.symm).trans nI2,hoc,hod⟩ hv (Nat.le_refl _) ((oG hbest hij).1 hb')⟩
  ·simp only[hb',decide_false,Bool.false_eq_true,if_false]
   refine wpAny_bind (wpAny_letGo ?_);rw[hname];exact wpAny_pure ⟨plainId_quiet PySem.F.plain_min_loop _,ih (j+1) i _ vb tb c (by omega) hlt g2 nS2 hit2 hvb (by omega) ((oG hbest hij).2 hb')⟩
theorem wF{s:Shared}{Q:Value->Shared->Prop}{E:Value->Shared->Prop}{kf:Nat->Int}(hh:A.handled=none)(g:G s)(hne:0<n)
  (grow:∀h' tk,(∀b o,s.heap.get? b=some o->h'.get? b=some o)->G { s with heap:=h',toks:=tk })
  (M:E4 prog w A l q n P kf G (s.heap.objs.size+1) s.heap.objs.size)
  (hQ:∀i v s',P i v->(∀j,j<n->kf i<=kf j/\(j<i->kf i<kf j))->G s'->Q v s') :
  wpAny (model prog w) A (call (.builtin "min") [.ref l] [(Str.ofString "key",.ref q)]) Q E s:=by
 have hname:(toString "min"++toString ".loop" : String) = "min.loop":=by decide
 obtain⟨vs,hls,hn,hPv⟩:=M.lst s g;refine kmk_tree PySem.F.kind_min PySem.F.plain_min PySem.F.entry_min (kmk_min_key _ _) ?_;show wpAny _ A.in1 (Builtin.Builtins.bindParams "min" ["key","default"] 0 ⟨[],[(Str.ofString "key",.ref q)]⟩ >>= _) _ _ s;refine wpAny_bind (wpAny_of_eq (show Builtin.Builtins.bindParams "min" ["key","default"] 0 ⟨[],[(Str.ofString "key",.ref q)]⟩=pure [some (.ref q),none] from rfl) ?_);refine wpAny_bind (wpAny_pure ?_);refine wpAny_bind (wpAny_pyIter_list hls ?_);refine wpAny_bind (wpAny_newList ?_ (Nat.zero_le _));rw[hname];have hS:(s.heap.push { cls:=.type "list_iterator",data:=.fields #[.ref l,.int 0 0] }).objs.size=s.heap.objs.size+1:=size_push' ..;rw[hS];refine wpAny_pure ⟨plainId_quiet PySem.F.plain_min_loop _,?_⟩;have gI:((s.heap.push { cls:=.type "list_iterator",data:=.fields #[.ref l,.int 0 0] }).push (seqObj "list" #[] 0)).get? s.heap.objs.size=some { cls:=.type "list_iterator",data:=.fields #[.ref l,.int 0 0] } :=
  Heap.get?_push_of_some _ (Heap.get?_push_size _ rfl)
 have gS:((s.heap.push { cls:=.type "list_iterator",data:=.fields #[.ref l,.int 0 0] }).push (seqObj "list" #[] 0)).get? (s.heap.objs.size+1)=some (seqObj "list" #[] 0):=by rw[<- hS];exact Heap.get?_push_size _ rfl
 have W:=Walks.list (prog:=prog) (w:=w) (A:=A.in1) hh s.heap.objs.size l M.nlI vs.toArray;have hsz:vs.toArray.size=vs.length:=List.size_toArray ..;have up:∀b o,s.heap.get? b=some o->((s.heap.push { cls:=.type "list_iterator",data:=.fields #[.ref l,.int 0 0] }).push (seqObj "list" #[] 0)).get? b=some o:=λb x e=>Heap.get?_push_of_some _ (Heap.get?_push_of_some _ e);refine codeAny_builtin PySem.F.entry_min_loop ?_;rw[Around.under_plainId PySem.F.plain_min_loop _];show wpAny _ A.in1 (seqItems? (.ref _) >>= _) _ _ _;refine wpAny_bind (wpAny_seqItems gS rfl ?_);show wpAny _ A.in1 (tryCatch (pyNext (.ref s.heap.objs.size)) _ >>= _) _ _ _;refine wpAny_bind (wpAny_tryCatch (W.item 0 _ _ _ (by rw[hsz,hn];exact hne) ⟨⟨_,gI,rfl,rfl⟩,hls.at λo e=>up _ _ e⟩ λv h' tk' hP hst' hk'=>?_));have hv:P 0 v:=hPv 0 v (by simpa using hP);obtain⟨oI',hoI',hoc,hod⟩:=id hst'.1;have nm:∀b o,s.heap.get? b=some o->b∉[s.heap.objs.size]:=λb o e z=>absurd (List.mem_singleton.mp z) (Nat.ne_of_lt (Heap.lt_size e));have g1:G { s with heap:=h',toks:=tk' }:=grow h' tk' λb o e=>hk' b o (nm b o e) (up b o e);have nS1:=hk' _ _ (by simp) gS;show wpAny _ A.in1 (tryCatch (holding [v] (call (.ref q) [v])) _ >>= _) _ _ _;refine wpAny_bind (wpAny_tryCatch (wpAny_holding (wpAny_mono (M.turn 0 v _ _ oI' hv (λz y=>by cases y) (λz y=>by rw[hod]at y;cases y) g1 nS1 hoI') (λx s2 he=>?_) λ_ _ hF=>hF.elim)));obtain⟨⟨t2,rfl⟩,g2,nS2,nI2⟩:=he;have s1:=Heap.SameBut.update s2.heap (s.heap.objs.size+1) (Obj.mapSeq λ_=>#[v,.int (kf 0) t2]);obtain⟨c2,hc2⟩:∃c2,(s2.heap.update (s.heap.objs.size+1) (Obj.mapSeq λ_=>#[v,.int (kf 0) t2])).get? (s.heap.objs.size+1)=some (seqObj "list" #[v,.int (kf 0) t2] c2):=⟨_,get?_update_seq nS2 λ_=>#[v,.int (kf 0) t2]⟩;show wpAny _ A.in1 (updateSeq (s.heap.objs.size+1) (λ_=>#[v,.int (kf 0) t2]) >>= _) _ _ _;refine wpAny_bind ?_;refine wpAny_updateSeq nS2 rfl ?_;rw[hname];exact wpAny_pure ⟨plainId_quiet PySem.F.plain_min_loop _,uk hh M (λi v s' a b c=>hQ i v s' a b c) _ 0 0 _ v t2 c2 rfl hne (M.stay s2 _ _ g2 λb o n1 _ e=>(s1.2 b n1).trans e) hc2 ⟨oI',(s1.2 _ M.nSI.symm).trans nI2,hoc,hod⟩ hv (Nat.le_refl _) λj' hj'=>by
  have e:j'=0:=by omega
  subst e;exact⟨Int.le_refl _,λh=>absurd h (Nat.lt_irrefl _)⟩⟩
end
section
variable {X:Cx} {x:Str} {ps:List Str} {k:Nat} {sp:Sp} {p pos:Pos} {e:Expr} {es:List Expr} {t:TA} {cs:List (Addr×Nat)}
open Classical in
theorem qC{A:Around}{E:Value->Shared->Prop}{pins:List (Addr×Obj)}{σ:St}{H:Hp}{s:Shared}{Q:VK}{us:List Value}{vs:List V}{f:Addr}{fd:FuncData}(F:AT X.prog X.w X.K X.mg X.base CX0 k f fd ps sp)(hr:zy k A)(e0:BK X.prog X.w X.K X.mg X.base A X.stack s H)(hb:d7 X.K fd ps [])(hfn:∀x,X.fn x=true)
  (hcs:∀p∈cs,∃y,X.env.cells.lookup y=some p.1/\X.N[p.2]? = some y/\X.env.kindOf y=some .cell/\Vis X.env.scope y) (I:zg X pins σ H s) (r:aJ vs us)
  (h:∀H2,Same H H2->(∀p∈cs,∀v,σ[p.2]? = some (some v)->dA H2 p.1 v) ->
   sp vs H2 (λr H3=>∀H4,(∀b o,H3 b=some o->(∀z,o=KnO z->∀u,z.data≠.cell u)->H4 b=some o)->(∀b o,H b=some o->H3 b=some o->H4 b=some o)->Q r H4) E0) :
  wpAny (model X.prog X.w) A (call (.ref f) us) (EP X pins σ Q) E s:=by
 let isC:Addr->Prop:=λb=>∃y,X.env.cells.lookup y=some b
 let H2:Hp:=λb=>if isC b then (s.heap.get? b).map KnO else H b
 have in2:∀b,isC b->H2 b=(s.heap.get? b).map KnO:=λb z=>if_pos z;have out2:∀b,¬isC b->H2 b=H b:=λb z=>if_neg z;have cN:∀b,isC b->H b=none:=λb ⟨y,e⟩=>I.freeC y b e;have cG:∀b,isC b->∃o z,s.heap.get? b=some o/\o.data = .cell z:=λb ⟨y,e⟩=>by
  obtain⟨z,o,e1,e2⟩:=I.cell y b e;exact⟨o,z,e1,e2⟩
 have cK:∀b o,isC b->s.heap.get? b=some o->H2 b=some (KnO o):=λb o z e=>by rw[in2 b z,e];rfl
 have cA:∀b,isC b->X.s₀.heap.objs.size<=b:=λb ⟨y,e⟩=>I.ok.cab y b (hfn y) e;have same:Same H H2:=λb o e=>by
  rw[out2 b λz=>by rw[cN b z]at e;cases e];exact e
 have frn:∀b∈frs X.stack,¬isC b:=λb hb ⟨y,e⟩=>by
  rcases List.mem_cons.mp (I.stkSub b hb) with z|z
  ·exact I.cne y b e z
  ·obtain⟨_,o,ho,_⟩:=I.ok.funs.mem z
   exact absurd (Nat.lt_of_lt_of_le (Heap.lt_size ho) (cA b ⟨y,e⟩)) (Nat.lt_irrefl _)
 have hok2:HOk X.prog X.w H2 s.heap:=λb u e=>by
  by_cases z:isC b
  ·obtain⟨o,z',e1,_⟩:=cG b z
   rw[cK b o z e1]at e;cases e;exact lQ e1
  ·rw[out2 b z]at e
   exact(I.hok b u e).stay (λ_ _ _ q=>q) (λd q=>same d _ q) λd xs q=>same d _ q
 have e2:BK X.prog X.w X.K X.mg X.base A X.stack s H2:=by
  refine⟨e0.frames,e0.mod,λb o e=>⟨(e0.bs b o e).1,?_⟩,e0.bsz,e0.funs,λb hb=>?_,hok2,e0.bare⟩
  ·rw[out2 b λz=>absurd (Nat.lt_of_lt_of_le (Heap.lt_size e) (Nat.le_trans I.ok.bsz (cA b z))) (Nat.lt_irrefl _)]
   exact(e0.bs b o e).2
  ·rw[out2 b (frn b hb)]
   exact e0.frf b hb
 have cells:∀p∈cs,∀v,σ[p.2]? = some (some v)->dA H2 p.1 v:=λp hp v hv=>by
  obtain⟨y,h1,h2,h3,h4⟩:=hcs p hp;obtain⟨m,hn,hl⟩:=I.loc;obtain⟨u,ru,l⟩:=hl p.2 y v h2 hv h4;rcases l with⟨kk,_⟩|⟨_,c,hc,o,ho,hd⟩
  ·rw[h3]at kk;cases kk
  ·rw[h1]at hc
   cases hc;exact⟨o,u,cK _ o ⟨y,h1⟩ ho,hd,ru⟩
 have hq:=h H2 same cells;have hl:(us++[]).length=ps.length:=by rw[List.append_nil,<- r.length];exact F.len _ _ _ _ hq
 have hbb:=hb s us I.kIn hl;rw[List.append_nil]at hbb;refine wpAny_call (codeAny_mono (F.run A X.stack s H2 ⟨us,[]⟩ us vs _ E0 hr e2 hbb r hq) λr s' hq=>?_);cases r with
 | error e=>exact False.elim hq
 | ok fl =>
  cases fl with
  | next=>exact False.elim hq
  | brk=>exact False.elim hq
  | cont=>exact False.elim hq
  | ret u =>
   obtain⟨v,H3,os,bare,un,hok,rv,q⟩:=hq
   let H4:Hp:=λb=>if isC b then none else H3 b
   have in4:∀b,isC b->H4 b=none:=λb z=>if_pos z;have out4:∀b,¬isC b->H4 b=H3 b:=λb z=>if_neg z;have c3:∀b,isC b->∃o,H3 b=some (KnO o)/\s.heap.get? b=some o/\s'.heap.get? b=some o:=λb z=>by
    obtain⟨o,z',e1,_⟩:=cG b z;have e3:=un.frzs b o _ (cK b o z e1);exact⟨o,e3,e1,gK hok e3⟩
   refine I.after ⟨v,H4,os,bare,⟨λb o e n hb hx=>?_,λb o e n hb hx=>?_,λb o e n hx=>?_,λb o e hx=>un.there b o e hx,λb xs e=>?_,λb o u e=>?_,λb ps e=>?_⟩,λb u e=>?_,rv,q H4 (λb o e n=>?_) λb o e e3=>?_⟩
   ·by_cases z:isC b
    ·obtain⟨o',_,e1,e2⟩:=c3 b z
     rw[e]at e1;cases e1;exact e2
    ·exact un.keep b o e ((out2 b z).trans n) hb hx
   ·exact un.slot b o e ((out2 b (frn b hb)).trans n) hb hx
   ·by_cases z:isC b
    ·exact in4 b z
    ·rw[out4 b z]
     exact un.free b o e ((out2 b z).trans n) hx
   ·have z:¬isC b:=λz=>by rw[cN b z]at e;cases e
    rw[out4 b z];exact un.tups b xs ((out2 b z).trans e)
   ·have z:¬isC b:=λz=>by rw[cN b z]at e;cases e
    rw[out4 b z];exact un.frzs b o u ((out2 b z).trans e)
   ·have z:¬isC b:=λz=>by rw[cN b z]at e;cases e
    rw[out4 b z];exact un.tbls b ps ((out2 b z).trans e)
   ·have z:¬isC b:=λz=>by rw[in4 b z]at e;cases e
    rw[out4 b z]at e;refine(hok b u e).stay (λ_ _ _ q=>q) (λd q=>?_) λd xs q=>?_
    ·rw[out4 d λz=>by obtain⟨o,e3,_⟩:=c3 d z;rw[e3]at q;cases q];exact q
    ·rw[out4 d λz=>by obtain⟨o,e3,_⟩:=c3 d z;rw[e3]at q;cases q];exact q
   ·rw[out4 b λz=>by
     obtain⟨o',e3,e1,_⟩:=c3 b z;obtain⟨o2,z',e4,d⟩:=cG b z;rw[e1]at e4;cases e4;rw[e3]at e;exact n o' (Option.some.inj e).symm _ d]
    exact e
   ·rw[out4 b λz=>by rw[cN b z]at e;cases e]
    exact e3
inductive C9 (X:Cx) (cs:List (Addr×Nat)) (σ:St) (k:Nat) (x y:V) (H:Hp) (Q:VK):Prop
 | mk (l q:Addr) (xs:List V) (kf:Nat->Int) (fd:FuncData) (ps:List Str) (sp:Sp) (ex:x = .ref l) (ey:y = .ref q) (hl:SqL X.K H l xs) (hne:0<xs.length) (F:AT X.prog X.w X.K X.mg X.base CX0 k q fd ps sp) (hb:d7 X.K fd ps [])
  (turn:∀(i:Nat) (v:V) (H1 H2:Hp),Same H H1->Same H1 H2->xs[i]? = some v->(∀p∈cs,∀v,σ[p.2]? = some (some v)->dA H2 p.1 v) ->
   sp [v] H2 (λr H3=>∀H4,(∀b o,H3 b=some o->(∀z,o=KnO z->∀u,z.data≠.cell u)->H4 b=some o)->(∀b o,H1 b=some o->H3 b=some o->H4 b=some o)->r = .int (kf i)/\Same H1 H4) E0)
  (fin:∀(i:Nat) (v:V) (H1:Hp),Same H H1->xs[i]? = some v->(∀j,j<xs.length->kf i<=kf j/\(j<i->kf i<kf j))->Q v H1):C9 X cs σ k x y H Q
noncomputable def xI(X:Cx)(cs:List (Addr×Nat))(k:Nat)(te td:TE):TE:=λσ H Q=>te σ H λx H1=>td σ H1 λy H2=>C9 X cs σ k x y H2 Q
theorem tW{p pos kp:Pos}{e d:Expr}{te td:TE}(hcalm:X.calm=true)(hr:zy (k+1) X.A)(hfn:∀x,X.fn x=true)(hcs:∀p∈cs,∃y,X.env.cells.lookup y=some p.1/\X.N[p.2]? = some y/\X.env.kindOf y=some .cell/\Vis X.env.scope y)(hg:Gl X "min")(hm:X.mg "min" = none)(he:PE X e te)(hd:PE X d td)
  (h1:backTo pos (starEach [e] X.env)=(false,eval e X.env)::backTo pos (starEach [] X.env):=by rfl) (h2:(backTo pos (starEach [e] X.env)).any (·.1)=false:=by rfl) (h3:starEach [e] X.env=(false,eval e X.env)::starEach [] X.env:=by rfl) :
  PE X (.Call (.Name "min" p) [e] [⟨some "key",d,kp⟩] pos) (xI X cs k te td):=by
 intro pins s σ H Q I h;refine wpAny_Call_Name_kw (dW I hg hm nU ?_);refine callWith_kw (thn ((ad he ag h3) pos pins s σ H (λvs H1=>match vs with | [x]=>td σ H1 (λy H2=>C9 X cs σ k x y H2 Q)|_=>False) I h) λus s1 ⟨vs,H1,I1,r1,q1⟩=>?_) h1 h2
 cases r1 with
 | nil=>exact q1.elim
 | cons rx rr =>
  cases rr with
  | cons _ _=>exact q1.elim
  | nil =>
   refine kws_cons (thn (hd pins s1 σ H1 _ I1 q1) λdv s2 ⟨y,H2,I2,ry,M⟩=>kws_nil ?_);obtain⟨l,q,xs,kf,fd,ps,sp,ex,ey,hq,hne,F,hb,turn,fin⟩:=M;subst ex ey;have rx:_=Value.ref l:=rx;have ry:_=Value.ref q:=ry;subst rx ry;obtain⟨its,rv,pl,hz⟩:=I2.list hq;have hls:l<s2.heap.objs.size:=by obtain⟨_,e,_⟩:=pl.isList;exact Heap.lt_size e
   have nz:∀{a:Addr},s2.heap.objs.size<=a->a≠X.env.locals/\(∀x c,X.env.cells.lookup x=some c->c≠a)/\(∀p∈X.pn++pins,p.1≠a)/\(X.ex=X.ex)/\X.s₀.heap.objs.size<=a/\a∉X.fs:=λ{a} h=>⟨Nat.ne_of_gt (Nat.lt_of_lt_of_le I2.lt h),λx c e z=>by
     obtain⟨v,o,ho,_⟩:=I2.cell x c e;exact absurd (Heap.lt_size ho) (Nat.not_lt.mpr (by rw[z];exact h)),λp hp z=>absurd (Heap.lt_size (I2.pin p hp).1) (Nat.not_lt.mpr (by rw[z];exact h)),rfl,Nat.le_trans I2.sz h,I2.nofs h⟩
   have zI:=nz (Nat.le_refl s2.heap.objs.size);have zS:=nz (Nat.le_succ s2.heap.objs.size)
   let G:Shared->Prop:=λs=>∃H',Same H2 H'/\zg X pins σ H' s/\H' (s2.heap.objs.size+1)=none/\H' s2.heap.objs.size=none
   have nI:H2 s2.heap.objs.size=none:=I2.hok.fresh (Nat.le_refl _);have nS:H2 (s2.heap.objs.size+1)=none:=I2.hok.fresh (Nat.le_succ _);have g0:G s2:=⟨H2,Same.refl _,I2,nS,nI⟩;have cS:∀{s:Shared} {H':Hp} {h':Heap} {tk:Nat},zg X pins σ H' s->H' (s2.heap.objs.size+1)=none->H' s2.heap.objs.size=none->(∀b o,b≠s2.heap.objs.size+1->b≠s2.heap.objs.size->s.heap.get? b=some o->h'.get? b=some o)->zg X pins σ H' { s with heap:=h',toks:=tk }:=λ{s H' h' tk} I' a b hk=>by
    have nit:∀c u,H' c=some u->c∉[s2.heap.objs.size+1,s2.heap.objs.size]:=λc u e z=>by
     rcases List.mem_cons.mp z with rfl|z
     ·rw[a]at e;cases e
     ·rw[List.mem_singleton.mp z,b]at e;cases e
    have kk:∀c o,c∉[s2.heap.objs.size+1,s2.heap.objs.size]->s.heap.get? c=some o->h'.get? c=some o:=λc o z=>hk c o (λy=>z (by simp[y])) λy=>z (by simp[y]);refine I'.step (g':=s.gens) (d':=s.drawn) (ch:=[s2.heap.objs.size+1,s2.heap.objs.size]) (λc hc=>?_) (λc o _ _ z e _=>kk c o z e) (λc o _ _ z e _=>⟨o.slots,kk c o z e⟩) (λ_ _ _ _ n=>n)
     (λc o z e=>⟨o,kk c o z e⟩) (λ_ _ e=>e) (λ_ _ _ e=>e) (λc ps e=>⟨#[],by rw[e];simp⟩) (λm hm=>?_) (λc u e=>?_) I'.bare
    ·rcases List.mem_cons.mp hc with rfl|hc
     ·exact⟨.inr zS.2.2.2.2.1,zS.1,zS.2.1,zS.2.2.1⟩
     ·rw[List.mem_singleton.mp hc]
      exact⟨.inr zI.2.2.2.2.1,zI.1,zI.2.1,zI.2.2.1⟩
    ·obtain⟨o,es,ep,ho,r⟩:=hm
     exact⟨o,es,ep,hk _ o zS.1.symm zI.1.symm ho,r⟩
    ·refine(I'.hok c u e).stay (λd v hc q=>kk d v ?_ q) (λ_ q=>q) λ_ _ q=>q
     rcases hc with z|z
     ·rw[z];exact nit c u e
     ·exact nit d _ z
   refine wF (G:=G) (kf:=kf) (n:=xs.length) (P:=λi v=>∃x,xs[i]? = some x/\aN x v) (I.ok.hd hcalm) g0 hne (λh' tk hk=>⟨H2,Same.refl _,I2.kept hk,nS,nI⟩) ⟨λs ⟨H',S',I',_⟩=>?_,Nat.ne_of_lt hls,Nat.succ_ne_self _,λs h' tk ⟨H',S',I',a,b⟩ hk=>⟨H',S',cS I' a b hk,a,b⟩,λi v s oS oI ⟨x,hx,rx⟩ dS dI ⟨H',S',I',a,b⟩ eS eI=>?_⟩ λi v s' ⟨x,hx,rx⟩ hbst ⟨H',S',I',_⟩=>⟨x,H',I',rx,fin i x H' S' hx hbst⟩
   ·obtain⟨its',rv',pl',_⟩:=I'.list (S'.seq hq)
    refine⟨its',pl'.isList,rv'.length.symm,λi v hv=>?_⟩;obtain⟨x,hx,rx⟩:=j9 rv' (List.getElem?_eq_some_iff.mp hv).1;rw[(List.getElem?_eq_some_iff.mp hv).2]at rx;exact⟨x,hx,rx⟩
   ·have I3:zg X ((s2.heap.objs.size+1,oS)::(s2.heap.objs.size,oI)::pins) σ H' s:=I'.pins_of λp hp=>by
     rcases List.mem_cons.mp hp with rfl|hp
     ·exact⟨eS,a,zS.1,zS.2.2.2.2.2,dS⟩
     rcases List.mem_cons.mp hp with rfl|hp
     ·exact⟨eI,b,zI.1,zI.2.2.2.2.2,dI⟩
     ·exact I'.pin p (List.mem_append_right _ hp)
    refine wpAny_mono (qC (Q:=λr H4=>r = .int (kf i)/\Same H' H4) (E:=λ_ _=>False) F hr.in1 I'.env0.in1 hb hfn hcs I3 (.cons rx .nil) λH4 s4 c4=>turn i x H' H4 S' s4 hx c4) (λu s' he=>?_) λ_ _ z=>z;obtain⟨r,H4,I4,rr,rfl,s4⟩:=he;have p1:=I4.pin _ (List.mem_append_right _ List.mem_cons_self);have p2:=I4.pin _ (List.mem_append_right _ (List.mem_cons_of_mem _ List.mem_cons_self));exact⟨rr,⟨H4,S'.trans s4,I4.pins_of λp hp=>I4.pin p (List.mem_append_right _ (List.mem_cons_of_mem _ (List.mem_cons_of_mem _ hp))),p1.2.1,p2.2.1⟩,p1.1,p2.1⟩
end
end L2
namespace L2
open PySem PySem.Spec PyProof.Rows PySem.W
theorem pP{P:Program}{w:World}{K:W.Frag}{mg mb:Str->Option Value}{k:Nat}{fa a:Addr}{fd:FuncData}{x:Str}{sp:Sp}{s1:Shared}{vs:List Value}{ns:List Int}{tabs:List Addr}
  (KX:K.In s1.heap) (hKt:∀p∈tabs,K.lookup p=none) (hT:∀p∈tabs,s1.heap.get? p=some (tabObj #[])) (hTc:∀p∈tabs,isCodeTable s1.heap p)
  (hns:s1.heap.Ns mainGlobals mg) (hb:s1.heap.Ns builtinsNs mb) (hbb:∀x:Str,x≠"__name__"->mb x=bootBuiltins x) (hlim:s1.heap.NoLimit) (hg:s1.gens = #[])
  (ha:s1.heap.get? a=some { cls:=.type "list",data:=.seq vs.toArray }) (hi:IntsAre vs ns) (hl:ns.length<=sizeLine) (hr:zy k callerA)
  (F:∀base:Heap,K.In base->base.Ns mainGlobals mg->AT P w K mg base CX0 k fa fd [x] sp) (hbind:∀(s:Shared) (u:Value),BindsTo s fd ⟨[u],[]⟩ [(x,u)])
  (hsp:∀H:Hp,SqL K H a (ns.map V.int)->(∀p∈tabs,H p=some (.tbl #[]))->sp [.ref a] H (λv _=>v = .bl true) λ_ _ _=>False) :
  codeAny (model P w) callerA (.call (.ref fa) ⟨[.ref a],[]⟩) (λr s'=>r = .ok (.ret (.bool true))/\OldK s1.heap s'.heap/\s'.os=s1.os/\AllBare s'.gens) s1:=by
 have rv:=jB hi;have lenV:=hi.length;have atab:a∉tabs:=λz=>by rw[hT a z]at ha;cases ha
 have core:∀H:Hp,SqL K H a (ns.map V.int)->(∀p∈tabs,H p=some (.tbl #[]))->HOk P w H s1.heap->(∀b,H b≠none->b∈tabs\/(b=a/\K.lookup a=none/\∃o xs,H b=some (.frz o (.lst xs)))) ->
   codeAny (model P w) callerA (.call (.ref fa) ⟨[.ref a],[]⟩) (λr s'=>r = .ok (.ret (.bool true))/\OldK s1.heap s'.heap/\s'.os=s1.os/\AllBare s'.gens) s1:=by
  intro H hS hTb hok hA;have base_of:∀{b:Addr} {o:Obj},s1.heap.get? b=some o->H b=none->(kL s1.heap H).get? b=some o:=λe n=>rD e n;have noA:∀{b:Addr} {o:Obj} {es:Array DictEntry} {ep:Nat},s1.heap.get? b=some o->o.data = .dict es ep->H b=none:=λ{b o es ep} e d=>by
   cases q:H b with
   | none=>rfl
   | some u =>
    rcases hA b (by rw[q];simp) with z|⟨e',_⟩
    ·rw[hT b z]at e;cases e
     have d':Data.fields _=Data.dict es ep:=d;cases d'
    ·subst e'
     rw[ha]at e;cases e;have d':Data.seq vs.toArray _=Data.dict es ep:=d;cases d'
  have nsK:∀{b:Addr} {m:Str->Option Value},s1.heap.Ns b m->(kL s1.heap H).Ns b m:=λ{b m} ⟨o,es,ep,e,d,r⟩=>⟨o,es,ep,base_of e (noA e d),d,r⟩;have hKb:K.In (kL s1.heap H):=λb o e=>base_of (KX b o e) (by
   cases q:H b with
   | none=>rfl
   | some u =>
    rcases hA b (by rw[q];simp) with z|⟨e',hk,_⟩
    ·rw[hKt b z]at e;cases e
    ·subst e'
     rw[hk]at e;cases e)
  have hM:Mod K mg (kL s1.heap H):=⟨hKb,nsK hns,⟨mb,nsK hb,hbb⟩,let ⟨mc,h1,h2⟩:=hlim;⟨mc,nsK h1,h2⟩⟩;have e0:BK P w K mg (kL s1.heap H) callerA [] s1 H:=⟨rfl,hM,λb o e=>ud e,Nat.le_of_eq (pU _ _),trivial,λb hb=>absurd (show b∈([]:List Addr) from hb) (by simp),hok,.of_eq hg⟩;refine codeAny_mono ((F _ hKb (nsK hns)).run callerA [] s1 H ⟨[.ref a],[]⟩ [.ref a] [.ref a] _ _ hr e0 (hbind s1 (.ref a)) (.cons rfl .nil) (hsp H hS hTb)) λr s' h=>?_;cases r with
  | error e=>exact False.elim h
  | ok fl =>
   cases fl with
   | next=>exact False.elim h
   | brk=>exact False.elim h
   | cont=>exact False.elim h
   | ret u =>
    obtain⟨v,H',os,bare,un,hok',r',q⟩:=h;have q':v = .bl true:=q;subst q';obtain rfl:u=Value.bool true:=r';refine⟨rfl,⟨λb o e=>?_,λb o e=>un.there b o e (by simp)⟩,os,bare⟩;cases q:H b with
    | none=>exact .inl (un.keep b o e q (by intro z;exact absurd (show b∈([]:List Addr) from z) (by simp)) (by simp))
    | some u =>
     rcases hA b (by rw[q];simp) with z|⟨_,_,ob,xs,z⟩
     ·obtain⟨more,q2⟩:=un.tbls b #[] (hTb b z)
      have e2:s'.heap.get? b=some { cls:=.none,data:=.fields (#[]++more) }:=hok' b _ q2;rw[hT b z]at e;cases e;exact .inr (.inl ⟨hTc b z,rfl,#[],more,rfl,e2⟩)
     ·have z2:=un.frzs b ob _ z
      obtain⟨e1,_⟩:=hok b _ z;obtain⟨e2,_⟩:=hok' b _ z2;rw[e]at e1;cases e1;exact .inl e2
 let Ht:Hp:=λb=>if b∈tabs then some (.tbl #[]) else none
 have tb:∀p∈tabs,Ht p=some (.tbl #[]):=λp hp=>if_pos hp;have tn:∀b,b∉tabs->Ht b=none:=λb hb=>if_neg hb;have tok:HOk P w Ht s1.heap:=λb u e=>by
  by_cases z:b∈tabs
  ·rw[tb b z]at e;cases e
   exact hT b z
  ·rw[tn b z]at e;cases e
 cases hk:K.lookup a with
 | some o =>
  have e:=KX a o hk;rw[ha]at e;cases e;refine core Ht (.inr ⟨_,vs.toArray,_,hk,rfl,rfl,rfl,by rw[List.size_toArray,lenV];exact hl,by simpa using rv⟩) tb tok λb z=>?_
  by_cases hb:b∈tabs
  ·exact .inl hb
  ·exact absurd (tn b hb) z
 | none =>
  have nb:Ht a=none:=tn a atab;have sm:∀b o,Ht b=some o->upd Ht a (.frz { cls:=.type "list",data:=.seq vs.toArray } (.lst (ns.map V.int))) b=some o:=λb o e=>by
   rw[aF (λz=>by rw[z,nb]at e;cases e)];exact e
  refine core (upd Ht a (.frz { cls:=.type "list",data:=.seq vs.toArray } (.lst (ns.map V.int)))) (.inl (.inr ⟨{ cls:=.type "list",data:=.seq vs.toArray },upd_same⟩)) (λp hp=>sm p _ (tb p hp)) (λb u z=>?_) λb z=>?_
  ·by_cases hb:b=a
   ·subst hb
    rw[upd_same]at z;cases z;exact⟨ha,by rw[List.length_map];exact hl,vs,_,rv,ha⟩
   ·rw[aF hb]at z
    exact(tok b u z).stay (λ_ _ _ q=>q) (λd q=>sm d _ q) λd xs q=>sm d _ q
  ·by_cases hb:b=a
   ·exact .inr ⟨hb,hk,_,_,by rw[hb];exact upd_same⟩
   ·rw[aF hb]at z
    by_cases ht:b∈tabs
    ·exact .inl ht
    ·exact absurd (tn b ht) z
noncomputable def mO(K:W.Frag)(tabs:List Addr):Sp:=λvs H Q _=>∃(a:Addr) (ns:List Int),vs = [.ref a]/\SqL K H a (ns.map V.int)/\ns.length<=63/\(∀p∈tabs,H p=some (.tbl #[]))/\∀H',Q (.bl true) H'
end L2
namespace Hd
open PySem PySem.W PySem.Spec L2
noncomputable def vC(o:Obj):Bool:=match o with
 | ⟨.none,_,.fields _,_⟩=>true
 | _=>false
noncomputable def strip(K:Frag):Frag:=K.filter λp=>!vC p.2
theorem lH:∀(l:List Obj) (n:Nat) (p:Nat×Obj),p∈pL n l->n<=p.1/\l[p.1 - n]? = some p.2/\ur p.2=true
 | [],_,_,e=>by cases e
 | x::r,n,p,e=>by
  have up:p∈pL (n+1) r->n<=p.1/\(x::r)[p.1 - n]? = some p.2/\ur p.2=true:=λe=>by
   obtain⟨h1,h2,h3⟩:=lH r (n+1) p e;refine⟨by omega,?_,h3⟩;have:p.1 - n=(p.1 - (n+1))+1:=by omega
   rw[this];exact h2
  unfold pL at e;cases hl:ur x with
  | false =>
   rw[hl]at e;exact up e
  | true =>
   rw[hl,cond_true]at e;rcases List.mem_cons.mp e with rfl|e
   ·exact⟨Nat.le_refl _,by simp,hl⟩
   ·exact up e
theorem rO(h:Heap):∀p∈frag h,h.get? p.1=some p.2:=λp hp=>by
 obtain⟨_,q,hl⟩:=lH _ _ _ hp;have q:h.objs[p.1]? = some p.2:=by simpa using q
 unfold Heap.get?;rw[q];obtain⟨a,o⟩:=p;obtain⟨c,d,dt,sl⟩:=o;cases dt <;> first|rfl|cases hl
theorem dH{K:Frag}{b:Addr}{o:Obj}(e:K.lookup b=some o):(b,o)∈K:=by
 induction K with
 | nil=>cases e
 | cons x r ih =>
  rw[List.lookup_cons]at e;cases hb:b == x.1 with
  | true =>
   rw[hb]at e;cases e;rw[beq_iff_eq.mp hb];exact List.mem_cons_self
  | false =>
   rw[hb]at e;exact List.mem_cons_of_mem _ (ih e)
theorem qv{K:Frag}{h:Heap}(k:∀p∈K,h.get? p.1=some p.2):(strip K).In h:=λb o e=>k (b,o) (List.mem_filter.mp (dH e)).1
theorem pC{K:Frag}{b:Addr}{o:Obj}(e:(strip K).lookup b=some o):vC o=false:=by
 have:=(List.mem_filter.mp (dH e)).2;simpa using this
noncomputable def hookT{α:Type}(facts:Frag->α)(val:α):Hook :=
 ⟨α,λs=>facts (frag s.heap),λ_=>val,λ_ h=>∃K:Frag,(∀p∈K,h.get? p.1=some p.2)/\facts K=val,λ_ s e=>⟨_,rO s.heap,e⟩,λ_ _ _ ⟨K,hi,e⟩ k=>⟨K,λp hp=>k _ _ (hi p hp),e⟩⟩
noncomputable def lb(K:Frag)(x:Str):Option (Addr×Addr):=match nsIn (strip K) mainGlobals x with
 | some (some (.ref f))=>(match (strip K).lookup f with
  | some ⟨_,_,.func fd,_⟩=>(match fd.code with
   | .ref c=>(match (strip K).lookup c with
    | some ⟨.type "code",_,.fields vs,_⟩=>(match (vs[11]? : Option Value),vs.getD 18 .none,vs.getD 7 .none,vs.getD 9 .none,vs.getD 10 .none with
     | some (.ref p),.str _ _,.int _ _,.bool _,.int _ _=>(match K.lookup p with
      | some ⟨.none,none,.fields ps,sl⟩=>bif (ps.toList.isEmpty && (sl.toList.isEmpty && !(Nat.beq c p))) then some (c,p) else none
      | _=>none)
     | _,_,_,_,_=>none)
    | _=>none)
   | _=>none)
  | _=>none)
 | _=>none
noncomputable def tabFact(K:Frag)(x:Str):Bool:=(lb K x).isSome
noncomputable def tabP(K:Frag)(x:Str):Addr:=match lb K x with
 | some q=>q.2
 | none=>0
theorem iG{K:Frag}{x:Str}{c p:Addr}(e:lb K x=some (c,p)):∃f oc od fd sl,nsIn (strip K) mainGlobals x=some (some (.ref f))/\(strip K).lookup f=some ⟨oc,od,.func fd,sl⟩/\fd.code = .ref c/\jo (strip K) c p/\K.lookup p=some (tabObj #[]):=by
 unfold lb at e
 split at e
 ·rename_i f hf
  split at e
  ·rename_i oc od fd sl hl
   split at e
   ·rename_i c' hc
    split at e
    ·rename_i od2 vs sl2 hl2
     split at e
     ·rename_i p' st tt i1 t1 b1 i2 t2 h11 h18 h7 h9 h10
      split at e
      ·rename_i ps sl3 hl3
       cases hq:(ps.toList.isEmpty && (sl3.toList.isEmpty && !(Nat.beq c' p'))) with
       | false=>rw[hq]at e;cases e
       | true =>
        rw[hq]at e;simp only[cond_true,Option.some.injEq,Prod.mk.injEq]at e;obtain⟨rfl,rfl⟩:=e;simp only[Bool.and_eq_true,List.isEmpty_iff,Bool.not_eq_true']at hq;obtain⟨q1,q2,q3⟩:=hq;have q1:ps = #[]:=by simpa using q1
        have q2:sl3 = #[]:=by simpa using q2
        subst q1 q2;refine⟨f,oc,od,fd,sl,hf,hl,hc,⟨_,vs,st,tt,i1,t1,b1,i2,t2,hl2,rfl,rfl,h11,?_,h18,h7,h9,h10,?_⟩,hl3⟩
        ·rw[Array.getD_eq_getD_getElem?,h11];rfl
        ·intro z
         rw[z,Nat.beq_refl]at q3;cases q3
      ·cases e
     ·cases e
    ·cases e
   ·cases e
  ·cases e
 ·cases e
theorem k9{K:Frag}{x:Str}(t:tabFact K x=true):∃c,lb K x=some (c,tabP K x):=by
 unfold tabFact at t;obtain⟨⟨c,p⟩,e⟩:=Option.isSome_iff_exists.mp t;refine⟨c,?_⟩;unfold tabP;rw[e]
theorem dft_of{K:Frag}{mg:Str->Option Value}{h:Heap}{x:Str}{st:Stmt}(X:(strip K).In h)(G:h.Ns mainGlobals mg)(e:fnFact (strip K) x=some (aP st,aH st,ak st,.none))(t:tabFact K x=true):FD (strip K) mg x st (tabP K x):=by
 obtain⟨f,oc,od,kV,doc,pm,an,cdv,ct,osl,h1,h2,h3,h4⟩:=eN e;obtain⟨c,ht⟩:=k9 t;obtain⟨f',oc',od',fd',sl',g1,g2,g3,g4,_⟩:=iG ht;rw[h1]at g1;cases g1;rw[h2]at g2;cases g2;have g3:cdv = .ref c:=g3;subst g3;exact⟨⟨f,oc,od,kV,doc,pm,an,c,ct,osl,W.mg_of X G h1,h2,h3,h4,g4⟩⟩
noncomputable def apart:List Addr->Bool
 | []=>true
 | a::r=>(r.all λb=>!(Nat.beq a b)) && apart r
noncomputable def bltFact(K:Frag):Bool:=match nsIn K mainGlobals "__builtins__" with
 | some (some (.ref bm))=>(match K.lookup bm with
  | some ⟨.type "module",some d,.plain,_⟩=>!(Nat.beq bm builtinsNs) && (!(Nat.beq bm mainGlobals) && Nat.beq d builtinsNs)
  | _=>false)
 | _=>false
theorem blt_of{K:Frag}{mg:Str->Option Value}{h:Heap}(X:K.In h)(G:h.Ns mainGlobals mg)(t:bltFact K=true):vn K mg:=by
 unfold bltFact at t
 split at t
 ·rename_i bm hb
  split at t
  ·rename_i d sl hl
   simp only[Bool.and_eq_true,Bool.not_eq_true']at t;obtain⟨t1,t2,t3⟩:=t;have t3:=Nat.eq_of_beq_eq_true t3;subst t3;refine⟨bm,_,W.mg_of X G hb,λz=>?_,λz=>?_,hl,rfl,rfl,rfl⟩
   ·rw[z,Nat.beq_refl]at t1;cases t1
   ·rw[z,Nat.beq_refl]at t2;cases t2
  ·cases t
 ·cases t
theorem law_walkT{l:OpenLaw}{k:Nat}{q:Program}{loose:List Str}{XP:(Str->Option Value)->Heap->Prop}{d:DefRec}{α:Type}{facts:Frag->α}{val:α}{names:List Str}(hk:zy k callerA)(hn:l.most=some 63)(hdf:d.params.defaults = [])
  (hnm:∀K,facts K=val->names.all (tabFact K)=true)
  (F:∀(K:Frag),facts K=val->∀(w:World) (mg:Str->Option Value) (fa:Addr) (h:Heap),(strip K).In h->h.Ns mainGlobals mg->mg d.name=some (.ref fa) ->
   ∃fd:FuncData,(∀(s:Shared) (u:Value),BindsTo s fd ⟨[u],[]⟩ [("script",u)])/\∀base:Heap,(strip K).In base->base.Ns mainGlobals mg->AT l.prog w (strip K) mg base CX0 k fa fd ["script"] (mO (strip K) (names.map (tabP K)))) :
  WalkO q loose XP (Hook.says (hookT facts val)) l.row.toRowW d [] (λf vs=>PySem.call f vs):=by
 refine Att.attach_call hn hdf λw s₀ s1 mg mb fa o pm cd doc a vs ns G Y ho hd hcd hmg hobj hints hlen hg=>?_;obtain⟨K,hin,hf⟩:=Y;have KX:=qv hin;obtain⟨fd,hb,hF⟩:=F K hf w mg fa _ KX G.T.g hmg;have ht:∀p∈names.map (tabP K),∃c,jo (strip K) c p/\K.lookup p=some (tabObj #[]):=λp hp=>by
  obtain⟨x,hx,rfl⟩:=List.mem_map.mp hp;obtain⟨c,e⟩:=k9 (List.all_eq_true.mp (hnm K hf) x hx);obtain⟨_,_,_,_,_,_,_,_,g4,g5⟩:=iG e;exact⟨c,g4,g5⟩
 refine pP (tabs:=names.map (tabP K)) KX (λp hp=>?_) (λp hp=>?_) (λp hp=>?_) G.T.g G.T.b G.T.builtins G.T.nolimit hg hobj hints (Nat.le_trans hlen (by decide)) hk hF hb (λH hS hT=>⟨a,ns,rfl,hS,hlen,hT,λ_=>rfl⟩)
 ·cases e:(strip K).lookup p with
  | none=>rfl
  | some o =>
   have e1:=hin _ (List.mem_filter.mp (dH e)).1;obtain⟨c,_,e2⟩:=ht p hp;have e2:=hin _ (dH e2);have e1:s1.heap.get? p=some o:=e1;have e2:s1.heap.get? p=some (tabObj #[]):=e2;rw[e1]at e2;cases e2;cases pC e
 ·obtain⟨c,_,e2⟩:=ht p hp
  exact hin _ (dH e2)
 ·obtain⟨c,C,e2⟩:=ht p hp
  exact((C.hd KX).tab (ps:=#[]) (hin _ (dH e2))).isCodeTable
theorem sr{K:Frag}{mg:Str->Option Value}{h:Heap}{x:Str}{v:V}(X:K.In h)(G:h.Ns mainGlobals mg)(e:(nsIn K mainGlobals x).map (λo=>o.map bareV)=some (some v)):∃u,mg x=some u/\bareV u=v:=by
 cases hn:nsIn K mainGlobals x with
 | none =>
  rw[hn]at e;cases e
 | some o =>
  cases o with
  | none =>
   rw[hn]at e;cases e
  | some u =>
   rw[hn]at e;exact⟨u,mg_of X G hn,Option.some.inj (Option.some.inj e)⟩
theorem int_of{K:Frag}{mg:Str->Option Value}{h:Heap}{x:Str}{i:Int}(X:K.In h)(G:h.Ns mainGlobals mg)(e:(nsIn K mainGlobals x).map (λo=>o.map bareV)=some (some (.int i))):∃tk,mg x=some (.int i tk):=by
 obtain⟨u,h1,h2⟩:=sr X G e;cases u <;> first|(cases h2;exact⟨_,h1⟩)|cases h2
noncomputable def qF(C:Addr):Value->Bool
 | .ref a=>Nat.beq a C
 | _=>false
noncomputable def qo(n:String):Value->Bool
 | .type a=>a == n
 | _=>false
theorem qE(C:Addr)(v:Value):(Value.ref C == v)=qF C v:=by
 rw[Bool.eq_iff_iff,beq_iff_eq];cases v with
 | ref a=>exact⟨λe=>by cases e;exact Nat.beq_refl _,λe=>by rw[Nat.eq_of_beq_eq_true e]⟩
 | _=>exact⟨λe=>(nomatch e),λe=>(nomatch e)⟩
theorem sS(n:String)(v:Value):(Value.type n == v)=qo n v:=by
 rw[Bool.eq_iff_iff,beq_iff_eq];cases v with
 | type a=>exact⟨λe=>by cases e;exact beq_self_eq_true n,λe=>by rw[beq_iff_eq.mp e]⟩
 | _=>exact⟨λe=>(nomatch e),λe=>(nomatch e)⟩
theorem uG(l:List Value)(C:Addr):l.contains (.ref C)=l.any (qF C):=by
 rw[List.contains_eq_any_beq];exact congrArg l.any (funext λv=>qE C v)
theorem rE(l:List Value)(n:String):l.contains (.type n)=l.any (qo n):=by
 rw[List.contains_eq_any_beq];exact congrArg l.any (funext λv=>sS n v)
noncomputable def qU(K:Frag)(C:Addr):Option (List Value):=match K.lookup C with
 | some ⟨_,_,.cls cd,_⟩=>(match cd.mro with
  | []=>none
  | v::r=>some (v::r))
 | _=>none
theorem kF{K:Frag}{C:Addr}{l:List Value}(e:qU K C=some l)(b:Value):mroIn K C b=some (l.contains b):=by
 unfold qU at e
 split at e
 ·rename_i a d cd sl h
  split at e
  ·cases e
  ·rename_i v r hm
   cases e;unfold mroIn clsIn;rw[h];show(if cd.mro.isEmpty then none else some (cd.mro.contains b))=_
   rw[hm];rfl
 ·cases e
noncomputable def u8(K:Frag)(C:Addr):Bool:=match K.lookup C with
 | some ⟨.type n,_,.cls _,_⟩=>n == "type"
 | _=>false
theorem u7{K:Frag}{C:Addr}(e:u8 K C=true):((clsIn K C).isSome && typeIn K (.ref C) == some (.type "type"))=true:=by
 unfold u8 at e
 split at e
 ·rename_i n d cd sl h
  have e:=beq_iff_eq.mp e;subst e;unfold clsIn typeIn;rw[h,Bool.and_eq_true];exact⟨rfl,by rw[beq_iff_eq];dsimp only;rw[h];rfl⟩
 ·cases e
noncomputable def sZ(K:Frag)(C D:Addr):Option Bool:=bif u8 K D then (match qU K C with
  | some l=>some (l.any (qF D))
  | none=>none) else none
theorem lf{K:Frag}{C D:Addr}{b:Bool}(e:sZ K C D=some b):kitCls K (.ref C) (.ref D)=some b:=by
 unfold sZ at e;cases hc:u8 K D with
 | false=>rw[hc]at e;cases e
 | true =>
  rw[hc,cond_true]at e
  split at e
  ·rename_i l hl
   cases e;unfold kitCls;dsimp only;rw[if_pos (u7 hc),<- uG];exact kF hl _
  ·cases e
noncomputable def kitR(K:Frag)(C D:Addr):Option Bool:=bif Nat.beq C D then some true else sZ K C D
theorem kitR_one{K:Frag}{C D:Addr}{b:Bool}(e:kitR K C D=some b):kitOne K (.ref C) (.ref D)=some b:=by
 unfold kitR at e;unfold kitOne;cases h:Nat.beq C D with
 | true =>
  rw[h,cond_true]at e;have h:=Nat.eq_of_beq_eq_true h;subst h;rw[if_pos (beq_self_eq_true _)];exact e
 | false =>
  rw[h,cond_false]at e;have h:=Nat.ne_of_beq_eq_false h;rw[if_neg (by rw[beq_iff_eq];exact λx=>h (by cases x;rfl))];exact lf e
noncomputable def kitRs(K:Frag)(C:Addr):List Addr->Option Bool
 | []=>some false
 | D::r=>match kitR K C D with
  | some true=>some true
  | some false=>kitRs K C r
  | none=>none
theorem kitRs_any{K:Frag}{C:Addr}{b:Bool}:∀{l:List Addr},kitRs K C l=some b->kitAny K (.ref C) (l.map Value.ref)=some b
 | [],e=>e
 | D::r,e=>by
  unfold kitRs at e;rw[List.map_cons];unfold kitAny
  split at e
  ·rename_i h
   rw[kitR_one h];exact e
  ·rename_i h
   rw[kitR_one h];exact kitRs_any e
  ·cases e
theorem um:kitMeta "ValueError" = true:=by decide +kernel
noncomputable def kitT(K:Frag)(C:Addr):Option Bool:=match qU K C with
 | some l=>some (l.any (qo "ValueError"))
 | none=>none
theorem kitT_one{K:Frag}{C:Addr}{b:Bool}(e:kitT K C=some b):kitOne K (.ref C) (.type "ValueError")=some b:=by
 unfold kitT at e;unfold kitOne;rw[if_neg (by rw[beq_iff_eq];exact λx=>by cases x)]
 split at e
 ·rename_i l hl
  cases e;unfold kitCls;dsimp only;rw[if_pos um,<- rE];exact kF hl _
 ·cases e
noncomputable def exmR(K:Frag)(C D:Addr):Option Bool:=match qU K D with
 | some l=>bif l.any (qo "BaseException") then sZ K C D else none
 | none=>none
theorem exmR_one{K:Frag}{C D:Addr}{b:Bool}(e:exmR K C D=some b):exmOne K (.ref C) (.ref D)=some b:=by
 unfold exmR at e
 split at e
 ·rename_i l hl
  cases h:l.any (qo "BaseException") with
  | false=>rw[h]at e;cases e
  | true =>
   rw[h,cond_true]at e;unfold exmOne;have:subIn K (.ref D) (.type "BaseException")=some true:=by
    rw[<- h,<- rE];exact kF hl _
   rw[this,if_pos (by decide)];exact lf e
 ·cases e
noncomputable def mJ:List Value->Bool
 | [.type a,.type b,.type c,.type d]=>a == "ValueError" && (b == "Exception" && (c == "BaseException" && d == "object"))
 | _=>false
theorem pj:∀{l:List Value},mJ l=true->l = [.type "ValueError",.type "Exception",.type "BaseException",.type "object"]:=λ{l} e=>by
 unfold mJ at e
 split at e
 ·simp only[Bool.and_eq_true,beq_iff_eq]at e
  obtain⟨rfl,rfl,rfl,rfl⟩:=e;rfl
 ·cases e
noncomputable def kY(K:Frag)(x:Str):List Value->Bool
 | []=>false
 | v::r=>match v with
  | .ref a=>(match K.lookup a with
   | some ⟨_,_,.cls cd,_⟩=>(match nsIn K cd.ns x with
    | some none=>kY K x r
    | _=>false)
   | _=>false)
  | _=>mJ (v::r)
theorem j7{K:Frag}{x:Str}{z:Option Value}(hz:alongIn K x [.type "ValueError",.type "Exception",.type "BaseException",.type "object"]=some z):∀{l:List Value},kY K x l=true->alongIn K x l=some z
 | [],e=>by cases e
 | v::r,e=>by
  unfold kY at e
  split at e
  ·rename_i a
   split at e
   ·rename_i a' d cd sl h
    split at e
    ·rename_i hn
     unfold alongIn ownIn;dsimp only;rw[h];dsimp only;rw[hn];exact j7 hz e
    ·cases e
   ·cases e
  ·rw[pj e]
   exact hz
noncomputable def findR(K:Frag)(C:Addr)(x:Str):Bool:=match K.lookup C with
 | some ⟨_,_,.cls cd,_⟩=>kY K x cd.mro
 | _=>false
theorem findR_eq{K:Frag}{C:Addr}{x:Str}{z:Option Value}(hz:alongIn K x [.type "ValueError",.type "Exception",.type "BaseException",.type "object"]=some z)(e:findR K C x=true):findIn K (.ref C) x=some z:=by
 unfold findR at e
 split at e
 ·rename_i a d cd sl h
  unfold findIn;dsimp only;rw[h];exact j7 hz e
 ·cases e
theorem fE_ga(K:Frag):alongIn K "__getattribute__" [.type "ValueError",.type "Exception",.type "BaseException",.type "object"]=some (some (.builtin "BaseException.__getattribute__")):=by kernel_rfl
theorem fE_gn(K:Frag):alongIn K "__getattr__" [.type "ValueError",.type "Exception",.type "BaseException",.type "object"]=some none:=by kernel_rfl
theorem fE_cl(K:Frag):alongIn K "__class__" [.type "ValueError",.type "Exception",.type "BaseException",.type "object"]=some (some (.builtin "object.__class__")):=by kernel_rfl
end Hd
namespace L2
open PySem PySem.Spec PyProof.Rows
section
variable {X:Cx}
theorem mT{Cs:Addr->Prop}{n en:Str}{B:Addr}{np hpos pos:Pos}{body:List Stmt}{b0:Stmt}{suite:List Stmt}{tx:TX}{th:TS}{i:Nat}(stk:X.stack=X.env::X.outer)(hfr:X.env.frame=some X.env.locals)(hb:PXs X body tx)(O:Ac X.K X.mg n B)(hg:Gl X n)
  (hm:∀C,Cs C->W.exmOne X.K (.ref C) (.ref B)=some true) (hex:X.ex = []) (hN:X.N.Nodup) (hi:X.N[i]? = some en) (hk:X.env.kindOf en=some .local)
  (hh:∀e:Addr,PSs (X.inH e) (b0::suite) th) (hdb:(n == ("__debug__" : Str))=false:=by decide) :
  PS X (.Try body [.ExceptHandler (some (.Name n np)) (some en) (b0::suite) hpos] [] [] pos) (λD σ H=>tx (λc σ' H'=>∃C,c = .ref C/\Cs C/\∀e:Addr,H' e=none->th (D.drop i) (σ'.set i (some (.ref e))) (upd H' e (nN C e))) D σ H):=by
 intro pins s σ H D I h;refine wpAny_Try_except (wpAny_mono (hb pins s σ H D _ I h) (λf s1 q=>?_) λev s1 q=>?_)
 ·cases f with
  | next=>exact wpAny_execs_nil q
  | ret v=>exact q
  | brk=>exact q
  | cont=>exact q
 ·obtain⟨s₁,σ1,H1,E1,I1,hx,hE⟩:=q
  obtain⟨ea,t,cls,H',B',rfl,os,bare,un,hok,fl,big,q⟩:=hx;obtain⟨C,rfl,hC,rd⟩:=hE _ _ _ q;exact p8 (E1:=λc o H''=>c = .ref C/\H''=H') I1 stk hfr O hg (hm C hC) hex hN hi hk ⟨ea,t,_,H',B',rfl,os,bare,un,hok,fl,big,rfl,rfl⟩ (λc o H'' z=>by obtain⟨rfl,rfl⟩:=z;exact⟨rfl,rd⟩) hh hdb
inductive EF (K:W.Frag) (Cs:Addr->Prop) (xs:List V) (H:Hp) (Q:VK):Prop
 | mk:∀C,(Cs C)->(Fl K C xs H Q)->EF K Cs xs H Q
theorem mE{Cs:Addr->Prop}(h:∀C,Cs C->(∃n,Ac X.K X.mg n C)/\ES X.K C):cU X (.builtin "isinstance") (EF X.K Cs):=by
 intro pins s σ H xs us Q I rs q;obtain⟨C,hC,q⟩:=q;obtain⟨⟨n,O⟩,f⟩:=h C hC;exact nR O f pins s σ H xs us Q I rs q
end
end L2
local macro_rules | `(tactic| omega)=>`(tactic| lia)
local macro_rules | `(tactic| walk_at "bt")=>`(tactic| first
 | assumption
 | (apply L2.bits_mul <;> walk_at "bt")
 | (apply L2.bits_add2 <;> walk_at "bt")
 | (apply L2.bits_sub2 <;> walk_at "bt")
 | (apply L2.bits_neg;walk_at "bt")
 | (apply L2.bits_abs;walk_at "bt")
 | exact L2.bits_lit)
local macro_rules | `(tactic| walk_at "bl")=>`(tactic| (apply L2.bits_of_le;(walk_at "bt");decide))
local macro_rules | `(tactic| walk_at "cm")=>`(tactic| first
 | exact L2.CM.l ⟨by decide,by decide⟩
 | exact L2.CM.r ⟨by decide,by decide⟩
 | (apply L2.CM.of;(walk_at "bt");(walk_at "bt");decide))
local macro_rules | `(tactic| walk_at "at")=>`(tactic| first
 | assumption
 | exact L2.upd_same
 | (refine L2.Same.at (by assumption) ?_;walk_at "at")
 | (refine L2.SameT.at (by assumption) ?_;walk_at "at"))
local macro_rules | `(tactic| walk_at "sm")=>`(tactic| first
 | assumption
 | exact L2.Same.rfl'
 | (refine L2.Same.trans ?_ (by assumption);walk_at "sm"))
local macro_rules | `(tactic| walk_at "kn")=>`(tactic| first
 | assumption
 | exact⟨_,.int _⟩|exact⟨_,.bl _⟩|exact⟨_,.str _⟩|exact⟨_,.non⟩
 | exact⟨_,.tup (by walk_at "at")⟩|exact⟨_,.lst (by walk_at "at")⟩|exact⟨_,.dict (by walk_at "at")⟩)
local macro_rules | `(tactic| walk_at "nice")=>`(tactic| first
 | exact L2.nice_int|exact L2.nice_bool|exact L2.nice_tuple|exact L2.nice_list|exact L2.nice_str)
local macro_rules | `(tactic| walk_at "th")=>`(tactic| first
 | assumption
 | exact Sp1.th_flat .non (fun p e=>nomatch e)|exact Sp1.th_flat (.int _) (fun p e=>nomatch e)|exact Sp1.th_flat (.bl _) (fun p e=>nomatch e)|exact Sp1.th_flat (.str _) (fun p e=>nomatch e)
 | exact Sp1.th_lst (by walk_at "at")
 | (refine' Sp1.th_tup ?hat ?hkn;(case hat=>walk_at "at");(case hkn=>(simp only[List.mem_cons,List.not_mem_nil,or_false,forall_eq_or_imp,forall_eq,false_imp_iff,implies_true];(try (first|(walk_at "kn")|(repeat' apply And.intro) <;> walk_at "kn")))))
 )
local macro_rules | `(tactic| walk_at "r1")=>`(tactic| first
 | (refine⟨_,rfl,?_⟩)
 | (refine⟨_,_,rfl,rfl,?_⟩)
 | (refine⟨_,_,rfl,rfl,by walk_at "cm",?_⟩)
 | (refine⟨_,_,rfl,rfl,(by show(0:Int)<_;decide),?_⟩)
 | (refine⟨_,_,rfl,rfl,⟨by decide,by decide⟩,?_⟩)
 | (refine⟨_,_,rfl,rfl,⟨by decide,by decide,by decide⟩,?_⟩)
 | (refine' ⟨_,_,_,_,rfl,rfl,L2.SqT.of ?hat,?hix,?nxt⟩;(case hat=>walk_at "at");(case hix=>exact rfl))
 | (refine' ⟨_,_,_,_,rfl,rfl,L2.SqL.of ?hat,?hix,?nxt⟩;(case hat=>walk_at "at");(case hix=>exact rfl))
 | (refine⟨by walk_at "cm",?_⟩)
 | (refine⟨(by show(0:Int)<_;decide),?_⟩)
 | (refine⟨⟨by decide,by decide⟩,?_⟩)
 | (refine⟨⟨by decide,by decide,by decide⟩,?_⟩)
 | (refine⟨Sp1.sz (by simp),fun _ _ _ _ _=>?_⟩)
 | (refine⟨Sp1.sz (by simp),L2.alloc fun _ _ _ _=>?_⟩)
 | (refine' ⟨_,_,_,_,rfl,rfl,?hat,?hbt,Sp1.sz ?hsz,fun _ _ _ _ _=>?nxt⟩;(case hat=>walk_at "at");(case hbt=>walk_at "at");(case hsz=>simp))
 | (refine' ⟨_,_,_,_,rfl,rfl,?hat,?hbt,Sp1.sz ?hsz,L2.alloc fun _ _ _ _=>?nxt⟩;(case hat=>walk_at "at");(case hbt=>walk_at "at");(case hsz=>simp))
 | (refine' ⟨_,_,rfl,.inl (L2.SqL.of ?hat),?nxt⟩;(case hat=>walk_at "at"))
 | (refine' ⟨_,_,rfl,.inr (L2.SqT.of ?hat),?nxt⟩;(case hat=>walk_at "at"))
 | (refine' L2.alloc fun _ _ _ _=>?nxt))
local macro_rules | `(tactic| walk_at "rd")=>`(tactic| repeat (walk_at "r1"))
namespace K53
open PySem PySem.Spec L2 Mth Sp1 Sp2 Sp11 Sp7 Sp24 Sp5 Sp6 Dr Wk Sk Fz Pas
noncomputable def top(i:Nat):Stmt:=Challenge.pw_oneleash_k53_thinning_refused.main.body.getD i (.Pass ⟨0,0,0,0⟩)
noncomputable def uh(i j:Nat):Stmt:=match top i with
 | .ClassDef _ _ _ b _ _ _ _ _ _ _=>b.getD j (.Pass ⟨0,0,0,0⟩)
 | x=>x
noncomputable def fY:List (Str×Nat):=[(Str.ofString "is_whole",17),(Str.ofString "common_divisor",18),(Str.ofString "plus",20),(Str.ofString "is_ratio",21),(Str.ofString "sign_of",23),(Str.ofString "signed_square",24),(Str.ofString "sign_with_root",25),(Str.ofString "sign_with_roots",26),(Str.ofString "root_order",27),(Str.ofString "floor_root",28),(Str.ofString "own_fraction",29),(Str.ofString "scaled_floor",30),(Str.ofString "below_all",31),(Str.ofString "shared_terms",32),(Str.ofString "fraction_of_terms",33),(Str.ofString "fraction_within",34),(Str.ofString "root_between",35),(Str.ofString "look_at_square",39),(Str.ofString "leash_order",40)]
noncomputable def fX:List (Str×Nat):=[(Str.ofString "reach_of",41),(Str.ofString "part_within",42),(Str.ofString "last_of",44),(Str.ofString "with_a_stretch",48),(Str.ofString "doors_of",49),(Str.ofString "far_corners",50),(Str.ofString "pair_at_corner",54),(Str.ofString "part_from",55),(Str.ofString "pair_in_door",56),(Str.ofString "place_on",57),(Str.ofString "pairs_on",58),(Str.ofString "fence_past",69),(Str.ofString "doors_at_begin",71),(Str.ofString "door_out",72),(Str.ofString "pass_through",73),(Str.ofString "doors_reached",74),(Str.ofString "doors_at_end",75),(Str.ofString "may_keep",76),(Str.ofString "pairs_to",77)]
noncomputable def fW:List (Str×Nat):=[(Str.ofString "walk_through",78),(Str.ofString "go_by",80),(Str.ofString "go_on",81),(Str.ofString "part_of",83),(Str.ofString "short_cut",84),(Str.ofString "corners_apart",85),(Str.ofString "cuts_of",86),(Str.ofString "good_begins",87),(Str.ofString "marks_of",88),(Str.ofString "kept_of",89),(Str.ofString "thinned",90),(Str.ofString "_law_cell_at",92),(Str.ofString "_law_pool",93),(Str.ofString "_law_take",94),(Str.ofString "_law_row",95),(Str.ofString "_law_odd",96),(Str.ofString "_law_told",97),(Str.ofString "_law_far",98),(Str.ofString "law",99)]
noncomputable def iz:List (Str×Nat×List V):=[(Str.ofString "ratio",19,[.int 1])]
noncomputable def wU:List Str:=[Str.ofString "LeashError",Str.ofString "NoDeed",Str.ofString "NoFence",Str.ofString "NoLine",Str.ofString "NoLines",Str.ofString "NoName",Str.ofString "NoPlace",Str.ofString "NoRatio",Str.ofString "NoRow",Str.ofString "NoSquare",Str.ofString "NoText",Str.ofString "NoWalk",Str.ofString "NoWay",Str.ofString "TooMany",Str.ofString "Twice"]
noncomputable def hNo:List Str:=[Str.ofString "ValueError",Str.ofString "abs",Str.ofString "all",Str.ofString "bool",Str.ofString "enumerate",Str.ofString "int",Str.ofString "isinstance",Str.ofString "len",Str.ofString "list",Str.ofString "max",Str.ofString "min",Str.ofString "range",Str.ofString "reversed",Str.ofString "tuple",Str.ofString "zip"]
noncomputable def uH:List (Str×List V):=[(Str.ofString "BEGIN",[.int 0,.int 0,.int 0,.int 1]),(Str.ofString "END",[.int 1,.int 0,.int 0,.int 1])]
noncomputable def yq(K:W.Frag):List (Option (Option V)):=[(W.nsIn K mainGlobals "UPRIGHT").map (λo=>o.map Hd.bareV),(W.nsIn K mainGlobals "LEVEL").map (λo=>o.map Hd.bareV)]
noncomputable def vH:List (Option (Option V)):=[some (some (.int 0)),some (some (.int 1))]
noncomputable def yp(K:W.Frag):List (Option (Option Value)):=[W.findIn K (.ref (Hd.cls K "Field")) "__setattr__",W.findIn K (.ref (Hd.cls K "Field")) "room",W.findIn K (.ref (Hd.cls K "Field")) "last",W.findIn K (.ref (Hd.cls K "Field")) "doors",W.findIn K (.ref (Hd.cls K "Field")) "far"]
noncomputable def vG:List (Option (Option Value)):=[some (some (.builtin "object.__setattr__")),some none,some none,some none,some none]
noncomputable def yo(K:W.Frag):List (Bool):=[(K.lookup sysModules).isSome,Hd.findR K (Hd.cls K "NoSquare") "__getattribute__",Hd.findR K (Hd.cls K "NoSquare") "__getattr__",Hd.findR K (Hd.cls K "NoSquare") "__class__"]
noncomputable def vF:List (Bool):=[true,true,true,true]
noncomputable def ym(K:W.Frag):List (Option Bool):=[Hd.exmR K (Hd.cls K "NoSquare") (Hd.cls K "LeashError"),Hd.kitR K (Hd.cls K "NoSquare") (Hd.cls K "NoSquare"),Hd.kitT K (Hd.cls K "NoSquare"),Hd.kitRs K (Hd.cls K "NoSquare") [(Hd.cls K "NoDeed"),(Hd.cls K "NoFence"),(Hd.cls K "NoLine"),(Hd.cls K "NoLines"),(Hd.cls K "NoName"),(Hd.cls K "NoPlace"),(Hd.cls K "NoRatio"),(Hd.cls K "NoRow"),(Hd.cls K "NoText")],Hd.kitRs K (Hd.cls K "NoSquare") [(Hd.cls K "NoWalk"),(Hd.cls K "NoWay"),(Hd.cls K "TooMany"),(Hd.cls K "Twice")]]
noncomputable def vE:List (Option Bool):=[some true,some true,some true,some false,some false]
noncomputable def yf:List Str:=[Str.ofString "Field"]
noncomputable def hMt:List (Str×Str×Str×Stmt):=[(Str.ofString "Field",Str.ofString "__init__",Str.ofString "Field.__init__",uh 51 0)]
noncomputable def hTabs:List Str:=[Str.ofString "kept_of"]
noncomputable def hF0(K:W.Frag):List (Option (Arguments×List Stmt×Scope×Value)):=fY.map (λp=>Hd.fnFact K p.1)
noncomputable def hG0:List (Option (Arguments×List Stmt×Scope×Value)):=fY.map (λp=>some (aP (top p.2),aH (top p.2),ak (top p.2),.none))
noncomputable def hF1(K:W.Frag):List (Option (Arguments×List Stmt×Scope×Value)):=fX.map (λp=>Hd.fnFact K p.1)
noncomputable def hG1:List (Option (Arguments×List Stmt×Scope×Value)):=fX.map (λp=>some (aP (top p.2),aH (top p.2),ak (top p.2),.none))
noncomputable def hF2(K:W.Frag):List (Option (Arguments×List Stmt×Scope×Value)):=fW.map (λp=>Hd.fnFact K p.1)
noncomputable def hG2:List (Option (Arguments×List Stmt×Scope×Value)):=fW.map (λp=>some (aP (top p.2),aH (top p.2),ak (top p.2),.none))
noncomputable def hF3(K:W.Frag):List (Option (Arguments×List Stmt×Scope×List V))×Bool×Bool×List (Option (List V))×Bool×List (Option (Arguments×List Stmt×Scope×Value))×List (Option (Option V))×List (Option (Option Value))×List (Bool)×List (Option Bool):=(iz.map (λp=>Hd.fnFactD K p.1),wU.all (Hd.excFact K),hNo.all (Hd.noFact K),uH.map (λp=>Hd.tupFact K p.1),yf.all (Hd.ownFact K),hMt.map (λp=>Hd.mtFact K p.1 p.2.1 p.2.2.1),yq K,yp K,yo K,ym K)
noncomputable def hG3:List (Option (Arguments×List Stmt×Scope×List V))×Bool×Bool×List (Option (List V))×Bool×List (Option (Arguments×List Stmt×Scope×Value))×List (Option (Option V))×List (Option (Option Value))×List (Bool)×List (Option Bool):=(iz.map (λp=>some (aP (top p.2.1),aH (top p.2.1),ak (top p.2.1),p.2.2)),true,true,uH.map (λp=>some p.2),true,hMt.map (λp=>some (aP p.2.2.2,aH p.2.2.2,ak p.2.2.2,.none)),vH,vG,vF,vE)
noncomputable def hF4(K0:W.Frag):Bool×Bool×Bool:=(hTabs.all (Hd.tabFact K0),Hd.bltFact (Hd.strip K0),Hd.apart (hTabs.map (Hd.tabP K0)))
noncomputable def hG4:Bool×Bool×Bool:=(true,true,true)
noncomputable def hFacts(K:W.Frag):(List (Option (Arguments×List Stmt×Scope×Value)))×(List (Option (Arguments×List Stmt×Scope×Value)))×(List (Option (Arguments×List Stmt×Scope×Value)))×(List (Option (Arguments×List Stmt×Scope×List V))×Bool×Bool×List (Option (List V))×Bool×List (Option (Arguments×List Stmt×Scope×Value))×List (Option (Option V))×List (Option (Option Value))×List (Bool)×List (Option Bool))×(Bool×Bool×Bool):=(hF0 (Hd.strip (K)),hF1 (Hd.strip (K)),hF2 (Hd.strip (K)),hF3 (Hd.strip (K)),hF4 (K))
noncomputable def hGood:(List (Option (Arguments×List Stmt×Scope×Value)))×(List (Option (Arguments×List Stmt×Scope×Value)))×(List (Option (Arguments×List Stmt×Scope×Value)))×(List (Option (Arguments×List Stmt×Scope×List V))×Bool×Bool×List (Option (List V))×Bool×List (Option (Arguments×List Stmt×Scope×Value))×List (Option (Option V))×List (Option (Option Value))×List (Bool)×List (Option Bool))×(Bool×Bool×Bool):=(hG0,hG1,hG2,hG3,hG4)
noncomputable def hView:Program:=W.view Challenge.pw_oneleash_k53_thinning_refused [99]
noncomputable def hLoose:List Str:=[Str.ofString "LeashError",Str.ofString "NoRatio",Str.ofString "NoLine",Str.ofString "NoPlace",Str.ofString "NoWay",Str.ofString "NoWalk",Str.ofString "NoFence",Str.ofString "NoSquare",Str.ofString "NoLines",Str.ofString "NoText",Str.ofString "NoName",Str.ofString "Twice",Str.ofString "TooMany",Str.ofString "NoRow",Str.ofString "NoDeed",Str.ofString "is_whole",Str.ofString "common_divisor",Str.ofString "ratio",Str.ofString "plus",Str.ofString "is_ratio",Str.ofString "sign_of",Str.ofString "signed_square",Str.ofString "sign_with_root",Str.ofString "sign_with_roots",Str.ofString "root_order",Str.ofString "floor_root",Str.ofString "own_fraction",Str.ofString "scaled_floor",Str.ofString "below_all",Str.ofString "shared_terms",Str.ofString "fraction_of_terms",Str.ofString "fraction_within",Str.ofString "root_between",Str.ofString "BEGIN",Str.ofString "END",Str.ofString "look_at_square",Str.ofString "leash_order",Str.ofString "reach_of",Str.ofString "part_within",Str.ofString "last_of",Str.ofString "UPRIGHT",Str.ofString "LEVEL",Str.ofString "with_a_stretch",Str.ofString "doors_of",Str.ofString "far_corners",Str.ofString "Field",Str.ofString "begins_fence",Str.ofString "ends_fence",Str.ofString "pair_at_corner",Str.ofString "part_from",Str.ofString "pair_in_door",Str.ofString "place_on",Str.ofString "pairs_on",Str.ofString "row_to",Str.ofString "seek",Str.ofString "gap_between",Str.ofString "steps_down",Str.ofString "steps_over",Str.ofString "steps_back",Str.ofString "steps_from",Str.ofString "pairs_of_bend",Str.ofString "fence_past",Str.ofString "doors_at_begin",Str.ofString "door_out",Str.ofString "pass_through",Str.ofString "doors_reached",Str.ofString "doors_at_end",Str.ofString "may_keep",Str.ofString "pairs_to",Str.ofString "walk_through",Str.ofString "go_by",Str.ofString "go_on",Str.ofString "part_of",Str.ofString "short_cut",Str.ofString "corners_apart",Str.ofString "cuts_of",Str.ofString "good_begins",Str.ofString "marks_of",Str.ofString "kept_of",Str.ofString "thinned",Str.ofString "_law_cell_at",Str.ofString "_law_pool",Str.ofString "_law_take",Str.ofString "_law_row",Str.ofString "_law_odd",Str.ofString "_law_told",Str.ofString "_law_far"]
noncomputable def hRunS(w:World):=(W.openEnds treeTable Challenge.pw_oneleash_k53_thinning_refused w 100000).map (λs=>W.openSeen hView hLoose (importedModules Challenge.pw_oneleash_k53_thinning_refused.main.body) (λ_=>true) true s)
noncomputable def hEndS:=some (W.openGood hView hLoose)
theorem hRunS_self:@hRunS = @hRunS:=rfl
theorem hEndS_self:@hEndS = @hEndS:=rfl
noncomputable def _root_.PySem.W.Fast.tw1459525299594792858:Program:=Challenge.pw_oneleash_k53_thinning_refused
theorem _root_.PySem.W.Fast.te1459525299594792858:Challenge.pw_oneleash_k53_thinning_refused=W.Fast.tw1459525299594792858:=rfl
set_option maxHeartbeats 0 in
lay_quick K53.hRunS K53.hEndS
name_quick hRunSQ for K53.hRunS by K53.hRunS_self
name_quick hEndSQ for K53.hEndS by K53.hEndS_self
set_option maxHeartbeats 0 in
theorem uI(w:World):W.Fast.hRunSQ w=W.Fast.hEndSQ:=by kernel_rfl
theorem yg(w:World):hRunS w=hEndS:=(congrFun W.Fast.hRunSQ_eq w).trans ((uI w).trans W.Fast.hEndSQ_eq.symm)
noncomputable def hRun0(w:World):=(W.openEnds treeTable Challenge.pw_oneleash_k53_thinning_refused w 100000).map (λs=>hF0 (Hd.strip (Hd.frag s.heap)))
noncomputable def hEnd0:=some (hG0)
theorem hRun0_self:@hRun0 = @hRun0:=rfl
theorem hEnd0_self:@hEnd0 = @hEnd0:=rfl
set_option maxHeartbeats 0 in
lay_quick K53.hRun0 K53.hEnd0
name_quick hRun0Q for K53.hRun0 by K53.hRun0_self
name_quick hEnd0Q for K53.hEnd0 by K53.hEnd0_self
set_option maxHeartbeats 0 in
theorem uM(w:World):W.Fast.hRun0Q w=W.Fast.hEnd0Q:=by kernel_rfl
theorem yk(w:World):hRun0 w=hEnd0:=(congrFun W.Fast.hRun0Q_eq w).trans ((uM w).trans W.Fast.hEnd0Q_eq.symm)
noncomputable def hRun1(w:World):=(W.openEnds treeTable Challenge.pw_oneleash_k53_thinning_refused w 100000).map (λs=>hF1 (Hd.strip (Hd.frag s.heap)))
noncomputable def hEnd1:=some (hG1)
theorem hRun1_self:@hRun1 = @hRun1:=rfl
theorem hEnd1_self:@hEnd1 = @hEnd1:=rfl
set_option maxHeartbeats 0 in
lay_quick K53.hRun1 K53.hEnd1
name_quick hRun1Q for K53.hRun1 by K53.hRun1_self
name_quick hEnd1Q for K53.hEnd1 by K53.hEnd1_self
set_option maxHeartbeats 0 in
theorem uL(w:World):W.Fast.hRun1Q w=W.Fast.hEnd1Q:=by kernel_rfl
theorem yj(w:World):hRun1 w=hEnd1:=(congrFun W.Fast.hRun1Q_eq w).trans ((uL w).trans W.Fast.hEnd1Q_eq.symm)
noncomputable def hRun2(w:World):=(W.openEnds treeTable Challenge.pw_oneleash_k53_thinning_refused w 100000).map (λs=>hF2 (Hd.strip (Hd.frag s.heap)))
noncomputable def hEnd2:=some (hG2)
theorem hRun2_self:@hRun2 = @hRun2:=rfl
theorem hEnd2_self:@hEnd2 = @hEnd2:=rfl
set_option maxHeartbeats 0 in
lay_quick K53.hRun2 K53.hEnd2
name_quick hRun2Q for K53.hRun2 by K53.hRun2_self
name_quick hEnd2Q for K53.hEnd2 by K53.hEnd2_self
set_option maxHeartbeats 0 in
theorem uK(w:World):W.Fast.hRun2Q w=W.Fast.hEnd2Q:=by kernel_rfl
theorem yi(w:World):hRun2 w=hEnd2:=(congrFun W.Fast.hRun2Q_eq w).trans ((uK w).trans W.Fast.hEnd2Q_eq.symm)
noncomputable def hRun3(w:World):=(W.openEnds treeTable Challenge.pw_oneleash_k53_thinning_refused w 100000).map (λs=>(hF3 (Hd.strip (Hd.frag s.heap)),hF4 (Hd.frag s.heap)))
noncomputable def hEnd3:=some ((hG3,hG4))
theorem hRun3_self:@hRun3 = @hRun3:=rfl
theorem hEnd3_self:@hEnd3 = @hEnd3:=rfl
set_option maxHeartbeats 0 in
lay_quick K53.hRun3 K53.hEnd3
name_quick hRun3Q for K53.hRun3 by K53.hRun3_self
name_quick hEnd3Q for K53.hEnd3 by K53.hEnd3_self
set_option maxHeartbeats 0 in
theorem uJ(w:World):W.Fast.hRun3Q w=W.Fast.hEnd3Q:=by kernel_rfl
theorem yh(w:World):hRun3 w=hEnd3:=(congrFun W.Fast.hRun3Q_eq w).trans ((uJ w).trans W.Fast.hEnd3Q_eq.symm)
theorem yY(w:World):(W.openEnds treeTable Challenge.pw_oneleash_k53_thinning_refused w 100000).map (λs=>(W.openSeen hView hLoose (importedModules Challenge.pw_oneleash_k53_thinning_refused.main.body) (λ_=>true) true s,hFacts (Hd.frag s.heap)))=some (W.openGood hView hLoose,hGood):=by
 have rS:(W.openEnds treeTable Challenge.pw_oneleash_k53_thinning_refused w 100000).map (λs=>W.openSeen hView hLoose (importedModules Challenge.pw_oneleash_k53_thinning_refused.main.body) (λ_=>true) true s)=some (W.openGood hView hLoose):=yg w;have r0:(W.openEnds treeTable Challenge.pw_oneleash_k53_thinning_refused w 100000).map (λs=>hF0 (Hd.strip (Hd.frag s.heap)))=some (hG0):=yk w;have r1:(W.openEnds treeTable Challenge.pw_oneleash_k53_thinning_refused w 100000).map (λs=>hF1 (Hd.strip (Hd.frag s.heap)))=some (hG1):=yj w;have r2:(W.openEnds treeTable Challenge.pw_oneleash_k53_thinning_refused w 100000).map (λs=>hF2 (Hd.strip (Hd.frag s.heap)))=some (hG2):=yi w;have r3:(W.openEnds treeTable Challenge.pw_oneleash_k53_thinning_refused w 100000).map (λs=>(hF3 (Hd.strip (Hd.frag s.heap)),hF4 (Hd.frag s.heap)))=some ((hG3,hG4)):=yh w
 skip
 generalize (W.openEnds treeTable Challenge.pw_oneleash_k53_thinning_refused w 100000)=x at *;cases x with
 | none=>cases rS
 | some s =>
  have zS:=Option.some.inj rS;have z0:=Option.some.inj r0;have z1:=Option.some.inj r1;have z2:=Option.some.inj r2;have z3:=Option.some.inj r3;show some (W.openSeen hView hLoose (importedModules Challenge.pw_oneleash_k53_thinning_refused.main.body) (λ_=>true) true s,hFacts (Hd.frag s.heap))=_;unfold hFacts hGood;have z:=zS;have q0:=z0;have q1:=z1;have q2:=z2;have q3:=(congrArg Prod.fst z3);have q4:=(congrArg Prod.snd z3);exact congrArg some (Hd.pair2 z (Hd.pair2 q0 (Hd.pair2 q1 (Hd.pair2 q2 (Hd.pair2 q3 q4)))))
structure Txt(mg:Str->Option Value):Prop where
 z_ValueError:mg "ValueError" = none
 z_abs:mg "abs" = none
 z_all:mg "all" = none
 z_bool:mg "bool" = none
 z_enumerate:mg "enumerate" = none
 z_int:mg "int" = none
 z_isinstance:mg "isinstance" = none
 z_len:mg "len" = none
 z_list:mg "list" = none
 z_max:mg "max" = none
 z_min:mg "min" = none
 z_range:mg "range" = none
 z_reversed:mg "reversed" = none
 z_tuple:mg "tuple" = none
 z_zip:mg "zip" = none
section
variable {P:Program} {w:World} {K:W.Frag} {mg:Str->Option Value} {base:Heap} {C_Field:Addr}
theorem d9{α:Type}{xs:List α}(h:xs.length=1):∃a,xs = [a]:=match xs,h with | [a],_=>⟨a,rfl⟩
theorem di(i j:Int):decide (V.int i=V.int j)=decide (i=j):=Fnc.di i j
theorem eV{x:Int}(h:Sm x):ap x<=50:=by
 have h':-999999999999<=x/\x<=999999999999:=h;exact bM (n:=50) (by show _<1125899906842624;omega)
theorem smk{N M:List Str}{c:Scope}(a:c.kind=.function:=by rfl)(b:c.isCoroutine=false:=by rfl)(d:c.isGenerator=false:=by rfl)(e:N.Nodup:=by decide +kernel)(f:N.take M.length=M:=by rfl)(g:∀x∈M,c.names.lookup x=some .local\/c.names.lookup x=some .cell:=by decide +kernel)(h:∀y∈c.names,y.2≠.free:=by decide +kernel):zf N M c:=⟨a,b,d,e,f,g,h⟩
theorem DF:zf ["thing"] ["thing"] (ak (top 17)):=smk
theorem mf(DR:Df K mg "is_whole" (top 17))(T:Txt mg):Fn P w K mg base "is_whole" ["thing"] 1 B1:=by
 refine DR.fn DF (λ_ _ _ _ _ _ us hl=>by obtain⟨_,rfl⟩:=d9 hl;rfl) (λvs H Q E h=>?_) (λf cdv A outer s H vs Q E hr h=>?_)
 ·obtain⟨x,t,rfl,_⟩:=h
  rfl
 ·obtain⟨x,t,rfl,k,q⟩:=h
  refine⟨_,(am (az (kr (aI dw (by rfl) T.z_isinstance bo (ad (pv 0) (ad (lz T.z_int sG) ag))) (km (wq (aI dw (by rfl) T.z_isinstance bo (ad (pv 0) (ad (lz T.z_bool u9) ag)))))))),?_⟩;refine⟨_,rfl,x,t,"int",rfl,k,.inl rfl,_,rfl,?_⟩;refine aZ (λhc=>?_) (λhc=>?_)
  ·refine⟨_,rfl,x,t,"bool",rfl,k,.inr (.inl rfl),_,rfl,?_⟩
   rw[(jz k).1 hc];exact q
  ·rw[(jz k).2 hc]at q
   exact q
theorem zt:zf ["one","other","rest"] ["one","other"] (ak (top 18)):=smk
theorem gz(BR:Df K mg "common_divisor" (top 18))(T:Txt mg):Fn P w K mg base "common_divisor" ["one","other"] 1 DZ:=by
 refine BR.fn zt (λ_ _ _ _ _ _ us hl=>by obtain⟨_,_,rfl⟩:=cJ hl;rfl) (λvs H Q E h=>?_) (λf cdv A outer s H vs Q E hr h=>?_)
 ·obtain⟨a,b,rfl,_⟩:=h
  rfl
 ·obtain⟨a,b,rfl,q⟩:=h
  refine⟨_,(ai (au (i:=0) zt.nd rfl (Or.inl rfl) (aI jj (by rfl) T.z_abs nV (ad (pv 0) ag))) (ai (au (i:=1) zt.nd rfl (Or.inl rfl) (aI jj (by rfl) T.z_abs nV (ad (pv 1) ag))) (ai (dE PassesOwn.never (aB lD (pv 1) af (aC _)) (ai (au (i:=2) zt.nd rfl (Or.inl rfl) (ao eG (pv 0) (pv 1))) (ai (au (i:=0) zt.nd rfl (Or.inl rfl) (pv 1)) (am (au (i:=1) zt.nd rfl (Or.inl rfl) (pv 2)))))) (am (az (pv 0)))))),?_⟩;refine⟨_,rfl,a,rfl,_,rfl,b,rfl,?_⟩;refine dB (λσ H'=>∃x y r,σ = [some (.int x),some (.int y),r]/\H'=H/\0<=x/\0<=y/\Int.gcd x y=Int.gcd a b)
   (λσ _=>match σ with | [_,some (.int y),_]=>y.toNat|_=>0) ⟨_,_,_,rfl,rfl,jk a,jk b,by rw[oP,rJ]⟩ ?_ ?_
  ·rintro σ H' ⟨x,y,r,rfl,rfl,hx,hy,hg⟩
   refine⟨_,rfl,rfl,_,rfl,?_⟩;refine aZ (λhc=>?_) (λhc=>?_)
   ·have hy0:¬y=0:=by simpa using hc
    have hy1:0<y:=by omega
    refine⟨_,rfl,_,rfl,x,y,rfl,rfl,hy1,_,rfl,_,rfl,⟨y,x % y,_,rfl,rfl,hy,Int.emod_nonneg _ hy0,?_⟩,?_⟩
    ·rw[rH hx hy1]
     exact hg
    ·have h1:=Int.emod_lt_of_pos x hy1
     have h2:=Int.emod_nonneg x hy0;show(x % y).toNat<y.toNat;omega
   ·have hy0:y=0:=by simpa using hc
    subst hy0;refine⟨_,rfl,?_⟩;have e:(Int.gcd a b:Int)=x:=by rw[<- hg];exact gcd_zero hx
    rw[e]at q;exact q
  ·rintro σ H' Q1 Q2 hq ⟨v,e,hs,k,ek,r⟩
   exact⟨v,e,hs,k,ek,hq _ _ r⟩
theorem CV:zf ["top","bottom","divisor"] ["top","bottom"] (ak (top 19)):=smk
theorem rP{C:Addr}(Dg:Fu K mg "ratio" (top 19) [.int 1])(zw:Ac K mg "NoRatio" C)(zM:Fn P w K mg base "is_whole" ["thing"] 1 B1)(zv:Fn P w K mg base "common_divisor" ["one","other"] 1 DZ):Fx P w K mg base "ratio" ["top","bottom"] 2 [.int 1] (AU C):=by
 refine Dg.fx CV (λT kV doc pm an cdv ct us its oT n s hv hl ho hs=>?_) (λT kV doc pm an cdv ct us its oT n s hv hl ho hs=>?_) (λvs H Q E h=>?_) (λf cdv A outer s H vs Q E hr h=>?_)
 ·obtain⟨u,rfl,_⟩:=fw hv
  match us,hl with
  | [_,_],_=>exact BindsTo.of_defaults rfl ho hs rfl rfl
 ·obtain⟨u,rfl,_⟩:=fw hv
  have hl1:us.length=1:=by simpa using hl
  match us,hl1 with
  | [_],_=>exact BindsTo.of_defaults rfl ho hs rfl rfl
 ·obtain⟨a,b,nb,rfl,_⟩:=h
  rfl
 ·obtain⟨a,b,nb,rfl,⟨ba,bb,hnb⟩,k0,k1⟩:=h
  refine⟨_,(ai (aQ (dZ (fC (dR (aA zM (hr.mono (by decide)) (by rfl) (ad (pv 0) ag)))) (dZ (fC (dR (aA zM (hr.mono (by decide)) (by rfl) (ad (pv 1) ag)))) (eC (aB cI (pv 1) af (aC _))))).pt (am (fO zw (by rfl))) aE) (ai (au (i:=2) CV.nd rfl (Or.inl rfl) (aA zv (hr.mono (by decide)) (by rfl) (ad (pv 0) (ad (pv 1) ag)))) (ai (aQ (aB eJ (pv 1) af (aC _)) (am (au (i:=2) CV.nd rfl (Or.inl rfl) (dm cF (pv 2)))) aE) (am (az (gG (ad (ao lG (pv 0) (pv 2)) (ad (ao lG (pv 1) (pv 2)) ag)))))))),?_⟩;refine⟨_,rfl,_,_,rfl,.int a,_,rfl,g8 ?_⟩;refine⟨_,rfl,_,_,rfl,.int b,_,rfl,g8 ?_⟩;refine⟨_,rfl,rfl,_,rfl,?_⟩;refine aZ (λhc=>?_) (λhc=>?_)
  ·exact k0 (by simpa using hc)
  ·have hb:b≠0:=by simpa using hc
   have hg:=kM (a:=a) (b:=b) hb;have bg:ap (Int.gcd a b:Int)<=8000:=ar (pW hb bb) (by omega);refine⟨_,rfl,_,rfl,a,b,rfl,?_⟩;refine⟨_,rfl,_,_,rfl,rfl,_,rfl,?_⟩;refine aZ (λhd=>?_) (λhd=>?_)
   ·have hlt:b<0:=by simpa using hd
    refine⟨_,rfl,_,rfl,?_⟩;refine⟨_,rfl,_,rfl,_,_,rfl,rfl,⟨by omega,bits_neg bg⟩,_,rfl,_,rfl,_,_,rfl,rfl,⟨by omega,bits_neg bg⟩,sz (by simp),λp hp=>?_⟩;exact k1 hb p _ _ (jU hb _ (by rw[if_pos hlt])) (fh ba) (fh bb) hp
   ·have hlt:¬b<0:=by simpa using hd
    refine⟨_,rfl,_,rfl,_,_,rfl,rfl,⟨by omega,bg⟩,_,rfl,_,rfl,_,_,rfl,rfl,⟨by omega,bg⟩,sz (by simp),λp hp=>?_⟩;exact k1 hb p _ _ (jU hb _ (by rw[if_neg hlt])) (fh ba) (fh bb) hp
theorem D5:zf ["number"] ["number"] (ak (top 23)):=smk
theorem nu(Ed:Df K mg "sign_of" (top 23)):Fn P w K mg base "sign_of" ["number"] 1 Bb:=by
 refine Ed.fn D5 (λ_ _ _ _ _ _ us hl=>by obtain⟨_,rfl⟩:=d9 hl;rfl) (λvs H Q E h=>?_) (λf cdv A outer s H vs Q E hr h=>?_)
 ·obtain⟨n,rfl,_⟩:=h
  rfl
 ·obtain⟨n,rfl,q⟩:=h
  refine⟨_,(ai (aQ (aB iS (pv 0) af (aC _)) (am (az af)) aE) (ai (aQ (aB eJ (pv 0) af (aC _)) (am (az (dm cF af))) aE) (am (az af)))),?_⟩;unfold sg at q;refine⟨_,rfl,_,_,rfl,rfl,_,rfl,aZ (λh1=>?_) (λh1=>?_)⟩
  ·rw[if_pos (by simpa using h1)]at q
   exact q
  ·rw[if_neg (by simpa using h1)]at q
   refine⟨_,rfl,_,_,rfl,rfl,_,rfl,aZ (λh2=>?_) (λh2=>?_)⟩
   ·rw[if_pos (by simpa using h2)]at q
    exact⟨_,rfl,q⟩
   ·rw[if_neg (by simpa using h2)]at q
    exact q
inductive CI (vs:List V) (H:Hp) (Q:VK) (x_3:XK):Prop
 | mk:∀n:Int,(vs = [.int n])->(ap n<=160000)->(Q (.int (ssq n)) H)->CI vs H Q x_3
inductive Dx (vs:List V) (H:Hp) (Q:VK) (x_3:XK):Prop
 | mk:∀w p u:Int,(vs = [.int w,.int p,.int u])->((ap w<=64000/\ap p<=64000/\ap u<=64000))->(Q (.int (swr w p u)) H)->Dx vs H Q x_3
inductive CG (vs:List V) (H:Hp) (Q:VK) (x_3:XK):Prop
 | mk:∀w p u s b:Int,(vs = [.int w,.int p,.int u,.int s,.int b])->((ap w<=8000/\ap p<=8000/\ap u<=8000/\ap s<=8000/\ap b<=8000))->(Q (.int (bH w p u s b)) H)->CG vs H Q x_3
structure FI(K:W.Frag)(H:Hp)(p:Addr)(a0 a1 a2 a3:Int):Prop where
 at_:SqT K H p [.int a0,.int a1,.int a2,.int a3]
 b0:ap a0<=3600
 b1:ap a1<=3600
 b2:ap a2<=8000
 b3:ap a3<=3600
inductive DY (K:W.Frag) (vs:List V) (H:Hp) (Q:VK) (x_3:XK):Prop
 | mk:∀(p q:Addr) (a0 a1 a2 a3 b0 b1 b2 b3:Int),(vs = [.ref p,.ref q])->(FI K H p a0 a1 a2 a3)->(FI K H q b0 b1 b2 b3)->(Q (.int (ro a0 a1 a2 a3 b0 b1 b2 b3)) H)->DY K vs H Q x_3
theorem BV:zf ["number"] ["number"] (ak (top 24)):=smk
theorem gM(BX:Df K mg "signed_square" (top 24))(T:Txt mg):Fn P w K mg base "signed_square" ["number"] 1 CI:=by
 refine BX.fn BV (λ_ _ _ _ _ _ us hl=>by obtain⟨_,rfl⟩:=d9 hl;rfl) (λvs H Q E h=>?_) (λf cdv A outer s H vs Q E hr h=>?_)
 ·obtain⟨n,rfl,_⟩:=h
  rfl
 ·obtain⟨n,rfl,bn,q⟩:=h
  refine⟨_,(am (az (ao ax (pv 0) (aI jj (by rfl) T.z_abs nV (ad (pv 0) ag))))),?_⟩;exact⟨_,rfl,_,rfl,_,rfl,_,_,rfl,rfl,CM.b bn (bits_abs bn) (by decide) (by decide),q⟩
theorem Bv:zf ["whole","part","under"] ["whole","part","under"] (ak (top 25)):=smk
theorem gj(BM:Df K mg "sign_with_root" (top 25))(zk:Fn P w K mg base "sign_of" ["number"] 1 Bb)(zo:Fn P w K mg base "signed_square" ["number"] 1 CI):Fn P w K mg base "sign_with_root" ["whole","part","under"] 2 Dx:=by
 refine BM.fn Bv (λ_ _ _ _ _ _ us hl=>by obtain⟨_,_,_,rfl⟩:=kH hl;rfl) (λvs H Q E h=>?_) (λf cdv A outer s H vs Q E hr h=>?_)
 ·obtain⟨a,p,u,rfl,_⟩:=h
  rfl
 ·obtain⟨a,p,u,rfl,⟨ba,bp,bu⟩,q⟩:=h
  refine⟨_,(am (az (aA zk (hr.mono (by decide)) (by rfl) (ad (ao aO (aA zo (hr.mono (by decide)) (by rfl) (ad (pv 0) ag)) (ao ax (aA zo (hr.mono (by decide)) (by rfl) (ad (pv 1) ag)) (pv 2))) ag)))),?_⟩;exact⟨_,rfl,a,rfl,ar ba (by decide),_,rfl,p,rfl,ar bp (by decide),_,rfl,_,_,rfl,rfl,CM.b (iI bp) bu (by decide) (by decide),_,_,rfl,rfl,_,rfl,q⟩
theorem zW:zf ["whole","part","under","share","below","roots","even"] ["whole","part","under","share","below"] (ak (top 26)):=smk
theorem fD(Bp:Df K mg "sign_with_roots" (top 26))(zk:Fn P w K mg base "sign_of" ["number"] 1 Bb)(zo:Fn P w K mg base "signed_square" ["number"] 1 CI)(Ae:Fn P w K mg base "sign_with_root" ["whole","part","under"] 2 Dx):Fn P w K mg base "sign_with_roots" ["whole","part","under","share","below"] 3 CG:=by
 refine Bp.fn zW (λ_ _ _ _ _ _ us hl=>by obtain⟨_,_,_,_,_,rfl⟩:=ut hl;rfl) (λvs H Q E h=>?_) (λf cdv A outer s H vs Q E hr h=>?_)
 ·obtain⟨a,p,u,c,b,rfl,_⟩:=h
  rfl
 ·obtain⟨a,p,u,c,b,rfl,⟨ba,bp,bu,bc,bb⟩,q⟩:=h
  refine⟨_,(ai (au (i:=5) zW.nd rfl (Or.inl rfl) (aA zk (hr.mono (by decide)) (by rfl) (ad (ao aO (ao ax (aA zo (hr.mono (by decide)) (by rfl) (ad (pv 1) ag)) (pv 2)) (ao ax (aA zo (hr.mono (by decide)) (by rfl) (ad (pv 3) ag)) (pv 4))) ag))) (ai (aQ (aB lE (ao ax (aA zk (hr.mono (by decide)) (by rfl) (ad (pv 0) ag)) (pv 5)) af (aC _)) (am (az (aA zk (hr.mono (by decide)) (by rfl) (ad (ao aO (aA zk (hr.mono (by decide)) (by rfl) (ad (pv 0) ag)) (pv 5)) ag)))) aE) (ai (au (i:=6) zW.nd rfl (Or.inl rfl) (ao aM (ao aM (ao ax (pv 0) (pv 0)) (ao ax (ao ax (pv 1) (pv 1)) (pv 2))) (ao ax (ao ax (pv 3) (pv 3)) (pv 4)))) (am (az (ao ax (aA zk (hr.mono (by decide)) (by rfl) (ad (pv 0) ag)) (aA Ae (hr.mono (by decide)) (by rfl) (ad (pv 6) (ad (ao ax (ao ax (dm cF af) (pv 1)) (pv 3)) (ad (ao ax (pv 2) (pv 4)) ag)))))))))),?_⟩;refine⟨_,rfl,p,rfl,ar bp (by decide),_,rfl,_,_,rfl,rfl,CM.b (iI bp) bu (by decide) (by decide),_,rfl,c,rfl,ar bc (by decide),_,rfl,_,_,rfl,rfl,CM.b (iI bc) bb (by decide) (by decide),_,_,rfl,rfl,_,rfl,?_⟩;unfold bH at q;refine⟨_,rfl,a,rfl,_,rfl,_,_,rfl,rfl,CM.b (ip _) (ip _) (by decide) (by decide),_,_,rfl,rfl,_,rfl,aZ (λh1=>?_) (λh1=>?_)⟩
  ·rw[if_pos (by simpa using h1)]at q
   exact⟨_,rfl,a,rfl,_,rfl,_,_,rfl,rfl,_,rfl,q⟩
  ·rw[if_neg (by simpa using h1)]at q
   have m2:∀{i j:Int},ap i<=8000->ap j<=8000->ap (i*j)<=16000:=λhi hj=>bits_mul hi hj;have m3:∀{i j:Int},ap i<=16000->ap j<=8000->ap (i*j)<=24000:=λhi hj=>bits_mul hi hj;have cm:∀{i j:Int},ap i<=40000->ap j<=40000->CM i j:=λhi hj=>CM.b hi hj (by decide) (by decide);have w:∀{i:Int} {m:Nat},ap i<=m->m<=40000->ap i<=40000:=λh hm=>ar h hm;have ba':=w ba (by decide);have bp':=w bp (by decide);have bc':=w bc (by decide);have bu':=w bu (by decide);have bb':=w bb (by decide);refine⟨_,rfl,_,rfl,_,_,rfl,rfl,cm ba' ba',_,rfl,_,rfl,_,_,rfl,rfl,cm bp' bp',_,rfl,_,_,rfl,rfl,cm (w (m2 bp bp) (by decide)) bu',_,_,rfl,rfl,_,rfl,_,rfl,_,_,rfl,rfl,cm bc' bc',_,rfl,_,_,rfl,rfl,cm (w (m2 bc bc) (by decide)) bb',_,_,rfl,rfl,?_⟩;have b2:ap (-2:Int)<=8000:=ar (dj (by decide) (by decide)) (by decide);have be:ap (a*a - p*p*u - c*c*b)<=64000:=ar (bQ (n:=24001) (bQ (n:=24000) (ar (m2 ba ba) (by decide)) (m3 (m2 bp bp) bu)) (ar (m3 (m2 bc bc) bb) (by decide))) (by decide);refine⟨_,rfl,a,rfl,_,rfl,_,rfl,_,rfl,_,_,rfl,rfl,cm (w b2 (by decide)) bp',_,rfl,_,_,rfl,rfl,cm (w (m2 b2 bp) (by decide)) bc',_,rfl,_,rfl,_,_,rfl,rfl,cm bu' bb',_,_,_,rfl,⟨be,ar (m3 (m2 b2 bp) bc) (by decide),ar (m2 bu bb) (by decide)⟩,_,_,rfl,rfl,?_,q⟩;exact CM.l (by have:=iK a;exact x6 (by omega) (by omega))
theorem Bo:zf ["one","other","whole"] ["one","other"] (ak (top 27)):=smk
theorem wV(De:Df K mg "root_order" (top 27))(zZ:Fn P w K mg base "sign_with_roots" ["whole","part","under","share","below"] 3 CG):Fn P w K mg base "root_order" ["one","other"] 4 (DY K):=by
 refine De.fn Bo (λ_ _ _ _ _ _ us hl=>by obtain⟨_,_,rfl⟩:=cJ hl;rfl) (λvs H Q E h=>?_) (λf cdv A outer s H vs Q E hr h=>?_)
 ·obtain⟨p,q,a0,a1,a2,a3,b0,b1,b2,b3,rfl,_⟩:=h
  rfl
 ·obtain⟨p,q,a0,a1,a2,a3,b0,b1,b2,b3,rfl,ra,rb,k⟩:=h
  have cm:∀{i j:Int},ap i<=3600->ap j<=3600->CM i j:=λhi hj=>CM.b hi hj (by decide) (by decide);have m2:∀{i j:Int},ap i<=3600->ap j<=3600->ap (i*j)<=7200:=λhi hj=>bits_mul hi hj;refine⟨_,(ai (au (i:=2) Bo.nd rfl (Or.inl rfl) (ao aM (ao ax (aw av (pv 0) af (λ_ _=>rfl)) (aw av (pv 1) af (λ_ _=>rfl))) (ao ax (aw av (pv 1) af (λ_ _=>rfl)) (aw av (pv 0) af (λ_ _=>rfl))))) (am (az (aA zZ (hr.mono (by decide)) (by rfl) (ad (pv 2) (ad (ao ax (aw av (pv 0) af (λ_ _=>rfl)) (aw av (pv 1) af (λ_ _=>rfl))) (ad (aw av (pv 0) af (λ_ _=>rfl)) (ad (ao ax (dm cF (aw av (pv 1) af (λ_ _=>rfl))) (aw av (pv 0) af (λ_ _=>rfl))) (ad (aw av (pv 1) af (λ_ _=>rfl)) ag))))))))),?_⟩;refine⟨_,rfl,p,_,_,_,rfl,rfl,ra.at_,rfl,_,rfl,q,_,_,_,rfl,rfl,rb.at_,rfl,_,_,rfl,rfl,cm ra.b0 rb.b3,_,rfl,q,_,_,_,rfl,rfl,rb.at_,rfl,_,rfl,p,_,_,_,rfl,rfl,ra.at_,rfl,_,_,rfl,rfl,cm rb.b0 ra.b3,_,_,rfl,rfl,?_⟩;refine⟨_,rfl,_,rfl,p,_,_,_,rfl,rfl,ra.at_,rfl,_,rfl,q,_,_,_,rfl,rfl,rb.at_,rfl,_,_,rfl,rfl,cm ra.b1 rb.b3,_,rfl,p,_,_,_,rfl,rfl,ra.at_,rfl,_,rfl,q,_,_,_,rfl,rfl,rb.at_,rfl,_,rfl,_,rfl,p,_,_,_,rfl,rfl,ra.at_,rfl,_,_,rfl,rfl,cm (bits_neg rb.b1) ra.b3,_,rfl,q,_,_,_,rfl,rfl,rb.at_,rfl,?_⟩;exact⟨_,_,_,_,_,rfl,⟨ar (bQ (m2 ra.b0 rb.b3) (m2 rb.b0 ra.b3)) (by decide),ar (m2 ra.b1 rb.b3) (by decide),ar ra.b2 (by decide),ar (m2 (bits_neg rb.b1) ra.b3) (by decide),ar rb.b2 (by decide)⟩,k⟩
theorem jr(F:Fn P w K mg base "root_order" ["one","other"] 4 (DY K)):Fn P w K mg base "root_order" ["one","other"] 4 (D3 K):=by
 obtain⟨f,fd,o,h1,h2,h3,h4,h5⟩:=F.ex;refine⟨f,fd,o,h1,h2,h3,h4,h5.imp λvs H Q E h=>?_⟩;obtain⟨p,q,a0,a1,a2,a3,b0,b1,b2,b3,e,ra,rb,k⟩:=h;exact⟨p,q,a0,a1,a2,a3,b0,b1,b2,b3,e,⟨ra.at_,ar ra.b0 (by decide),ar ra.b1 (by decide),ar ra.b2 (by decide),ar ra.b3 (by decide)⟩,⟨rb.at_,ar rb.b0 (by decide),ar rb.b1 (by decide),ar rb.b2 (by decide),ar rb.b3 (by decide)⟩,k⟩
theorem wD{n f:Int}(hn:0<=n)(hf:0<f):n<((f+n / f) / 2+1)*((f+n / f) / 2+1)/\(n<f*f->(f+n / f) / 2<f)/\0<=(f+n / f) / 2:=by
 have q0:0<=n / f:=Int.ediv_nonneg hn (by omega);have q1:n<(n / f+1)*f:=Int.lt_ediv_add_one_mul_self n hf;refine⟨?_,λh=>?_,by omega⟩
 ·generalize eg:(f+n / f) / 2=g
  have h2:f+(n / f+1)<=2*(g+1):=by omega
  have s1:=aY (x:=f+(n / f+1)) (y:=2*(g+1)) (by omega) h2;have e1:2*(g+1)*(2*(g+1))=4*((g+1)*(g+1)):=by grind
  have e2:(f+(n / f+1))*(f+(n / f+1))=4*((n / f+1)*f)+(f - (n / f+1))*(f - (n / f+1)):=by grind
  have e3:0<=(f - (n / f+1))*(f - (n / f+1)):=by
   rcases Int.le_total 0 (f - (n / f+1)) with g0|g0
   ·exact Int.mul_nonneg g0 g0
   ·exact Int.mul_nonneg_of_nonpos_of_nonpos g0 g0
  omega
 ·have:n / f<f:=Int.ediv_lt_of_lt_mul hf h
  omega
theorem mM{n:Int}(hn:0<=n):n<((1:Int)*2^((((ap n:Nat):Int)+1) / 2).toNat+1)*((1:Int)*2^((((ap n:Nat):Int)+1) / 2).toNat+1)/\0<(1:Int)*2^((((ap n:Nat):Int)+1) / 2).toNat:=by
 generalize ek:((((ap n:Nat):Int)+1) / 2).toNat=k;have hk:ap n<=k+k:=by omega
 have h1:=bS hk;have hp:(0:Int)<2^k:=Int.pow_pos (by decide);have e1:((2:Int)^k)*2^k=((2^(k+k):Nat):Int):=by rw[<- Int.pow_add];norm_cast
 rw[Int.one_mul];refine⟨?_,hp⟩;have e2:((2:Int)^k+1)*(2^k+1)=2^k*2^k+2*2^k+1:=by grind
 have h2:n<((2^(k+k):Nat):Int):=by omega
 omega
inductive CJ (vs:List V) (H:Hp) (Q:VK) (x_3:XK):Prop
 | mk:∀n:Int,(vs = [.int n])->(0<=n)->(ap n<=15000)->(∀r:Int,Ab 1 n r->Q (.int r) H)->CJ vs H Q x_3
theorem fJ(x:Int):ssq (-x) = -ssq x:=by
 rcases Int.lt_trichotomy x 0 with h|h|h
 ·rw[cB h,bZ (x:=-x) (by omega)];grind
 ·subst h;rfl
 ·rw[bZ (x:=x) (by omega),cB (x:=-x) (by omega)];grind
theorem gE(w m u n l:Int):bH (-w) n l (-m) u = -bH w m u (-n) l:=by
 unfold bH swr;rw[fJ m,fJ n,cf w,show ssq n*l + -ssq m*u = -(ssq m*u + -ssq n*l) by grind,cf (ssq m*u + -ssq n*l),Int.neg_mul_neg,show -w * -w - n*n*l - -m * -m*u=w*w - m*m*u - -n * -n*l by grind,show -2*n * -m = -2*m * -n by grind,Int.mul_comm l u]
 by_cases g:sg w*sg (ssq m*u + -ssq n*l)>=0
 ·rw[if_pos g,if_pos g,show -sg w + -sg (ssq m*u + -ssq n*l) = -(sg w+sg (ssq m*u + -ssq n*l)) by omega,cf]
 ·rw[if_neg g,if_neg g,Int.neg_mul]
theorem cO(a0 a1 a2 a3 b0 b1 b2 b3:Int):ro b0 b1 b2 b3 a0 a1 a2 a3=0 - ro a0 a1 a2 a3 b0 b1 b2 b3:=by
 unfold ro;have h:=gE (a0*b3 - b0*a3) (a1*b3) a2 (b1*a3) b2;rw[Int.neg_mul a1 b3,Int.neg_mul b1 a3,show b0*a3 - a0*b3 = -(a0*b3 - b0*a3) by omega,h];omega
theorem mR{n:Int}(hn:0<=n)(h:ap n<=15000):ap ((1:Int)*2^((((ap n:Nat):Int)+1) / 2).toNat)<=7502:=by
 refine bM ?_;generalize ek:((((ap n:Nat):Int)+1) / 2).toNat=k;have hk:k<=7501:=by omega
 rw[Int.one_mul,Int.natAbs_pow];show 2^k<2^7502;exact Nat.pow_lt_pow_right (by decide) (by omega)
theorem AM:zf ["number","guess"] ["number"] (ak (top 28)):=smk
theorem js(Dh:Df K mg "floor_root" (top 28)):Fn P w K mg base "floor_root" ["number"] 1 CJ:=by
 refine Dh.fn AM (λ_ _ _ _ _ _ us hl=>by obtain⟨_,rfl⟩:=d9 hl;rfl) (λvs H Q E h=>?_) (λf cdv A outer s H vs Q E hr h=>?_)
 ·obtain⟨n,rfl,_⟩:=h
  rfl
 ·obtain⟨n,rfl,hn,bn,q⟩:=h
  refine⟨_,(ai (au (i:=1) AM.nd rfl (Or.inl rfl) (ao qM af (ao db (ao aO (mV PySem.F.plainAttrs_int PySem.F.slot_int_bit_length PySem.F.type_int_bit_length pN (pv 0)) af) af))) (ai (dE PassesOwn.never (aB iS (ao ax (pv 1) (pv 1)) (pv 0) (aC _)) (am (au (i:=1) AM.nd rfl (Or.inl rfl) (ao db (ao aO (pv 1) (ao db (pv 0) (pv 1))) af)))) (am (az (pv 1))))),?_⟩;have st:=mM hn;have sb:=mR hn bn;refine⟨_,rfl,rfl,n,rfl,rfl,_,_,rfl,rfl,_,_,rfl,rfl,⟨by decide,by decide⟩,_,_,rfl,rfl,⟨Int.ediv_nonneg (by omega) (by decide),?_,by decide⟩,?_⟩
  ·show(((ap n:Nat):Int)+1) / 2<=1000000
   omega
  refine dB (λσ H'=>∃f:Int,σ = [some (.int n),some (.int f)]/\H'=H/\0<=f/\n<(f+1)*(f+1)/\ap f<=7502)
   (λσ _=>match σ with | [_,some (.int f)]=>f.toNat|_=>0) ⟨_,rfl,rfl,by omega,st.1,sb⟩ ?_ ?_
  ·rintro σ H' ⟨f,rfl,rfl,hf,hlt,bf⟩
   refine⟨_,rfl,_,rfl,_,_,rfl,rfl,CM.b bf bf (by decide) (by decide),_,rfl,_,_,rfl,rfl,_,rfl,aZ (λhc=>?_) (λhc=>?_)⟩
   ·have hc:n<f*f:=bC hc
    have hf0:0<f:=by
     rcases Int.lt_or_eq_of_le hf with h|h
     ·exact h
     ·rw[<- h]at hc;simp at hc;omega
    obtain⟨k1,k2,k3⟩:=wD hn hf0;refine⟨_,rfl,_,rfl,_,rfl,_,_,rfl,rfl,⟨hf0,ar bf (by decide)⟩,_,_,rfl,rfl,_,_,rfl,rfl,⟨by decide,by decide⟩,⟨(f+n / f) / 2,rfl,rfl,k3,k1,fG k3 (Int.le_of_lt (k2 hc)) bf⟩,?_⟩;have:=k2 hc;show((f+n / f) / 2).toNat<f.toNat;omega
   ·have hc:¬n<f*f:=bP hc
    refine⟨_,rfl,q f ⟨hf,by omega,by omega⟩⟩
  ·rintro σ H' Q1 Q2 hq ⟨v,e,v2,e2,i,j,e3,e4,cm,v3,e5,i2,j2,e6,e7,k,ek,r⟩
   exact⟨v,e,v2,e2,i,j,e3,e4,cm,v3,e5,i2,j2,e6,e7,k,ek,hq _ _ r⟩
inductive DX (K:W.Frag) (vs:List V) (H:Hp) (Q:VK) (x_3:XK):Prop
 | mk:∀(p:Addr) (a0 a1 a2 a3 sc:Int) (n kk k2:Nat),(vs = [.ref p,.int sc])->(Rt K H p a0 a1 a2 a3)->((0<=a2/\0<a3))->((0<sc/\ap sc<=n))->((n<=4100/\ap a0<=kk/\ap a1<=kk/\ap a2<=2*k2/\kk<=450/\k2<=500))->(∀F,SF a0 a1 a2 a3 sc F->ap F<=n+kk+k2+5->Q (.int F) H)->DX K vs H Q x_3
inductive EC (K:W.Frag) (vs:List V) (H:Hp) (Q:VK) (x_3:XK):Prop
 | mk:∀(p:Addr) (a0 a1 a2 a3 sc:Int) (n kk k2:Nat),(vs = [.ref p,.int sc])->(Rt K H p a0 a1 a2 a3)->((0<=a2/\0<a3))->((0<sc/\ap sc<=n))->((n<=4100/\ap a0<=kk/\ap a1<=kk/\ap a2<=2*k2/\kk<=450/\k2<=500))->(∀F H',SF (-a0) (-a1) a2 a3 sc F->ap F<=n+kk+k2+5->Same H H'->Q (.int (-F - 1)) H')->EC K vs H Q x_3
theorem li{n R:Int}{m:Nat}(r:Ab 1 n R)(h:ap n<=2*m):ap R<=m+1:=by
 have h1:=bS h;have lo:=r.lo;have nn:=r.nn;rw[Int.one_mul]at lo;refine bM ?_;refine Classical.byContradiction λg=>?_;have g1:2^(m+1)<=R.natAbs:=by omega
 have g2:2^(m+1)*2^(m+1)<=R.natAbs*R.natAbs:=Nat.mul_le_mul g1 g1;have e1:R.natAbs*R.natAbs=(R*R).natAbs:=(Int.natAbs_mul R R).symm;have e2:(R*R).natAbs<=n.natAbs:=by have:=Int.mul_nonneg nn nn;omega
 have e3:2^(2*m)<=2^(m+1)*2^(m+1):=by rw[<- Nat.pow_add];exact Nat.pow_le_pow_right (by decide) (by omega)
 omega
theorem jW{x s:Int}{m:Nat}(hs:0<s)(h:ap x<=m):ap (x / s)<=m+1:=by
 have h1:=bS h;refine bM ?_;have e:(x / s).natAbs<=x.natAbs+1:=by
  have q1:=Int.ediv_mul_le x (show s≠0 by omega);have q2:=Int.lt_ediv_add_one_mul_self x hs;generalize x / s=q at *;rcases Int.lt_or_le q 0 with g|g
  ·have a1:q*s<=q*1:=by
    have:=Int.mul_le_mul_of_nonneg_left (show(1:Int)<=s by omega) (show 0<=-q by omega);have e1:-q*s = -(q*s):=by grind
    omega
   have e2:(q+1)*s=q*s+s:=by grind
   rcases Int.lt_or_le (q+1) 0 with g2|g2
   ·have a2:(q+1)*s<=(q+1)*1:=by
     have:=Int.mul_le_mul_of_nonneg_left (show(1:Int)<=s by omega) (show 0<=-(q+1) by omega);have e1:-(q+1)*s = -((q+1)*s):=by grind
     omega
    omega
   ·omega
  ·have a1:q*1<=q*s:=Int.mul_le_mul_of_nonneg_left (by omega) g
   omega
 have:2^(m+1)=2*2^m:=by rw[Nat.pow_succ];omega
 have p:0<2^m:=Nat.pow_pos (by decide);omega
theorem zX:zf ["number","scale","under","root"] ["number","scale"] (ak (top 30)):=smk
theorem h8(Ci:Df K mg "scaled_floor" (top 30))(zQ:Fn P w K mg base "floor_root" ["number"] 1 CJ):Fn P w K mg base "scaled_floor" ["number","scale"] 2 (DX K):=by
 refine Ci.fn zX (λ_ _ _ _ _ _ us hl=>by obtain⟨_,_,rfl⟩:=cJ hl;rfl) (λvs H Q E h=>?_) (λf cdv A outer s H vs Q E hr h=>?_)
 ·obtain⟨p,a0,a1,a2,a3,sc,n,kk,k2,rfl,_⟩:=h
  rfl
 ·obtain⟨p,a0,a1,a2,a3,sc,n,kk,k2,rfl,r,⟨h2,h3⟩,⟨s0,sb⟩,⟨n1,c0,c1,c2,d1,d2⟩,q⟩:=h
  refine⟨_,(ai (au (i:=2) zX.nd rfl (Or.inl rfl) (ao ax (ao ax (ao ax (ao ax (pv 1) (pv 1)) (aw av (pv 0) af (λ_ _=>rfl))) (aw av (pv 0) af (λ_ _=>rfl))) (aw av (pv 0) af (λ_ _=>rfl)))) (ai (au (i:=3) zX.nd rfl (Or.inl rfl) (aA zQ (hr.mono (by decide)) (by rfl) (ad (pv 2) ag))) (ai (aQ (aB eJ (aw av (pv 0) af (λ_ _=>rfl)) af (aC _)) (am (au (i:=3) zX.nd rfl (Or.inl rfl) (eF (aB cI (ao ax (pv 3) (pv 3)) (pv 2) (aC _)) (dm cF (pv 3)) (ao aM (dm cF (pv 3)) af)))) aE) (am (az (ao db (ao aO (ao ax (pv 1) (aw av (pv 0) af (λ_ _=>rfl))) (pv 3)) (aw av (pv 0) af (λ_ _=>rfl)))))))),?_⟩;have m1:ap (sc*sc)<=n+n:=bits_mul sb sb;have m2:ap (sc*sc*a1)<=n+n+kk:=bits_mul m1 c1;have m3:ap (sc*sc*a1*a1)<=n+n+kk+kk:=bits_mul m2 c1;have m4:ap (sc*sc*a1*a1*a2)<=2*(n+kk+k2):=ar (bits_mul m3 c2) (by omega);have n4:0<=sc*sc*a1*a1*a2:=by
   have e:sc*sc*a1*a1=sc*a1*(sc*a1):=by grind
   rw[e];have:0<=sc*a1*(sc*a1):=by
    rcases Int.lt_or_le (sc*a1) 0 with g|g
    ·exact Int.mul_nonneg_of_nonpos_of_nonpos (by omega) (by omega)
    ·exact Int.mul_nonneg g g
   exact Int.mul_nonneg this h2
  refine⟨_,rfl,_,rfl,_,_,rfl,rfl,CM.of sb sb ⟨by omega,by omega⟩,_,rfl,p,_,_,_,rfl,rfl,r.at_,rfl,_,_,rfl,rfl,CM.of m1 r.b1 ⟨by omega,by decide⟩,_,rfl,p,_,_,_,rfl,rfl,r.at_,rfl,_,_,rfl,rfl,CM.of m2 r.b1 ⟨by omega,by decide⟩,_,rfl,p,_,_,_,rfl,rfl,r.at_,rfl,_,_,rfl,rfl,CM.of m3 r.b2 ⟨by omega,by decide⟩,?_⟩;refine⟨_,rfl,_,rfl,n4,ar m4 (by omega),λR hR=>?_⟩;have rb:ap R<=n+kk+k2+1:=li hR m4;have m5:ap (sc*a0)<=n+kk:=bits_mul sb c0;have fin:∀f:Int,f=flr a1 (sc*sc*a1*a1*a2) R->ap f<=n+kk+k2+2->ap ((sc*a0+f) / a3)<=n+kk+k2+5:=λf _ hf=>ar (jW h3 (ci (n:=n+kk+k2+2) (ar m5 (by omega)) hf)) (by omega);have end_:∀f:Int,f=flr a1 (sc*sc*a1*a1*a2) R->ap f<=n+kk+k2+2->Q (.int ((sc*a0+f) / a3)) H:=λf e hf=>q _ ⟨R,hR,by rw[<- e]⟩ (fin f e hf);refine⟨_,rfl,p,_,_,_,rfl,rfl,r.at_,rfl,_,_,rfl,rfl,_,rfl,aZ (λe1=>?_) (λe1=>?_)⟩
  ·have e1:a1<0:=bC e1
   refine⟨_,rfl,_,rfl,_,_,rfl,rfl,CM.of rb rb ⟨by omega,by omega⟩,_,rfl,rfl,_,rfl,aZ (λe2=>?_) (λe2=>?_)⟩
   ·have e2:R*R=sc*sc*a1*a1*a2:=by simpa using e2
    refine⟨_,rfl,_,rfl,_,rfl,_,rfl,p,_,_,_,rfl,rfl,r.at_,rfl,_,_,rfl,rfl,CM.of sb r.b0 ⟨by omega,by decide⟩,_,rfl,_,_,rfl,rfl,_,rfl,p,_,_,_,rfl,rfl,r.at_,rfl,_,_,rfl,rfl,⟨h3,ar r.b3 (by decide)⟩,end_ (-R) ?_ (ar (bits_neg rb) (by omega))⟩;unfold flr;rw[if_pos e1,if_pos e2]
   ·have e2:¬R*R=sc*sc*a1*a1*a2:=by simpa using e2
    refine⟨_,rfl,_,rfl,_,_,rfl,rfl,_,rfl,_,rfl,p,_,_,_,rfl,rfl,r.at_,rfl,_,_,rfl,rfl,CM.of sb r.b0 ⟨by omega,by decide⟩,_,rfl,_,_,rfl,rfl,_,rfl,p,_,_,_,rfl,rfl,r.at_,rfl,_,_,rfl,rfl,⟨h3,ar r.b3 (by decide)⟩,end_ (-R - 1) ?_ (bQ (n:=n+kk+k2+1) (bits_neg rb) (ar (show ap 1<=1 by decide) (by omega)))⟩;unfold flr;rw[if_pos e1,if_neg e2]
  ·have e1:¬a1<0:=bP e1
   refine⟨_,rfl,_,rfl,p,_,_,_,rfl,rfl,r.at_,rfl,_,_,rfl,rfl,CM.of sb r.b0 ⟨by omega,by decide⟩,_,rfl,_,_,rfl,rfl,_,rfl,p,_,_,_,rfl,rfl,r.at_,rfl,_,_,rfl,rfl,⟨h3,ar r.b3 (by decide)⟩,end_ R ?_ (ar rb (by omega))⟩;unfold flr;rw[if_neg e1]
theorem BU:zf ["number","scale","turned"] ["number","scale"] (ak (top 31)):=smk
theorem kP(Dv:Df K mg "below_all" (top 31))(zB:Fn P w K mg base "scaled_floor" ["number","scale"] 2 (DX K)):Fn P w K mg base "below_all" ["number","scale"] 3 (EC K):=by
 refine Dv.fn BU (λ_ _ _ _ _ _ us hl=>by obtain⟨_,_,rfl⟩:=cJ hl;rfl) (λvs H Q E h=>?_) (λf cdv A outer s H vs Q E hr h=>?_)
 ·obtain⟨p,a0,a1,a2,a3,sc,n,kk,k2,rfl,_⟩:=h
  rfl
 ·obtain⟨p,a0,a1,a2,a3,sc,n,kk,k2,rfl,r,⟨h2,h3⟩,⟨s0,sb⟩,⟨n1,c0,c1,c2,d1,d2⟩,q⟩:=h
  refine⟨_,(ai (au (i:=2) BU.nd rfl (Or.inl rfl) (ay (ad (dm cF (aw av (pv 0) af (λ_ _=>rfl))) (ad (dm cF (aw av (pv 0) af (λ_ _=>rfl))) (ad (aw av (pv 0) af (λ_ _=>rfl)) (ad (aw av (pv 0) af (λ_ _=>rfl)) ag)))))) (am (az (ao aM (dm cF (aA zB (hr.mono (by decide)) (by rfl) (ad (pv 2) (ad (pv 1) ag)))) af)))),?_⟩;refine⟨_,rfl,p,_,_,_,rfl,rfl,r.at_,rfl,_,rfl,_,rfl,p,_,_,_,rfl,rfl,r.at_,rfl,_,rfl,_,rfl,p,_,_,_,rfl,rfl,r.at_,rfl,_,rfl,p,_,_,_,rfl,rfl,r.at_,rfl,sz (by simp),λt H1 s1 f1 nn1=>?_⟩;exact⟨_,rfl,_,rfl,t,-a0,-a1,a2,a3,sc,n,kk,k2,rfl,⟨SqT.of f1,bits_neg r.b0,bits_neg r.b1,r.b2,r.b3⟩,⟨h2,h3⟩,⟨s0,sb⟩,⟨n1,bits_neg c0,bits_neg c1,c2,d1,d2⟩,λF hF hb=>⟨_,rfl,_,_,rfl,rfl,q F H1 hF hb s1⟩⟩
inductive CA (vs:List V) (H:Hp) (Q:VK) (x_3:XK):Prop
 | mk:∀lo hi sc:Int,(vs = [.int lo,.int hi,.int sc])->((lo<hi/\ap lo<=6020/\ap hi<=6020))->((0<sc/\ap sc<=4100))->(∀(l:Addr) (ts:List Int) (n:Nat) (H':Hp),Same H H'->H' l=some (.lst (ts.map V.int))->sh n lo hi sc sc=some ts->ts.length<=8210->Q (.ref l) H')->CA vs H Q x_3
theorem gJ{x:Int}{n:Nat}(h:ap x<=n):x<2^n:=by
 have:=bS h;have e:((2^n:Nat):Int)=2^n:=by norm_cast
 omega
theorem lS{x y:Int}{n:Nat}(h:2*x<y)(hy:y<2^n)(h0:0<x):∃m,n=m+1/\x<2^m:=by
 cases n with
 | zero=>simp at hy;omega
 | succ m =>
  refine⟨m,rfl,?_⟩;have:(2:Int)^(m+1)=2*2^m:=by rw[Int.pow_succ];omega
  omega
noncomputable def Far(lo hi b l sc:Int)(k:Nat):Prop:=(k=0/\b=sc/\l=sc)\/∃x y:Nat,hi<2^x/\lo<2^x/\b<2^y/\l<2^y/\b<lo/\l<hi/\k+x+y<=8205
theorem Far.len{lo hi b l sc:Int}{k:Nat}(h:Far lo hi b l sc k):k<=8205:=by
 rcases h with h|⟨x,y,h⟩ <;> omega
theorem Far.step{lo hi b l sc:Int}{k:Nat}(h:Far lo hi b l sc k)(sb:ap sc<=4100)(hb:0<b)(hl:0<l)(s:(0<hi - lo / b*l/\hi - lo / b*l<l)/\(0<lo - lo / b*b/\lo - lo / b*b<b)):Far l b (hi - lo / b*l) (lo - lo / b*b) sc (k+1):=by
 obtain⟨⟨s1,s2⟩,s3,s4⟩:=s;rcases h with⟨rfl,rfl,rfl⟩|⟨x,y,h1,h2,h3,h4,h5,h6,h7⟩
 ·have:=gJ sb
  exact .inr ⟨4100,4100,this,this,by omega,by omega,s2,s4,by omega⟩
 ·have q1:1<=lo / b:=by
   have:=Int.ediv_le_ediv hb (show b<=lo by omega);rw[Int.ediv_self (by omega)]at this;exact this
  have e1:l*1<=lo / b*l:=by rw[Int.mul_comm (lo / b)];exact Int.mul_le_mul_of_nonneg_left q1 (by omega)
  have e2:b*1<=lo / b*b:=by rw[Int.mul_comm (lo / b)];exact Int.mul_le_mul_of_nonneg_left q1 (by omega)
  obtain⟨m,rfl,hm⟩:=lS (x:=hi - lo / b*l) (by omega) h1 s1;obtain⟨m',e,hm'⟩:=lS (x:=lo - lo / b*b) (by omega) h2 s3;have:m=m':=by omega
  subst this;exact .inr ⟨y,m,h3,h4,hm,hm',s2,s4,by omega⟩
theorem zi:zf ["low","high","scale","terms","bottom","last","term","low_rest","high_rest"] ["low","high","scale"] (ak (top 32)):=smk
theorem hZ(Ch:Df K mg "shared_terms" (top 32))(T:Txt mg):Fn P w K mg base "shared_terms" ["low","high","scale"] 1 CA:=by
 refine Ch.fn zi (λ_ _ _ _ _ _ us hl=>by obtain⟨_,_,_,rfl⟩:=kH hl;rfl) (λvs H Q E h=>?_) (λf cdv A outer s H vs Q E hr h=>?_)
 ·obtain⟨lo,hi,sc,rfl,_⟩:=h
  rfl
 ·obtain⟨lo,hi,sc,rfl,⟨lh,bl,bh⟩,⟨s0,sb⟩,q⟩:=h
  refine⟨_,(ai (au (i:=3) zi.nd rfl (Or.inl rfl) (aU ag)) (ai (au (i:=4) zi.nd rfl (Or.inl rfl) (pv 2)) (ai (au (i:=5) zi.nd rfl (Or.inl rfl) (pv 2)) (am (dE PassesOwn.never (dR dn) (ai (au (i:=6) zi.nd rfl (Or.inl rfl) (ao db (pv 0) (pv 4))) (ai (aQ (aB cI (ao ax (pv 6) (pv 4)) (pv 0) (aC _)) (ai (bJ (fA PySem.F.plainAttrs_list PySem.F.slot_list_append PySem.F.type_list_append bK (pv 3) (ad (pv 6) ag))) (am (az (pv 3)))) aE) (ai (aQ (aB oC (ao ax (ao aO (pv 6) af) (pv 5)) (pv 1) (aC _)) (ai (bJ (fA PySem.F.plainAttrs_list PySem.F.slot_list_append PySem.F.type_list_append bK (pv 3) (ad (ao aO (pv 6) af) ag))) (am (az (pv 3)))) aE) (ai (bJ (fA PySem.F.plainAttrs_list PySem.F.slot_list_append PySem.F.type_list_append bK (pv 3) (ad (pv 6) ag))) (ai (au (i:=7) zi.nd rfl (Or.inl rfl) (ao aM (pv 0) (ao ax (pv 6) (pv 4)))) (ai (au (i:=8) zi.nd rfl (Or.inl rfl) (ao aM (pv 1) (ao ax (pv 6) (pv 5)))) (ai (au (i:=0) zi.nd rfl (Or.inl rfl) (pv 5)) (ai (au (i:=1) zi.nd rfl (Or.inl rfl) (pv 4)) (ai (au (i:=4) zi.nd rfl (Or.inl rfl) (pv 8)) (am (au (i:=5) zi.nd rfl (Or.inl rfl) (pv 7))))))))))))))))),?_⟩;refine⟨sz (by simp),λp H1 s1 f1 n1=>⟨_,rfl,_,rfl,?_⟩⟩;refine dB (λσ H'=>∃(x y b l:Int) (ts:List Int) (z6 z7 z8:Option V),σ = [some (.int x),some (.int y),some (.int sc),some (.ref p),some (.int b),some (.int l),z6,z7,z8]/\Same H H'/\H' p=some (.lst (ts.map V.int))/\(0<b/\b<=sc)/\(0<l/\l<=sc)/\x*l<y*b/\(ap x<=6020/\ap y<=6020)/\Far x y b l sc ts.length/\∀us n,sh n x y b l=some us->∃m,sh m lo hi sc sc=some (ts++us))
   (λσ _=>match σ with | [_,_,_,_,some (.int b),some (.int l),_,_,_]=>(b+l).toNat|_=>0) ⟨lo,hi,sc,sc,[],_,_,_,rfl,s1,f1,⟨s0,Int.le_refl _⟩,⟨s0,Int.le_refl _⟩,Int.mul_lt_mul_of_pos_right lh s0,⟨bl,bh⟩,.inl ⟨rfl,rfl,rfl⟩,λus n h=>⟨n,h⟩⟩ ?_ ?_
  ·rintro σ H' ⟨x,y,b,l,ts,z6,z7,z8,rfl,sm,ft,⟨b0,b1⟩,⟨l0,l1⟩,hd,⟨bx,by'⟩,far,tl⟩
   have bb:ap b<=4100:=fG (by omega) b1 sb;have bl':ap l<=4100:=fG (by omega) l1 sb;have bq:ap (x / b)<=6021:=jW b0 bx;have fl:=far.len;have sz3:∀c:Int,(ts.map V.int).length<sizeLine:=λ_=>by rw[sizeLine_eq,List.length_map];omega
   refine⟨_,rfl,cj rfl ?_⟩;refine⟨_,rfl,_,rfl,_,_,rfl,rfl,⟨b0,ar bb (by decide)⟩,?_⟩;refine⟨_,rfl,_,rfl,_,_,rfl,rfl,CM.of bq bb ⟨by decide,by decide⟩,_,rfl,rfl,_,rfl,aZ (λc1=>?_) (λc1=>?_)⟩
   ·have c1:x / b*b=x:=by simpa using c1
    refine⟨_,rfl,.inl ⟨rfl,_,SqL.of ft⟩,_,rfl,p,_,_,rfl,rfl,ft,sz3 0,λH2 u2=>⟨_,rfl,?_⟩⟩;obtain⟨m,hm⟩:=tl [x / b] 1 (by unfold sh;rw[if_pos c1]);exact q p (ts++[x / b]) m H2 (u2.same sm n1) (by rw[u2.now,List.map_append];rfl) hm (by simp;omega)
   ·have c1:¬x / b*b=x:=by simpa using c1
    refine⟨_,rfl,_,_,rfl,rfl,_,rfl,_,_,rfl,rfl,CM.of (ci (n:=6021) bq (ar (show ap 1<=1 by decide) (by decide))) bl' ⟨by decide,by decide⟩,_,rfl,_,_,rfl,rfl,_,rfl,aZ (λc2=>?_) (λc2=>?_)⟩
    ·have c2:(x / b+1)*l<=y:=bC c2
     refine⟨_,rfl,.inl ⟨rfl,_,SqL.of ft⟩,_,rfl,_,_,rfl,rfl,p,_,_,rfl,rfl,ft,sz3 0,λH2 u2=>⟨_,rfl,?_⟩⟩;obtain⟨m,hm⟩:=tl [x / b+1] 1 (by unfold sh;rw[if_neg c1,if_pos c2]);exact q p (ts++[x / b+1]) m H2 (u2.same sm n1) (by rw[u2.now,List.map_append];rfl) hm (by simp;omega)
    ·have c2:¬(x / b+1)*l<=y:=bP c2
     obtain⟨st1,st2,st3⟩:=st b0 l0 hd c1 c2;refine⟨_,rfl,.inl ⟨rfl,_,SqL.of ft⟩,_,rfl,p,_,_,rfl,rfl,ft,sz3 0,λH2 u2=>?_⟩;refine⟨_,rfl,_,rfl,_,rfl,_,_,rfl,rfl,CM.of bq bb ⟨by decide,by decide⟩,_,_,rfl,rfl,?_⟩;refine⟨_,rfl,_,rfl,_,rfl,_,_,rfl,rfl,CM.of bq bl' ⟨by decide,by decide⟩,_,_,rfl,rfl,?_⟩;refine⟨_,rfl,_,rfl,_,rfl,_,rfl,⟨l,b,y - x / b*l,x - x / b*b,ts++[x / b],_,_,_,rfl,u2.same sm n1,by rw[u2.now,List.map_append];rfl,⟨st1.1,by omega⟩,⟨st2.1,by omega⟩,st3,⟨ar bl' (by decide),ar bb (by decide)⟩,by rw[List.length_append];exact far.step sb b0 l0 ⟨st1,st2⟩,λus n h=>?_⟩,?_⟩
     ·obtain⟨m,hm⟩:=tl (x / b::us) (n+1) (by unfold sh;rw[if_neg c1,if_neg c2,h];rfl)
      exact⟨m,by rw[List.append_assoc];exact hm⟩
     ·show(y - x / b*l+(x - x / b*b)).toNat<(b+l).toNat
      omega
  ·rintro σ H' Q1 Q2 hq ⟨k,e,r⟩
   exact⟨k,e,hq _ _ r⟩
inductive Fe (vs:List V) (H:Hp) (Q:VK) (x_3:XK):Prop
 | mk:∀(l:Addr) (ts:List Int) (N:Int) (n:Nat),(vs = [.ref l])->(H l=some (.lst (ts.map V.int)))->((0<ts.length/\ts.length<=8210))->(Bd N ts)->((ap N<=n/\n<=4490/\0<=N))->(∀(r:Addr) (t u:Int) (H':Hp),Same H H'->H' r=some (.tup [.int t,.int u])->BW (fr ts).1 (fr ts).2 t u->ap t<=n->ap u<=n->Q (.ref r) H')->Fe vs H Q x_3
theorem si{xs:List V}(h:0<xs.length):fF xs none (some (-1))=xs.dropLast:=by
 unfold fF;rw[HT.sIx_none];have e:HT.sIx xs.length xs.length (some (-1))=xs.length - 1:=by
  unfold HT.sIx;simp;omega
 rw[e,List.dropLast_eq_take];simp
theorem iD{N x:Int}{n:Nat}(h:-N<=x/\x<=N)(hN:ap N<=n)(N0:0<=N):ap x<=n:=bM (Nat.lt_of_le_of_lt (by omega:x.natAbs<=N.natAbs) (bS hN))
theorem zm:zf ["terms","top","bottom","term","rest"] ["terms"] (ak (top 33)):=smk
theorem eM{C:Addr}(Ba:Df K mg "fraction_of_terms" (top 33))(An:Fx P w K mg base "ratio" ["top","bottom"] 2 [.int 1] (AU C))(T:Txt mg):Fn P w K mg base "fraction_of_terms" ["terms"] 3 Fe:=by
 refine Ba.fn zm (λ_ _ _ _ _ _ us hl=>by obtain⟨_,rfl⟩:=d9 hl;rfl) (λvs H Q E h=>?_) (λf cdv A outer s H vs Q E hr h=>?_)
 ·obtain⟨l,ts,N,n,rfl,_⟩:=h
  rfl
 ·obtain⟨l,ts,N,n,rfl,hl,⟨t0,t1⟩,bd,⟨bN,n1,N0⟩,q⟩:=h
  refine⟨_,(ai (au (i:=1) zm.nd rfl (Or.inl rfl) (aw bA (pv 0) (dm cF af) (λ_ _=>rfl))) (ai (au (i:=2) zm.nd rfl (Or.inl rfl) af) (ai (bI PassesOwn.never rfl (wj rfl T.z_reversed (fR fL (pv 0) kj (fQ (dm cF af)))) (aK (i:=3) zm.nd rfl (Or.inl rfl)) (ai (au (i:=4) zm.nd rfl (Or.inl rfl) (pv 2)) (ai (au (i:=2) zm.nd rfl (Or.inl rfl) (pv 1)) (am (au (i:=1) zm.nd rfl (Or.inl rfl) (ao aO (ao ax (pv 3) (pv 1)) (pv 4))))))) (am (az (iQ An (hr.mono (by decide)) (by rfl) (ad (pv 1) (ad (pv 2) ag)))))))),?_⟩;obtain⟨ti,tl,rfl⟩:∃ti tl,ts=ti++[tl]:=by
   rcases List.eq_nil_or_concat ts with h|⟨a,b,h⟩
   ·rw[h]at t0
    simp at t0
   ·exact⟨a,b,by rw[h];simp⟩
  have len:(ti++[tl]).length=ti.length+1:=by simp
  have hlast:atI ((ti++[tl]).map V.int) (-1)=some (.int tl):=by
   rw[List.map_append];exact sI _ _
  have hcut:fF ((ti++[tl]).map V.int) none (some (-1))=ti.map V.int:=by
   rw[si (by rw[List.length_map,len];omega),List.map_append];simp
  refine⟨_,rfl,_,rfl,l,_,_,_,rfl,rfl,SqL.of hl,hlast,?_⟩;refine⟨_,rfl,_,rfl,_,rfl,l,_,rfl,SqL.of hl,λp H1 s1 f1 m1=>?_⟩;rw[hcut]at f1;have fl:(fr ((ti++[tl]).drop ti.length))=(tl,1):=by rw[List.drop_left];rfl
  refine⟨p,_,rfl,SqL.of f1,uP (K:=K) (a:=p) (xs:=ti.map V.int) (λi σ H'=>∃(x y:Int) (z3 z4:Option V),σ = [some (.ref l),some (.int x),some (.int y),z3,z4]/\H'=H1/\i<=ti.length/\fr ((ti++[tl]).drop (ti.length - i))=(x,y)) ⟨tl,1,_,_,rfl,rfl,Nat.zero_le _,by rw[Nat.sub_zero];exact fl⟩ ?_ ?_ ?_⟩
  ·rintro i σ H' hi ⟨x,y,z3,z4,rfl,rfl,h1,h2⟩
   exact SqL.of f1
  ·rintro i v σ H' hi hv ⟨x,y,z3,z4,rfl,rfl,h1,h2⟩
   rw[List.length_map]at hi hv;rw[List.getElem?_map]at hv;obtain⟨c,hc,rfl⟩:=Option.map_eq_some_iff.mp hv;have hj:ti.length - (i+1)<(ti++[tl]).length:=by rw[len];omega
   have hc':(ti++[tl])[ti.length - (i+1)]? = some c:=by
    rw[List.getElem?_append_left (by omega),<- hc]
    congr 1
    omega
   have e1:(ti++[tl]).drop (ti.length - (i+1))=c::(ti++[tl]).drop (ti.length - i):=by
    obtain⟨a1,a2⟩:=List.getElem?_eq_some_iff.mp hc';rw[List.drop_eq_getElem_cons a1,a2]
    congr 1
    congr 1
    omega
   have ne:(ti++[tl]).drop (ti.length - i)≠[]:=λz=>by
    have:=congrArg List.length z;rw[List.length_drop,len]at this;simp at this;omega
   have bt:=(bd.f (ti.length - i) (by rw[len];omega)).1;rw[h2]at bt;have bx:ap x<=n:=iD bt bN N0;have bc:ap c<=n:=iD (bd.c c (List.mem_of_getElem? hc')) bN N0;refine⟨_,rfl,_,rfl,_,rfl,_,rfl,_,_,rfl,rfl,CM.of bc bx ⟨by omega,by omega⟩,_,rfl,_,_,rfl,rfl,c*x+y,x,_,_,rfl,rfl,by omega,?_⟩;rw[e1,oU ne,h2]
  ·rintro σ H' ⟨x,y,z3,z4,rfl,rfl,h1,h2⟩
   rw[List.length_map,Nat.sub_self,List.drop_zero]at h2;have b0:=bd.f 0 (by omega);rw[List.drop_zero,h2]at b0;have bx:ap x<=n:=iD b0.1 bN N0;have by':ap y<=n:=iD ⟨by have:=b0.2.1;omega,b0.2.2⟩ bN N0;refine⟨_,rfl,_,rfl,x,y,n,rfl,⟨bx,by',by omega⟩,λz=>?_,λ_ r t u fr' c1 c2 nr=>?_⟩
   ·have:=b0.2.1
    have z:y=0:=z;omega
   ·rw[h2]at q
    exact q r t u _ (s1.trans (Same.new nr)) upd_same fr' c1 c2
theorem oy{K:W.Frag}{H H':Hp}{p:Addr}{a0 a1 a2 a3:Int}(r:Rt K H p a0 a1 a2 a3)(s:Same H H'):Rt K H' p a0 a1 a2 a3:=⟨qy r.at_ s,r.b0,r.b1,r.b2,r.b3⟩
structure FP(a0 a1 a2 a3 b0 b1 b2 b3:Int)(kk k2:Nat):Prop where
 a2n:0<=a2
 a3p:0<a3
 b2n:0<=b2
 b3p:0<b3
 x0:ap a0<=kk
 x1:ap a1<=kk
 x2:ap a2<=2*k2
 y0:ap b0<=kk
 y1:ap b1<=kk
 y2:ap b2<=2*k2
 hk:kk<=450
 h2:k2<=500
inductive Fd (K:W.Frag) (vs:List V) (H:Hp) (Q:VK) (x_3:XK):Prop
 | mk:∀(p q:Addr) (a0 a1 a2 a3 b0 b1 b2 b3:Int) (kk k2 J n:Nat),(vs = [.ref p,.ref q])->(Rt K H p a0 a1 a2 a3)->(Rt K H q b0 b1 b2 b3)->(FP a0 a1 a2 a3 b0 b1 b2 b3 kk k2)->((2^J+1+kk+k2+8<=n/\n<=4490/\2^J<=4099))->((∀F G,Rm a0 a1 a2 a3 b0 b1 b2 b3 J F G->F+1+2<=-G - 1))->(∀(r:Addr) (t u:Int) (H':Hp),Same H H'->H' r=some (.tup [.int t,.int u])->Wi a0 a1 a2 a3 b0 b1 b2 b3 t u->ap t<=n->ap u<=n->Q (.ref r) H')->Fd K vs H Q x_3
theorem vY(i:Nat):(1:Int)*2^((2:Int)^i).toNat=scl i:=by
 have:((2:Int)^i).toNat=2^i:=by
  have e:((2^i:Nat):Int)=(2:Int)^i:=by norm_cast
  rw[<- e];exact Int.toNat_natCast _
 rw[this,Int.one_mul];rfl
theorem fM(i:Nat):ap (scl i)<=2^i+1:=by
 refine bM ?_;unfold scl;rw[Int.natAbs_pow];exact Nat.pow_lt_pow_right (by decide) (by omega)
theorem iO(i:Nat):((2^i:Nat):Int)=(2:Int)^i:=by norm_cast
theorem zq:zf ["one","other","bits","scale","low","high"] ["one","other"] (ak (top 34)):=smk
theorem fE(Bq:Df K mg "fraction_within" (top 34))(zB:Fn P w K mg base "scaled_floor" ["number","scale"] 2 (DX K))(AZ:Fn P w K mg base "below_all" ["number","scale"] 3 (EC K))(zR:Fn P w K mg base "fraction_of_terms" ["terms"] 3 Fe)(Av:Fn P w K mg base "shared_terms" ["low","high","scale"] 1 CA):Fn P w K mg base "fraction_within" ["one","other"] 4 (Fd K):=by
 refine Bq.fn zq (λ_ _ _ _ _ _ us hl=>by obtain⟨_,_,rfl⟩:=cJ hl;rfl) (λvs H Q E h=>?_) (λf cdv A outer s H vs Q E hr h=>?_)
 ·obtain⟨p,q,a0,a1,a2,a3,b0,b1,b2,b3,kk,k2,J,n,rfl,_⟩:=h
  rfl
 ·obtain⟨p,q,a0,a1,a2,a3,b0,b1,b2,b3,kk,k2,J,n,rfl,rp,rq,tw,⟨j1,j2,j3⟩,top,k⟩:=h
  refine⟨_,(ai (au (i:=2) zq.nd rfl (Or.inl rfl) af) (am (dE PassesOwn.never (dR dn) (ai (au (i:=3) zq.nd rfl (Or.inl rfl) (ao qM af (pv 2))) (ai (au (i:=4) zq.nd rfl (Or.inl rfl) (ao aO (aA zB (hr.mono (by decide)) (by rfl) (ad (pv 0) (ad (pv 3) ag))) af)) (ai (au (i:=5) zq.nd rfl (Or.inl rfl) (aA AZ (hr.mono (by decide)) (by rfl) (ad (pv 1) (ad (pv 3) ag)))) (ai (aQ (aB oC (ao aO (pv 4) af) (pv 5) (aC _)) (am (az (aA zR (hr.mono (by decide)) (by rfl) (ad (aA Av (hr.mono (by decide)) (by rfl) (ad (pv 4) (ad (pv 5) (ad (pv 3) ag)))) ag)))) aE) (am (au (i:=2) zq.nd rfl (Or.inl rfl) (ao ax (pv 2) af)))))))))),?_⟩;refine dB (λσ H'=>∃(i:Nat) (z3 z4 z5:Option V),σ = [some (.ref p),some (.ref q),some (.int (2^i)),z3,z4,z5]/\i<=J/\Same H H'/\∀i',i'<i->∀F' G',Rm a0 a1 a2 a3 b0 b1 b2 b3 i' F' G'->¬F'+1+2<=-G' - 1)
   (λσ _=>match σ with | [_,_,some (.int B),_,_,_]=>((2:Int)^J+1 - B).toNat|_=>0) ⟨0,_,_,_,rfl,Nat.zero_le _,Same.refl _,λi' h=>absurd h (by omega)⟩ ?_ ?_
  ·rintro σ H' ⟨i,z3,z4,z5,rfl,hi,sm,no⟩
   have pw:2^i<=2^J:=Nat.pow_le_pow_right (by decide) hi;have pi:0<2^i:=Nat.pow_pos (by decide);have pc:=iO i;have rp':=oy rp sm;have rq':=oy rq sm;refine⟨_,rfl,cj rfl ?_⟩;refine⟨_,rfl,_,_,rfl,rfl,⟨by omega,by show(2:Int)^i<=1000000;omega,by decide⟩,?_⟩;rw[vY];refine⟨_,rfl,_,rfl,p,a0,a1,a2,a3,scl i,2^i+1,kk,k2,rfl,rp',⟨tw.a2n,tw.a3p⟩,⟨cV i,fM i⟩,⟨by omega,tw.x0,tw.x1,tw.x2,tw.hk,tw.h2⟩,λF hF bF=>⟨_,_,rfl,rfl,?_⟩⟩;refine⟨_,rfl,_,rfl,q,b0,b1,b2,b3,scl i,2^i+1,kk,k2,rfl,rq',⟨tw.b2n,tw.b3p⟩,⟨cV i,fM i⟩,⟨by omega,tw.y0,tw.y1,tw.y2,tw.hk,tw.h2⟩,λG H1 hG bG s1=>?_⟩;refine⟨_,rfl,_,_,rfl,rfl,_,rfl,_,_,rfl,rfl,_,rfl,aZ (λc1=>?_) (λc1=>?_)⟩
   ·have c1:F+1+2<=-G - 1:=bC c1
    have hk:=tw.hk;have h2:=tw.h2;have bl:ap (F+1)<=2^i+1+kk+k2+6:=ci bF (ar (show ap 1<=1 by decide) (by omega));have bh:ap (-G - 1)<=2^i+1+kk+k2+6:=bQ (bits_neg bG) (ar (show ap 1<=1 by decide) (by omega));refine⟨_,rfl,_,rfl,_,rfl,F+1,-G - 1,scl i,rfl,⟨by omega,ar bl (by omega),ar bh (by omega)⟩,⟨cV i,ar (fM i) (by omega)⟩,λl ts m H2 s2 f2 hs ln=>?_⟩;have hd:(F+1)*scl i<(-G - 1)*scl i:=Int.mul_lt_mul_of_pos_right (by omega) (cV i);have e1:=gJ bl;have e2:=gJ bh;have e3:=gJ (bits_neg bl);have e4:=gJ (bits_neg bh);have e5:=gJ (ar (n:=2^i+1+kk+k2+6) (fM i) (by omega));have bd:=vq (N:=2^(2^i+1+kk+k2+6)) (cV i) (cV i) hd ⟨by omega,by omega⟩ ⟨by omega,by omega⟩ (by omega) (by omega) hs;have ne:=(ow (cV i) (cV i) hd hs).1;have N0:(0:Int)<2^(2^i+1+kk+k2+6):=Int.pow_pos (by decide);have bN:ap ((2:Int)^(2^i+1+kk+k2+6)+1)<=n:=by
     refine ar (ci (n:=2^i+1+kk+k2+7) (bM ?_) (ar (show ap 1<=1 by decide) (by omega))) (by omega);rw[Int.natAbs_pow];exact Nat.pow_lt_pow_right (by decide) (by omega)
    exact⟨l,ts,_,n,rfl,f2,⟨List.length_pos_iff.mpr ne,ln⟩,bd,⟨bN,j2,by omega⟩,λr t u H3 s3 f3 hf c2 c3=>k r t u H3 (sm.trans (s1.trans (s2.trans s3))) f3 ⟨i,F,G,ts,m,⟨hF,hG⟩,c1,no,hs,hf⟩ c2 c3⟩
   ·have c1:¬F+1+2<=-G - 1:=bP c1
    have ij:i≠J:=λz=>by
     subst z;exact c1 (top F G ⟨hF,hG⟩)
    have pw2:2^(i+1)<=2^J:=Nat.pow_le_pow_right (by decide) (by omega);have pc2:=iO (i+1);have pcJ:=iO J;have e:(2:Int)^i*2=2^(i+1):=by rw[Int.pow_succ]
    refine⟨_,rfl,_,_,rfl,rfl,CM.r ⟨by decide,by decide⟩,?_⟩;rw[e];refine⟨⟨i+1,_,_,_,rfl,by omega,sm.trans s1,λi' h F' G' hR=>?_⟩,?_⟩
    ·rcases Nat.lt_or_eq_of_le (Nat.le_of_lt_succ h) with g|g
     ·exact no i' g F' G' hR
     ·subst g
      rw[hR.1.uniq hF,hR.2.uniq hG];exact c1
    ·show((2:Int)^J+1 - 2^(i+1)).toNat<((2:Int)^J+1 - 2^i).toNat
     omega
  ·rintro σ H' Q1 Q2 hq ⟨k,e,r⟩
   exact⟨k,e,hq _ _ r⟩
inductive Et (K:W.Frag) (C:Addr) (vs:List V) (H:Hp) (Q:VK) (E:XK):Prop
 | mk:∀(p:Addr) (a0 a1 a2 a3:Int),(vs = [.ref p])->(Rt K H p a0 a1 a2 a3)->((0<=a2/\0<a3))->(∀R,Ab 1 (a1*a1*a2) R->(R*R≠a1*a1*a2->E (.ref C) none H) /\
 (R*R=a1*a1*a2->∀(r:Addr) (t u:Int) (H':Hp),Same H H'->H' r=some (.tup [.int t,.int u])->BW (a0+sg a1*R) a3 t u->ap t<=1500->ap u<=1500->Q (.ref r) H'))->Et K C vs H Q E
inductive E7 (K:W.Frag) (C:Addr) (vs:List V) (H:Hp) (Q:VK) (E:XK):Prop
 | mk:∀(p q:Addr) (a0 a1 a2 a3 b0 b1 b2 b3:Int) (kk k2 J n:Nat),(vs = [.ref p,.ref q])->(Rt K H p a0 a1 a2 a3)->(Rt K H q b0 b1 b2 b3)->(FP a0 a1 a2 a3 b0 b1 b2 b3 kk k2)->((2^J+1+kk+k2+8<=n/\n<=4490/\2^J<=4099))->((0<ro a0 a1 a2 a3 b0 b1 b2 b3->E (.ref C) none H))->((ro a0 a1 a2 a3 b0 b1 b2 b3=0->∀R,Ab 1 (a1*a1*a2) R->(R*R≠a1*a1*a2->E (.ref C) none H)/\(R*R=a1*a1*a2->∀(r:Addr) (t u:Int) (H':Hp),Same H H'->H' r=some (.tup [.int t,.int u])->BW (a0+sg a1*R) a3 t u->ap t<=1500->ap u<=1500->Q (.ref r) H')))->((ro a0 a1 a2 a3 b0 b1 b2 b3<0->(∀F G,Rm a0 a1 a2 a3 b0 b1 b2 b3 J F G->F+1+2<=-G - 1)/\∀(r:Addr) (t u:Int) (H':Hp),Same H H'->H' r=some (.tup [.int t,.int u])->Wi a0 a1 a2 a3 b0 b1 b2 b3 t u->ap t<=n->ap u<=n->Q (.ref r) H'))->E7 K C vs H Q E
theorem vU(x:Int):0<=x*x:=by
 rcases Int.lt_or_le x 0 with g|g
 ·exact Int.le_of_lt (Int.mul_pos_of_neg_of_neg g g)
 ·exact Int.mul_nonneg g g
theorem Aq:zf ["number","under","root"] ["number"] (ak (top 29)):=smk
theorem ig{C:Addr}(Cm:Df K mg "own_fraction" (top 29))(zw:Ac K mg "NoRatio" C)(zQ:Fn P w K mg base "floor_root" ["number"] 1 CJ)(zk:Fn P w K mg base "sign_of" ["number"] 1 Bb)(An:Fx P w K mg base "ratio" ["top","bottom"] 2 [.int 1] (AU C)):Fx P w K mg base "own_fraction" ["number"] 3 [] (Et K C):=by
 refine Cm.fx Aq (λ_ _ _ _ _ _ us hl=>by obtain⟨_,rfl⟩:=d9 hl;rfl) (λvs H Q E h=>?_) (λf cdv A outer s H vs Q E hr h=>?_)
 ·obtain⟨p,a0,a1,a2,a3,rfl,_⟩:=h
  rfl
 ·obtain⟨p,a0,a1,a2,a3,rfl,r,⟨h2,h3⟩,k⟩:=h
  refine⟨_,(ai (au (i:=1) Aq.nd rfl (Or.inl rfl) (ao ax (ao ax (aw av (pv 0) af (λ_ _=>rfl)) (aw av (pv 0) af (λ_ _=>rfl))) (aw av (pv 0) af (λ_ _=>rfl)))) (ai (au (i:=2) Aq.nd rfl (Or.inl rfl) (aA zQ (hr.mono (by decide)) (by rfl) (ad (pv 1) ag))) (ai (aQ (aB lD (ao ax (pv 2) (pv 2)) (pv 1) (aC _)) (am (fO zw (by rfl))) aE) (am (az (lA An (hr.mono (by decide)) (by rfl) (ad (ao aO (aw av (pv 0) af (λ_ _=>rfl)) (ao ax (aA zk (hr.mono (by decide)) (by rfl) (ad (aw av (pv 0) af (λ_ _=>rfl)) ag)) (pv 2))) (ad (aw av (pv 0) af (λ_ _=>rfl)) ag)))))))),?_⟩;have m1:ap (a1*a1)<=900:=bits_mul r.b1 r.b1;have m2:ap (a1*a1*a2)<=1900:=bits_mul m1 r.b2;have n2:0<=a1*a1*a2:=Int.mul_nonneg (vU a1) h2;refine⟨_,rfl,p,_,_,_,rfl,rfl,r.at_,rfl,_,rfl,p,_,_,_,rfl,rfl,r.at_,rfl,_,_,rfl,rfl,CM.of r.b1 r.b1 ⟨by decide,by decide⟩,_,rfl,p,_,_,_,rfl,rfl,r.at_,rfl,_,_,rfl,rfl,CM.of m1 r.b2 ⟨by decide,by decide⟩,?_⟩;refine⟨_,rfl,_,rfl,n2,ar m2 (by decide),λR hR=>?_⟩;obtain⟨k1,k2⟩:=k R hR;have rb:ap R<=951:=li hR m2;refine⟨_,rfl,_,rfl,_,_,rfl,rfl,CM.of rb rb ⟨by decide,by decide⟩,_,rfl,rfl,_,rfl,aZ (λc=>?_) (λc=>?_)⟩
  ·exact k1 (by simpa using c)
  ·have c:R*R=a1*a1*a2:=by simpa using c
   refine⟨_,rfl,p,_,_,_,rfl,rfl,r.at_,rfl,_,rfl,p,_,_,_,rfl,rfl,r.at_,rfl,a1,rfl,_,rfl,_,_,rfl,rfl,CM.of (ip a1) rb ⟨by decide,by decide⟩,_,_,rfl,rfl,_,rfl,p,_,_,_,rfl,rfl,r.at_,rfl,_,_,1500,rfl,⟨ar (ci (n:=961) (ar r.b0 (by decide)) (bits_mul (ip a1) rb)) (by decide),ar r.b3 (by decide),by decide⟩,λz=>absurd z (by omega),λ_ p2 t u fr c1 c2 np=>k2 c p2 t u _ (Same.new np) upd_same fr c1 c2⟩
theorem AW:zf ["one","other","order"] ["one","other"] (ak (top 35)):=smk
theorem ia{C:Addr}(Cj:Df K mg "root_between" (top 35))(zw:Ac K mg "NoRatio" C)(zh:Fn P w K mg base "root_order" ["one","other"] 4 (D3 K))(Az:Fx P w K mg base "own_fraction" ["number"] 3 [] (Et K C))(z9:Fn P w K mg base "fraction_within" ["one","other"] 4 (Fd K)):Fx P w K mg base "root_between" ["one","other"] 5 [] (E7 K C):=by
 refine Cj.fx AW (λ_ _ _ _ _ _ us hl=>by obtain⟨_,_,rfl⟩:=cJ hl;rfl) (λvs H Q E h=>?_) (λf cdv A outer s H vs Q E hr h=>?_)
 ·obtain⟨p,q,a0,a1,a2,a3,b0,b1,b2,b3,kk,kq,J,n,rfl,_⟩:=h
  rfl
 ·obtain⟨p,q,a0,a1,a2,a3,b0,b1,b2,b3,kk,kq,J,n,rfl,rp,rq,tw,j,k1,k2,k3⟩:=h
  refine⟨_,(ai (au (i:=2) AW.nd rfl (Or.inl rfl) (aA zh (hr.mono (by decide)) (by rfl) (ad (pv 0) (ad (pv 1) ag)))) (ai (aQ (aB iS (pv 2) af (aC _)) (am (fO zw (by rfl))) aE) (ai (aQ (aB cI (pv 2) af (aC _)) (am (az (lA Az (hr.mono (by decide)) (by rfl) (ad (pv 0) ag)))) aE) (am (az (aA z9 (hr.mono (by decide)) (by rfl) (ad (pv 0) (ad (pv 1) ag)))))))),?_⟩;refine⟨_,rfl,_,rfl,p,q,a0,a1,a2,a3,b0,b1,b2,b3,rfl,rp,rq,?_⟩;refine⟨_,rfl,_,_,rfl,rfl,_,rfl,aZ (λc=>?_) (λc=>?_)⟩
  ·exact k1 (bC c)
  ·have c:¬0<ro a0 a1 a2 a3 b0 b1 b2 b3:=bP c
   refine⟨_,rfl,rfl,_,rfl,aZ (λd=>?_) (λd=>?_)⟩
   ·exact⟨_,rfl,p,a0,a1,a2,a3,rfl,rp,⟨tw.a2n,tw.a3p⟩,k2 (by simpa using d)⟩
   ·have d:¬ro a0 a1 a2 a3 b0 b1 b2 b3=0:=by simpa using d
    obtain⟨k4,k5⟩:=k3 (by omega);exact⟨_,rfl,_,rfl,p,q,a0,a1,a2,a3,b0,b1,b2,b3,kk,kq,J,n,rfl,rp,rq,tw,j,k4,k5⟩
theorem Fq:zf ["a","b"] ["a","b"] (ak (top 20)):=smk
theorem uR{C:Addr}(Fs:Df K mg "plus" (top 20))(An:Fx P w K mg base "ratio" ["top","bottom"] 2 [.int 1] (AU C)):Fn P w K mg base "plus" ["a","b"] 3 (EB (λa b c d=>a*d+c*b) (λa b c d=>b*d)):=by
 refine Fs.fn Fq (λ_ _ _ _ _ _ us hl=>by obtain⟨_,_,rfl⟩:=cJ hl;rfl) (λvs H Q E h=>?_) (λf cdv A outer s H vs Q E hr h=>?_)
 ·obtain⟨p,q,a,b,c,d,n,rfl,_⟩:=h
  rfl
 ·obtain⟨p,q,a,b,c,d,n,rfl,fp,fq,hn,hden,k⟩:=h
  have ep:=fp.at_;have eq:=fq.at_;have cm:∀{i j:Int},ap i<=n->ap j<=n->CM i j:=λhi hj=>CM.b hi hj (Nat.le_trans hn (by decide)) (Nat.le_trans hn (by decide));have fin:∀(r:Addr) (t u:Int),BW (a*d+c*b) (b*d) t u->ap t<=2*n+1->ap u<=2*n+1->H r=none->Q (.ref r) (upd H r (.tup [.int t,.int u])):=λr t u fr bt bu hr'=>by
   obtain⟨H1,e1,s1,f1⟩:=grow (o:=.tup [.int t,.int u]) hr';rw[e1];exact k r t u H1 fr ⟨f1,fr.low,bt,bu⟩ s1
  refine⟨_,(am (az (iQ An (hr.mono (by decide)) (by rfl) (ad (ao aO (ao ax (aw av (pv 0) af (λ_ _=>rfl)) (aw av (pv 1) af (λ_ _=>rfl))) (ao ax (aw av (pv 1) af (λ_ _=>rfl)) (aw av (pv 0) af (λ_ _=>rfl)))) (ad (ao ax (aw av (pv 0) af (λ_ _=>rfl)) (aw av (pv 1) af (λ_ _=>rfl))) ag))))),?_⟩;refine⟨_,rfl,p,_,_,_,rfl,rfl,SqT.of ep,rfl,_,rfl,q,_,_,_,rfl,rfl,SqT.of eq,rfl,_,_,rfl,rfl,cm fp.ba fq.bb,_,rfl,q,_,_,_,rfl,rfl,SqT.of eq,rfl,_,rfl,p,_,_,_,rfl,rfl,SqT.of ep,rfl,_,_,rfl,rfl,cm fq.ba fp.bb,_,_,rfl,rfl,?_⟩;refine⟨_,rfl,p,_,_,_,rfl,rfl,SqT.of ep,rfl,_,rfl,q,_,_,_,rfl,rfl,SqT.of eq,rfl,_,_,rfl,rfl,cm fp.bb fq.bb,_,_,2*n+1,rfl,⟨ar (ci (n:=2*n) (ar (bits_mul fp.ba fq.bb) (by omega)) (ar (bits_mul fq.ba fp.bb) (by omega))) (by omega),ar (bits_mul fp.bb fq.bb) (by omega),by omega⟩,λz=>absurd z hden,λ_ r t u fr bt bu hr'=>fin r t u fr bt bu hr'⟩
theorem DG:zf ["thing"] ["thing"] (ak (top 21)):=smk
theorem mh(DS:Df K mg "is_ratio" (top 21))(zM:Fn P w K mg base "is_whole" ["thing"] 1 B1)(zv:Fn P w K mg base "common_divisor" ["one","other"] 1 DZ)(T:Txt mg):Fn P w K mg base "is_ratio" ["thing"] 2 Ew:=by
 refine DS.fn DG (λ_ _ _ _ _ _ us hl=>by obtain⟨_,rfl⟩:=d9 hl;rfl) (λvs H Q E h=>?_) (λf cdv A outer s H vs Q E hr h=>?_)
 ·obtain⟨x,rfl,_⟩:=h
  rfl
 ·obtain⟨x,rfl,th,q⟩:=h
  obtain⟨t,k⟩:=th.kn;refine⟨_,(ai (aQ (dZ (fC (dR (aI dw (by rfl) T.z_isinstance bo (ad (pv 0) (ad (lz T.z_tuple sE) ag))))) (eC (aB lD (aI aL (by rfl) T.z_len cz (ad (pv 0) ag)) af (aC _)))).pt (am (az dn)) aE) (ai (aQ (dZ (fC (dR (aA zM (hr.mono (by decide)) (by rfl) (ad (aw av (pv 0) af (λ_ _=>rfl)) ag)))) (eC (fC (dR (aA zM (hr.mono (by decide)) (by rfl) (ad (aw av (pv 0) af (λ_ _=>rfl)) ag)))))).pt (am (az dn)) aE) (am (az (kr (eY lE (aw av (pv 0) af (λ_ _=>rfl)) af (aC _)) (km (eY cI (aA zv (hr.mono (by decide)) (by rfl) (ad (aw av (pv 0) af (λ_ _=>rfl)) (ad (aw av (pv 0) af (λ_ _=>rfl)) ag))) af (aC _)))))))),?_⟩;refine⟨_,rfl,x,t,"tuple",rfl,k,.inr (.inr (.inl rfl)),_,rfl,?_⟩;rcases Kn.cases_tup k with⟨p,xs,rfl,e,rfl⟩|⟨hl,hs⟩
  ·-- a tuple
   rw[rh e]at q;refine g8 ?_;refine⟨_,rfl,p,xs,rfl,.inr (SqT.of e),rfl,_,rfl,?_⟩;refine aZ (λhc=>?_) (λhc=>?_)
   ·have hn:xs.length≠2:=by
     intro z;rw[z]at hc;exact absurd hc (by decide)
    rw[rn hn]at q;exact q
   ·have hn:xs.length=2:=by
     have z:(xs.length:Int)=2:=by simpa using hc
     omega
    match xs,hn,e,q with
    | [y,z],_,e,q =>
     obtain⟨ty,ky⟩:=th.parts p _ rfl e y (by simp);obtain⟨tz,kz⟩:=th.parts p _ rfl e z (by simp);refine⟨_,rfl,p,_,_,_,rfl,rfl,SqT.of e,rfl,y,ty,rfl,ky,_,rfl,?_⟩;rcases Kn.cases_int ky with⟨a,rfl,rfl⟩|⟨ny,ey⟩
     ·refine g8 ?_
      refine⟨_,rfl,p,_,_,_,rfl,rfl,SqT.of e,rfl,z,tz,rfl,kz,_,rfl,?_⟩;rcases Kn.cases_int kz with⟨b,rfl,rfl⟩|⟨nz,ez⟩
      ·refine g8 ?_
       refine⟨_,rfl,p,_,_,_,rfl,rfl,SqT.of e,rfl,b,1,rfl,rfl,_,rfl,?_⟩;have q':Q (.bl (lowB a b)) H:=q;unfold lowB at q';refine aZ (λhc=>?_) (λhc=>?_)
       ·refine⟨_,rfl,p,_,_,_,rfl,rfl,SqT.of e,rfl,_,rfl,p,_,_,_,rfl,rfl,SqT.of e,rfl,a,b,rfl,rfl,?_⟩
        rw[hc,Bool.true_and]at q';have e1:decide (V.int (Int.gcd a b:Int)=V.int 1)=decide (Int.gcd a b=1):=by
         rw[Bool.eq_iff_iff];simp;omega
        rw[<- e1]at q';exact q'
       ·rw[hc,Bool.false_and]at q'
        exact q'
      ·rw[ez,rm nz]at *
       exact q
     ·rw[ey,rz ny]at *
      exact q
  ·rw[hs]
   rw[hl]at q;exact q
theorem Ea:zf ["line"] ["line"] (ak (top 44)):=smk
theorem nG(Ei:Df K mg "last_of" (top 44))(T:Txt mg):Fn P w K mg base "last_of" ["line"] 1 Bs:=by
 refine Ei.fn Ea (λ_ _ _ _ _ _ us hl=>by obtain⟨_,rfl⟩:=d9 hl;rfl) (λvs H Q E h=>?_) (λf cdv A outer s H vs Q E hr h=>?_)
 ·obtain⟨p,xs,rfl,_⟩:=h
  rfl
 ·obtain⟨p,xs,rfl,e,q⟩:=h
  exact⟨_,(am (az (ao aM (aI aL (by rfl) T.z_len cz (ad (pv 0) ag)) af))),_,rfl,p,xs,rfl,.inl (SqL.of e),_,_,rfl,rfl,q⟩
theorem AG:zf ["one","other","square","across","up"] ["one","other","square"] (ak (top 40)):=smk
theorem jb(Ct:Df K mg "leash_order" (top 40))(zk:Fn P w K mg base "sign_of" ["number"] 1 Bb):Fn P w K mg base "leash_order" ["one","other","square"] 2 EI:=by
 refine Ct.fn AG (λ_ _ _ _ _ _ us hl=>by obtain⟨_,_,_,rfl⟩:=kH hl;rfl) (λvs H Q E h=>?_) (λf cdv A outer s H vs Q E hr h=>?_)
 ·obtain⟨p,q,r,x,y,x',y',a,b,rfl,_⟩:=h
  rfl
 ·obtain⟨p,q,r,x,y,x',y',a,b,rfl,⟨e1,b1,b2⟩,⟨e2,b3,b4⟩,⟨e3,b5,b6⟩,k⟩:=h
  refine⟨_,(ai (au (i:=3) AG.nd rfl (Or.inl rfl) (ao aM (aw av (pv 1) af (λ_ _=>rfl)) (aw av (pv 0) af (λ_ _=>rfl)))) (ai (au (i:=4) AG.nd rfl (Or.inl rfl) (ao aM (aw av (pv 1) af (λ_ _=>rfl)) (aw av (pv 0) af (λ_ _=>rfl)))) (am (az (aA zk (hr.mono (by decide)) (by rfl) (ad (ao aM (aw av (pv 2) af (λ_ _=>rfl)) (ao ax (ao aO (ao ax (pv 3) (pv 3)) (ao ax (pv 4) (pv 4))) (aw av (pv 2) af (λ_ _=>rfl)))) ag)))))),?_⟩
  walk_at "rd"
  exact k
theorem zC:zf ["corner","begin","end","square","across","up","away_across","away_up","length","along","beside","under"] ["corner","begin","end","square"] (ak (top 41)):=smk
theorem lV(DI:Df K mg "reach_of" (top 41)):Fn P w K mg base "reach_of" ["corner","begin","end","square"] 1 CL:=by
 refine DI.fn zC (λ_ _ _ _ _ _ us hl=>by obtain⟨_,_,_,_,rfl⟩:=uw hl;rfl) (λvs H Q E h=>?_) (λf cdv A outer s H vs Q E hr h=>?_)
 ·obtain⟨pc,pb,pe,ps,cx,cy,bx,by_,ex,ey,a,b,rfl,_⟩:=h
  rfl
 ·obtain⟨pc,pb,pe,ps,cx,cy,bx,by_,ex,ey,a,b,rfl,⟨e1,b1,b2⟩,⟨e2,b3,b4⟩,⟨e3,b5,b6⟩,⟨e4,b7,b8⟩,k⟩:=h
  refine⟨_,(ai (au (i:=4) zC.nd rfl (Or.inl rfl) (ao aM (aw av (pv 2) af (λ_ _=>rfl)) (aw av (pv 1) af (λ_ _=>rfl)))) (ai (au (i:=5) zC.nd rfl (Or.inl rfl) (ao aM (aw av (pv 2) af (λ_ _=>rfl)) (aw av (pv 1) af (λ_ _=>rfl)))) (ai (au (i:=6) zC.nd rfl (Or.inl rfl) (ao aM (aw av (pv 0) af (λ_ _=>rfl)) (aw av (pv 1) af (λ_ _=>rfl)))) (ai (au (i:=7) zC.nd rfl (Or.inl rfl) (ao aM (aw av (pv 0) af (λ_ _=>rfl)) (aw av (pv 1) af (λ_ _=>rfl)))) (ai (au (i:=8) zC.nd rfl (Or.inl rfl) (ao aO (ao ax (pv 4) (pv 4)) (ao ax (pv 5) (pv 5)))) (ai (au (i:=9) zC.nd rfl (Or.inl rfl) (ao aO (ao ax (pv 6) (pv 4)) (ao ax (pv 7) (pv 5)))) (ai (au (i:=10) zC.nd rfl (Or.inl rfl) (ao aM (ao ax (pv 6) (pv 5)) (ao ax (pv 7) (pv 4)))) (ai (au (i:=11) zC.nd rfl (Or.inl rfl) (ao ax (aw av (pv 3) af (λ_ _=>rfl)) (ao aM (ao ax (aw av (pv 3) af (λ_ _=>rfl)) (pv 8)) (ao ax (ao ax (aw av (pv 3) af (λ_ _=>rfl)) (pv 10)) (pv 10))))) (am (az (gG (ad (ao ax (pv 9) (aw av (pv 3) af (λ_ _=>rfl))) (ad (pv 11) (ad (ao ax (pv 8) (aw av (pv 3) af (λ_ _=>rfl))) ag)))))))))))))),?_⟩
  walk_at "rd"
  exact k _ _ (by assumption) (by assumption)
theorem Bx:zf ["square"] ["square"] (ak (top 39)):=smk
theorem gu{C:Addr}(BO:Df K mg "look_at_square" (top 39))(zU:Ac K mg "NoSquare" C)(Bl:Fn P w K mg base "is_ratio" ["thing"] 2 Ew):Fx P w K mg base "look_at_square" ["square"] 3 [] (B2 C):=by
 refine BO.fx Bx (λ_ _ _ _ _ _ us hl=>by obtain⟨_,rfl⟩:=d9 hl;rfl) (λvs H Q E h=>?_) (λf cdv A outer s H vs Q E hr h=>?_)
 ·obtain⟨x,rfl,_⟩:=h
  rfl
 ·obtain⟨x,rfl,th,k0,k1⟩:=h
  refine⟨_,(am (aQ (dZ (fC (dR (aA Bl (hr.mono (by decide)) (by rfl) (ad (pv 0) ag)))) (eC (aB eJ (aw av (pv 0) af (λ_ _=>rfl)) af (aC _)))).pt (am (fO zU (by rfl))) aE)),?_⟩;refine⟨_,rfl,x,rfl,th,_,rfl,?_⟩;cases hl:g7 H x with
  | false=>exact uF (k0 (tF hl))
  | true =>
   obtain⟨p,a,b,rfl,e,lw⟩:=rj hl;rw[tm e,x8 lw,Bool.true_and]at k0 k1;refine g8 ?_;refine⟨_,rfl,p,_,_,_,rfl,rfl,SqT.of e,rfl,_,_,rfl,rfl,_,rfl,aZ (λh1=>?_) (λh1=>?_)⟩
   ·exact k0 (by rw[show decide (a<0)=true from h1];rfl)
   ·exact k1 (by rw[show decide (a<0)=false from h1];rfl)
noncomputable def Pw(K:W.Frag)(H':Hp)(v:V)(N e:Bool)(P U L:Int):Prop:=(v = .non/\N=true)\/(N=false/\∃(t l h:Addr) (ln hn:Int×Int×Int×Int),v = .ref t/\H' t=some (.tup [.ref l,.ref h])/\TpK K H' l [.int ln.1,.int ln.2.1,.int ln.2.2.1,.int ln.2.2.2]/\TpK K H' h [.int hn.1,.int hn.2.1,.int hn.2.2.1,.int hn.2.2.2]/\ln=(if e=true then (0,0,0,1) else dG P U L)/\hn=(if e=true then (1,0,0,1) else cC P U L))
inductive Ep (K:W.Frag) (vs:List V) (H:Hp) (Q:VK) (x_3:XK):Prop
 | mk:∀(pc pb pe ps:Addr) (cx cy bx by_ ex ey a b room:Int),(vs = [.ref pc,.ref pb,.ref pe,.ref ps,.int room])->(Cn H pc cx cy)->(Cn H pb bx by_)->(Cn H pe ex ey)->(Sq H ps a b)->(∀(v:V) (H':Hp),Same H H'->Pw K H' v (pwN cx cy bx by_ ex ey a b room) (decide ([bx,by_] = [ex,ey])) (rAl cx cy bx by_ ex ey*b) (rUn cx cy bx by_ ex ey a b) (cg bx by_ ex ey*b)->Q v H')->Ep K vs H Q x_3
theorem zF:zf ["corner","begin","end","square","room","reach","low","high"] ["corner","begin","end","square","room"] (ak (top 42)):=smk
theorem ja{pB pE:Addr}(Cr:Df K mg "part_within" (top 42))(Am:mg "BEGIN" = some (.ref pB))(Cz:mg "END" = some (.ref pE))(hB:∀H,SqT K H pB [.int 0,.int 0,.int 0,.int 1])(hE:∀H,SqT K H pE [.int 1,.int 0,.int 0,.int 1])(tB:∀H,TpK K H pB [.int 0,.int 0,.int 0,.int 1])(tE:∀H,TpK K H pE [.int 1,.int 0,.int 0,.int 1])
  (zH:Fn P w K mg base "leash_order" ["one","other","square"] 2 EI) (Bf:Fn P w K mg base "reach_of" ["corner","begin","end","square"] 1 CL) (zk:Fn P w K mg base "sign_of" ["number"] 1 Bb) (zh:Fn P w K mg base "root_order" ["one","other"] 4 (D3 K)):Fn P w K mg base "part_within" ["corner","begin","end","square","room"] 5 (Ep K):=by
 refine Cr.fn zF (λ_ _ _ _ _ _ us hl=>by obtain⟨_,_,_,_,_,rfl⟩:=ut hl;rfl) (λvs H Q E h=>?_) (λf cdv A outer s H vs Q E hr h=>?_)
 ·obtain⟨pc,pb,pe,ps,cx,cy,bx,by_,ex,ey,a,b,room,rfl,_⟩:=h
  rfl
 ·obtain⟨pc,pb,pe,ps,cx,cy,bx,by_,ex,ey,a,b,room,rfl,c1,c2,c3,c4,k⟩:=h
  refine⟨_,(ai (aQ (aB (wx hr.units0) (pv 1) (pv 2) (aC _)) (am (az (eF (aB lE (aA zH (hr.mono (by decide)) (by rfl) (ad (pv 0) (ad (pv 1) (ad (pv 3) ag)))) (pv 4) (aC _)) (gG (ad (aG (v:=.ref _) (by rfl) Am rfl) (ad (aG (v:=.ref _) (by rfl) Cz rfl) ag))) bT))) aE) (ai (au (i:=5) zF.nd rfl (Or.inl rfl) (aA Bf (hr.mono (by decide)) (by rfl) (ad (pv 0) (ad (pv 1) (ad (pv 2) (ad (pv 3) ag)))))) (ai (aQ (aB eJ (aA zk (hr.mono (by decide)) (by rfl) (ad (aw av (pv 5) af (λ_ _=>rfl)) ag)) (pv 4) (aC _)) (am (az bT)) aE) (ai (au (i:=6) zF.nd rfl (Or.inl rfl) (gG (ad (aw av (pv 5) af (λ_ _=>rfl)) (ad (dm cF af) (ad (aw av (pv 5) af (λ_ _=>rfl)) (ad (aw av (pv 5) af (λ_ _=>rfl)) ag)))))) (ai (au (i:=7) zF.nd rfl (Or.inl rfl) (gG (ad (aw av (pv 5) af (λ_ _=>rfl)) (ad af (ad (aw av (pv 5) af (λ_ _=>rfl)) (ad (aw av (pv 5) af (λ_ _=>rfl)) ag)))))) (ai (aQ (dZ (aB eJ (aA zh (hr.mono (by decide)) (by rfl) (ad (aG (v:=.ref _) (by rfl) Cz rfl) (ad (pv 6) ag))) (pv 4) (aC _)) (eC (aB eJ (aA zh (hr.mono (by decide)) (by rfl) (ad (pv 7) (ad (aG (v:=.ref _) (by rfl) Am rfl) ag))) (pv 4) (aC _)))).pt (am (az bT)) aE) (ai (aQ (aB eJ (aA zh (hr.mono (by decide)) (by rfl) (ad (pv 6) (ad (aG (v:=.ref _) (by rfl) Am rfl) ag))) af (aC _)) (am (au (i:=6) zF.nd rfl (Or.inl rfl) (aG (v:=.ref _) (by rfl) Am rfl))) aE) (ai (aQ (aB iS (aA zh (hr.mono (by decide)) (by rfl) (ad (pv 7) (ad (aG (v:=.ref _) (by rfl) Cz rfl) ag))) af (aC _)) (am (au (i:=7) zF.nd rfl (Or.inl rfl) (aG (v:=.ref _) (by rfl) Cz rfl))) aE) (am (az (gG (ad (pv 6) (ad (pv 7) ag))))))))))))),?_⟩;refine⟨_,rfl,_,rfl,pb,pe,[bx,by_],[ex,ey],rfl,rfl,SqT.of c2.at_,SqT.of c3.at_,_,rfl,aZ (λh1=>?_) (λh1=>?_)⟩
  ·have hs:[bx,by_] = [ex,ey]:=bC h1
   refine⟨_,rfl,_,rfl,_,rfl,_,_,_,_,_,_,_,_,_,rfl,c1,c2,c4,_,rfl,_,_,rfl,rfl,_,rfl,aZ (λh2=>?_) (λh2=>?_)⟩
   ·refine⟨Sp1.sz (by simp),alloc λp H1 s1 e1=>k _ _ s1 (.inr ⟨?_,p,pB,pE,(0,0,0,1),(1,0,0,1),rfl,e1,tB _,tE _,?_,?_⟩)⟩
    ·unfold pwN
     rw[if_pos hs];simp only[ge_iff_le]at h2 ⊢;rw[show decide (room<=lo cx cy bx by_ a b)=true from h2];rfl
    ·rw[decide_eq_true hs];rfl
    ·rw[decide_eq_true hs];rfl
   ·refine k _ _ Same.rfl' (.inl ⟨rfl,?_⟩)
    unfold pwN;rw[if_pos hs];rw[show decide (lo cx cy bx by_ a b>=room)=false from h2];rfl
  ·have hs:¬[bx,by_] = [ex,ey]:=bP h1
   unfold pwN at k;rw[if_neg hs,decide_eq_false hs]at k;refine⟨_,rfl,_,rfl,_,rfl,_,rfl,_,_,_,_,_,_,_,_,_,_,_,_,rfl,c1,c2,c3,c4,λr H1 s1 e1=>?_⟩;obtain⟨_,b1,b2⟩:=c1;obtain⟨_,b3,b4⟩:=c2;obtain⟨_,b5,b6⟩:=c3;obtain⟨_,b7,b8⟩:=c4;have z1:ap (rAl cx cy bx by_ ex ey*b)<=450:=by unfold rAl;walk_at "bl"
   have z2:ap (rUn cx cy bx by_ ex ey a b)<=1000:=by unfold rUn cg rBe;walk_at "bl"
   have z3:ap (cg bx by_ ex ey*b)<=450:=by unfold cg;walk_at "bl"
   generalize rAl cx cy bx by_ ex ey*b=A0 at *;generalize rUn cx cy bx by_ ex ey a b=A1 at *;generalize cg bx by_ ex ey*b=A2 at *
   walk_at "rd"
   refine aZ (λh2=>?_) (λh2=>?_)
   ·exact k _ _ s1 (.inl ⟨rfl,by rw[show decide (sg A1<room)=true from h2];rfl⟩)
   rw[show decide (sg A1<room)=false from h2,Bool.false_or]at k
   walk_at "rd"
   rename_i pl Hl sl el ph Hh sh eh;have r0:ap (0:Int)<=450:=by decide
   have r1:ap (1:Int)<=450:=by decide
   have r2:ap (-1:Int)<=450:=by decide
   have r0':ap (0:Int)<=1000:=by decide
   have RB:∀H,Rt K H pB 0 0 0 1:=λH=>⟨hB H,r0,r0,r0',r1⟩;have RE:∀H,Rt K H pE 1 0 0 1:=λH=>⟨hE H,r1,r0,r0',r1⟩;have RL:Rt K Hh pl A0 (-1) A1 A2:=⟨SqT.of (sh _ _ el),z1,r2,z2,z3⟩;have RH:Rt K Hh ph A0 1 A1 A2:=⟨SqT.of eh,z1,r1,z2,z3⟩;have sm:Same H Hh:=s1.trans (sl.trans sh);refine⟨_,_,_,_,_,_,_,_,_,_,rfl,RE _,RL,_,rfl,_,_,rfl,rfl,_,rfl,aZ (λh3=>?_) (λh3=>?_)⟩
   ·refine k _ _ sm (.inl ⟨rfl,?_⟩)
    rw[show decide (ro 1 0 0 1 A0 (-1) A1 A2<room)=true from h3];rfl
   rw[show decide (ro 1 0 0 1 A0 (-1) A1 A2<room)=false from h3,Bool.false_or]at k;refine⟨_,rfl,_,_,_,_,_,_,_,_,_,_,rfl,RH,RB _,_,rfl,_,_,rfl,rfl,_,rfl,aZ (λh4=>?_) (λh4=>?_)⟩
   ·exact k _ _ sm (.inl ⟨rfl,h4⟩)
   rw[show decide (ro A0 1 A1 A2 0 0 0 1<room)=false from h4]at k;have fin:∀(l h:Addr) (ln hn:Int×Int×Int×Int),(∀H1,Same Hh H1->TpK K H1 l [.int ln.1,.int ln.2.1,.int ln.2.2.1,.int ln.2.2.2])->(∀H1,Same Hh H1->TpK K H1 h [.int hn.1,.int hn.2.1,.int hn.2.2.1,.int hn.2.2.2])->ln=dG A0 A1 A2->hn=cC A0 A1 A2->(xE (xB (oj (Em 6) (oj (Em 7) vQ)))) { nx:=λ_ H'=>Q .non H',rt:=Q } [some (.ref pc),some (.ref pb),some (.ref pe),some (.ref ps),some (.int room),some (.ref r),some (.ref l),some (.ref h)] Hh:=λl h ln hn hl hh e1 e2 =>
    ⟨_,rfl,_,rfl,Sp1.sz (by simp),alloc λp H1 s1 ep=>k _ _ (sm.trans s1) (.inr ⟨rfl,p,l,h,ln,hn,rfl,ep,hl _ s1,hh _ s1,e1,e2⟩)⟩
   have lT:ro A0 (-1) A1 A2 0 0 0 1<0->dG A0 A1 A2=(0,0,0,1):=λz=>by unfold dG;rw[if_pos z]
   have lF:¬ro A0 (-1) A1 A2 0 0 0 1<0->dG A0 A1 A2=(A0,-1,A1,A2):=λz=>by unfold dG;rw[if_neg z]
   have hT:ro A0 1 A1 A2 1 0 0 1>0->cC A0 A1 A2=(1,0,0,1):=λz=>by unfold cC;rw[if_pos z]
   have hF:¬ro A0 1 A1 A2 1 0 0 1>0->cC A0 A1 A2=(A0,1,A1,A2):=λz=>by unfold cC;rw[if_neg z]
   have tl:∀H1,Same Hh H1->TpK K H1 pl [.int A0,.int (-1),.int A1,.int A2]:=λH1 s=>.inl (s _ _ (sh _ _ el));have th:∀H1,Same Hh H1->TpK K H1 ph [.int A0,.int 1,.int A1,.int A2]:=λH1 s=>.inl (s _ _ eh);refine⟨_,rfl,_,_,_,_,_,_,_,_,_,_,rfl,RL,RB _,_,_,rfl,rfl,_,rfl,aZ (λh5=>?_) (λh5=>?_)⟩
   ·refine⟨_,rfl,_,_,_,_,_,_,_,_,_,_,rfl,RH,RE _,_,_,rfl,rfl,_,rfl,aZ (λh6=>?_) (λh6=>?_)⟩
    ·exact fin pB pE (0,0,0,1) (1,0,0,1) (λH1 _=>tB H1) (λH1 _=>tE H1) (lT (bC h5)).symm (hT (bC h6)).symm
    ·exact fin pB ph (0,0,0,1) (A0,1,A1,A2) (λH1 _=>tB H1) th (lT (bC h5)).symm (hF (bP h6)).symm
   ·refine⟨_,rfl,_,_,_,_,_,_,_,_,_,_,rfl,RH,RE _,_,_,rfl,rfl,_,rfl,aZ (λh6=>?_) (λh6=>?_)⟩
    ·exact fin pl pE (A0,-1,A1,A2) (1,0,0,1) tl (λH1 _=>tE H1) (lF (bP h5)).symm (hT (bC h6)).symm
    ·exact fin pl ph (A0,-1,A1,A2) (A0,1,A1,A2) tl th (lF (bP h5)).symm (hF (bP h6)).symm
noncomputable def eQ(qs1 qs2:Crn)(a b room:Int)(i j:Int):Bool:=match qs1[i.toNat]?,qs2[j.toNat]? with
 | some c,some d=>decide (lo c.2.1 c.2.2 d.2.1 d.2.2 a b<room)
 | _,_=>false
theorem oV{qs1 qs2:Crn}{a b room:Int}{i j:Nat}{c d:Addr×Int×Int}(hc:qs1[i]? = some c)(hd:qs2[j]? = some d):eQ qs1 qs2 a b room i j=decide (lo c.2.1 c.2.2 d.2.1 d.2.2 a b<room):=by
 unfold eQ;rw[Int.toNat_natCast,Int.toNat_natCast,hc,hd]
inductive Ez (vs:List V) (H:Hp) (Q:VK) (x_3:XK):Prop
 | mk:∀(l1 l2 sp:Addr) (qs1 qs2:Crn) (a b room:Int),(vs = [.ref l1,.ref l2,.ref sp,.int room])->(LineM H l1 qs1)->(LineM H l2 qs2)->((1<=qs1.length/\qs1.length<=20))->((1<=qs2.length/\qs2.length<=20))->(Sq H sp a b)->(∀d H',Same H H'->k6 H' d (qs1.length - 1) (qs2.length - 1) (eQ qs1 qs2 a b room)->Q (.ref d) H')->Ez vs H Q x_3
inductive CP (vs:List V) (H:Hp) (Q:VK) (x_3:XK):Prop
 | mk:∀(c:Addr) (i j:Int),(vs = [.ref c])->(H c=some (.tup [.int i,.int j]))->((0<=i/\i<=1000))->((0<=j/\j<=1000))->(∀(q:Pr) H',Same H H'->PrAt H' q->prC q (i,j)->Q (.ref q.p) H')->CP vs H Q x_3
theorem xW{H:Hp}{p x y:Addr}{i j:Int}(hp:H p=some (.tup [.ref x,.ref y]))(hx:H x=some (.tup [.int i,.int 1]))(hy:H y=some (.tup [.int j,.int 1]))(bi:0<=i/\i<=1000)(bj:0<=j/\j<=1000):PrAt H ⟨p,x,y,i,1,j,1⟩:=by
 have b1:∀{k:Int},0<=k/\k<=1000->ap k<=10:=λ{k} h=>dj (by omega) h.2;have one:ap (1:Int)<=60:=ar (b1 (k:=1) ⟨by decide,by decide⟩) (by decide);have lw:∀k:Int,Ds k 1:=λk=>⟨Int.le_refl 1,by simp⟩;exact⟨hp,hx,hy,lw i,lw j,bi.1,bj.1,ar (b1 bi) (by decide),one,ar (b1 bj) (by decide),one⟩
theorem Bw:zf ["corner"] ["corner"] (ak (top 54)):=smk
theorem gq(BN:Df K mg "pair_at_corner" (top 54)):Fn P w K mg base "pair_at_corner" ["corner"] 1 CP:=by
 refine BN.fn Bw (λ_ _ _ _ _ _ us hl=>by obtain⟨_,rfl⟩:=d9 hl;rfl) (λvs H Q E h=>?_) (λf cdv A outer s H vs Q E hr h=>?_)
 ·obtain⟨c,i,j,rfl,_⟩:=h
  rfl
 ·obtain⟨c,i,j,rfl,hc,bi,bj,q⟩:=h
  refine⟨_,(am (az (@ay _ _ _ _ _ (@ad _ _ _ _ _ (@ay _ _ _ _ _ (@ad _ _ _ _ _ (aw av (pv 0) af (λ_ _=>rfl)) (@ad _ _ _ _ _ af ag (by rfl)) (by rfl))) (@ad _ _ _ _ _ (@ay _ _ _ _ _ (@ad _ _ _ _ _ (aw av (pv 0) af (λ_ _=>rfl)) (@ad _ _ _ _ _ af ag (by rfl)) (by rfl))) ag (by rfl)) (by rfl))))),?_⟩;refine⟨_,rfl,c,_,_,_,rfl,rfl,SqT.of hc,rfl,sz (by simp),λx H1 s1 f1 n1=>?_⟩;refine⟨_,rfl,c,_,_,_,rfl,rfl,SqT.of (s1 _ _ hc),rfl,sz (by simp),λy H2 s2 f2 n2=>⟨sz (by simp),λp H3 s3 f3 n3=>?_⟩⟩;exact q ⟨p,x,y,i,1,j,1⟩ H3 ((s1.trans s2).trans s3) (xW f3 ((s2.trans s3) _ _ f1) (s3 _ _ f2) bi bj) ⟨rfl,rfl,rfl,rfl⟩
theorem zG:zf ["one","other","square","room","far","i","corner","j","beside"] ["one","other","square","room"] (ak (top 50)):=smk
theorem je(Cw:Df K mg "far_corners" (top 50))(zH:Fn P w K mg base "leash_order" ["one","other","square"] 2 EI)(T:Txt mg):Fn P w K mg base "far_corners" ["one","other","square","room"] 3 Ez:=by
 refine Cw.fn zG (λ_ _ _ _ _ _ us hl=>by obtain⟨_,_,_,_,rfl⟩:=uw hl;rfl) (λvs H Q E h=>?_) (λf cdv A outer s H vs Q E hr h=>?_)
 ·obtain⟨l1,l2,sp,qs1,qs2,a,b,room,rfl,_⟩:=h
  rfl
 ·obtain⟨l1,l2,sp,qs1,qs2,a,b,room,rfl,L1,L2',b1,b2,sq,q⟩:=h
  refine⟨_,(ai (au (i:=4) zG.nd rfl (Or.inl rfl) fS) (ai (bI PassesOwn.never rfl (iw rfl T.z_enumerate (ad (pv 0) ag)) (eE rfl (aV (aK (i:=5) zG.nd rfl (Or.inl rfl)) (aV (aK (i:=6) zG.nd rfl (Or.inl rfl)) cX))) (am (bI PassesOwn.never rfl (iw rfl T.z_enumerate (ad (pv 1) ag)) (eE rfl (aV (aK (i:=7) zG.nd rfl (Or.inl rfl)) (aV (aK (i:=8) zG.nd rfl (Or.inl rfl)) cX))) (am (aQ (aB eJ (aA zH (hr.mono (by decide)) (by rfl) (ad (pv 6) (ad (pv 8) (ad (pv 2) ag)))) (pv 3) (aC _)) (am (dl (bV hr) (pv 4) (ay (ad (pv 5) (ad (pv 7) ag))) dn rfl)) aE))))) (am (az (wv (pv 4)))))),?_⟩;have hl1:(qs1.map λ(q:Addr×Int×Int)=>V.ref q.1).length=qs1.length:=List.length_map _;have hl2:(qs2.map λ(q:Addr×Int×Int)=>V.ref q.1).length=qs2.length:=List.length_map _;generalize hF:eQ qs1 qs2 a b room=F at q;refine λd hd=>?_;have s0:Same H (upd H d (.dT [])):=Same.new hd;refine⟨_,rfl,l1,rfl,⟨_,SqL.of (s0 _ _ L1.lst)⟩,gc (K:=K) (a:=l1) (xs:=qs1.map λ(q:Addr×Int×Int)=>V.ref q.1) (λi σ H'=>∃(z5 z6 z7 z8:Option V),σ = [some (.ref l1),some (.ref l2),some (.ref sp),some (.int room),some (.ref d),z5,z6,z7,z8]/\Same H H'/\H' d=some (.dT (kvF (gP F qs2.length i))))
   ⟨_,_,_,_,rfl,s0,upd_same⟩ (λi σ H' _ ⟨_,_,_,_,_,s',_⟩=>SqL.of (s' _ _ L1.lst)) ?_ ?_⟩
  ·rintro i x pp σ H1 H2 hx ⟨z5,z6,z7,z8,rfl,s1,e1⟩ s2 f2
   rw[List.getElem?_map]at hx;obtain⟨u,hu,rfl⟩:=Option.map_eq_some_iff.mp hx;have iu:=(List.getElem?_eq_some_iff.mp hu).1;have S2:=s1.trans s2;refine⟨pp,_,rfl,SqT.of f2,rfl,_,_,rfl,_,_,rfl,rfl,?_⟩;refine⟨_,rfl,l2,rfl,⟨_,SqL.of (S2 _ _ L2'.lst)⟩,gc (K:=K) (a:=l2) (xs:=qs2.map λ(q:Addr×Int×Int)=>V.ref q.1) (λj σ H'=>∃(z7 z8:Option V),σ = [some (.ref l1),some (.ref l2),some (.ref sp),some (.int room),some (.ref d),some (.int (i:Int)),some (.ref u.1),z7,z8]/\Same H H'/\H' d=some (.dT (kvF (gP F qs2.length i++fN F i j))))
    ⟨_,_,rfl,S2,by rw[show fN F i 0 = [] from rfl,List.append_nil];exact s2 _ _ e1⟩ (λi σ H' _ ⟨_,_,_,s',_⟩=>SqL.of (s' _ _ L2'.lst)) ?_ ?_⟩
   ·rintro j x pp σ H3 H4 hx ⟨z7,z8,rfl,s3,e3⟩ s4 f4
    rw[List.getElem?_map]at hx;obtain⟨v,hv,rfl⟩:=Option.map_eq_some_iff.mp hx;have jv:=(List.getElem?_eq_some_iff.mp hv).1;have S4:=s3.trans s4;have cu:=(L1.mono S4).crn u (List.mem_of_getElem? hu);have cv:=(L2'.mono S4).crn v (List.mem_of_getElem? hv);have e4:=s4 _ _ e3;have fa:F i j=decide (lo u.2.1 u.2.2 v.2.1 v.2.2 a b<room):=by rw[<- hF];exact oV hu hv
    refine⟨pp,_,rfl,SqT.of f4,rfl,_,_,rfl,_,_,rfl,rfl,?_⟩;refine⟨_,rfl,_,rfl,_,rfl,u.1,v.1,sp,_,_,_,_,_,_,rfl,⟨cu.1,eV cu.2.1,eV cu.2.2⟩,⟨cv.1,eV cv.2.1,eV cv.2.2⟩,sq.mono S4,_,rfl,_,_,rfl,rfl,_,rfl,aZ (λg=>?_) (λg=>?_)⟩
    ·rw[<- fa]at g
     refine⟨_,rfl,_,rfl,_,rfl,sz (by simp),λc H5 s5 f5 n5=>?_⟩;have e5:=s5 _ _ e4;have nk:((i:Int),(j:Int))∉gP F qs2.length i++fN F i j:=λz=>by
      rcases List.mem_append.mp z with z|z
      ·have:=(lM.mp z).2.1
       dsimp only at this;omega
      ·have:=(lL.mp z).2.2.1
       dsimp only at this;omega
     have nv:cE (kvF (gP F qs2.length i++fN F i j)) (ck i j)=none:=k7 λz=>nk (lP.mp z);have len:(kvF (gP F qs2.length i++fN F i j)).length<sizeLine:=by
      unfold kvF;rw[List.length_map,List.length_append];have h1:=ml (F:=F) (n:=qs2.length) (i:=i);have h2:=lj (F:=F) (i:=i) (k:=j);have h3:=Nat.mul_le_mul (show i<=20 by omega) b2.2;exact aR (by omega)
     refine⟨d,_,rfl,jm.t (k:=ck i j) e5 f5 len,_,_,rfl,?_,?_⟩
     ·exact λx o e=>by
       rw[aF (λz=>by rw[z,hd]at e;cases e)];exact s5 _ _ (S4 _ _ e)
     ·rw[upd_same,iL _ nv,jK,if_pos g]
      unfold kvF;rw[<- List.append_assoc,List.map_append (l₂:=[_])];rfl
    ·rw[<- fa]at g
     refine⟨_,_,rfl,S4,?_⟩;rw[jK,if_neg (by rw[g];exact Bool.false_ne_true),List.append_nil];exact e4
   ·rintro σ H3 ⟨z7,z8,rfl,s3,e3⟩
    rw[hl2,<- jV]at e3;exact⟨_,_,_,_,rfl,s3,e3⟩
  ·rintro σ H1 ⟨z5,z6,z7,z8,rfl,s1,e1⟩
   rw[hl1]at e1;refine⟨_,rfl,d,_,rfl,e1,λo=>q d _ ?_ ⟨o,?_⟩⟩
   ·exact λx o e=>by
     rw[aF (λz=>by rw[z,hd]at e;cases e)];exact s1 _ _ e
   ·rw[upd_same]
    unfold nM;rw[show qs1.length - 1+1=qs1.length by omega,show qs2.length - 1+1=qs2.length by omega]
theorem sq0(x:Int):0<=x*x:=sqx x
structure Nm(K:W.Frag)(H:Hp)(p:Addr)(l:Int×Int×Int×Int):Prop where
 at_:TpK K H p [.int l.1,.int l.2.1,.int l.2.2.1,.int l.2.2.2]
 b0:ap l.1<=240
 b1:ap l.2.1<=2
 b2:ap l.2.2.1<=470
 b3:ap l.2.2.2<=240
 p2:0<=l.2.2.1
 p3:1<=l.2.2.2
theorem Nm.mono{K:W.Frag}{H H':Hp}{p:Addr}{l:Int×Int×Int×Int}(h:Nm K H p l)(s:Same H H'):Nm K H' p l:=⟨h.at_.mono s.t,h.b0,h.b1,h.b2,h.b3,h.p2,h.p3⟩
theorem rF{cx cy bx by_ ex ey x y:Int}(hne:¬[bx,by_] = [ex,ey])(hy:0<y):Gv (cg bx by_ ex ey) (rAl cx cy bx by_ ex ey) ((cx - bx)*(cx - bx)+(cy - by_)*(cy - by_)) (rBe cx cy bx by_ ex ey) x y (rAl cx cy bx by_ ex ey*y) (cg bx by_ ex ey*y) (rUn cx cy bx by_ ex ey x y):=by
 refine⟨?_,hy,?_,rfl,rfl,rfl⟩
 ·unfold cg
  have h1:=sq0 (ex - bx);have h2:=sq0 (ey - by_);have key:∀z:Int,z≠0->0<z*z:=λz hz=>by
   rcases Int.lt_trichotomy z 0 with h|h|h
   ·exact Int.mul_pos_of_neg_of_neg h h
   ·exact absurd h hz
   ·exact Int.mul_pos h h
  by_cases h:ex - bx=0
  ·have h3:ey - by_≠0:=λz=>hne (by rw[show bx=ex by omega,show by_=ey by omega])
   have:=key _ h3;omega
  ·have:=key _ h
   omega
 ·unfold rBe cg rAl
  grind
theorem x9{cx cy bx by_ x y:Int}:lo cx cy bx by_ x y=sg (x - ((cx - bx)*(cx - bx)+(cy - by_)*(cy - by_))*y):=by
 unfold lo;rw[show(bx - cx)*(bx - cx)=(cx - bx)*(cx - bx) by grind,show(by_ - cy)*(by_ - cy)=(cy - by_)*(cy - by_) by grind]
theorem flat{cx cy bx by_ ex ey:Int}(h:[bx,by_] = [ex,ey]):cg bx by_ ex ey=0/\rAl cx cy bx by_ ex ey=0:=by
 simp only[List.cons.injEq,and_true]at h;obtain⟨rfl,rfl⟩:=h;unfold cg rAl;rw[show bx - bx=0 by omega,show by_ - by_=0 by omega];simp
theorem jI{x:Int}:(sg x<0↔x<0)/\(sg x<1↔x<=0):=by
 rcases Int.lt_trichotomy x 0 with h|h|h
 ·rw[dD h];omega
 ·rw[iJ h];omega
 ·rw[ce h];omega
theorem da(x:Int):-1<=sg x/\sg x<=1:=by
 rcases Int.lt_trichotomy x 0 with h|h|h
 ·rw[dD h];omega
 ·rw[iJ h];omega
 ·rw[ce h];omega
theorem sY(w m u n l:Int):-1<=bH w m u n l/\bH w m u n l<=1:=by
  unfold bH
  split
  · exact da _
  · have pr:∀a b:Int,-1<=a->a<=1->-1<=b->b<=1->-1<=a*b/\a*b<=1:=λa b h1 h2 h3 h4=>by
      have:a = -1\/a=0\/a=1:=by omega
      rcases this with rfl|rfl|rfl <;> omega
    unfold swr;have s1:=da w
    first
      | (split
         · have s2:=da (sg (w*w - m*m*u - n*n*l)+sg (-2*m*n))
           exact pr _ _ s1.1 s1.2 (da _).1 (da _).2
         · exact pr _ _ s1.1 s1.2 (pr _ _ (da _).1 (da _).2 (da _).1 (da _).2).1 (pr _ _ (da _).1 (da _).2 (da _).1 (da _).2).2)
      | exact pr _ _ s1.1 s1.2 (da _).1 (da _).2
theorem xU(a0 a1 a2 a3 b0 b1 b2 b3:Int):-1<=ro a0 a1 a2 a3 b0 b1 b2 b3/\ro a0 a1 a2 a3 b0 b1 b2 b3<=1:=sY _ _ _ _ _
structure FB(P L U:Int):Prop where
 u:0<U
 e:P - L<0\/(P - L)*(P - L)<U
 b:0<P\/P*P<U
section
variable {A B C be x y P L U:Int}
theorem _root_.Sp5.Gv.open1(g:Gv A B C be x y P L U):¬(sg U<1\/ro 1 0 0 1 P (-1) U L<1\/ro P 1 U L 0 0 0 1<1)↔FB P L U:=by
 constructor
 ·intro n
  have u:0<U:=by
   by_cases h:U<=0
   ·exact absurd (.inl (jI.2.mpr h)) n
   ·omega
  refine⟨u,?_,?_⟩
  ·by_cases z:ro 1 0 0 1 P (-1) U L<1
   ·exact absurd (.inr (.inl z)) n
   ·rw[cO P (-1) U L 1 0 0 1,g.lowE]at z
    exact(kD (by omega)).2.2.mp (by omega)
  ·by_cases z:ro P 1 U L 0 0 0 1<1
   ·exact absurd (.inr (.inr z)) n
   ·rw[g.highB]at z
    exact(kC (by omega)).2.2.mp (by omega)
 ·rintro⟨u,e,b⟩ n
  rcases n with n|n|n
  ·have:=jI.2.mp n
   omega
  ·rw[cO P (-1) U L 1 0 0 1,g.lowE]at n
   have:=(kD (W:=P - L) (U:=U) (by omega)).2.2.mpr e;omega
  ·rw[g.highB]at n
   have:=(kC (W:=P) (U:=U) (by omega)).2.2.mpr b;omega
end
theorem rV{A B y U:Int}(ba:ap A<=103)(bb:ap B<=103)(by_:ap y<=130)(bu:ap U<=470)(u0:0<=U)(l0:1<=A*y) :
  (ap (dG (B*y) U (A*y)).1<=240/\ap (dG (B*y) U (A*y)).2.1<=2/\ap (dG (B*y) U (A*y)).2.2.1<=470/\ap (dG (B*y) U (A*y)).2.2.2<=240/\0<=(dG (B*y) U (A*y)).2.2.1/\1<=(dG (B*y) U (A*y)).2.2.2) /\
  (ap (cC (B*y) U (A*y)).1<=240/\ap (cC (B*y) U (A*y)).2.1<=2/\ap (cC (B*y) U (A*y)).2.2.1<=470/\ap (cC (B*y) U (A*y)).2.2.2<=240/\0<=(cC (B*y) U (A*y)).2.2.1/\1<=(cC (B*y) U (A*y)).2.2.2):=by
 have b1:ap (B*y)<=240:=ar (bits_mul bb by_) (by decide);have b2:ap (A*y)<=240:=ar (bits_mul ba by_) (by decide);constructor
 ·unfold dG
  split
  ·decide
  ·exact⟨b1,(by show ap (-1)<=2;decide),bu,b2,u0,l0⟩
 ·unfold cC
  split
  ·decide
  ·exact⟨b1,(by show ap 1<=2;decide),bu,b2,u0,l0⟩
theorem sR{cx cy bx by_ ex ey x y:Int}(w1:ap (ex - bx)<=51)(w2:ap (ey - by_)<=51)(w3:ap (cx - bx)<=51)(w4:ap (cy - by_)<=51)(hx:ap x<=230)(hy:ap y<=130):ap (rUn cx cy bx by_ ex ey x y)<=470:=by
 unfold rUn;have bl:ap (cg bx by_ ex ey)<=103:=ci (bits_mul w1 w1) (bits_mul w2 w2);have bb:ap (rBe cx cy bx by_ ex ey)<=103:=bQ (bits_mul w3 w2) (bits_mul w4 w1);exact ar (bits_mul hy (bQ (n:=336) (ar (bits_mul hx bl) (by decide)) (bits_mul (bits_mul hy bb) bb))) (by decide)
noncomputable def dL(cx cy bx by_ ex ey x y room:Int):Option (N4×N4):=if pwN cx cy bx by_ ex ey x y room=true then none else
 some (if decide ([bx,by_] = [ex,ey])=true then (0,0,0,1) else dG (rAl cx cy bx by_ ex ey*y) (rUn cx cy bx by_ ex ey x y) (cg bx by_ ex ey*y),if decide ([bx,by_] = [ex,ey])=true then (1,0,0,1) else cC (rAl cx cy bx by_ ex ey*y) (rUn cx cy bx by_ ex ey x y) (cg bx by_ ex ey*y))
noncomputable def wth(cx cy bx by_ ex ey a b:Int):Int:=cg bx by_ ex ey*a*a - 2*rAl cx cy bx by_ ex ey*a*b+((cx - bx)*(cx - bx)+(cy - by_)*(cy - by_))*b*b
theorem wX{a b:Int}(ha:0<=a)(hab:a<=b):dO (some ((0,0,0,1),(1,0,0,1))) a b=true:=by
 unfold dO;dsimp only;rw[vI,oJ.1,oJ.2,Bool.and_eq_true,decide_eq_true_eq,decide_eq_true_eq];refine⟨ox.mpr (by omega),?_⟩;have:0<=sg (b - a):=by
  rcases Int.lt_or_eq_of_le (show 0<=b - a by omega) with z|z
  ·rw[ce z];decide
  ·rw[<- z];decide
 omega
theorem vX{x:Int}:(0<=sg x↔0<=x)/\(1<=sg x↔0<x):=by
 have:=jI (x:=x);omega
theorem jT{cx cy bx by_ ex ey x y a b:Int}(hy:0<y)(ha:0<=a)(hab:a<=b)(hb:0<b) :
  dO (dL cx cy bx by_ ex ey x y 0) a b=decide (wth cx cy bx by_ ex ey a b*y<=x*(b*b))/\(wth cx cy bx by_ ex ey a b*y<x*(b*b)->dO (dL cx cy bx by_ ex ey x y 1) a b=true)/\(vM (dL cx cy bx by_ ex ey x y 1) a b=true->wth cx cy bx by_ ex ey a b*y<x*(b*b)):=by
 have bb:0<b*b:=Int.mul_pos hb hb;unfold dL wth
 by_cases hs:[bx,by_] = [ex,ey]
 ·obtain⟨e1,e2⟩:=flat (cx:=cx) (cy:=cy) hs
  rw[e1,e2,decide_eq_true hs,if_pos rfl,if_pos rfl];unfold pwN;rw[if_pos hs,if_pos hs,x9];generalize (cx - bx)*(cx - bx)+(cy - by_)*(cy - by_)=C;have k:=vX (x:=x - C*y);have p:=ki (k:=b*b) (z:=x - C*y) bb;have e:b*b*(x - C*y)=x*(b*b) - (0*a*a - 2*0*a*b+C*b*b)*y:=by grind
  rw[e]at p;have f:=wX ha hab;refine⟨?_,λh=>?_,λh=>?_⟩
  ·by_cases z:sg (x - C*y)>=0
   ·rw[decide_eq_true z,if_neg (by decide),f,eq_comm,decide_eq_true_eq]
    omega
   ·rw[decide_eq_false z,if_pos (by decide),eq_comm]
    exact decide_eq_false (by omega)
  ·rw[decide_eq_true (show sg (x - C*y)>=1 by omega),if_neg (by decide)]
   exact f
  ·by_cases z:sg (x - C*y)>=1
   ·omega
   ·rw[decide_eq_false z,if_pos (by decide)]at h
    cases h
 ·have gv:=rF (cx:=cx) (cy:=cy) (x:=x) hs hy
  rw[decide_eq_false hs,if_neg (show ¬(false=true) by decide),if_neg (show ¬(false=true) by decide)];have ct:=gv.ct a b;have w0:=sqx (rAl cx cy bx by_ ex ey*y*b - a*(cg bx by_ ex ey*y));unfold pwN;rw[if_neg hs,if_neg hs];refine⟨?_,λh=>?_,λh=>?_⟩
  ·by_cases z:sg (rUn cx cy bx by_ ex ey x y)<0\/ro 1 0 0 1 (rAl cx cy bx by_ ex ey*y) (-1) (rUn cx cy bx by_ ex ey x y) (cg bx by_ ex ey*y)<0\/ro (rAl cx cy bx by_ ex ey*y) 1 (rUn cx cy bx by_ ex ey x y) (cg bx by_ ex ey*y) 0 0 0 1<0
   ·rw[if_pos (by simp only[Bool.or_eq_true,decide_eq_true_eq];exact z),eq_comm]
    have fr:=gv.far (gv.shut' z) ha hab hb;exact decide_eq_false (by omega)
   ·rw[if_neg (by simp only[Bool.or_eq_true,decide_eq_true_eq];exact z)]
    have o:=gv.shut z;have bu:0<=b*b*rUn cx cy bx by_ ex ey x y:=Int.mul_nonneg (by omega) o.u;have l1:=(gv.low_le o.u ha hb).1;have h1:=(gv.high_ge o.u hab hb).1;unfold dO;dsimp only;rw[Bool.eq_iff_iff,Bool.and_eq_true,decide_eq_true_eq,decide_eq_true_eq,decide_eq_true_eq,l1,h1,<- ct.1];generalize rAl cx cy bx by_ ex ey*y*b - a*(cg bx by_ ex ey*y)=W at *;generalize b*b*rUn cx cy bx by_ ex ey x y=V at *;constructor
    ·rintro⟨q1,q2⟩
     rcases Int.lt_trichotomy W 0 with w|w|w
     ·omega
     ·rw[w];omega
     ·omega
    ·intro q
     exact⟨λ⟨_,q2⟩=>by omega,λ⟨_,q2⟩=>by omega⟩
  ·have hw:=ct.2.mpr h
   have u0:0<rUn cx cy bx by_ ex ey x y:=by
    have:=ki (k:=b*b) (z:=rUn cx cy bx by_ ex ey x y) bb;omega
   have wge:=gv.wge (a:=a) hab;have wle:=gv.wle (b:=b) ha;have o:FB (rAl cx cy bx by_ ex ey*y) (cg bx by_ ex ey*y) (rUn cx cy bx by_ ex ey x y):=by
    refine⟨u0,?_,?_⟩
    ·by_cases z:rAl cx cy bx by_ ex ey*y - cg bx by_ ex ey*y<0
     ·exact .inl z
     ·have s1:=jG (u:=b*(rAl cx cy bx by_ ex ey*y - cg bx by_ ex ey*y)) (Int.mul_nonneg (by omega) (by omega)) wge
      rw[jP]at s1;exact .inr (Int.lt_of_mul_lt_mul_left (a:=b*b) (by omega) (by omega))
    ·by_cases z:0<rAl cx cy bx by_ ex ey*y
     ·exact .inl z
     ·have s1:=jG (u:=b * -(rAl cx cy bx by_ ex ey*y)) (v:=-(rAl cx cy bx by_ ex ey*y*b - a*(cg bx by_ ex ey*y))) (Int.mul_nonneg (by omega) (by omega)) (by rw[Int.mul_neg];omega)
      rw[jP,Int.neg_mul_neg,Int.neg_mul_neg]at s1;exact .inr (Int.lt_of_mul_lt_mul_left (a:=b*b) (by omega) (by omega))
   have n:=gv.open1.mpr o;rw[if_neg (by simp only[Bool.or_eq_true,decide_eq_true_eq];exact n)];unfold dO;dsimp only;rw[Bool.and_eq_true,decide_eq_true_eq,decide_eq_true_eq,(gv.low_le (Int.le_of_lt u0) ha hb).1,(gv.high_ge (Int.le_of_lt u0) hab hb).1];exact⟨λ⟨_,q2⟩=>by omega,λ⟨_,q2⟩=>by omega⟩
  ·by_cases z:sg (rUn cx cy bx by_ ex ey x y)<1\/ro 1 0 0 1 (rAl cx cy bx by_ ex ey*y) (-1) (rUn cx cy bx by_ ex ey x y) (cg bx by_ ex ey*y)<1\/ro (rAl cx cy bx by_ ex ey*y) 1 (rUn cx cy bx by_ ex ey x y) (cg bx by_ ex ey*y) 0 0 0 1<1
   ·rw[if_pos (by simp only[Bool.or_eq_true,decide_eq_true_eq];exact z)]at h
    cases h
   ·rw[if_neg (by simp only[Bool.or_eq_true,decide_eq_true_eq];exact z)]at h
    have o:=gv.open1.mp z;have ou:=o.u;unfold vM at h;dsimp only at h;rw[Bool.and_eq_true,decide_eq_true_eq,decide_eq_true_eq]at h;have l2:=(gv.low_le (Int.le_of_lt ou) ha hb).2 h.1;have h2:=(gv.high_ge (Int.le_of_lt ou) hab hb).2 h.2;exact ct.2.mp (by omega)
noncomputable def dN(K:W.Frag)(H:Hp)(v:V)(o:Option (N4×N4)):Prop:=match o with
 | none=>v = .non
 | some (l,m)=>∃t p q:Addr,v = .ref t/\H t=some (.tup [.ref p,.ref q])/\Nm K H p l/\Nm K H q m
theorem dN.mono{K:W.Frag}{H H':Hp}{v:V}{o:Option (N4×N4)}(h:dN K H v o)(s:Same H H'):dN K H' v o:=by
 cases o with
 | none=>exact h
 | some lm =>
  obtain⟨t,p,q,e,f,n1,n2⟩:=h;exact⟨t,p,q,e,s _ _ f,n1.mono s,n2.mono s⟩
theorem rM{K:W.Frag}{H:Hp}{v:V}{cx cy bx by_ ex ey x y room:Int}(hr:room=0\/room=1)(hy:0<y)(bx':ap x<=230)(byy:ap y<=130)(w1:ap (ex - bx)<=51)(w2:ap (ey - by_)<=51)(w3:ap (cx - bx)<=51)(w4:ap (cy - by_)<=51)
  (h:Pw K H v (pwN cx cy bx by_ ex ey x y room) (decide ([bx,by_] = [ex,ey])) (rAl cx cy bx by_ ex ey*y) (rUn cx cy bx by_ ex ey x y) (cg bx by_ ex ey*y)):dN K H v (dL cx cy bx by_ ex ey x y room):=by
 unfold dL;rcases h with⟨rfl,hN⟩|⟨hN,t,p,q,ln,hn,rfl,et,al,ah,e1,e2⟩
 ·rw[if_pos hN]
  rfl
 ·rw[if_neg (by rw[hN];decide)]
  have key:(ap ln.1<=240/\ap ln.2.1<=2/\ap ln.2.2.1<=470/\ap ln.2.2.2<=240/\0<=ln.2.2.1/\1<=ln.2.2.2)/\(ap hn.1<=240/\ap hn.2.1<=2/\ap hn.2.2.1<=470/\ap hn.2.2.2<=240/\0<=hn.2.2.1/\1<=hn.2.2.2):=by
   by_cases hs:[bx,by_] = [ex,ey]
   ·rw[decide_eq_true hs,if_pos rfl]at e1 e2
    subst e1 e2;decide
   ·rw[decide_eq_false hs,if_neg (by decide)]at e1 e2
    subst e1 e2;have gv:=rF (cx:=cx) (cy:=cy) (x:=x) hs hy;have u0:0<=rUn cx cy bx by_ ex ey x y:=by
     unfold pwN at hN;rw[if_neg hs,Bool.or_eq_false_iff,decide_eq_false_iff_not]at hN;have:=jI (x:=rUn cx cy bx by_ ex ey x y);rcases hr with rfl|rfl <;> omega
    exact rV (ci (bits_mul w1 w1) (bits_mul w2 w2)) (ci (bits_mul w3 w1) (bits_mul w4 w2)) byy (sR w1 w2 w3 w4 bx' byy) u0 (Int.mul_pos gv.pa hy)
  rw[<- e1,<- e2];exact⟨t,p,q,rfl,et,⟨al,key.1.1,key.1.2.1,key.1.2.2.1,key.1.2.2.2.1,key.1.2.2.2.2.1,key.1.2.2.2.2.2⟩,⟨ah,key.2.1,key.2.2.1,key.2.2.2.1,key.2.2.2.2.1,key.2.2.2.2.2.1,key.2.2.2.2.2.2⟩⟩
noncomputable def dk(k i j:Int):cY:=[.inl k,.inl i,.inl j]
theorem nO{k i j k' i' j':Int}(h:dk k i j=dk k' i' j'):k=k'/\i=i'/\j=j':=by
 unfold dk at h;simp only[List.cons.injEq,Sum.inl.injEq,and_true]at h;exact h
noncomputable def a7(d:Addr)(H H':Hp):Prop:=∀b o,b≠d->H b=some o->H' b=some o
theorem a7.of{d:Addr}{H H':Hp}(s:Same H H'):a7 d H H':=λb o _ e=>s b o e
theorem a7.trans{d:Addr}{H H1 H2:Hp}(a:a7 d H H1)(b:a7 d H1 H2):a7 d H H2:=λc o n e=>b c o n (a c o n e)
theorem a7.upd{d:Addr}{H:Hp}{o:HO}:a7 d H (upd H d o):=λb o' n e=>by rw[aF n];exact e
theorem a7.t{d:Addr}{H H':Hp}(b:a7 d H H')(hd:∀xs,H d≠some (.tup xs)):SameT H H':=λx xs e=>b x _ (λz=>hd xs (by rw[<- z];exact e)) e
theorem a7.same{d:Addr}{H0 H H':Hp}(b:a7 d H H')(s:Same H0 H)(h:H0 d=none):Same H0 H':=λc o e=>b c o (λz=>by rw[z,h]at e;cases e) (s c o e)
noncomputable def NoT(o:HO):Prop:=(∀xs,o≠.tup xs)/\∀ob xs,o≠.frz ob (.tup xs)
theorem ka{K:W.Frag}{H H':Hp}{a d:Addr}{xs:List V}{od:HO}(h:TpK K H a xs)(b:a7 d H H')(hd:H d=some od)(n:NoT od):TpK K H' a xs:=h.imp_left λh=>b _ _ (λz=>n.1 xs (by rw[z,hd]at h;cases h;rfl)) h
theorem dN.but{K:W.Frag}{H H':Hp}{v:V}{o:Option (N4×N4)}{d:Addr}{od:HO}(h:dN K H v o)(b:a7 d H H')(hd:H d=some od)(n:NoT od):dN K H' v o:=by
 cases o with
 | none=>exact h
 | some lm =>
  obtain⟨t,p,q,e,f,n1,n2⟩:=h;exact⟨t,p,q,e,b _ _ (λz=>n.1 _ (by rw[z,hd]at f;cases f;rfl)) f,⟨ka n1.at_ b hd n,n1.b0,n1.b1,n1.b2,n1.b3,n1.p2,n1.p3⟩,⟨ka n2.at_ b hd n,n2.b0,n2.b1,n2.b2,n2.b3,n2.p2,n2.p3⟩⟩
theorem kE{kvs:List (List Key×V)}:NoT (.dT kvs):=⟨(λ_ z=>by cases z),(λ_ _ z=>by cases z)⟩
structure zT(K:W.Frag)(H:Hp)(d:Addr)(G:Int->Int->Int->Option (N4×N4))(D:Int->Int->Int->Prop)(n:Nat):Prop where
 ex:∃kvs:List (List Key×V),H d=some (.dT kvs)/\kvs.length=n/\(∀k i j,D k i j->∃v,cE kvs (dk k i j)=some v/\dN K H v (G k i j))/\∀k i j,¬D k i j->cE kvs (dk k i j)=none
theorem zT.mono{K:W.Frag}{H H':Hp}{d:Addr}{G:Int->Int->Int->Option (N4×N4)}{D:Int->Int->Int->Prop}{n:Nat}(h:zT K H d G D n)(s:Same H H'):zT K H' d G D n:=by
 obtain⟨kvs,e,l,a,b⟩:=h.ex;exact⟨kvs,s _ _ e,l,λk i j x=>let ⟨v,e,g⟩:=a k i j x;⟨v,e,g.mono s⟩,b⟩
theorem zT.congr{K:W.Frag}{H:Hp}{d:Addr}{G:Int->Int->Int->Option (N4×N4)}{D D':Int->Int->Int->Prop}{n n':Nat}(h:zT K H d G D n)(e:∀k i j,D k i j↔D' k i j)(en:n=n'):zT K H d G D' n':=by
 subst en;obtain⟨kvs,e',l,a,b⟩:=h.ex;exact⟨kvs,e',l,λk i j x=>a k i j ((e k i j).mpr x),λk i j x=>b k i j λy=>x ((e k i j).mp y)⟩
theorem rs0{A p q:Prop}{z:Int}{j:Nat}:((A\/(p/\q/\0<=z/\z<(j:Int)))\/(p/\q/\z=(j:Int)))↔A\/(p/\q/\0<=z/\z<((j+1:Nat):Int)):=by
 constructor
 ·rintro((h|⟨a,b,c,d⟩)|⟨a,b,c⟩)
  ·exact .inl h
  ·exact .inr ⟨a,b,c,by clear a b c;omega⟩
  ·exact .inr ⟨a,b,by clear a b;omega,by clear a b;omega⟩
 ·rintro(h|⟨a,b,c,d⟩)
  ·exact .inl (.inl h)
  ·rcases Int.lt_or_eq_of_le (show z<=(j:Int) by clear a b c;omega) with e|e
   ·exact .inl (.inr ⟨a,b,c,e⟩)
   ·exact .inr ⟨a,b,e⟩
theorem rs1{A p q:Prop}{z:Int}{j:Nat}:((A\/(p/\q/\0<=z/\z<(j:Int)))\/(p/\z=(j:Int)/\q))↔A\/(p/\q/\0<=z/\z<((j+1:Nat):Int)):=by
 rw[and_comm (a:=z=(j:Int)) (b:=q)];exact rs0
theorem re0{p:Prop}{x y M:Int}{i c:Nat}(e:(c:Int)=M):((p/\(0<=x/\x<(i:Int))/\0<=y/\y<M)\/(p/\x=(i:Int)/\0<=y/\y<(c:Int)))↔p/\(0<=x/\x<((i+1:Nat):Int))/\0<=y/\y<M:=by
 subst e;constructor
 ·rintro(⟨a,b,c⟩|⟨a,b,c⟩)
  ·exact⟨a,⟨b.1,by clear a c;omega⟩,c⟩
  ·exact⟨a,⟨by clear a c;omega,by clear a c;omega⟩,c⟩
 ·rintro⟨a,b,c⟩
  rcases Int.lt_or_eq_of_le (show x<=(i:Int) by clear a c;omega) with e|e
  ·exact .inl ⟨a,⟨b.1,e⟩,c⟩
  ·exact .inr ⟨a,e,c⟩
theorem re1{A p:Prop}{x y M:Int}{j c:Nat}(e:(c:Int)=M):((A\/(p/\(0<=x/\x<M)/\0<=y/\y<(j:Int)))\/(p/\y=(j:Int)/\0<=x/\x<(c:Int)))↔A\/(p/\(0<=x/\x<M)/\0<=y/\y<((j+1:Nat):Int)):=by
 subst e;constructor
 ·rintro((h|⟨a,b,c⟩)|⟨a,b,c⟩)
  ·exact .inl h
  ·exact .inr ⟨a,b,c.1,by clear a b;omega⟩
  ·exact .inr ⟨a,c,by clear a c;omega,by clear a c;omega⟩
 ·rintro(h|⟨a,b,c⟩)
  ·exact .inl (.inl h)
  ·rcases Int.lt_or_eq_of_le (show y<=(j:Int) by clear a b;omega) with e|e
   ·exact .inl (.inr ⟨a,b,c.1,e⟩)
   ·exact .inr ⟨a,e,b⟩
theorem oH{x n:Int}:x<n↔x<=n - 1:=by omega
theorem zT.put{K:W.Frag}{H:Hp}{d t:Addr}{G:Int->Int->Int->Option (N4×N4)}{D:Int->Int->Int->Prop}{n:Nat}{k i j:Int}{v:V}(h:zT K H d G D n)(ht:H t=some (.tup ((dk k i j).map kV)))(g:dN K H v (G k i j))(new:¬D k i j)(hn:n<1000) :
  ∃H',jm H d (.ref t) v H'/\zT K H' d G (λk' i' j'=>D k' i' j'\/(k'=k/\i'=i/\j'=j)) (n+1)/\a7 d H H':=by
 obtain⟨kvs,e,l,a,b⟩:=h.ex;refine⟨_,jm.t (k:=dk k i j) (v:=v) e ht (by have:=aR (n:=kvs.length) (by omega);exact this),⟨_,upd_same,?_,λk' i' j' x=>?_,λk' i' j' x=>?_⟩,a7.upd⟩
 ·rw[iL _ (b k i j new),List.length_append,l];rfl
 ·rw[eA]
  by_cases z:dk k' i' j'=dk k i j
  ·rw[if_pos z]
   obtain⟨rfl,rfl,rfl⟩:=nO z;exact⟨v,rfl,g.but a7.upd e kE⟩
  ·rw[if_neg z]
   rcases x with x|⟨rfl,rfl,rfl⟩
   ·obtain⟨v',e',g'⟩:=a k' i' j' x
    exact⟨v',e',g'.but a7.upd e kE⟩
   ·exact absurd rfl z
 ·rw[eA,if_neg (λz=>x (.inr (nO z)))]
  exact b k' i' j' λy=>x (.inl y)
theorem zT.get{K:W.Frag}{H:Hp}{d t:Addr}{G:Int->Int->Int->Option (N4×N4)}{D:Int->Int->Int->Prop}{n:Nat}{k i j:Int}(h:zT K H d G D n)(ht:H t=some (.tup ((dk k i j).map kV))):∃o,er H d (.ref t) o/\(D k i j->∃v,o=some v/\dN K H v (G k i j))/\(¬D k i j->o=none):=by
 obtain⟨kvs,e,l,a,b⟩:=h.ex;exact⟨_,er.t e ht,a k i j,b k i j⟩
noncomputable def DIn(n m:Int)(k i j:Int):Prop:=(k=0/\(0<=i/\i<=n)/\0<=j/\j<m)\/(k=1/\(0<=i/\i<n)/\0<=j/\j<=m)
noncomputable def cnX(qs:Crn)(i:Int):Int:=(qs.getD i.toNat (0,0,0)).2.1
noncomputable def cnY(qs:Crn)(i:Int):Int:=(qs.getD i.toNat (0,0,0)).2.2
noncomputable def cL(qs rs:Crn)(a b room:Int)(k i j:Int):Option (N4×N4) :=
 if k=0 then dL (cnX qs i) (cnY qs i) (cnX rs j) (cnY rs j) (cnX rs (j+1)) (cnY rs (j+1)) a b room
 else dL (cnX rs j) (cnY rs j) (cnX qs i) (cnY qs i) (cnX qs (i+1)) (cnY qs (i+1)) a b room
noncomputable def jl(K:W.Frag)(H:Hp)(d:Addr)(n m:Int)(G:Int->Int->Int->Option (N4×N4)):Prop:=∃c,zT K H d G (DIn n m) c
theorem jl.mono{K:W.Frag}{H H':Hp}{d:Addr}{n m:Int}{G:Int->Int->Int->Option (N4×N4)}(h:jl K H d n m G)(s:Same H H'):jl K H' d n m G:=let ⟨c,x⟩:=h;⟨c,x.mono s⟩
noncomputable def dbl(qs:Crn):Crn:=if qs.length=1 then qs++qs else qs
theorem kQ{qs:Crn}(h:1<=qs.length/\qs.length<=10):2<=(dbl qs).length/\(dbl qs).length<=10:=by
 unfold dbl
 split
 ·rw[List.length_append];omega
 ·omega
theorem _root_.Sp7.LineM.cn{H:Hp}{l:Addr}{qs:Crn}(L:LineM H l qs){i:Int}(h0:0<=i)(h1:i<(qs.length:Int)):∃p,atI (qs.map λ(q:Addr×Int×Int)=>V.ref q.1) i=some (.ref p)/\Cn H p (cnX qs i) (cnY qs i):=by
 have hi:i.toNat<qs.length:=by omega
 have e:qs.getD i.toNat (0,0,0)=qs[i.toNat]:=by rw[List.getD_eq_getElem?_getD,List.getElem?_eq_getElem hi];rfl
 have c:=L.crn _ (List.getElem_mem hi);refine⟨qs[i.toNat].1,?_,?_⟩
 ·have:atI (qs.map λ(q:Addr×Int×Int)=>V.ref q.1) ((i.toNat:Nat):Int)=some (.ref qs[i.toNat].1):=cw (by rw[List.getElem?_map,List.getElem?_eq_getElem hi];rfl)
  rw[show((i.toNat:Nat):Int)=i by omega]at this;exact this
 ·unfold cnX cnY
  rw[e];exact⟨c.1,eV c.2.1,eV c.2.2⟩
theorem oQ{K:W.Frag}{H:Hp}{v:V}{p q r s:Addr}{cx cy bx by_ ex ey a b room:Int}(hr:room=0\/room=1)(hb:0<b)(c1:Cn H p cx cy)(c2:Cn H q bx by_)(c3:Cn H r ex ey)(sq:Sq H s a b)
  (h:Pw K H v (pwN cx cy bx by_ ex ey a b room) (decide ([bx,by_] = [ex,ey])) (rAl cx cy bx by_ ex ey*b) (rUn cx cy bx by_ ex ey a b) (cg bx by_ ex ey*b)):dN K H v (dL cx cy bx by_ ex ey a b room) :=
 rM hr hb sq.ba sq.bb (bQ c3.bx c2.bx) (bQ c3.by_ c2.by_) (bQ c1.bx c2.bx) (bQ c1.by_ c2.by_) h
inductive En (vs:List V) (H:Hp) (Q:VK) (x_3:XK):Prop
 | mk:∀(l:Addr) (qs:Crn),(vs = [.ref l])->(LineM H l qs)->((1<=qs.length/\qs.length<=10))->(∀r H',Same H H'->LineM H' r (dbl qs)->Q (.ref r) H')->En vs H Q x_3
inductive CT (K:W.Frag) (vs:List V) (H:Hp) (Q:VK) (x_3:XK):Prop
 | mk:∀(l1 l2 sp:Addr) (qs rs:Crn) (a b room:Int),(vs = [.ref l1,.ref l2,.ref sp,.int room])->(LineM H l1 qs)->(LineM H l2 rs)->((2<=qs.length/\qs.length<=10))->((2<=rs.length/\rs.length<=10))->((Sq H sp a b/\0<b))->((room=0\/room=1))->(∀d H',Same H H'->H d=none->jl K H' d ((qs.length:Int) - 1) ((rs.length:Int) - 1) (cL qs rs a b room)->Q (.ref d) H')->CT K vs H Q x_3
structure AF(K:W.Frag)(C:Addr)(H:Hp)(f:Addr)(n m:Nat)(room:Int)(G:Int->Int->Int->Option (N4×N4))(F:Int->Int->Bool):Prop where
 ex:∃dx lt d fr,H f=some (.ins C dx [("room",.int room),("last",.ref lt),("doors",.ref d),("far",.ref fr)])/\H lt=some (.tup [.int (n:Int),.int (m:Int)])/\jl K H d n m G/\k6 H fr n m F
theorem AF.mono{K:W.Frag}{C:Addr}{H H':Hp}{f:Addr}{n m:Nat}{room:Int}{G:Int->Int->Int->Option (N4×N4)}{F:Int->Int->Bool}(h:AF K C H f n m room G F)(s:Same H H'):AF K C H' f n m room G F:=by
 obtain⟨dx,lt,d,fr,h1,h2,h3,h4⟩:=h.ex;exact⟨dx,lt,d,fr,s _ _ h1,s _ _ h2,h3.mono s,h4.mono s⟩
noncomputable def d5(qs:Crn):Nat:=(dbl qs).length - 1
inductive B6 (K:W.Frag) (C:Addr) (vs:List V) (H:Hp) (Q:VK) (x_3:XK):Prop
 | mk:∀(f dx l1 l2 sp:Addr) (qs rs:Crn) (a b room:Int),(vs = [.ref f,.ref l1,.ref l2,.ref sp,.int room])->(H f=some (.ins C dx []))->(LineM H l1 qs)->(LineM H l2 rs)->((1<=qs.length/\qs.length<=10))->((1<=rs.length/\rs.length<=10))->((Sq H sp a b/\0<b))->((room=0\/room=1))->(∀H',a7 f H H'->AF K C H' f (d5 qs) (d5 rs) room (cL (dbl qs) (dbl rs) a b room) (eQ (dbl qs) (dbl rs) a b room)->Q .non H')->B6 K C vs H Q x_3
theorem Bu:zf ["line"] ["line"] (ak (top 48)):=smk
theorem gh(BL:Df K mg "with_a_stretch" (top 48))(T:Txt mg):Fn P w K mg base "with_a_stretch" ["line"] 1 En:=by
 refine BL.fn Bu (λ_ _ _ _ _ _ us hl=>by obtain⟨_,rfl⟩:=d9 hl;rfl) (λvs H Q E h=>?_) (λf cdv A outer s H vs Q E hr h=>?_)
 ·obtain⟨l,qs,rfl,_⟩:=h
  rfl
 ·obtain⟨l,qs,rfl,L,hl,k⟩:=h
  refine⟨_,(am (az (eF (aB cI (aI aL (by rfl) T.z_len cz (ad (pv 0) ag)) af (aC _)) (ao ix (pv 0) (pv 0)) (pv 0)))),?_⟩;have hll:(qs.map λ(q:Addr×Int×Int)=>V.ref q.1).length=qs.length:=List.length_map _;unfold dbl at k;refine⟨_,rfl,l,_,rfl,.inl (SqL.of L.lst),rfl,_,rfl,?_⟩;rw[hll,di];refine aZ (λc=>?_) (λc=>?_)
  ·have c:qs.length=1:=by have:((qs.length:Nat):Int)=1:=bC c;omega
   rw[if_pos c]at k;refine⟨_,rfl,_,rfl,l,l,_,_,rfl,rfl,L.lst,L.lst,sz (by simp;omega),λr H1 s1 f1 _=>k r H1 s1 ⟨by rw[f1,List.map_append],λq hq=>?_⟩⟩;rcases List.mem_append.mp hq with h|h
   ·exact(L.mono s1).crn q h
   ·exact(L.mono s1).crn q h
  ·have c:¬qs.length=1:=λz=>bP c (by rw[z];rfl)
   rw[if_neg c]at k;exact⟨_,rfl,k l H (Same.refl _) L⟩
theorem zL:zf ["one","other","square","room","doors","i","corner","j"] ["one","other","square","room"] (ak (top 49)):=smk
theorem mi(DT:Df K mg "doors_of" (top 49))(V_UPRIGHT:∃tk,mg "UPRIGHT" = some (.int 0 tk))(V_LEVEL:∃tk,mg "LEVEL" = some (.int 1 tk))(Ah:Fn P w K mg base "part_within" ["corner","begin","end","square","room"] 5 (Ep K))(zr:Fn P w K mg base "last_of" ["line"] 1 Bs)(T:Txt mg):Fn P w K mg base "doors_of" ["one","other","square","room"] 6 (CT K):=by
 refine DT.fn zL (λ_ _ _ _ _ _ us hl=>by obtain⟨_,_,_,_,rfl⟩:=uw hl;rfl) (λvs H Q E h=>?_) (λf cdv A outer s H vs Q E hr h=>?_)
 ·obtain⟨l1,l2,sp,qs,rs,a,b,room,rfl,_⟩:=h
  rfl
 ·obtain⟨l1,l2,sp,qs,rs,a,b,room,rfl,L1,L2,hq,hr',⟨sq,hb⟩,hroom,k⟩:=h
  obtain⟨tU,zp⟩:=V_UPRIGHT;obtain⟨tL,AE⟩:=V_LEVEL;refine⟨_,(ai (au (i:=4) zL.nd rfl (Or.inl rfl) fS) (ai (bI PassesOwn.never rfl (iw rfl T.z_enumerate (ad (pv 0) ag)) (eE rfl (aV (aK (i:=5) zL.nd rfl (Or.inl rfl)) (aV (aK (i:=6) zL.nd rfl (Or.inl rfl)) cX))) (am (bI PassesOwn.never rfl (bW rfl T.z_range (ad (aA zr (hr.mono (by decide)) (by rfl) (ad (pv 1) ag)) ag)) (aK (i:=7) zL.nd rfl (Or.inl rfl)) (am (dl (bV hr) (pv 4) (ay (ad (aG (v:=.int 0) (by rfl) zp ⟨_,rfl⟩) (ad (pv 5) (ad (pv 7) ag)))) (aA Ah (hr.mono (by decide)) (by rfl) (ad (pv 6) (ad (aw bA (pv 1) (pv 7) (λ_ _=>rfl)) (ad (aw bA (pv 1) (ao aO (pv 7) af) (λ_ _=>rfl)) (ad (pv 2) (ad (pv 3) ag)))))) rfl))))) (ai (bI PassesOwn.never rfl (iw rfl T.z_enumerate (ad (pv 1) ag)) (eE rfl (aV (aK (i:=7) zL.nd rfl (Or.inl rfl)) (aV (aK (i:=6) zL.nd rfl (Or.inl rfl)) cX))) (am (bI PassesOwn.never rfl (bW rfl T.z_range (ad (aA zr (hr.mono (by decide)) (by rfl) (ad (pv 0) ag)) ag)) (aK (i:=5) zL.nd rfl (Or.inl rfl)) (am (dl (bV hr) (pv 4) (ay (ad (aG (v:=.int 1) (by rfl) AE ⟨_,rfl⟩) (ad (pv 5) (ad (pv 7) ag)))) (aA Ah (hr.mono (by decide)) (by rfl) (ad (pv 6) (ad (aw bA (pv 0) (pv 5) (λ_ _=>rfl)) (ad (aw bA (pv 0) (ao aO (pv 5) af) (λ_ _=>rfl)) (ad (pv 2) (ad (pv 3) ag)))))) rfl))))) (am (az (pv 4)))))),?_⟩;have hl1:(qs.map λ(q:Addr×Int×Int)=>V.ref q.1).length=qs.length:=List.length_map _;have hl2:(rs.map λ(q:Addr×Int×Int)=>V.ref q.1).length=rs.length:=List.length_map _;generalize hG:cL qs rs a b room=G at k;have G0:∀i j:Int,G 0 i j=dL (cnX qs i) (cnY qs i) (cnX rs j) (cnY rs j) (cnX rs (j+1)) (cnY rs (j+1)) a b room:=λi j=>by rw[<- hG];rfl
  have G1:∀i j:Int,G 1 i j=dL (cnX rs j) (cnY rs j) (cnX qs i) (cnY qs i) (cnX qs (i+1)) (cnY qs (i+1)) a b room:=λi j=>by rw[<- hG];rfl
  refine λd hd=>?_;have s0:Same H (upd H d (.dT [])):=Same.new hd;refine⟨_,rfl,l1,rfl,⟨_,SqL.of (s0 _ _ L1.lst)⟩,gc (K:=K) (a:=l1) (xs:=qs.map λ(q:Addr×Int×Int)=>V.ref q.1) (λi σ H'=>∃(z5 z6 z7:Option V),σ = [some (.ref l1),some (.ref l2),some (.ref sp),some (.int room),some (.ref d),z5,z6,z7]/\Same H H'/\zT K H' d G (λk' i' j'=>k'=0/\(0<=i'/\i'<(i:Int))/\0<=j'/\j'<(rs.length:Int) - 1) (i*(rs.length - 1)))
   ⟨_,_,_,rfl,s0,[],upd_same,(by simp),λk' i' j' h=>by omega,λ_ _ _ _=>rfl⟩ (λi σ H' _ ⟨_,_,_,_,s',_⟩=>SqL.of (s' _ _ L1.lst)) ?_ ?_⟩
  ·rintro i x pp σ H1 H2 hx ⟨z5,z6,z7,rfl,s1,e1⟩ s2 f2
   have hi:=(List.getElem?_eq_some_iff.mp hx).1;rw[hl1]at hi;obtain⟨pc,ac,c1⟩:=L1.cn (i:=(i:Int)) (by omega) (by omega);obtain rfl:x = .ref pc:=by
    have:=cw hx;rw[ac]at this;cases this;rfl
   have S2:=s1.trans s2;refine⟨pp,_,rfl,SqT.of f2,rfl,_,_,rfl,_,_,rfl,rfl,?_⟩;refine⟨_,rfl,l2,_,rfl,S2 _ _ L2.lst,_,rfl,by omega,by omega,?_⟩;have en:(((rs.map λ(q:Addr×Int×Int)=>V.ref q.1).length:Nat):Int) - 1=((rs.length - 1:Nat):Int):=by omega
   rw[en,Int.toNat_natCast];refine bR (n:=rs.length - 1) (lo:=0) (λj σ H'=>∃(z7:Option V),σ = [some (.ref l1),some (.ref l2),some (.ref sp),some (.int room),some (.ref d),some (.int (i:Int)),some (.ref pc),z7]/\Same H H'/\zT K H' d G (λk' i' j'=>(k'=0/\(0<=i'/\i'<(i:Int))/\0<=j'/\j'<(rs.length:Int) - 1)\/(k'=0/\i'=(i:Int)/\0<=j'/\j'<(j:Int))) (i*(rs.length - 1)+j))
    ⟨_,rfl,S2,(e1.mono s2).congr (λk' i' j'=>⟨.inl,λh=>h.elim id λz=>absurd z.2.2 (by omega)⟩) rfl⟩ ?_ ?_
   ·rintro j σ H3 hj ⟨z7,rfl,s3,e3⟩
    rw[Int.zero_add];obtain⟨pb,ab,c2⟩:=L2.cn (i:=(j:Int)) (by omega) (by omega);obtain⟨pe,ae,c3⟩:=L2.cn (i:=(j:Int)+1) (by omega) (by omega);have S3:=SqL.of (K:=K) (s3 _ _ L2.lst);refine⟨_,rfl,_,rfl,_,rfl,l2,_,_,_,rfl,rfl,S3,ab,_,rfl,_,rfl,_,_,rfl,rfl,l2,_,_,_,rfl,rfl,S3,ae,_,rfl,_,rfl,pc,pb,pe,sp,_,_,_,_,_,_,a,b,room,rfl,c1.mono s3,c2.mono s3,c3.mono s3,sq.mono s3,λv H4 s4 pw=>?_⟩;have S4:=s3.trans s4;refine⟨_,rfl,_,rfl,_,rfl,sz (by simp),λt H5 s5 f5 _=>?_⟩;have S5:=S4.trans s5;have gv:dN K H5 v (G 0 i j):=by
     rw[G0];exact(oQ hroom hb (c1.mono S4) (c2.mono S4) (c3.mono S4) (sq.mono S4) pw).mono s5
    obtain⟨H6,dp,e6,b6⟩:=((e3.mono s4).mono s5).put (k:=0) (i:=(i:Int)) (j:=(j:Int)) f5 gv (by omega) (by
     have:=Nat.mul_le_mul (show i<=10 by omega) (show rs.length - 1<=9 by omega);omega)
    exact⟨d,H6,rfl,dp,_,rfl,b6.same S5 hd,e6.congr (λ_ _ _=>rs0) (by omega)⟩
   ·rintro σ H3 ⟨z7,rfl,s3,e3⟩
    exact⟨_,_,_,rfl,s3,e3.congr (λ_ _ _=>re0 (by omega)) (by rw[Nat.add_mul,Nat.one_mul])⟩
  ·rintro σ H1 ⟨z5,z6,z7,rfl,s1,e1⟩
   rw[hl1]at e1;refine⟨_,rfl,l2,rfl,⟨_,SqL.of (s1 _ _ L2.lst)⟩,gc (K:=K) (a:=l2) (xs:=rs.map λ(q:Addr×Int×Int)=>V.ref q.1) (λj σ H'=>∃(z5 z6 z7:Option V),σ = [some (.ref l1),some (.ref l2),some (.ref sp),some (.int room),some (.ref d),z5,z6,z7]/\Same H H'/\zT K H' d G (λk' i' j'=>(k'=0/\(0<=i'/\i'<(qs.length:Int))/\0<=j'/\j'<(rs.length:Int) - 1)\/(k'=1/\(0<=i'/\i'<(qs.length:Int) - 1)/\0<=j'/\j'<(j:Int))) (qs.length*(rs.length - 1)+j*(qs.length - 1)))
    ⟨_,_,_,rfl,s1,e1.congr (λk' i' j'=>⟨.inl,λh=>h.elim id λz=>absurd z.2.2 (by omega)⟩) (by simp)⟩ (λi σ H' _ ⟨_,_,_,_,s',_⟩=>SqL.of (s' _ _ L2.lst)) ?_ ?_⟩
   ·rintro j x pp σ H1 H2 hx ⟨z5,z6,z7,rfl,s1,e1⟩ s2 f2
    have hj:=(List.getElem?_eq_some_iff.mp hx).1;rw[hl2]at hj;obtain⟨pc,ac,c1⟩:=L2.cn (i:=(j:Int)) (by omega) (by omega);obtain rfl:x = .ref pc:=by
     have:=cw hx;rw[ac]at this;cases this;rfl
    have S2:=s1.trans s2;refine⟨pp,_,rfl,SqT.of f2,rfl,_,_,rfl,_,_,rfl,rfl,?_⟩;refine⟨_,rfl,l1,_,rfl,S2 _ _ L1.lst,_,rfl,by omega,by omega,?_⟩;have en:(((qs.map λ(q:Addr×Int×Int)=>V.ref q.1).length:Nat):Int) - 1=((qs.length - 1:Nat):Int):=by omega
    rw[en,Int.toNat_natCast];refine bR (n:=qs.length - 1) (lo:=0) (λi σ H'=>∃(z5:Option V),σ = [some (.ref l1),some (.ref l2),some (.ref sp),some (.int room),some (.ref d),z5,some (.ref pc),some (.int (j:Int))]/\Same H H'/\zT K H' d G (λk' i' j'=>((k'=0/\(0<=i'/\i'<(qs.length:Int))/\0<=j'/\j'<(rs.length:Int) - 1)\/(k'=1/\(0<=i'/\i'<(qs.length:Int) - 1)/\0<=j'/\j'<(j:Int)))\/(k'=1/\j'=(j:Int)/\0<=i'/\i'<(i:Int))) (qs.length*(rs.length - 1)+j*(qs.length - 1)+i))
     ⟨_,rfl,S2,(e1.mono s2).congr (λk' i' j'=>⟨.inl,λh=>h.elim id λz=>absurd z.2.2 (by omega)⟩) rfl⟩ ?_ ?_
    ·rintro i σ H3 hi ⟨z7,rfl,s3,e3⟩
     rw[Int.zero_add];obtain⟨pb,ab,c2⟩:=L1.cn (i:=(i:Int)) (by omega) (by omega);obtain⟨pe,ae,c3⟩:=L1.cn (i:=(i:Int)+1) (by omega) (by omega);have S3:=SqL.of (K:=K) (s3 _ _ L1.lst);refine⟨_,rfl,_,rfl,_,rfl,l1,_,_,_,rfl,rfl,S3,ab,_,rfl,_,rfl,_,_,rfl,rfl,l1,_,_,_,rfl,rfl,S3,ae,_,rfl,_,rfl,pc,pb,pe,sp,_,_,_,_,_,_,a,b,room,rfl,c1.mono s3,c2.mono s3,c3.mono s3,sq.mono s3,λv H4 s4 pw=>?_⟩;have S4:=s3.trans s4;refine⟨_,rfl,_,rfl,_,rfl,sz (by simp),λt H5 s5 f5 _=>?_⟩;have S5:=S4.trans s5;have gv:dN K H5 v (G 1 i j):=by
      rw[G1];exact(oQ hroom hb (c1.mono S4) (c2.mono S4) (c3.mono S4) (sq.mono S4) pw).mono s5
     obtain⟨H6,dp,e6,b6⟩:=((e3.mono s4).mono s5).put (k:=1) (i:=(i:Int)) (j:=(j:Int)) f5 gv (by omega) (by
      have:=Nat.mul_le_mul (show qs.length<=10 by omega) (show rs.length - 1<=9 by omega);have:=Nat.mul_le_mul (show j<=10 by omega) (show qs.length - 1<=9 by omega);omega)
     exact⟨d,H6,rfl,dp,_,rfl,b6.same S5 hd,e6.congr (λ_ _ _=>rs1) (by omega)⟩
    ·rintro σ H3 ⟨z7,rfl,s3,e3⟩
     exact⟨_,_,_,rfl,s3,e3.congr (λ_ _ _=>re1 (by omega)) (by rw[Nat.add_mul,Nat.one_mul];omega)⟩
   ·rintro σ H2 ⟨z5,z6,z7,rfl,s2,e2⟩
    rw[hl2]at e2;exact⟨_,rfl,k d H2 s2 hd ⟨_,e2.congr (λk' i' j'=>by unfold DIn;rw[<- oH,<- oH]) rfl⟩⟩
theorem uf{C dx:Addr}{fs:List (Str×V)}:NoT (.ins C dx fs):=⟨(λ_ z=>by cases z),(λ_ _ z=>by cases z)⟩
theorem dJ{H H':Hp}{l f C dx:Addr}{qs:Crn}{fs:List (Str×V)}(L:LineM H l qs)(b:a7 f H H')(hf:H f=some (.ins C dx fs)):LineM H' l qs :=
 ⟨b _ _ (λz=>by have:=L.lst;rw[z,hf]at this;cases this) L.lst,λq hq=>⟨b _ _ (λz=>by have:=(L.crn q hq).1;rw[z,hf]at this;cases this) (L.crn q hq).1,(L.crn q hq).2⟩⟩
theorem eT{H H':Hp}{p f C dx:Addr}{xs:List V}{fs:List (Str×V)}(h:H p=some (.tup xs))(b:a7 f H H')(hf:H f=some (.ins C dx fs)):H' p=some (.tup xs):=b _ _ (λz=>by rw[z,hf]at h;cases h) h
theorem jX{K:W.Frag}{H H':Hp}{d f C dx:Addr}{n m:Int}{G:Int->Int->Int->Option (N4×N4)}{fs:List (Str×V)}(h:jl K H d n m G)(b:a7 f H H')(hf:H f=some (.ins C dx fs)):jl K H' d n m G:=by
 obtain⟨c,⟨kvs,e,l,a,z⟩⟩:=h;exact⟨c,⟨kvs,b _ _ (λy=>by rw[y,hf]at e;cases e) e,l,λk i j x=>let ⟨v,e,g⟩:=a k i j x;⟨v,e,g.but b hf uf⟩,z⟩⟩
theorem uS{H H':Hp}{d f C dx:Addr}{m n:Nat}{F:Int->Int->Bool}{fs:List (Str×V)}(h:k6 H d m n F)(b:a7 f H H')(hf:H f=some (.ins C dx fs)):k6 H' d m n F:=by
 obtain⟨o,e⟩:=h;exact⟨o,b _ _ (λy=>by rw[y,hf]at e;cases e) e⟩
theorem As:zf ["self","one","other","square","room","first","second"] ["self","one","other","square","room"] (ak (uh 51 0)):=smk
theorem ik(AD:FE K C_Field "__init__" "Field.__init__" (uh 51 0))(zj:CZ K mg "Field" C_Field)(n_room:aW K C_Field "room")(n_last:aW K C_Field "last")(n_doors:aW K C_Field "doors")(n_far:aW K C_Field "far")(zP:Fn P w K mg base "with_a_stretch" ["line"] 1 En)(zr:Fn P w K mg base "last_of" ["line"] 1 Bs)(Bm:Fn P w K mg base "doors_of" ["one","other","square","room"] 6 (CT K))(AI:Fn P w K mg base "far_corners" ["one","other","square","room"] 3 Ez)(T:Txt mg):Mt P w K mg base C_Field "__init__" ["self","one","other","square","room"] 7 (B6 K C_Field):=by
 refine AD.mt As (λ_ _ _ _ _ _ us hl=>by obtain⟨_,_,_,_,_,rfl⟩:=ut hl;rfl) (λvs H Q E h=>?_) (λf cdv A outer s H vs Q E hr h=>?_)
 ·obtain⟨f,dx,l1,l2,sp,qs,rs,a,b,room,rfl,_⟩:=h
  rfl
 ·obtain⟨f,dx,l1,l2,sp,qs,rs,a,b,room,rfl,hf,L1,L2,hq,hr',⟨sq,hb⟩,hroom,k⟩:=h
  refine⟨_,(ai (au (i:=5) As.nd rfl (Or.inl rfl) (aA zP (hr.mono (by decide)) (by rfl) (ad (pv 1) ag))) (ai (au (i:=6) As.nd rfl (Or.inl rfl) (aA zP (hr.mono (by decide)) (by rfl) (ad (pv 2) ag))) (ai (kh (pv 0) (pv 4) rfl) (ai (kh (pv 0) (ay (ad (aA zr (hr.mono (by decide)) (by rfl) (ad (pv 5) ag)) (ad (aA zr (hr.mono (by decide)) (by rfl) (ad (pv 6) ag)) ag))) rfl) (ai (kh (pv 0) (aA Bm (hr.mono (by decide)) (by rfl) (ad (pv 5) (ad (pv 6) (ad (pv 3) (ad (pv 4) ag))))) rfl) (am (kh (pv 0) (aA AI (hr.mono (by decide)) (by rfl) (ad (pv 5) (ad (pv 6) (ad (pv 3) (ad (pv 4) ag))))) rfl))))))),?_⟩;have dq:=kQ hq;have dr:=kQ hr';have h1:((dbl qs).map λ(q:Addr×Int×Int)=>V.ref q.1).length=(dbl qs).length:=List.length_map _;have h2:((dbl rs).map λ(q:Addr×Int×Int)=>V.ref q.1).length=(dbl rs).length:=List.length_map _;refine⟨_,rfl,l1,qs,rfl,L1,hq,λr1 H1 s1 F1=>?_⟩;refine⟨_,rfl,l2,rs,rfl,L2.mono s1,hr',λr2 H2 s2 F2=>?_⟩;have S2:=s1.trans s2;have f2:=S2 _ _ hf;refine⟨_,rfl,_,rfl,f,C_Field,dx,[],rfl,f2,zj.cls,n_room,by simp,?_⟩;have b3:a7 f H2 (upd H2 f (.ins C_Field dx (cH "room" (.int room) []))):=a7.upd;have f3:(upd H2 f (.ins C_Field dx (cH "room" (.int room) []))) f=some (.ins C_Field dx [("room",.int room)]):=upd_same;have A3:=dJ (F1.mono s2) b3 f2;have B3:=dJ F2 b3 f2;have Q3:Sq (upd H2 f (.ins C_Field dx (cH "room" (.int room) []))) sp a b:=⟨eT (S2 _ _ sq.at_) b3 f2,sq.ba,sq.bb⟩;generalize upd H2 f (.ins C_Field dx (cH "room" (.int room) []))=H3 at b3 f3 A3 B3 Q3;refine⟨_,rfl,r1,_,rfl,A3.lst,_,rfl,r2,_,rfl,B3.lst,sz (by simp),λlt H4 s4 f4 n4=>?_⟩;have f4':=s4 _ _ f3;refine⟨_,rfl,f,C_Field,dx,_,rfl,f4',zj.cls,n_last,by simp,?_⟩;have b5:a7 f H4 (upd H4 f (.ins C_Field dx (cH "last" (.ref lt) [("room",.int room)]))):=a7.upd;have f5:(upd H4 f (.ins C_Field dx (cH "last" (.ref lt) [("room",.int room)]))) f=some (.ins C_Field dx [("room",.int room),("last",.ref lt)]):=upd_same;have A5:=dJ (A3.mono s4) b5 f4';have B5:=dJ (B3.mono s4) b5 f4';have Q5:Sq (upd H4 f (.ins C_Field dx (cH "last" (.ref lt) [("room",.int room)]))) sp a b:=⟨eT (s4 _ _ Q3.at_) b5 f4',sq.ba,sq.bb⟩;have T5:=eT f4 b5 f4';generalize upd H4 f (.ins C_Field dx (cH "last" (.ref lt) [("room",.int room)]))=H5 at b5 f5 A5 B5 Q5 T5;refine⟨_,rfl,_,rfl,_,rfl,_,rfl,r1,r2,sp,dbl qs,dbl rs,a,b,room,rfl,A5,B5,dq,dr,⟨Q5,hb⟩,hroom,λd H6 s6 nd D6=>?_⟩;have f6:=s6 _ _ f5;refine⟨_,rfl,f,C_Field,dx,_,rfl,f6,zj.cls,n_doors,by simp,?_⟩;have b7:a7 f H6 (upd H6 f (.ins C_Field dx (cH "doors" (.ref d) [("room",.int room),("last",.ref lt)]))):=a7.upd;have f7:(upd H6 f (.ins C_Field dx (cH "doors" (.ref d) [("room",.int room),("last",.ref lt)]))) f=some (.ins C_Field dx [("room",.int room),("last",.ref lt),("doors",.ref d)]):=upd_same;have A7:=dJ (A5.mono s6) b7 f6;have B7:=dJ (B5.mono s6) b7 f6;have Q7:Sq (upd H6 f (.ins C_Field dx (cH "doors" (.ref d) [("room",.int room),("last",.ref lt)]))) sp a b:=⟨eT (s6 _ _ Q5.at_) b7 f6,sq.ba,sq.bb⟩;have T7:=eT (s6 _ _ T5) b7 f6;have D7:=jX D6 b7 f6;generalize upd H6 f (.ins C_Field dx (cH "doors" (.ref d) [("room",.int room),("last",.ref lt)]))=H7 at b7 f7 A7 B7 Q7 T7 D7;refine⟨_,rfl,_,rfl,_,rfl,_,rfl,r1,r2,sp,dbl qs,dbl rs,a,b,room,rfl,A7,B7,⟨by omega,by omega⟩,⟨by omega,by omega⟩,Q7,λfr H8 s8 D8=>?_⟩;have f8:=s8 _ _ f7;refine⟨_,rfl,f,C_Field,dx,_,rfl,f8,zj.cls,n_far,by simp,?_⟩;have b9:a7 f H8 (upd H8 f (.ins C_Field dx (cH "far" (.ref fr) [("room",.int room),("last",.ref lt),("doors",.ref d)]))):=a7.upd;have e1:(((dbl qs).length:Nat):Int) - 1=((d5 qs:Nat):Int):=by unfold d5;omega
  have e2:(((dbl rs).length:Nat):Int) - 1=((d5 rs:Nat):Int):=by unfold d5;omega
  refine k _ ((a7.of S2).trans (b3.trans ((a7.of s4).trans (b5.trans ((a7.of s6).trans (b7.trans ((a7.of s8).trans b9))))))) ⟨dx,lt,d,fr,upd_same,?_,?_,uS D8 b9 f8⟩
  ·have:=eT (s8 _ _ T7) b9 f8
   rw[h1,h2,e1,e2]at this;exact this
  ·have:=jX (D7.mono s8) b9 f8
   rw[e1,e2]at this;exact this
theorem Nm.rt{K:W.Frag}{H:Hp}{p:Addr}{l:N4}(h:Nm K H p l):Rt K H p l.1 l.2.1 l.2.2.1 l.2.2.2:=⟨h.at_.sq,ar h.b0 (by decide),ar h.b1 (by decide),ar h.b2 (by decide),ar h.b3 (by decide)⟩
inductive Ft:N4->N4->Prop
 | flat:Ft (0,0,0,1) (1,0,0,1)
 | gate {P U L:Int} (hL:0<L) (hU:0<=U) (h1:0<=ro 1 0 0 1 P (-1) U L) (h2:0<=ro P 1 U L 0 0 0 1):Ft (dG P U L) (cC P U L)
theorem rG{cx cy bx by_ ex ey x y room:Int}{l m:N4}(hr:room=0\/room=1)(hy:0<y)(h:dL cx cy bx by_ ex ey x y room=some (l,m)):Ft l m:=by
 unfold dL at h
 by_cases hN:pwN cx cy bx by_ ex ey x y room=true
 ·rw[if_pos hN]at h
  cases h
 ·rw[if_neg hN]at h
  have hN:pwN cx cy bx by_ ex ey x y room=false:=by simpa using hN
  injection h with h;injection h with e1 e2
  by_cases hs:[bx,by_] = [ex,ey]
  ·rw[decide_eq_true hs,if_pos rfl]at e1 e2
   rw[<- e1,<- e2];exact .flat
  ·rw[decide_eq_false hs,if_neg (by decide)]at e1 e2
   have gv:=rF (cx:=cx) (cy:=cy) (x:=x) hs hy;rw[<- e1,<- e2];unfold pwN at hN;rw[if_neg hs,Bool.or_eq_false_iff,decide_eq_false_iff_not,Bool.or_eq_false_iff,decide_eq_false_iff_not,decide_eq_false_iff_not]at hN;have:=jI (x:=rUn cx cy bx by_ ex ey x y);exact .gate gv.lpos (by rcases hr with rfl|rfl <;> omega) (by rcases hr with rfl|rfl <;> omega) (by rcases hr with rfl|rfl <;> omega)
structure E3(H:Hp)(q:Pr):Prop where
 p_:H q.p=some (.tup [.ref q.x,.ref q.y])
 x_:H q.x=some (.tup [.int q.a,.int q.b])
 y_:H q.y=some (.tup [.int q.c,.int q.d])
 lx:Ds q.a q.b
 ly:Ds q.c q.d
 nx:0<=q.a
 ny:0<=q.c
 ba:ap q.a<=5300
 bb:ap q.b<=5300
 bc:ap q.c<=5300
 bd:ap q.d<=5300
theorem E3.t{H H':Hp}{q:Pr}(h:E3 H q)(s:SameT H H'):E3 H' q:=⟨s _ _ h.p_,s _ _ h.x_,s _ _ h.y_,h.lx,h.ly,h.nx,h.ny,h.ba,h.bb,h.bc,h.bd⟩
theorem _root_.Wk.PrAt.two{H:Hp}{q:Pr}(h:PrAt H q):E3 H q:=⟨h.p_,h.x_,h.y_,h.lx,h.ly,h.nx,h.ny,ar h.ba (by decide),ar h.bb (by decide),ar h.bc (by decide),ar h.bd (by decide)⟩
structure Ek(H:Hp)(l:Addr)(ps:List Pr):Prop where
 lst:H l=some (.lst (prs ps))
 pr:∀q∈ps,E3 H q
theorem Ek.mono{H H':Hp}{l:Addr}{ps:List Pr}(h:Ek H l ps)(s:Same H H'):Ek H' l ps:=⟨s _ _ h.lst,λq hq=>(h.pr q hq).t s.t⟩
noncomputable def rX(k i j t u:Int)(q:Pr):Prop:=(k=0/\q.a=i/\q.b=1/\q.c=j*u+t/\q.d=u)\/(k=1/\q.a=i*u+t/\q.b=u/\q.c=j/\q.d=1)
inductive Es (vs:List V) (H:Hp) (Q:VK) (x_3:XK):Prop
 | mk:∀(t p:Addr) (k i j a b:Int),(vs = [.ref t,.ref p])->(H t=some (.tup ((dk k i j).map kV)))->((k=0\/k=1))->((0<=i/\i<=1000))->((0<=j/\j<=1000))->((El H p a b 2600/\0<=a/\a<=b))->(∀(q:Pr) H',Same H H'->E3 H' q->rX k i j a b q->Q (.ref q.p) H')->Es vs H Q x_3
theorem iV{a b n:Int}(h:Ds a b):Ds (n*b+a) b:=by
 refine⟨h.pos,?_⟩;have:=h.one;rw[Int.add_comm,Int.mul_comm];rw[Int.gcd_add_mul_left_left];exact this
theorem B8:zf ["door","part"] ["door","part"] (ak (top 56)):=smk
theorem ie(Cl:Df K mg "pair_in_door" (top 56))(V_UPRIGHT:∃tk,mg "UPRIGHT" = some (.int 0 tk))(Da:Fn P w K mg base "plus" ["a","b"] 3 (EB (λa b c d=>a*d+c*b) (λa b c d=>b*d))):Fn P w K mg base "pair_in_door" ["door","part"] 4 Es:=by
 refine Cl.fn B8 (λ_ _ _ _ _ _ us hl=>by obtain⟨_,_,rfl⟩:=cJ hl;rfl) (λvs H Q E h=>?_) (λf cdv A outer s H vs Q E hr h=>?_)
 ·obtain⟨t,p,k,i,j,a,b,rfl,_⟩:=h
  rfl
 ·obtain⟨t,p,k,i,j,a,b,rfl,ht,hk,bi,bj,⟨fr,a0,ab⟩,kq⟩:=h
  obtain⟨tU,zp⟩:=V_UPRIGHT;refine⟨_,(ai (aQ (aB cI (aw av (pv 0) af (λ_ _=>rfl)) (aG (v:=.int 0) (by rfl) zp ⟨_,rfl⟩) (aC _)) (am (az (@ay _ _ _ _ _ (@ad _ _ _ _ _ (@ay _ _ _ _ _ (@ad _ _ _ _ _ (aw av (pv 0) af (λ_ _=>rfl)) (@ad _ _ _ _ _ af ag (by rfl)) (by rfl))) (@ad _ _ _ _ _ (aA Da (hr.mono (by decide)) (by rfl) (ad (ay (ad (aw av (pv 0) af (λ_ _=>rfl)) (ad af ag))) (ad (pv 1) ag))) ag (by rfl)) (by rfl))))) aE) (am (az (@ay _ _ _ _ _ (@ad _ _ _ _ _ (aA Da (hr.mono (by decide)) (by rfl) (ad (ay (ad (aw av (pv 0) af (λ_ _=>rfl)) (ad af ag))) (ad (pv 1) ag))) (@ad _ _ _ _ _ (@ay _ _ _ _ _ (@ad _ _ _ _ _ (aw av (pv 0) af (λ_ _=>rfl)) (@ad _ _ _ _ _ af ag (by rfl)) (by rfl))) ag (by rfl)) (by rfl)))))),?_⟩;have ht:H t=some (.tup [.int k,.int i,.int j]):=ht;have hb:=fr.low.pos;have T:=λ{H':Hp} (s:Same H H')=>SqT.of (K:=K) (s _ _ ht);have one:ap (1:Int)<=2600:=by decide
  have sm:∀{x:Int},0<=x/\x<=1000->ap x<=2600:=λh=>ar (dj (by omega) h.2) (by decide);have lw:∀x:Int,Ds x 1:=λx=>⟨Int.le_refl 1,by simp⟩;have sum:∀{x y z:Int},BW (x*b+a*1) (1*b) y z->y=x*b+a/\z=b:=λ{x y z} f=>by
   have e:=f.eq;rw[Int.mul_one,Int.one_mul]at e;exact ng f.low (iV fr.low) (by rw[<- e])
  refine⟨_,rfl,t,_,_,_,rfl,rfl,T (Same.refl _),rfl,rfl,_,rfl,?_⟩;rw[di];refine aZ (λc=>?_) (λc=>?_)
  ·have c:k=0:=bC c
   subst c;refine⟨_,rfl,t,_,_,_,rfl,rfl,T (Same.refl _),rfl,sz (by simp),λx H1 s1 f1 _=>?_⟩;refine⟨_,rfl,t,_,_,_,rfl,rfl,T s1,rfl,sz (by simp),λy H2 s2 f2 _=>?_⟩;have S2:=s1.trans s2;refine⟨_,rfl,y,p,j,1,a,b,2600,rfl,⟨f2,lw j,sm bj,one⟩,fr.mono S2,by decide,by omega,λr s' w' H3 ff f3 s3=>?_⟩;obtain⟨rfl,rfl⟩:=sum ff;refine⟨sz (by simp),λo H4 s4 f4 _=>kq ⟨o,x,r,i,1,j*w'+a,w'⟩ H4 ((S2.trans s3).trans s4) ⟨f4,s4 _ _ (s3 _ _ (s2 _ _ f1)),s4 _ _ f3.at_,lw i,iV fr.low,bi.1,Int.add_nonneg (Int.mul_nonneg bj.1 (by omega)) a0,ar (sm bi) (by decide),(show ap (1:Int)<=5300 by decide),ar f3.ba (by decide),ar f3.bb (by decide)⟩ (.inl ⟨rfl,rfl,rfl,rfl,rfl⟩)⟩
  ·have c:¬k=0:=bP c
   have c:k=1:=by omega
   subst c;refine⟨_,rfl,t,_,_,_,rfl,rfl,T (Same.refl _),rfl,sz (by simp),λx H1 s1 f1 _=>?_⟩;refine⟨_,rfl,x,p,i,1,a,b,2600,rfl,⟨f1,lw i,sm bi,one⟩,fr.mono s1,by decide,by omega,λr s' w' H2 ff f2 s2=>?_⟩;obtain⟨rfl,rfl⟩:=sum ff;have S2:=s1.trans s2;refine⟨_,rfl,t,_,_,_,rfl,rfl,T S2,rfl,sz (by simp),λy H3 s3 f3 _=>?_⟩;refine⟨sz (by simp),λo H4 s4 f4 _=>kq ⟨o,r,y,i*w'+a,w',j,1⟩ H4 ((S2.trans s3).trans s4) ⟨f4,s4 _ _ (s3 _ _ f2.at_),s4 _ _ f3,iV fr.low,lw j,Int.add_nonneg (Int.mul_nonneg bi.1 (by omega)) a0,bj.1,ar f2.ba (by decide),ar f2.bb (by decide),ar (sm bj) (by decide),(show ap (1:Int)<=5300 by decide)⟩ (.inr ⟨rfl,rfl,rfl,rfl,rfl⟩)⟩
noncomputable def wOn:Str:="on"
noncomputable def bY:Str:="part"
noncomputable abbrev Dor:=Int×Int×Int
noncomputable def dkD(x:Dor):cY:=dk x.1 x.2.1 x.2.2
theorem oW{x y:Dor}(h:dkD x=dkD y):x=y:=by
 obtain⟨e1,e2,e3⟩:=nO h;exact Prod.ext e1 (Prod.ext e2 e3)
noncomputable def AhV(H:Hp)(v:V):Option Dor->Prop
 | none=>v = .non
 | some x=>∃t,v = .ref t/\H t=some (.tup ((dkD x).map kV))
theorem AhV.t{H H':Hp}{v:V}{o:Option Dor}(h:AhV H v o)(s:SameT H H'):AhV H' v o:=by
 cases o with
 | none=>exact h
 | some x =>
  obtain⟨t,e,f⟩:=h;exact⟨t,e,s _ _ f⟩
noncomputable def RvV(K:W.Frag)(H:Hp)(v:V)(r:Rv):Prop:=∃(t p q:Addr) (w:V),v = .ref t/\H t=some (.tup [.ref p,.ref q,w])/\Nm K H p r.lo/\Nm K H q r.hi/\AhV H w r.ah
theorem RvV.mono{K:W.Frag}{H H':Hp}{v:V}{r:Rv}(h:RvV K H v r)(s:Same H H'):RvV K H' v r:=by
 obtain⟨t,p,q,w,e,f,n1,n2,a⟩:=h;exact⟨t,p,q,w,e,s _ _ f,n1.mono s,n2.mono s,a.t s.t⟩
theorem Nm.but{K:W.Frag}{H H':Hp}{p d:Addr}{l:N4}{od:HO}(h:Nm K H p l)(b:a7 d H H')(hd:H d=some od)(n:NoT od):Nm K H' p l:=⟨ka h.at_ b hd n,h.b0,h.b1,h.b2,h.b3,h.p2,h.p3⟩
theorem RvV.but{K:W.Frag}{H H':Hp}{v:V}{r:Rv}{d:Addr}{kvs:List (List Key×V)}(h:RvV K H v r)(b:a7 d H H')(hd:H d=some (.dT kvs)):RvV K H' v r:=by
 obtain⟨t,p,q,w,e,f,n1,n2,a⟩:=h;have T:SameT H H':=b.t λxs z=>by rw[hd]at z;cases z
 exact⟨t,p,q,w,e,T _ _ f,n1.but b hd kE,n2.but b hd kE,a.t T⟩
noncomputable abbrev RF:=Dor->Option Rv
structure Aj(K:W.Frag)(H:Hp)(d:Addr)(R:RF)(c:Nat):Prop where
 ex:∃kvs:List (List Key×V),H d=some (.dT kvs)/\kvs.length<=c/\(∀x r,R x=some r->∃v,cE kvs (dkD x)=some v/\RvV K H v r)/\∀x,R x=none->cE kvs (dkD x)=none
theorem Aj.mono{K:W.Frag}{H H':Hp}{d:Addr}{R:RF}{c:Nat}(h:Aj K H d R c)(s:Same H H'):Aj K H' d R c:=by
 obtain⟨kvs,e,l,a,b⟩:=h.ex;exact⟨kvs,s _ _ e,l,λx r h=>let ⟨v,e,g⟩:=a x r h;⟨v,e,g.mono s⟩,b⟩
theorem Aj.congr{K:W.Frag}{H:Hp}{d:Addr}{R R':RF}{c c':Nat}(h:Aj K H d R c)(e:∀x,R x=R' x)(hc:c<=c'):Aj K H d R' c':=by
 obtain⟨kvs,e',l,a,b⟩:=h.ex;exact⟨kvs,e',by omega,λx r h=>a x r ((e x).trans h),λx h=>b x ((e x).trans h)⟩
noncomputable def fj(R:RF)(x:Dor)(o:Option Rv):RF:=λy=>@ite _ (y=x) (Classical.propDecidable _) o (R y)
theorem cZ{R:RF}{x:Dor}{o:Option Rv}(h:R x=o):∀y,R y=fj R x o y:=λy=>by
 unfold fj
 split
 ·rename_i e;rw[e];exact h
 ·rfl
theorem Aj.put{K:W.Frag}{H:Hp}{d t:Addr}{R:RF}{c:Nat}{x:Dor}{v:V}{r:Rv}(h:Aj K H d R c)(ht:H t=some (.tup ((dkD x).map kV)))(g:RvV K H v r)(new:R x=none)(hc:c<1000) :
  ∃H',jm H d (.ref t) v H'/\Aj K H' d (fj R x (some r)) (c+1)/\a7 d H H':=by
 obtain⟨kvs,e,l,a,b⟩:=h.ex;have hn:=b x new;refine⟨_,jm.t (k:=dkD x) (v:=v) e ht (by have:=aR (n:=kvs.length) (by omega);exact this),⟨_,upd_same,?_,λy r' hy=>?_,λy hy=>?_⟩,a7.upd⟩
 ·rw[iL _ hn,List.length_append]
  exact Nat.add_le_add_right l 1
 ·rw[eA]
  unfold fj at hy
  by_cases z:y=x
  ·rw[if_pos z]at hy
   cases hy;rw[if_pos (by rw[z])];exact⟨v,rfl,g.but a7.upd e⟩
  ·rw[if_neg z]at hy
   rw[if_neg (λw=>z (oW w))];obtain⟨v',e',g'⟩:=a y r' hy;exact⟨v',e',g'.but a7.upd e⟩
 ·unfold fj at hy
  by_cases z:y=x
  ·rw[if_pos z]at hy
   cases hy
  ·rw[if_neg z]at hy
   rw[eA,if_neg (λw=>z (oW w))];exact b y hy
theorem Aj.get{K:W.Frag}{H:Hp}{d t:Addr}{R:RF}{c:Nat}{x:Dor}(h:Aj K H d R c)(ht:H t=some (.tup ((dkD x).map kV))):∃o,er H d (.ref t) o/\((∃r v,R x=some r/\o=some v/\RvV K H v r)\/(R x=none/\o=none)):=by
 obtain⟨kvs,e,l,a,b⟩:=h.ex;refine⟨_,er.t e ht,?_⟩;cases hr:R x with
 | none=>exact .inr ⟨rfl,b x hr⟩
 | some r =>
  obtain⟨v,e',g⟩:=a x r hr;exact .inl ⟨r,v,rfl,e',g⟩
noncomputable def bgR(wy:Str)(G:GF)(F:Int->Int->Bool)(m:Nat)(j:Nat):Option Rv :=
 if wy=wOn then (if j=0/\F 0 0=false then some ⟨(0,0,0,1),(0,0,0,1),none⟩ else none)
 else if j<m then (G 0 0 (j:Int)).map λp=>⟨p.1,p.2,none⟩ else none
noncomputable def bgD(wy:Str)(G:GF)(F:Int->Int->Bool)(m:Nat)(x:Dor):Option Rv:=if x.1=0/\x.2.1=0/\0<=x.2.2 then bgR wy G F m x.2.2.toNat else none
inductive Fi (K:W.Frag) (C:Addr) (vs:List V) (H:Hp) (Q:VK) (x_3:XK):Prop
 | mk:∀(fo:Addr) (n m:Nat) (room:Int) (G:GF) (F:Int->Int->Bool) (wy:Str),(vs = [.ref fo,.str wy])->(AF K C H fo n m room G F)->((1<=n/\n<=20))->((1<=m/\m<=20))->((wy=wOn\/wy=bY))->(∀d H',Same H H'->H d=none->Aj K H' d (bgD wy G F m) 30->Q (.ref d) H')->Fi K C vs H Q x_3
inductive Fg (vs:List V) (H:Hp) (Q:VK) (x_3:XK):Prop
 | mk:∀(sd i j:Int),(vs = [.int sd,.int i,.int j])->((sd=0\/sd=1))->(∀t H',Same H H'->H' t=some (.tup ((dkD (if sd=0 then (0,i+1,j) else (1,i,j+1))).map kV))->Q (.ref t) H')->Fg vs H Q x_3
inductive E8 (K:W.Frag) (C:Addr) (vs:List V) (H:Hp) (Q:VK) (x_3:XK):Prop
 | mk:∀(fo d t ts tt:Addr) (n m:Nat) (room:Int) (G:GF) (F:Int->Int->Bool) (R:RF) (c:Nat) (x xs xt:Dor),(vs = [.ref fo,.ref d,.ref t,.ref ts,.ref tt])->(AF K C H fo n m room G F)->(Aj K H d R c)->((H t=some (.tup ((dkD x).map kV))/\H ts=some (.tup ((dkD xs).map kV))/\H tt=some (.tup ((dkD xt).map kV))))->(DIn n m x.1 x.2.1 x.2.2)->(R x=none)->(c<900)->(∀H',a7 d H H'->Aj K H' d (fj R x (pas (G x.1 x.2.1 x.2.2) (R xs) (R xt) xs xt)) (c+1)->Q .non H')->E8 K C vs H Q x_3
theorem Nm.rt'{K:W.Frag}{H:Hp}{p:Addr}{l:N4}(h:Nm K H p l):Rt K H p l.1 l.2.1 l.2.2.1 l.2.2.2:=⟨h.at_.sq,ar h.b0 (by decide),ar h.b1 (by decide),ar h.b2 (by decide),ar h.b3 (by decide)⟩
theorem DH:zf ["side","i","j"] ["side","i","j"] (ak (top 72)):=smk
theorem mj(DU:Df K mg "door_out" (top 72))(V_UPRIGHT:∃tk,mg "UPRIGHT" = some (.int 0 tk))(V_LEVEL:∃tk,mg "LEVEL" = some (.int 1 tk)):Fn P w K mg base "door_out" ["side","i","j"] 1 Fg:=by
 refine DU.fn DH (λ_ _ _ _ _ _ us hl=>by obtain⟨_,_,_,rfl⟩:=kH hl;rfl) (λvs H Q E h=>?_) (λf cdv A outer s H vs Q E hr h=>?_)
 ·obtain⟨sd,i,j,rfl,_⟩:=h
  rfl
 ·obtain⟨sd,i,j,rfl,hs,k⟩:=h
  obtain⟨tU,zp⟩:=V_UPRIGHT;obtain⟨tL,AE⟩:=V_LEVEL;refine⟨_,(am (az (eF (aB cI (pv 0) (aG (v:=.int 0) (by rfl) zp ⟨_,rfl⟩) (aC _)) (ay (ad (aG (v:=.int 0) (by rfl) zp ⟨_,rfl⟩) (ad (ao aO (pv 1) af) (ad (pv 2) ag)))) (ay (ad (aG (v:=.int 1) (by rfl) AE ⟨_,rfl⟩) (ad (pv 1) (ad (ao aO (pv 2) af) ag))))))),?_⟩;refine⟨_,rfl,rfl,_,rfl,?_⟩;rw[di];refine aZ (λc=>?_) (λc=>?_)
  ·have c:=bC c
   rw[if_pos c]at k;exact⟨_,rfl,_,_,rfl,rfl,_,rfl,sz (by simp),λt H1 s1 f1 _=>k t H1 s1 f1⟩
  ·have c:=bP c
   rw[if_neg c]at k;exact⟨_,rfl,_,rfl,_,_,rfl,rfl,sz (by simp),λt H1 s1 f1 _=>k t H1 s1 f1⟩
theorem zY:zf ["field","reached","door","straight","turned","part","low"] ["field","reached","door","straight","turned"] (ak (top 73)):=smk
theorem ib(Ck:Df K mg "pass_through" (top 73))(zj:CZ K mg "Field" C_Field)(n_room:aW K C_Field "room")(n_last:aW K C_Field "last")(n_doors:aW K C_Field "doors")(n_far:aW K C_Field "far")(zh:Fn P w K mg base "root_order" ["one","other"] 4 (D3 K))(T:Txt mg):Fn P w K mg base "pass_through" ["field","reached","door","straight","turned"] 5 (E8 K C_Field):=by
 refine Ck.fn zY (λ_ _ _ _ _ _ us hl=>by obtain⟨_,_,_,_,_,rfl⟩:=ut hl;rfl) (λvs H Q E h=>?_) (λf cdv A outer s H vs Q E hr h=>?_)
 ·obtain⟨fo,d,t,ts,tt,n,m,room,G,F,R,c,x,xs,xt,rfl,_⟩:=h
  rfl
 ·obtain⟨fo,d,t,ts,tt,n,m,room,G,F,R,c,x,xs,xt,rfl,fa,rp,⟨ht,hts,htt⟩,hd,new,hc,k⟩:=h
  refine⟨_,(ai (au (i:=5) zY.nd rfl (Or.inl rfl) (cP (bV hr) (dz (pv 0) rfl) (pv 2) (λ_ _=>rfl))) (ai (aQ (aB mX (pv 5) bT (aC _)) (am oA) aE) (ai (aQ (iM (ku (bV hr) (pv 4) (pv 1)) (by rfl)) (ai (dl (bV hr) (pv 1) (pv 2) (ay (ad (aw av (pv 5) af (λ_ _=>rfl)) (ad (aw av (pv 5) af (λ_ _=>rfl)) (ad (pv 4) ag)))) rfl) (am oA)) aE) (am (aQ (iM (ku (bV hr) (pv 3) (pv 1)) (by rfl)) (ai (au (i:=6) zY.nd rfl (Or.inl rfl) (aw av (pv 5) af (λ_ _=>rfl))) (ai (aQ (aB eJ (aA zh (hr.mono (by decide)) (by rfl) (ad (pv 6) (ad (aw av (cP (bV hr) (pv 1) (pv 3) (λ_ _=>rfl)) af (λ_ _=>rfl)) ag))) af (aC _)) (am (au (i:=6) zY.nd rfl (Or.inl rfl) (aw av (cP (bV hr) (pv 1) (pv 3) (λ_ _=>rfl)) af (λ_ _=>rfl)))) aE) (am (aQ (aB oC (aA zh (hr.mono (by decide)) (by rfl) (ad (pv 6) (ad (aw av (pv 5) af (λ_ _=>rfl)) ag))) af (aC _)) (am (dl (bV hr) (pv 1) (pv 2) (ay (ad (pv 6) (ad (aw av (pv 5) af (λ_ _=>rfl)) (ad (pv 3) ag)))) rfl)) aE)))) aE))))),?_⟩;obtain⟨dx,lt,d0,fr,hf,hl,⟨cc,dd⟩,_⟩:=fa.ex;obtain⟨o,dg,hv,_⟩:=dd.get (k:=x.1) (i:=x.2.1) (j:=x.2.2) ht;obtain⟨v,rfl,gv⟩:=hv hd;refine⟨_,rfl,fo,C_Field,dx,_,_,rfl,hf,zj.cls,n_doors,rfl,_,rfl,d0,_,rfl,dg,?_⟩;cases hg:G x.1 x.2.1 x.2.2 with
  | none =>
   rw[hg]at gv k;have gv:v = .non:=gv;rw[gv];refine⟨_,rfl,rfl,_,rfl,cj rfl ?_⟩;exact k H (λ_ _ _ e=>e) (rp.congr (cZ new) (by omega))
  | some p =>
   rw[hg]at gv k;obtain⟨tg,p1,p2,rfl,eg,g1,g2⟩:=gv;have pk:pas (some p) (R xs) (R xt) xs xt=if (R xt).isSome=true then some ⟨p.1,p.2,some xt⟩ else match R xs with
    | none=>none
    | some r=>if ro4 (mxN p.1 r.lo) p.2<=0 then some ⟨mxN p.1 r.lo,p.2,some xs⟩ else none:=rfl
   rw[pk]at k;refine⟨_,rfl,rfl,_,rfl,bU (by simp) ?_⟩;obtain⟨ot,dgt,hot⟩:=rp.get htt;refine⟨_,rfl,_,rfl,d,ot,rfl,dgt,_,rfl,?_⟩;rcases hot with⟨rt,vt,hrt,rfl,_⟩|⟨hrt,rfl⟩
   ·refine cj rfl ?_
    rw[hrt,if_pos (show(some rt).isSome=true from rfl)]at k;refine⟨_,rfl,tg,_,_,_,rfl,rfl,SqT.of eg,rfl,_,rfl,tg,_,_,_,rfl,rfl,SqT.of eg,rfl,_,rfl,sz (by simp),λtv H1 s1 f1 n1=>?_⟩;obtain⟨H2,dp,rp2,b2⟩:=(rp.mono s1).put (r:=⟨p.1,p.2,some xt⟩) (s1 _ _ ht) ⟨tv,p1,p2,.ref tt,rfl,f1,g1.mono s1,g2.mono s1,tt,rfl,s1 _ _ htt⟩ new (by omega);refine⟨_,rfl,_,rfl,d,H2,rfl,dp,?_⟩;exact k H2 ((a7.of s1).trans b2) rp2
   ·refine bU rfl ?_
    rw[hrt,if_neg (by decide)]at k;obtain⟨os,dgs,hos⟩:=rp.get hts;refine⟨_,rfl,_,rfl,d,os,rfl,dgs,_,rfl,?_⟩;rcases hos with⟨rs,vs,hrs,rfl,tvs,q1,q2,qw,rfl,evs,m1,m2,_⟩|⟨hrs,rfl⟩
    ·refine cj rfl ?_
     rw[hrs]at k;have k:∀(H':Hp),a7 d H H'->Aj K H' d (fj R x (if ro4 (mxN p.1 rs.lo) p.2<=0 then some ⟨mxN p.1 rs.lo,p.2,some xs⟩ else none)) (c+1)->Q .non H':=k
     refine⟨_,rfl,tg,_,_,_,rfl,rfl,SqT.of eg,rfl,?_⟩;refine⟨_,rfl,_,rfl,_,rfl,d,_,rfl,dgs,tvs,_,_,_,rfl,rfl,SqT.of evs,rfl,_,_,_,_,_,_,_,_,_,_,rfl,g1.rt',m1.rt',_,_,rfl,rfl,_,rfl,aZ (λc1=>?_) (λc1=>?_)⟩
     ·have em:mxN p.1 rs.lo=rs.lo:=if_pos (bC c1)
      refine⟨_,rfl,_,rfl,d,_,rfl,dgs,tvs,_,_,_,rfl,rfl,SqT.of evs,rfl,?_⟩;refine⟨_,rfl,_,rfl,tg,_,_,_,rfl,rfl,SqT.of eg,rfl,_,_,_,_,_,_,_,_,_,_,rfl,m1.rt',g2.rt',_,_,rfl,rfl,_,rfl,aZ (λc2=>?_) (λc2=>?_)⟩
      ·have c2:ro4 (mxN p.1 rs.lo) p.2<=0:=by rw[em];exact bC c2
       rw[if_pos c2]at k;refine⟨_,rfl,_,rfl,tg,_,_,_,rfl,rfl,SqT.of eg,rfl,_,rfl,sz (by simp),λtv H1 s1 f1 n1=>?_⟩;obtain⟨H2,dp,rp2,b2⟩:=(rp.mono s1).put (r:=⟨mxN p.1 rs.lo,p.2,some xs⟩) (s1 _ _ ht) ⟨tv,q1,p2,.ref ts,rfl,f1,by show Nm K H1 _ (mxN p.1 rs.lo);rw[em];exact m1.mono s1,g2.mono s1,ts,rfl,s1 _ _ hts⟩ new (by omega);refine⟨_,rfl,_,rfl,d,H2,rfl,dp,?_⟩;exact k H2 ((a7.of s1).trans b2) rp2
      ·have c2:¬ro4 (mxN p.1 rs.lo) p.2<=0:=by rw[em];exact bP c2
       rw[if_neg c2]at k;exact k H (λ_ _ _ e=>e) (rp.congr (cZ new) (by omega))
     ·have em:mxN p.1 rs.lo=p.1:=if_neg (bP c1)
      refine⟨_,rfl,_,rfl,tg,_,_,_,rfl,rfl,SqT.of eg,rfl,_,_,_,_,_,_,_,_,_,_,rfl,g1.rt',g2.rt',_,_,rfl,rfl,_,rfl,aZ (λc2=>?_) (λc2=>?_)⟩
      ·have c2:ro4 (mxN p.1 rs.lo) p.2<=0:=by rw[em];exact bC c2
       rw[if_pos c2]at k;refine⟨_,rfl,_,rfl,tg,_,_,_,rfl,rfl,SqT.of eg,rfl,_,rfl,sz (by simp),λtv H1 s1 f1 n1=>?_⟩;obtain⟨H2,dp,rp2,b2⟩:=(rp.mono s1).put (r:=⟨mxN p.1 rs.lo,p.2,some xs⟩) (s1 _ _ ht) ⟨tv,p1,p2,.ref ts,rfl,f1,by show Nm K H1 _ (mxN p.1 rs.lo);rw[em];exact g1.mono s1,g2.mono s1,ts,rfl,s1 _ _ hts⟩ new (by omega);refine⟨_,rfl,_,rfl,d,H2,rfl,dp,?_⟩;exact k H2 ((a7.of s1).trans b2) rp2
      ·have c2:¬ro4 (mxN p.1 rs.lo) p.2<=0:=by rw[em];exact bP c2
       rw[if_neg c2]at k;exact k H (λ_ _ _ e=>e) (rp.congr (cZ new) (by omega))
    ·refine bU rfl ?_
     rw[hrs]at k;exact k H (λ_ _ _ e=>e) (rp.congr (cZ new) (by omega))
theorem ds{a b:Str}{c:Bool}(h:decide (V.str a=V.str b)=c):decide (a=b)=c:=by
 rw[<- h]
 by_cases z:a=b
 ·rw[decide_eq_true z,decide_eq_true (by rw[z])]
 ·rw[decide_eq_false z,decide_eq_false (λw=>z (V.str.inj w))]
theorem vK{G:GF}{F:Int->Int->Bool}{m:Nat}:∀x:Dor,fj (λ_=>none) (0,0,0) (if F 0 0=false then some ⟨(0,0,0,1),(0,0,0,1),none⟩ else none) x=bgD wOn G F m x:=λx=>by
 have e2:∀j,bgR wOn G F m j=if j=0/\F 0 0=false then some ⟨(0,0,0,1),(0,0,0,1),none⟩ else none:=λj=>if_pos rfl
 by_cases h:x=(0,0,0)
 ·subst h
  have e:bgD wOn G F m (0,0,0)=bgR wOn G F m 0:=if_pos ⟨rfl,rfl,Int.le_refl 0⟩;rw[e,e2];unfold fj;rw[if_pos rfl]
  by_cases f:F 0 0=false
  ·rw[if_pos f,if_pos ⟨rfl,f⟩]
  ·rw[if_neg f,if_neg (λz=>f z.2)]
 ·unfold fj
  rw[if_neg h];unfold bgD
  by_cases z:x.1=0/\x.2.1=0/\0<=x.2.2
  ·rw[if_pos z,e2,if_neg (λy=>h (Prod.ext z.1 (Prod.ext z.2.1 (by have:=y.1;have:=z.2.2;show x.2.2=0;omega))))]
  ·rw[if_neg z]
noncomputable def bgP(G:GF)(j0:Nat)(x:Dor):Option Rv:=if (x.1=0/\x.2.1=0)/\0<=x.2.2/\x.2.2<(j0:Int) then (G 0 0 x.2.2).map λp=>⟨p.1,p.2,none⟩ else none
theorem mH{G:GF}{j:Nat}:∀x:Dor,fj (bgP G j) (0,0,(j:Int)) ((G 0 0 (j:Int)).map λp=>⟨p.1,p.2,none⟩) x=bgP G (j+1) x:=λx=>by
 unfold fj
 by_cases h:x=(0,0,(j:Int))
 ·rw[if_pos h,h]
  unfold bgP;rw[if_pos ⟨⟨rfl,rfl⟩,by show(0:Int)<=j;omega,by show(j:Int)<((j+1:Nat):Int);omega⟩]
 ·rw[if_neg h]
  unfold bgP
  by_cases z:(x.1=0/\x.2.1=0)/\0<=x.2.2/\x.2.2<(j:Int)
  ·rw[if_pos z,if_pos ⟨z.1,z.2.1,by omega⟩]
  ·rw[if_neg z,if_neg (λy=>z ⟨y.1,y.2.1,?_⟩)]
   have:x.2.2≠(j:Int):=λw=>h (Prod.ext y.1.1 (Prod.ext y.1.2 w));omega
theorem vf{G:GF}{F:Int->Int->Bool}{m:Nat}:∀x:Dor,bgP G m x=bgD bY G F m x:=λx=>by
 unfold bgP bgD bgR;rw[if_neg (show ¬bY=wOn by decide +kernel)]
 by_cases z:x.1=0/\x.2.1=0/\0<=x.2.2
 ·rw[if_pos z,show((x.2.2.toNat:Nat):Int)=x.2.2 by omega]
  by_cases y:x.2.2<(m:Int)
  ·rw[if_pos ⟨⟨z.1,z.2.1⟩,z.2.2,y⟩,if_pos (by omega)]
  ·rw[if_neg (λw=>y w.2.2),if_neg (by omega)]
 ·rw[if_neg z,if_neg (λw=>z ⟨w.1.1,w.1.2,w.2.1⟩)]
theorem qP{K:W.Frag}{p:Addr}(h:∀H,TpK K H p [.int 0,.int 0,.int 0,.int 1])(H:Hp):Nm K H p (0,0,0,1):=⟨h H,by decide,by decide,by decide,by decide,by decide,by decide⟩
theorem tK{K:W.Frag}{H:Hp}{d:Addr}:Aj K (upd H d (.dT [])) d (λ_=>none) 0:=⟨[],upd_same,Nat.le_refl _,(λ_ _ z=>by cases z),λ_ _=>rfl⟩
theorem zO:zf ["field","way","reached","j","part"] ["field","way"] (ak (top 71)):=smk
theorem gw{pB:Addr}(BQ:Df K mg "doors_at_begin" (top 71))(zj:CZ K mg "Field" C_Field)(n_room:aW K C_Field "room")(n_last:aW K C_Field "last")(n_doors:aW K C_Field "doors")(n_far:aW K C_Field "far")(V_UPRIGHT:∃tk,mg "UPRIGHT" = some (.int 0 tk))(V_LEVEL:∃tk,mg "LEVEL" = some (.int 1 tk))(Am:mg "BEGIN" = some (.ref pB))(hB:∀H,TpK K H pB [.int 0,.int 0,.int 0,.int 1])(T:Txt mg):Fn P w K mg base "doors_at_begin" ["field","way"] 2 (Fi K C_Field):=by
 refine BQ.fn zO (λ_ _ _ _ _ _ us hl=>by obtain⟨_,_,rfl⟩:=cJ hl;rfl) (λvs H Q E h=>?_) (λf cdv A outer s H vs Q E hr h=>?_)
 ·obtain⟨fo,n,m,room,G,F,wy,rfl,_⟩:=h
  rfl
 ·obtain⟨fo,n,m,room,G,F,wy,rfl,fa,⟨hn,hn20⟩,⟨hm,hm20⟩,hw,k⟩:=h
  obtain⟨tU,zp⟩:=V_UPRIGHT;obtain⟨tL,AE⟩:=V_LEVEL;refine⟨_,(ai (au (i:=2) zO.nd rfl (Or.inl rfl) fS) (ai (aQ (aB cI (pv 1) cT (aC _)) (ai (aQ (iM (pI (bV hr) (ay (ad af (ad af ag))) (dz (pv 0) rfl)) (by rfl)) (am (dl (bV hr) (pv 2) (ay (ad (aG (v:=.int 0) (by rfl) zp ⟨_,rfl⟩) (ad af (ad af ag)))) (ay (ad (aG (v:=.ref _) (by rfl) Am rfl) (ad (aG (v:=.ref _) (by rfl) Am rfl) (ad bT ag)))) rfl)) aE) (am (az (pv 2)))) aE) (ai (bI PassesOwn.never rfl (bW rfl T.z_range (ad (aw av (dz (pv 0) rfl) af (λ_ _=>rfl)) ag)) (aK (i:=3) zO.nd rfl (Or.inl rfl)) (ai (au (i:=4) zO.nd rfl (Or.inl rfl) (cP (bV hr) (dz (pv 0) rfl) (ay (ad (aG (v:=.int 0) (by rfl) zp ⟨_,rfl⟩) (ad af (ad (pv 3) ag)))) (λ_ _=>rfl))) (am (aQ (aB kB (pv 4) bT (aC _)) (am (dl (bV hr) (pv 2) (ay (ad (aG (v:=.int 0) (by rfl) zp ⟨_,rfl⟩) (ad af (ad (pv 3) ag)))) (ay (ad (aw av (pv 4) af (λ_ _=>rfl)) (ad (aw av (pv 4) af (λ_ _=>rfl)) (ad bT ag)))) rfl)) aE)))) (am (az (pv 2)))))),?_⟩;refine λd hd=>?_;have s0:Same H (upd H d (.dT [])):=Same.new hd;have r0:Aj K (upd H d (.dT [])) d (λ_=>none) 0:=tK;generalize upd H d (.dT [])=H0 at s0 r0;have fa0:=fa.mono s0;obtain⟨dx,lt,d0,fr,hf,hl,⟨cc,dd⟩,fd⟩:=fa0.ex;refine⟨_,rfl,rfl,_,rfl,aZ (λc=>?_) (λc=>?_)⟩
  ·have c:wy=wOn:=bC (ds c)
   subst c;refine⟨sz (by simp),λp0 H2 s2 f2 n2=>⟨_,rfl,fo,C_Field,dx,_,_,rfl,s2 _ _ hf,zj.cls,n_far,rfl,?_⟩⟩;obtain⟨o,dg,ho⟩:=(fd.mono s2).get (x:=0) (y:=0) f2;refine⟨fr,o,rfl,dg,_,rfl,?_⟩;have S2:=s0.trans s2;have r2:=r0.mono s2;have nB:=qP (K:=K) hB;cases f0:F 0 0 with
   | true =>
    have e:o.isSome=true:=by rw[ho];exact decide_eq_true (de.mpr ⟨by decide,by omega,by decide,by omega,f0⟩)
    rw[e];refine bU rfl ?_;exact⟨_,rfl,k d H2 S2 hd (r2.congr (λx=>(cZ (R:=λ_=>none) (x:=(0,0,0)) (o:=none) rfl x).trans (by rw[<- vK,if_neg (by rw[f0];decide)])) (by omega))⟩
   | false =>
    have e:o.isSome=false:=by rw[ho];exact decide_eq_false λz=>by have:=(de.mp z).2.2.2.2;rw[f0]at this;cases this
    rw[e];refine cj rfl ?_;refine⟨sz (by simp),λtv H3 s3 f3 n3=>⟨_,rfl,sz (by simp),λtk H4 s4 f4 n4=>?_⟩⟩;obtain⟨H5,dp,rp5,b5⟩:=((r2.mono s3).mono s4).put (x:=(0,0,0)) (r:=⟨(0,0,0,1),(0,0,0,1),none⟩) f4 ⟨tv,pB,pB,.non,rfl,s4 _ _ f3,nB _,nB _,rfl⟩ rfl (by decide);refine⟨d,H5,rfl,dp,?_⟩;exact⟨_,rfl,k d H5 (b5.same (S2.trans (s3.trans s4)) hd) hd (rp5.congr (λx=>by rw[<- vK,if_pos f0]) (by omega))⟩
  ·have c:¬wy=wOn:=bP (ds c)
   have c:wy=bY:=hw.resolve_left c;subst c;have L:=SqT.of (K:=K) hl;have e62:(2:Int)^62=4611686018427387904:=by decide
   refine⟨_,rfl,fo,C_Field,dx,_,_,rfl,hf,zj.cls,n_last,rfl,lt,_,_,_,rfl,rfl,L,rfl,_,rfl,by omega,by omega,?_⟩;rw[Int.toNat_natCast];refine bR (n:=m) (lo:=0) (λj σ H'=>∃(z3 z4:Option V),σ = [some (.ref fo),some (.str bY),some (.ref d),z3,z4]/\Same H H'/\Aj K H' d (bgP G j) j)
    ⟨_,_,rfl,s0,r0.congr (λx=>by unfold bgP;rw[if_neg (by omega)]) (Nat.le_refl _)⟩ ?_ ?_
   ·rintro j σ H1 hj ⟨z3,z4,rfl,s1,r1⟩
    rw[Int.zero_add];obtain⟨dx,lt,d0,fr,hf,hl,⟨cc,dd⟩,fd⟩:=(fa.mono s1).ex;refine⟨_,rfl,fo,C_Field,dx,_,_,rfl,hf,zj.cls,n_doors,rfl,_,rfl,sz (by simp),λtk H2 s2 f2 n2=>?_⟩;have S2:=s1.trans s2;obtain⟨o,dg,hv,_⟩:=(dd.mono s2).get (k:=0) (i:=0) (j:=(j:Int)) f2;obtain⟨v,rfl,gv⟩:=hv (.inl ⟨rfl,⟨by decide,by omega⟩,by omega,by omega⟩);have new:bgP G j (0,0,(j:Int))=none:=if_neg λz=>by have:=z.2.2;omega
    refine⟨d0,_,rfl,dg,?_⟩;cases hg:G 0 0 (j:Int) with
    | none =>
     rw[hg]at gv;have gv:v = .non:=gv;rw[gv];refine⟨_,rfl,rfl,_,rfl,bU (by simp) ⟨_,_,rfl,S2,(r1.mono s2).congr (λx=>?_) (by omega)⟩⟩;rw[<- mH,hg];exact cZ new x
    | some p =>
     rw[hg]at gv;obtain⟨tg,p1,p2,rfl,eg,g1,g2⟩:=gv;refine⟨_,rfl,rfl,_,rfl,cj (by simp) ?_⟩;refine⟨_,rfl,tg,_,_,_,rfl,rfl,SqT.of eg,rfl,_,rfl,tg,_,_,_,rfl,rfl,SqT.of eg,rfl,sz (by simp),λtv H3 s3 f3 n3=>⟨_,rfl,_,rfl,sz (by simp),λtk' H4 s4 f4 n4=>?_⟩⟩;obtain⟨H5,dp,rp5,b5⟩:=(((r1.mono s2).mono s3).mono s4).put (x:=(0,0,(j:Int))) (r:=⟨p.1,p.2,none⟩) f4 ⟨tv,p1,p2,.non,rfl,s4 _ _ f3,(g1.mono s3).mono s4,(g2.mono s3).mono s4,rfl⟩ new (by omega);refine⟨d,H5,rfl,dp,_,_,rfl,b5.same (S2.trans (s3.trans s4)) hd,rp5.congr (λx=>?_) (by omega)⟩;rw[<- mH,hg];rfl
   ·rintro σ H1 ⟨z3,z4,rfl,s1,r1⟩
    exact⟨_,rfl,k d H1 s1 hd (r1.congr vf (by omega))⟩
noncomputable def RR(wy:Str)(G:GF)(F:Int->Int->Bool)(n m:Nat)(x:Dor):Option Rv :=
 if x.1=0/\(0<=x.2.1/\x.2.1<=(n:Int))/\0<=x.2.2/\x.2.2<(m:Int) then Uc G (bgR wy G F m) x.2.1.toNat x.2.2.toNat
 else if x.1=1/\(0<=x.2.1/\x.2.1<(n:Int))/\0<=x.2.2/\x.2.2<=(m:Int) then Lc G (Uc G (bgR wy G F m) x.2.1.toNat) x.2.1.toNat x.2.2.toNat else none
noncomputable def dnP(i su sl:Int)(x:Dor):Prop:=(x.1=0/\(x.2.1<=i\/(x.2.1=i+1/\x.2.2<su)))\/(x.1=1/\(x.2.1<i\/(x.2.1=i/\x.2.2<=sl)))
noncomputable def RS(wy:Str)(G:GF)(F:Int->Int->Bool)(n m:Nat)(i su sl:Int)(x:Dor):Option Rv:=@ite _ (dnP i su sl x) (Classical.propDecidable _) (RR wy G F n m x) none
section
variable {wy:Str} {G:GF} {F:Int->Int->Bool} {n m:Nat}
theorem nY{i j:Nat}(hi:i<=n)(hj:j<m):RR wy G F n m (0,(i:Int),(j:Int))=Uc G (bgR wy G F m) i j:=by
 unfold RR;rw[if_pos ⟨rfl,⟨by show(0:Int)<=i;omega,by show(i:Int)<=n;omega⟩,by show(0:Int)<=j;omega,by show(j:Int)<m;omega⟩];rfl
theorem qi{i j:Nat}(hi:i<n)(hj:j<=m):RR wy G F n m (1,(i:Int),(j:Int))=Lc G (Uc G (bgR wy G F m) i) i j:=by
 unfold RR;rw[if_neg (λz=>absurd z.1 (show ¬(1:Int)=0 by decide)),if_pos ⟨rfl,⟨by show(0:Int)<=i;omega,by show(i:Int)<n;omega⟩,by show(0:Int)<=j;omega,by show(j:Int)<=m;omega⟩];rfl
theorem d6{i su sl:Int}{x:Dor}(h:dnP i su sl x):RS wy G F n m i su sl x=RR wy G F n m x:=by unfold RS;rw[if_pos h]
theorem gT{i su sl:Int}{x:Dor}(h:¬dnP i su sl x):RS wy G F n m i su sl x=none:=by unfold RS;rw[if_neg h]
theorem nX{i su sl i' su' sl':Int}{x:Dor}(h:dnP i su sl x↔dnP i' su' sl' x):RS wy G F n m i su sl x=RS wy G F n m i' su' sl' x:=by
 by_cases z:dnP i su sl x
 ·rw[d6 z,d6 (h.mp z)]
 ·rw[gT z,gT (λw=>z (h.mpr w))]
theorem fi{x:Dor}(h:¬DIn n m x.1 x.2.1 x.2.2):RR wy G F n m x=none:=by
 unfold RR;rw[if_neg (λz=>h (.inl ⟨z.1,z.2⟩)),if_neg (λz=>h (.inr ⟨z.1,z.2⟩))]
theorem gB{i su sl:Int}{x:Dor}(h:RR wy G F n m x=none):RS wy G F n m i su sl x=none:=by
 by_cases z:dnP i su sl x
 ·rw[d6 z,h]
 ·exact gT z
theorem sL{x:Dor}(h1:x.1=1)(h2:x.2.2=0):RR wy G F n m x=none:=by
 unfold RR;rw[if_neg (λz=>by have:=z.1;omega)]
 split
 ·rw[h2];rfl
 ·rfl
theorem sK(h1:1<=m):∀x:Dor,bgD wy G F m x=RS wy G F n m 0 0 0 x:=λx=>by
 have hm:∀j,¬j<m->bgR wy G F m j=none:=λj hj=>by
  unfold bgR
  by_cases c:wy=wOn
  ·rw[if_pos c,if_neg (by omega)]
  ·rw[if_neg c,if_neg hj]
 unfold bgD
 by_cases A:x.1=0/\x.2.1=0/\0<=x.2.2
 ·rw[if_pos A]
  by_cases B:x.2.2<(m:Int)
  ·rw[d6 (.inl ⟨A.1,.inl (by omega)⟩)]
   unfold RR;rw[if_pos ⟨A.1,⟨by omega,by omega⟩,A.2.2,B⟩,A.2.1];rfl
  ·rw[hm _ (by omega),gB (fi ?_)]
   rintro(⟨_,_,_,h⟩|⟨h,_⟩) <;> omega
 ·rw[if_neg A]
  by_cases z:dnP 0 0 0 x
  ·rw[d6 z]
   by_cases D:DIn n m x.1 x.2.1 x.2.2
   ·rcases D with⟨d1,d2,d3,d4⟩|⟨d1,d2,d3,d4⟩
    ·refine absurd ⟨d1,?_,d3⟩ A
     rcases z with⟨_,z|z⟩|⟨z,_⟩ <;> omega
    ·rw[sL d1]
     rcases z with⟨z,_⟩|⟨_,z|z⟩ <;> omega
   ·rw[fi D]
  ·rw[gT z]
theorem yz{i j:Nat}(hi:i<n)(hj:j<m):∀x:Dor,fj (RS wy G F n m i j j) (0,(i:Int)+1,(j:Int)) (pas (G 0 ((i:Int)+1) (j:Int)) (RS wy G F n m i j j (0,(i:Int),(j:Int))) (RS wy G F n m i j j (1,(i:Int),(j:Int))) (0,(i:Int),(j:Int)) (1,(i:Int),(j:Int))) x=RS wy G F n m i ((j:Int)+1) j x:=λx=>by
 have e1:RS wy G F n m i j j (0,(i:Int),(j:Int))=Uc G (bgR wy G F m) i j:=(d6 (.inl ⟨rfl,.inl (Int.le_refl _)⟩)).trans (nY (by omega) hj);have e2:RS wy G F n m i j j (1,(i:Int),(j:Int))=Lc G (Uc G (bgR wy G F m) i) i j:=(d6 (.inr ⟨rfl,.inr ⟨rfl,Int.le_refl _⟩⟩)).trans (qi hi (by omega));rw[e1,e2];unfold fj
 by_cases h:x=(0,(i:Int)+1,(j:Int))
 ·rw[if_pos h,h,d6 (.inl ⟨rfl,.inr ⟨rfl,by show(j:Int)<(j:Int)+1;omega⟩⟩)]
  have:=nY (wy:=wy) (G:=G) (F:=F) (n:=n) (m:=m) (i:=i+1) (j:=j) (by omega) hj;rw[show((i:Int)+1)=((i+1:Nat):Int) by omega,this];rfl
 ·rw[if_neg h]
  refine nX ?_;unfold dnP;constructor
  ·rintro(⟨a,b⟩|b)
   ·exact .inl ⟨a,b.imp_right λc=>⟨c.1,by omega⟩⟩
   ·exact .inr b
  ·rintro(⟨a,b|⟨b,c⟩⟩|b)
   ·exact .inl ⟨a,.inl b⟩
   ·refine .inl ⟨a,.inr ⟨b,?_⟩⟩
    have:x.2.2≠(j:Int):=λw=>h (Prod.ext a (Prod.ext b w));omega
   ·exact .inr b
theorem vi{i j:Nat}(hi:i<n)(hj:j<m):∀x:Dor,fj (RS wy G F n m i ((j:Int)+1) j) (1,(i:Int),(j:Int)+1) (pas (G 1 (i:Int) ((j:Int)+1)) (RS wy G F n m i ((j:Int)+1) j (1,(i:Int),(j:Int))) (RS wy G F n m i ((j:Int)+1) j (0,(i:Int),(j:Int))) (1,(i:Int),(j:Int)) (0,(i:Int),(j:Int))) x=RS wy G F n m i ((j:Int)+1) ((j:Int)+1) x:=λx=>by
 have e1:RS wy G F n m i ((j:Int)+1) j (0,(i:Int),(j:Int))=Uc G (bgR wy G F m) i j:=(d6 (.inl ⟨rfl,.inl (Int.le_refl _)⟩)).trans (nY (by omega) hj);have e2:RS wy G F n m i ((j:Int)+1) j (1,(i:Int),(j:Int))=Lc G (Uc G (bgR wy G F m) i) i j:=(d6 (.inr ⟨rfl,.inr ⟨rfl,Int.le_refl _⟩⟩)).trans (qi hi (by omega));rw[e1,e2];unfold fj
 by_cases h:x=(1,(i:Int),(j:Int)+1)
 ·have e3:RS wy G F n m i ((j:Int)+1) ((j:Int)+1) (1,(i:Int),(j:Int)+1)=RR wy G F n m (1,(i:Int),(j:Int)+1):=d6 (.inr ⟨rfl,.inr ⟨rfl,Int.le_refl _⟩⟩)
  rw[if_pos h,h,e3];have:=qi (wy:=wy) (G:=G) (F:=F) (n:=n) (m:=m) (i:=i) (j:=j+1) hi (by omega);rw[show((j:Int)+1)=((j+1:Nat):Int) by omega,this];rfl
 ·rw[if_neg h]
  refine nX ?_;unfold dnP;constructor
  ·rintro(b|⟨a,b⟩)
   ·exact .inl b
   ·exact .inr ⟨a,b.imp_right λc=>⟨c.1,by omega⟩⟩
  ·rintro(b|⟨a,b|⟨b,c⟩⟩)
   ·exact .inl b
   ·exact .inr ⟨a,.inl b⟩
   ·refine .inr ⟨a,.inr ⟨b,?_⟩⟩
    have:x.2.2≠(j:Int)+1:=λw=>h (Prod.ext a (Prod.ext b w));omega
theorem vj{i:Nat}:∀x:Dor,RS wy G F n m i m m x=RS wy G F n m ((i+1:Nat):Int) 0 0 x:=λx=>by
 by_cases D:DIn n m x.1 x.2.1 x.2.2
 ·by_cases z:x.1=1/\x.2.2=0
  ·rw[gB (sL z.1 z.2),gB (sL z.1 z.2)]
  ·refine nX ?_
   unfold dnP;rcases D with⟨d1,d2,d3,d4⟩|⟨d1,d2,d3,d4⟩
   ·constructor
    ·rintro(⟨_,h|h⟩|⟨h,_⟩)
     ·exact .inl ⟨d1,.inl (by omega)⟩
     ·exact .inl ⟨d1,.inl (by omega)⟩
     ·omega
    ·rintro(⟨_,h|h⟩|⟨h,_⟩)
     ·rcases Int.lt_or_le x.2.1 ((i+1:Nat):Int) with w|w
      ·exact .inl ⟨d1,.inl (by omega)⟩
      ·exact .inl ⟨d1,.inr ⟨by omega,d4⟩⟩
     ·omega
     ·omega
   ·constructor
    ·rintro(⟨h,_⟩|⟨_,h|h⟩)
     ·omega
     ·exact .inr ⟨d1,.inl (by omega)⟩
     ·exact .inr ⟨d1,.inl (by omega)⟩
    ·rintro(⟨h,_⟩|⟨_,h|h⟩)
     ·omega
     ·rcases Int.lt_or_le x.2.1 (i:Int) with w|w
      ·exact .inr ⟨d1,.inl w⟩
      ·exact .inr ⟨d1,.inr ⟨by omega,d4⟩⟩
     ·exact absurd ⟨d1,by omega⟩ z
 ·rw[gB (fi D),gB (fi D)]
theorem xq:∀x:Dor,RS wy G F n m n 0 0 x=RR wy G F n m x:=λx=>by
 by_cases z:DIn n m x.1 x.2.1 x.2.2
 ·refine d6 ?_
  rcases z with⟨a,b⟩|⟨a,b⟩
  ·exact .inl ⟨a,.inl b.1.2⟩
  ·exact .inr ⟨a,.inl b.1.2⟩
 ·rw[fi z]
  unfold RS
  split
  ·exact fi z
  ·rfl
end
inductive Ff (K:W.Frag) (C:Addr) (vs:List V) (H:Hp) (Q:VK) (x_3:XK):Prop
 | mk:∀(fo:Addr) (n m:Nat) (room:Int) (G:GF) (F:Int->Int->Bool) (wy:Str),(vs = [.ref fo,.str wy])->(AF K C H fo n m room G F)->((1<=n/\n<=20))->((1<=m/\m<=20))->((wy=wOn\/wy=bY))->(∀d H',Same H H'->H d=none->Aj K H' d (RR wy G F n m) 900->Q (.ref d) H')->Ff K C vs H Q x_3
theorem zE:zf ["field","way","reached","i","j","side"] ["field","way"] (ak (top 74)):=smk
theorem gN(BY:Df K mg "doors_reached" (top 74))(zj:CZ K mg "Field" C_Field)(n_room:aW K C_Field "room")(n_last:aW K C_Field "last")(n_doors:aW K C_Field "doors")(n_far:aW K C_Field "far")(V_UPRIGHT:∃tk,mg "UPRIGHT" = some (.int 0 tk))(V_LEVEL:∃tk,mg "LEVEL" = some (.int 1 tk))(Ag:Fn P w K mg base "doors_at_begin" ["field","way"] 2 (Fi K C_Field))(Bn:Fn P w K mg base "door_out" ["side","i","j"] 1 Fg)(Ax:Fn P w K mg base "pass_through" ["field","reached","door","straight","turned"] 5 (E8 K C_Field))(T:Txt mg):Fn P w K mg base "doors_reached" ["field","way"] 6 (Ff K C_Field):=by
 refine BY.fn zE (λ_ _ _ _ _ _ us hl=>by obtain⟨_,_,rfl⟩:=cJ hl;rfl) (λvs H Q E h=>?_) (λf cdv A outer s H vs Q E hr h=>?_)
 ·obtain⟨fo,n,m,room,G,F,wy,rfl,_⟩:=h
  rfl
 ·obtain⟨fo,n,m,room,G,F,wy,rfl,fa,⟨hn,hn20⟩,⟨hm,hm20⟩,hw,k⟩:=h
  obtain⟨tU,zp⟩:=V_UPRIGHT;obtain⟨tL,AE⟩:=V_LEVEL;refine⟨_,(ai (au (i:=2) zE.nd rfl (Or.inl rfl) (aA Ag (hr.mono (by decide)) (by rfl) (ad (pv 0) (ad (pv 1) ag)))) (ai (bI PassesOwn.never rfl (bW rfl T.z_range (ad (aw av (dz (pv 0) rfl) af (λ_ _=>rfl)) ag)) (aK (i:=3) zE.nd rfl (Or.inl rfl)) (am (bI PassesOwn.never rfl (bW rfl T.z_range (ad (aw av (dz (pv 0) rfl) af (λ_ _=>rfl)) ag)) (aK (i:=4) zE.nd rfl (Or.inl rfl)) (am (bI PassesOwn.never rfl (wg (ay (ad (aG (v:=.int 0) (by rfl) zp ⟨_,rfl⟩) (ad (aG (v:=.int 1) (by rfl) AE ⟨_,rfl⟩) ag)))) (aK (i:=5) zE.nd rfl (Or.inl rfl)) (am (bJ (aA Ax (hr.mono (by decide)) (by rfl) (ad (pv 0) (ad (pv 2) (ad (aA Bn (hr.mono (by decide)) (by rfl) (ad (pv 5) (ad (pv 3) (ad (pv 4) ag)))) (ad (ay (ad (pv 5) (ad (pv 3) (ad (pv 4) ag)))) (ad (ay (ad (ao aM af (pv 5)) (ad (pv 3) (ad (pv 4) ag)))) ag))))))))))))) (am (az (pv 2))))),?_⟩;refine⟨_,rfl,_,rfl,fo,n,m,room,G,F,wy,rfl,fa,⟨hn,hn20⟩,⟨hm,hm20⟩,hw,λd H1 s1 nd rp1=>?_⟩;obtain⟨dx,lt,d0,fr,hf,hl,_,_⟩:=fa.ex;have FL:∀{H':Hp},Same H H'->SqT K H' lt [.int (n:Int),.int (m:Int)]:=λs=>SqT.of (s _ _ hl);have cb:∀{i j:Nat},i<n->j<m->i*(2*m)+2*j+2<=800:=λ{i j} hi hj=>by
   have h1:i*(2*m)<=19*(2*m):=Nat.mul_le_mul_right _ (by omega);omega
  refine⟨_,rfl,fo,C_Field,dx,_,_,rfl,s1 _ _ hf,zj.cls,n_last,rfl,lt,_,_,_,rfl,rfl,FL s1,rfl,_,rfl,by omega,by omega,?_⟩;rw[Int.toNat_natCast];refine bR (n:=n) (lo:=0) (λi σ H'=>∃(z3 z4 z5:Option V),σ = [some (.ref fo),some (.str wy),some (.ref d),z3,z4,z5]/\Same H H'/\Aj K H' d (RS wy G F n m i 0 0) (30+i*(2*m)))
   ⟨_,_,_,rfl,s1,rp1.congr (sK hm) (by omega)⟩ ?_ ?_
  ·rintro i σ H2 hi ⟨z3,z4,z5,rfl,s2,rp2⟩
   rw[Int.zero_add];refine⟨_,rfl,fo,C_Field,dx,_,_,rfl,s2 _ _ hf,zj.cls,n_last,rfl,lt,_,_,_,rfl,rfl,FL s2,rfl,_,rfl,by omega,by omega,?_⟩;rw[Int.toNat_natCast];refine bR (n:=m) (lo:=0) (λj σ H'=>∃(z4 z5:Option V),σ = [some (.ref fo),some (.str wy),some (.ref d),some (.int (i:Int)),z4,z5]/\Same H H'/\Aj K H' d (RS wy G F n m i j j) (30+i*(2*m)+2*j))
    ⟨_,_,rfl,s2,rp2⟩ ?_ ?_
   ·rintro j σ H3 hj ⟨z4,z5,rfl,s3,rp3⟩
    rw[Int.zero_add];have hc:=cb hi hj;refine⟨sz (by simp),λtp H4 s4 f4 n4=>?_⟩;have ndp:d≠tp:=λz=>by
     obtain⟨kvs,e,_⟩:=rp3.ex;rw[z,n4]at e;cases e
    refine⟨tp,rfl,⟨_,SqT.of f4⟩,uO (K:=K) (a:=tp) (xs:=[.int 0,.int 1]) (λs σ H'=>∃(z5:Option V),σ = [some (.ref fo),some (.str wy),some (.ref d),some (.int (i:Int)),some (.int (j:Int)),z5]/\Same H H'/\H' tp=some (.tup [.int 0,.int 1])/\Aj K H' d (RS wy G F n m i ((j:Int)+(if 1<=s then 1 else 0)) ((j:Int)+(if 2<=s then 1 else 0))) (30+i*(2*m)+2*j+s))
     ⟨_,rfl,s3.trans s4,f4,(rp3.mono s4).congr (λx=>by rw[if_neg (by decide),if_neg (by decide),Int.add_zero]) (by omega)⟩ (λi σ H' _ ⟨_,_,_,e,_⟩=>SqT.of e) ?_ ?_⟩
    ·rintro s x σ H5 hx ⟨z5,rfl,s5,f5,rp5⟩
     obtain⟨sd,rfl,hsd⟩:∃sd:Int,x = .int sd/\((s=0/\sd=0)\/(s=1/\sd=1)):=by
      match s,hx with
      | 0,h=>cases h;exact⟨0,rfl,.inl ⟨rfl,rfl⟩⟩
      | 1,h=>cases h;exact⟨1,rfl,.inr ⟨rfl,rfl⟩⟩
      | s+2,h=>simp at h
     refine⟨_,rfl,_,rfl,_,rfl,_,rfl,_,rfl,sd,(i:Int),(j:Int),rfl,by omega,λt H6 s6 f6=>?_⟩;refine⟨_,rfl,_,rfl,_,rfl,sz (by simp),λts H7 s7 f7 n7=>?_⟩;refine⟨_,rfl,_,_,rfl,rfl,_,rfl,_,rfl,sz (by simp),λtt H8 s8 f8 n8=>?_⟩;have S8:=s6.trans (s7.trans s8);have fin:∀{su sl:Int} {H':Hp},a7 d H8 H'->Aj K H' d (RS wy G F n m i su sl) (30+i*(2*m)+2*j+(s+1))->su=(j:Int)+(if 1<=s+1 then 1 else 0)->sl=(j:Int)+(if 2<=s+1 then 1 else 0)->∃(z5:Option V),[some (V.ref fo),some (V.str wy),some (V.ref d),some (V.int (i:Int)),some (V.int (j:Int)),some (V.int sd)] = [some (.ref fo),some (.str wy),some (.ref d),some (.int (i:Int)),some (.int (j:Int)),z5]/\Same H H'/\H' tp=some (.tup [.int 0,.int 1])/\Aj K H' d (RS wy G F n m i ((j:Int)+(if 1<=s+1 then 1 else 0)) ((j:Int)+(if 2<=s+1 then 1 else 0))) (30+i*(2*m)+2*j+(s+1)):=λ{su sl H'} b r e1 e2=>by
      subst e1;subst e2;exact⟨_,rfl,b.same (s5.trans S8) nd,b _ _ ndp.symm (S8 _ _ f5),r⟩
     rcases hsd with⟨rfl,rfl⟩|⟨rfl,rfl⟩
     ·refine⟨fo,d,t,ts,tt,n,m,room,G,F,_,_,(0,(i:Int)+1,(j:Int)),(0,(i:Int),(j:Int)),(1,(i:Int),(j:Int)),rfl,fa.mono (s5.trans S8),(rp5.mono S8).congr (R':=RS wy G F n m i j j) (λx=>by rw[if_neg (by decide),if_neg (by decide),Int.add_zero]) (Nat.le_refl _),⟨(s7.trans s8) _ _ f6,s8 _ _ f7,f8⟩,.inl ⟨rfl,⟨by show(0:Int)<=(i:Int)+1;omega,by show(i:Int)+1<=n;omega⟩,by show(0:Int)<=j;omega,by show(j:Int)<m;omega⟩,gT ?_,by omega,λH9 b9 r9=>?_⟩
      ·rintro(⟨_,h|⟨_,h⟩⟩|⟨h,_⟩)
       ·have h:(i:Int)+1<=i:=h
        omega
       ·have h:(j:Int)<j:=h
        omega
       ·cases h
      ·exact fin b9 (r9.congr (yz hi hj) (by omega)) (by rw[if_pos (by decide)]) (by rw[if_neg (by decide),Int.add_zero])
     ·refine⟨fo,d,t,ts,tt,n,m,room,G,F,_,_,(1,(i:Int),(j:Int)+1),(1,(i:Int),(j:Int)),(0,(i:Int),(j:Int)),rfl,fa.mono (s5.trans S8),(rp5.mono S8).congr (R':=RS wy G F n m i ((j:Int)+1) j) (λx=>by rw[if_pos (by decide),if_neg (by decide),Int.add_zero]) (Nat.le_refl _),⟨(s7.trans s8) _ _ f6,s8 _ _ f7,f8⟩,.inr ⟨rfl,⟨by show(0:Int)<=(i:Int);omega,by show(i:Int)<n;omega⟩,by show(0:Int)<=(j:Int)+1;omega,by show(j:Int)+1<=m;omega⟩,gT ?_,by omega,λH9 b9 r9=>?_⟩
      ·rintro(⟨h,_⟩|⟨_,h|⟨_,h⟩⟩)
       ·cases h
       ·have h:(i:Int)<i:=h
        omega
       ·have h:(j:Int)+1<=j:=h
        omega
      ·exact fin b9 (r9.congr (vi hi hj) (by omega)) (by rw[if_pos (by decide)]) (by rw[if_pos (by decide)])
    ·rintro σ H5 ⟨z5,rfl,s5,f5,rp5⟩
     exact⟨_,_,rfl,s5,rp5.congr (λx=>by rw[if_pos (by simp),if_pos (by simp)];rfl) (by simp only[List.length_cons,List.length_nil];omega)⟩
   ·rintro σ H3 ⟨z4,z5,rfl,s3,rp3⟩
    exact⟨_,_,_,rfl,s3,rp3.congr vj (by rw[Nat.add_mul];omega)⟩
  ·rintro σ H2 ⟨z3,z4,z5,rfl,s2,rp2⟩
   refine⟨_,rfl,k d H2 s2 nd (rp2.congr xq ?_)⟩;have h1:n*(2*m)<=20*(2*m):=Nat.mul_le_mul_right _ (by omega);omega
noncomputable def yr(room:Int)(gx gy:Option (N4×N4)):Option (N4×N4):=match gx,gy with
 | some p,some q=>if ro4 p.2 q.1>=room then none else some (p.2,q.1)
 | _,_=>none
noncomputable def dnE(room:Int)(G:GF)(i j:Int)(k:Nat):Option (cY×Lb):=(yr room (G 0 i j) (G 0 (k:Int) j)).map λl=>(ck (k:Int) j,.bend (dk 0 i j) (dk 0 (k:Int) j) l.1 l.2)
noncomputable def dnS(room:Int)(G:GF)(i j:Int):List (cY×Lb):=if j - 1<0 then [] else match G 0 i (j - 1) with
 | none=>[(ck i (j - 1),.no)]
 | some _=>(List.range i.toNat).filterMap (dnE room G i (j - 1))
noncomputable def ovE(room:Int)(G:GF)(i j:Int)(k:Nat):Option (cY×Lb):=(yr room (G 1 i (j+1+(k:Int))) (G 1 i j)).map λl=>(ck (i+1) (j+1+(k:Int)),.bend (dk 1 i j) (dk 1 i (j+1+(k:Int))) l.1 l.2)
noncomputable def ovS(room:Int)(G:GF)(n m:Nat)(i j:Int):List (cY×Lb):=if i=(n:Int) then [] else match G 1 i j with
 | none=>[(ck (i+1) j,.no)]
 | some _=>(List.range ((m:Int) - j).toNat).filterMap (ovE room G i j)
noncomputable def bkS(F:Int->Int->Bool)(n m:Nat)(i j:Int):List (cY×Lb):=((nM n m F).filter λp=>decide (p.1<=i) && decide (p.2>=j)).map λp=>(ck p.1 p.2,.no)
noncomputable def yP(room:Int)(G:GF)(F:Int->Int->Bool)(n m:Nat):cY->List (cY×Lb)
 | [.inl i,.inl j]=>(dnS room G i j++ovS room G n m i j)++bkS F n m i j
 | _=>[]
noncomputable def lcE:Nat->Expr->List Scope
 | 0,_=>[]
 | n+1,e=>match e with
  | .ListComp _ _ sc _=>[sc]
  | .Call f as _ _=>lcE n f++as.flatMap (lcE n)
  | .BoolOp _ vs _=>vs.flatMap (lcE n)
  | .UnaryOp _ a _=>lcE n a
  | .Compare a _ bs _=>lcE n a++bs.flatMap (lcE n)
  | .BinOp a _ b _=>lcE n a++lcE n b
  | _=>[]
noncomputable def lcS:Nat->Stmt->List Scope
 | 0,_=>[]
 | n+1,s=>match s with
  | .Return (some e) _=>lcE 6 e
  | .Assign _ e _=>lcE 6 e
  | .Expr e _=>lcE 6 e
  | .If c b e _=>lcE 6 c++(b.flatMap (lcS n)++e.flatMap (lcS n))
  | .For _ _ b _ _=>b.flatMap (lcS n)
  | _=>[]
noncomputable def lcA(s:Stmt)(i:Nat):Scope:=((aH s).flatMap (lcS 4)).getD i { kind:=.function,names:=[],isGenerator:=false,isCoroutine:=false }
theorem fB{z:Int}:sg z<=0↔z<=0:=by
 unfold sg
 (repeat' split) <;> omega
theorem bB{z:Int}(h:z<=0):ssq z = -(z*z):=by
 unfold ssq;rcases Int.lt_or_eq_of_le h with z'|z'
 ·rw[if_pos z',Int.mul_neg]
 ·rw[z'];rfl
theorem dQ{z:Int}(h:0<=z):ssq z=z*z:=by
 unfold ssq;rw[if_neg (by omega)]
theorem dC{a b:Int}(h0:0<=a)(h:a<=b):a*a<=b*b:=Int.mul_le_mul h h h0 (by omega)
theorem mS{a0 a2 a3 b0 b2 b3 x y:Int}(ha:0<a3)(hb:0<b3)(a2n:0<=a2)(b2n:0<=b2)(hw:a0*b3 - b0*a3=x*b3 - y*a3)(hx:x<=0\/x*x<=a2)(hy:0<=y\/y*y<=b2):ro a0 (-1) a2 a3 b0 1 b2 b3<=0:=by
 unfold ro;rw[hw];have e1:(-1:Int)*b3 = -b3:=by omega
 have e2:-(1:Int)*a3 = -a3:=by omega
 rw[e1,e2];obtain⟨α,α0,αx,αs⟩:∃α:Int,0<=α/\x*b3<=α/\α*α<=b3*b3*a2:=by
  rcases Int.lt_or_le 0 x with z|z
  ·have hx:x*x<=a2:=hx.resolve_left (by omega)
   refine⟨x*b3,Int.mul_nonneg (by omega) (by omega),Int.le_refl _,?_⟩;have:=Int.mul_le_mul_of_nonneg_left hx (show 0<=b3*b3 from Int.mul_nonneg (by omega) (by omega));have e:x*b3*(x*b3)=b3*b3*(x*x):=by grind
   omega
  ·exact⟨0,Int.le_refl _,Int.mul_nonpos_of_nonpos_of_nonneg z (by omega),by rw[Int.mul_zero];exact Int.mul_nonneg (Int.mul_nonneg (by omega) (by omega)) a2n⟩
 obtain⟨β,β0,βy,βs⟩:∃β:Int,0<=β/\-(y*a3)<=β/\β*β<=a3*a3*b2:=by
  rcases Int.lt_or_le y 0 with z|z
  ·have hy:y*y<=b2:=hy.resolve_left (by omega)
   have yn:y*a3<=0:=Int.mul_nonpos_of_nonpos_of_nonneg (by omega) (by omega);refine⟨-(y*a3),by omega,Int.le_refl _,?_⟩;have:=Int.mul_le_mul_of_nonneg_left hy (show 0<=a3*a3 from Int.mul_nonneg (by omega) (by omega));have e:-(y*a3) * -(y*a3)=a3*a3*(y*y):=by grind
   omega
  ·have:0<=y*a3:=Int.mul_nonneg z (by omega)
   exact⟨0,Int.le_refl _,by omega,by rw[Int.mul_zero];exact Int.mul_nonneg (Int.mul_nonneg (by omega) (by omega)) b2n⟩
 have wl:x*b3 - y*a3<=α+β:=by omega
 generalize x*b3 - y*a3=w at *;unfold bH;have n1:ssq (-b3)*a2+ssq (-a3)*b2 = -(b3*b3*a2+a3*a3*b2):=by
  rw[bB (show -b3<=0 by omega),bB (show -a3<=0 by omega)]
  grind
 rw[n1];have X0:0<=b3*b3*a2:=Int.mul_nonneg (Int.mul_nonneg (by omega) (by omega)) a2n;have Y0:0<=a3*a3*b2:=Int.mul_nonneg (Int.mul_nonneg (by omega) (by omega)) b2n;have sN:sg (-(b3*b3*a2+a3*a3*b2))<=0:=fB.mpr (by omega)
 split
 ·rename_i c
  rcases Int.lt_or_le 0 w with z|z
  ·have sw:sg w=1:=ce z
   rw[sw,Int.one_mul]at c;have s0:¬-(b3*b3*a2+a3*a3*b2)<0:=λh=>by rw[dD h]at c;omega
   have hX:b3*b3*a2=0:=by omega
   have hY:a3*a3*b2=0:=by omega
   have hα:α=0:=by
    rcases Int.lt_or_eq_of_le α0 with h|h
    ·have:=Int.mul_pos h h;omega
    ·exact h.symm
   have hβ:β=0:=by
    rcases Int.lt_or_eq_of_le β0 with h|h
    ·have:=Int.mul_pos h h;omega
    ·exact h.symm
   omega
  ·exact fB.mpr (by have:=fB.mpr z;omega)
 ·rename_i c
  have z:0<w:=by
   rcases Int.lt_or_le 0 w with z|z
   ·exact z
   ·exact absurd (Int.mul_nonneg_of_nonpos_of_nonpos (fB.mpr z) sN) (by omega)
  rw[ce z,Int.one_mul];unfold swr;refine fB.mpr ?_;have e3:w*w - -b3 * -b3*a2 - -a3 * -a3*b2=w*w - b3*b3*a2 - a3*a3*b2:=by grind
  have e4:-2 * -b3 * -a3 = -(2*b3*a3):=by grind
  have e5:ssq (-(2*b3*a3))*(a2*b2) = -(4*(b3*b3*a2)*(a3*a3*b2)):=by
   rw[bB (by have:=Int.mul_nonneg (show 0<=2*b3 by omega) (show 0<=a3 by omega);omega)]
   grind
  rw[e3,e4,e5];have w2:=dC (show 0<=w by omega) wl;have ex:(α+β)*(α+β)=α*α+β*β+2*(α*β):=by grind
  have ab0:=Int.mul_nonneg α0 β0;generalize b3*b3*a2=X at *;generalize a3*a3*b2=Y at *;have zl:w*w - X - Y<=2*(α*β):=by omega
  have XY:α*β*(α*β)<=X*Y:=by
   have:=Int.mul_le_mul αs βs (Int.mul_nonneg β0 β0) X0;have e:α*β*(α*β)=α*α*(β*β):=by grind
   omega
  rcases Int.lt_or_le 0 (w*w - X - Y) with z2|z2
  ·rw[dQ (by omega)]
   have:=dC (show 0<=w*w - X - Y by omega) zl;have e:2*(α*β)*(2*(α*β))=4*(α*β*(α*β)):=by grind
   have e':4*X*Y=4*(X*Y):=by grind
   omega
  ·rw[bB z2]
   have h1:0<=(w*w - X - Y)*(w*w - X - Y):=Int.mul_nonneg_of_nonpos_of_nonpos z2 z2;have h2:=Int.mul_nonneg X0 Y0;have e':4*X*Y=4*(X*Y):=by grind
   omega
inductive EQ:N4->Prop
 | b:EQ (0,0,0,1)
 | n {P U L:Int} (hL:0<L) (hU:0<=U) (h:P - L<=0\/(P - L)*(P - L)<=U) (z:0<=P/\U<=P*P):EQ (P,-1,U,L)
inductive ER:N4->Prop
 | e:ER (1,0,0,1)
 | n {P U L:Int} (hL:0<L) (hU:0<=U) (h:0<=P\/P*P<=U) (z:P - L<=0/\U<=(P - L)*(P - L)):ER (P,1,U,L)
theorem vx{P U L:Int}(hU:0<=U)(h:0<=ro 1 0 0 1 P (-1) U L):P - L<=0\/(P - L)*(P - L)<=U:=by
 rw[cO P (-1) U L 1 0 0 1,bD,Int.mul_one,Int.one_mul,show -1*(1:Int) = -1 from rfl]at h;have:=mt (kD (W:=P - L) hU).1.mpr (by omega);omega
theorem vw{P U L:Int}(hU:0<=U)(h:0<=ro P 1 U L 0 0 0 1):0<=P\/P*P<=U:=by
 rw[bD,Int.mul_one,Int.zero_mul,Int.sub_zero,show(1:Int)*1=1 from rfl]at h;have:=mt (kC (W:=P) hU).1.mpr (by omega);omega
theorem wI{P U L:Int}(hU:0<=U)(h:¬ro P (-1) U L 0 0 0 1<0):0<=P/\U<=P*P:=by
 rw[bD,Int.mul_one,Int.zero_mul,Int.sub_zero,show -1*(1:Int) = -1 from rfl]at h;have:=mt (kD (W:=P) hU).2.2.mpr h;omega
theorem wT{P U L:Int}(hU:0<=U)(h:¬ro P 1 U L 1 0 0 1>0):P - L<=0/\U<=(P - L)*(P - L):=by
 rw[bD,Int.mul_one,Int.one_mul,show(1:Int)*1=1 from rfl]at h;have:=mt (kC (W:=P - L) hU).2.2.mpr h;omega
theorem cR{l m:N4}(g:Ft l m):EQ l/\ER m:=by
 cases g with
 | flat=>exact⟨.b,.e⟩
 | gate hL hU h1 h2 =>
  refine⟨?_,?_⟩
  ·unfold dG
   split
   ·exact .b
   ·rename_i c
    exact .n hL hU (vx hU h1) (wI hU c)
  ·unfold cC
   split
   ·exact .e
   ·rename_i c
    exact .n hL hU (vw hU h2) (wT hU c)
noncomputable def GGk(G:GF):Prop:=∀k i j l h,G k i j=some (l,h)->Ft l h
theorem fZ{qs rs:Crn}{a b room:Int}(hr:room=0\/room=1)(hb:0<b):GGk (cL qs rs a b room):=by
 intro k i j l h e;unfold cL at e
 split at e
 ·exact rG hr hb e
 ·exact rG hr hb e
theorem wJ{x y x' y' a b:Int}:lo x y x' y' a b<0↔a<((x' - x)*(x' - x)+(y' - y)*(y' - y))*b:=by
 unfold lo;have:=(jI (x:=a - ((x' - x)*(x' - x)+(y' - y)*(y' - y))*b)).1;omega
theorem rT{qs rs:Crn}{a b:Int}{i j:Int}(hi:0<=i/\i<(qs.length:Int))(hj:0<=j/\j<(rs.length:Int)):eQ qs rs a b 0 i j=decide (a<((cnX rs j - cnX qs i)*(cnX rs j - cnX qs i)+(cnY rs j - cnY qs i)*(cnY rs j - cnY qs i))*b):=by
 have hi':i.toNat<qs.length:=by omega
 have hj':j.toNat<rs.length:=by omega
 have e1:qs[i.toNat]? = some (qs.getD i.toNat (0,0,0)):=by rw[List.getD_eq_getElem?_getD,List.getElem?_eq_getElem hi'];rfl
 have e2:rs[j.toNat]? = some (rs.getD j.toNat (0,0,0)):=by rw[List.getD_eq_getElem?_getD,List.getElem?_eq_getElem hj'];rfl
 unfold eQ;rw[e1,e2];dsimp only;have:=wJ (x:=cnX qs i) (y:=cnY qs i) (x':=cnX rs j) (y':=cnY rs j) (a:=a) (b:=b)
 by_cases h:a<((cnX rs j - cnX qs i)*(cnX rs j - cnX qs i)+(cnY rs j - cnY qs i)*(cnY rs j - cnY qs i))*b
 ·rw[decide_eq_true h]
  exact decide_eq_true (this.mpr h)
 ·rw[decide_eq_false h]
  exact decide_eq_false (λz=>h (this.mp z))
theorem rf{P U L:Int}(hU:0<=U)(h:P - L<=0\/(P - L)*(P - L)<=U):ro P (-1) U L 1 0 0 1<=0:=by
 rw[bD,Int.mul_one,Int.one_mul,show -1*(1:Int) = -1 from rfl];have:=mt (kD (W:=P - L) hU).1.mp (by omega);omega
theorem kK{P U L:Int}(hU:0<=U)(h:0<=P\/P*P<=U):ro 0 0 0 1 P 1 U L<=0:=by
 rw[cO P 1 U L 0 0 0 1,bD,Int.mul_one,Int.zero_mul,Int.sub_zero,show(1:Int)*1=1 from rfl];have:=mt (kC (W:=P) hU).1.mp (by omega);omega
theorem iA{l m:N4}(g:Ft l m):ro4 l m<=0:=by
 cases g with
 | flat=>decide
 | @gate P U L hL hU h1 h2 =>
  unfold dG cC
  split
  ·split
   ·decide
   ·exact kK hU (vw hU h2)
  ·split
   ·exact rf hU (vx hU h1)
   ·exact mS (x:=0) (y:=0) hL hL hU hU (by omega) (.inl (Int.le_refl _)) (.inl (Int.le_refl _))
theorem vO{l m:N4}(hl:EQ l)(hm:ER m)(w:gtB m 1 1<1):ro4 l m<=0:=by
 cases hm with
 | e=>cases hl with
  | b=>decide
  | n _ hU h _=>exact rf hU h
 | @n P U L hL hU h _ =>
  have w:ro 1 0 0 1 P 1 U L<1:=w;cases hl with
  | b=>exact kK hU h
  | @n P' U' L' hL' hU' h' _ =>
   refine mS (x:=P' - L') (y:=P - L) hL' hL hU' hU (by grind) h' ?_;rw[cO P 1 U L 1 0 0 1,bD,Int.mul_one,Int.one_mul,show(1:Int)*1=1 from rfl]at w;have:=mt (kC (W:=P - L) hU).1.mpr (by omega);omega
theorem xj{l m:N4}(hl:EQ l)(hm:ER m)(w:ltB l 0 1<1):ro4 l m<=0:=by
 cases hl with
 | b=>cases hm with
  | e=>decide
  | n _ hU h _=>exact kK hU h
 | @n P U L hL hU h _ =>
  have w:ro P (-1) U L 0 0 0 1<1:=w;cases hm with
  | e=>exact rf hU h
  | @n P' U' L' hL' hU' h' _ =>
   refine mS (x:=P) (y:=P') hL hL' hU hU' rfl ?_ h';rw[bD,Int.mul_one,Int.zero_mul,Int.sub_zero,show -1*(1:Int) = -1 from rfl]at w;have:=mt (kD (W:=P) hU).1.mpr (by omega);omega
theorem oa{o:Option (N4×N4)}{t u:Int}(h:dO o t u=true):∃p,o=some p/\ltB p.1 t u<1/\gtB p.2 t u<1:=by
 cases o with
 | none=>cases h
 | some p =>
  have h:(decide (ltB p.1 t u<1) && decide (gtB p.2 t u<1))=true:=h;rw[Bool.and_eq_true,decide_eq_true_eq,decide_eq_true_eq]at h;exact⟨p,rfl,h.1,h.2⟩
section
variable {qs rs:Crn} {a b:Int} {n m:Nat}
theorem rK(hb:0<b)(en:qs.length=n+1)(em:rs.length=m+1)(i j:Nat)(hi:i<=n)(hj:j<m)(f:eQ qs rs a b 0 (i:Int) ((j+1:Nat):Int)=false):∃p,cL qs rs a b 0 0 (i:Int) (j:Int)=some p/\∀(k:Nat) p',cL qs rs a b 0 0 (k:Int) (j:Int)=some p'->ro4 p'.1 p.2<=0:=by
 have gg:GGk (cL qs rs a b 0):=fZ (.inl rfl) hb;have w:=(jT (cx:=cnX qs i) (cy:=cnY qs i) (bx:=cnX rs j) (by_:=cnY rs j) (ex:=cnX rs ((j:Int)+1)) (ey:=cnY rs ((j:Int)+1)) (x:=a) (y:=b) (a:=1) (b:=1) hb (by decide) (by decide) (by decide)).1;rw[rT (by omega) (by omega)]at f;have f:=of_decide_eq_false f;have ej:((j+1:Nat):Int)=(j:Int)+1:=by omega
 rw[ej]at f;have e1:wth (cnX qs i) (cnY qs i) (cnX rs j) (cnY rs j) (cnX rs ((j:Int)+1)) (cnY rs ((j:Int)+1)) 1 1=(cnX rs ((j:Int)+1) - cnX qs i)*(cnX rs ((j:Int)+1) - cnX qs i)+(cnY rs ((j:Int)+1) - cnY qs i)*(cnY rs ((j:Int)+1) - cnY qs i):=by unfold wth cg rAl;grind
 rw[e1,decide_eq_true (by omega)]at w;obtain⟨p,hp,_,h2⟩:=oa w;refine⟨p,hp,λk p' hp'=>?_⟩;exact vO (cR (gg _ _ _ _ _ hp')).1 (cR (gg 0 i j _ _ hp)).2 h2
theorem rL(hb:0<b)(en:qs.length=n+1)(em:rs.length=m+1)(i j:Nat)(hi:i<n)(hj:j<=m)(f:eQ qs rs a b 0 (i:Int) (j:Int)=false):∃p,cL qs rs a b 0 1 (i:Int) (j:Int)=some p/\∀(k:Nat) p',cL qs rs a b 0 1 (i:Int) (k:Int)=some p'->ro4 p.1 p'.2<=0:=by
 have gg:GGk (cL qs rs a b 0):=fZ (.inl rfl) hb;have w:=(jT (cx:=cnX rs j) (cy:=cnY rs j) (bx:=cnX qs i) (by_:=cnY qs i) (ex:=cnX qs ((i:Int)+1)) (ey:=cnY qs ((i:Int)+1)) (x:=a) (y:=b) (a:=0) (b:=1) hb (by decide) (by decide) (by decide)).1;rw[rT (by omega) (by omega)]at f;have f:=of_decide_eq_false f;have e1:wth (cnX rs j) (cnY rs j) (cnX qs i) (cnY qs i) (cnX qs ((i:Int)+1)) (cnY qs ((i:Int)+1)) 0 1=(cnX rs j - cnX qs i)*(cnX rs j - cnX qs i)+(cnY rs j - cnY qs i)*(cnY rs j - cnY qs i):=by unfold wth;grind
 rw[e1,decide_eq_true (by omega)]at w;obtain⟨p,hp,h1,_⟩:=oa w;have hp:cL qs rs a b 0 1 (i:Int) (j:Int)=some p:=hp;refine⟨p,hp,λk p' hp'=>?_⟩;exact xj (cR (gg _ _ _ _ _ hp)).1 (cR (gg _ _ _ _ _ hp')).2 h1
end
noncomputable def za(wy:Str)(n m:Nat)(F:Int->Int->Bool):List (Int×Int):=(nM n m F).filter λp=>decide (p.2=(m:Int)) || (decide (wy≠bY) && decide (p.1=0))
noncomputable def y7(wy:Str)(n:Nat):cY->Bool
 | [.inl i,.inl j]=>decide (j=0) || (decide (wy≠bY) && decide (i=(n:Int)))
 | _=>false
noncomputable def NoW(wy:Str)(n m:Nat)(G:GF)(F:Int->Int->Bool):Prop:=(wy=wOn->F n m=true\/(RR wy G F n m (0,((n - 1:Nat):Int),((m - 1:Nat):Int))=none/\RR wy G F n m (1,((n - 1:Nat):Int),((m - 1:Nat):Int))=none))/\(wy=bY->∀j:Nat,j<m->RR wy G F n m (0,(n:Int),(j:Int))=none)
theorem du:¬wOn=bY:=by decide +kernel
theorem ue{qs rs:Crn}{a b:Int}{n m:Nat}{wy:Str}(hb:0<b)(en:qs.length=n+1)(em:rs.length=m+1)(hn:1<=n)(hm:1<=m)(hw:wy=wOn\/wy=bY)(W:NoW wy n m (cL qs rs a b 0) (eQ qs rs a b 0)):¬zd ((za wy n m (eQ qs rs a b 0)).map λp=>ck p.1 p.2) (yP 0 (cL qs rs a b 0) (eQ qs rs a b 0) n m) (y7 wy n):=by
 rintro⟨R,r0,r1,r2⟩;have gg:GGk (cL qs rs a b 0):=fZ (.inl rfl) hb;have GT:=rK (a:=a) hb en em;have GL:=rL (a:=a) hb en em;generalize cL qs rs a b 0=G at *;generalize eQ qs rs a b 0=F at *
 let S:Nat->Nat->Prop:=λp q=>(p<=n/\q<=m)/\ck (p:Int) (q:Int)∈R
 have beg:∀p q:Nat,p<=n->q<=m->F p q=true->(q=m\/(wy≠bY/\p=0))->S p q:=λp q hp hq f h=>by
  refine⟨⟨hp,hq⟩,r0 _ (List.mem_map.mpr ⟨((p:Int),(q:Int)),List.mem_filter.mpr ⟨de.mpr ⟨by omega,by omega,by omega,by omega,f⟩,?_⟩,rfl⟩)⟩;rcases h with h|⟨h1,h2⟩
  ·rw[decide_eq_true (show((p:Int),(q:Int)).2=(m:Int) by rw[h]),Bool.true_or]
  ·rw[decide_eq_true h1,decide_eq_true (show((p:Int),(q:Int)).1=0 by rw[h2];rfl),Bool.true_and,Bool.or_true]
 have stp:∀{i j:Nat} {e:cY×Lb},S i j->e∈(dnS 0 G i j++ovS 0 G n m i j)++bkS F n m i j->e.1∈R:=λs h=>r1 _ s.2 _ h;have bk:∀i j p q:Nat,S i j->p<=i->j<=q->q<=m->F p q=true->S p q:=λi j p q s h1 h2 h3 f=>by
  have hi:=s.1.1;refine⟨⟨by omega,h3⟩,stp (e:=(ck (p:Int) (q:Int),.no)) s (List.mem_append_right _ (List.mem_map.mpr ⟨((p:Int),(q:Int)),List.mem_filter.mpr ⟨de.mpr ⟨by omega,by omega,by omega,by omega,f⟩,?_⟩,rfl⟩))⟩;rw[decide_eq_true (show((p:Int),(q:Int)).1<=(i:Int) from Int.ofNat_le.mpr h1),decide_eq_true (show((p:Int),(q:Int)).2>=(j:Int) from Int.ofNat_le.mpr h2)];rfl
 have e0:∀i j:Nat,S i j->j≠0/\(wy≠bY->i≠n):=λi j s=>by
  have h:(decide ((j:Int)=0) || (decide (wy≠bY) && decide ((i:Int)=(n:Int))))=false:=r2 _ s.2;rw[Bool.or_eq_false_iff,decide_eq_false_iff_not]at h;refine⟨λz=>h.1 (by rw[z];rfl),λhp z=>?_⟩;rw[decide_eq_true hp,Bool.true_and,decide_eq_false_iff_not]at h;exact h.2 (by rw[z])
 have D:A9 n m G (λi j=>F i j) S (λp q=>(∃p' q',p<=p'/\q'<=q/\S p' q')\/(wy≠bY/\p=0/\1<=q)):=by
  refine⟨λx y q h t=>?_,λp q q' h t=>?_,λp q hp hq t f=>?_,λp q s=>.inl ⟨p,q,Nat.le_refl _,Nat.le_refl _,s⟩,λp hp f=>beg p m hp (Nat.le_refl _) f (.inl rfl),?_,?_,?_,?_,λk i j p h=>iA (gg k i j _ _ h),GT,GL⟩
  ·rcases t with⟨p',q',h1,h2,s⟩|⟨h1,h2,h3⟩
   ·exact .inl ⟨p',q',by omega,h2,s⟩
   ·exact .inr ⟨h1,by omega,h3⟩
  ·rcases t with⟨p',q'',h1,h2,s⟩|⟨h1,h2,h3⟩
   ·exact .inl ⟨p',q'',h1,by omega,s⟩
   ·exact .inr ⟨h1,h2,by omega⟩
  ·rcases t with⟨p',q',h1,h2,s⟩|⟨h1,h2,h3⟩
   ·exact bk p' q' p q s h1 h2 hq f
   ·exact beg p q hp hq f (.inr ⟨h1,h2⟩)
  ·intro i j hi hj s g
   refine⟨⟨hi,by omega⟩,stp (e:=(ck (i:Int) (j:Int),.no)) s (List.mem_append_left _ (List.mem_append_left _ ?_))⟩;unfold dnS;rw[if_neg (by omega),show((j+1:Nat):Int) - 1=(j:Int) by omega,g];exact List.mem_singleton.mpr rfl
  ·intro i j k p p' hi hj s hk g g' lt
   refine⟨⟨by omega,by omega⟩,stp (e:=(ck (k:Int) (j:Int),.bend (dk 0 i j) (dk 0 (k:Int) j) p.2 p'.1)) s (List.mem_append_left _ (List.mem_append_left _ ?_))⟩;unfold dnS;rw[if_neg (by omega),show((j+1:Nat):Int) - 1=(j:Int) by omega,g];refine List.mem_filterMap.mpr ⟨k,List.mem_range.mpr (by omega),?_⟩;unfold dnE;rw[g,g'];show(if ro4 p.2 p'.1>=0 then none else some (p.2,p'.1)).map _=_
   rw[if_neg (by omega)];rfl
  ·intro i j hi hj s g
   refine⟨⟨by omega,hj⟩,?_⟩;have:=stp (e:=(ck ((i:Int)+1) (j:Int),.no)) s (List.mem_append_left _ (List.mem_append_right _ (by
    unfold ovS;rw[if_neg (by omega),g];exact List.mem_singleton.mpr rfl)))
   rw[show((i+1:Nat):Int)=(i:Int)+1 by omega];exact this
  ·intro i j k p p' hi hk hkm s g g' lt
   refine⟨⟨by omega,hkm⟩,?_⟩;have ek:(j:Int)+1+((k - j - 1:Nat):Int)=(k:Int):=by omega
   have:=stp (e:=(ck ((i:Int)+1) (k:Int),.bend (dk 1 i j) (dk 1 i (k:Int)) p'.2 p.1)) s (List.mem_append_left _ (List.mem_append_right _ (by
    unfold ovS;rw[if_neg (by omega),g];refine List.mem_filterMap.mpr ⟨k - j - 1,List.mem_range.mpr (by omega),?_⟩;unfold ovE;rw[ek,g,g'];show(if ro4 p'.2 p.1>=0 then none else some (p'.2,p.1)).map _=_
    rw[if_neg (by omega)];rfl)))
   rw[show((i+1:Nat):Int)=(i:Int)+1 by omega];exact this
 have n00:¬((∃p' q',0<=p'/\q'<=0/\S p' q')\/(wy≠bY/\0=0/\1<=0)):=by
  rintro(⟨p',q',_,h,s⟩|⟨_,_,h⟩)
  ·exact(e0 p' q' s).1 (by omega)
  ·omega
 rcases hw with rfl|rfl
 ·have F0:F 0 0=false:=by
   cases f:F 0 0 with
   | false=>rfl
   | true=>exact absurd rfl (e0 0 0 (beg 0 0 (by omega) (by omega) f (.inr ⟨du,rfl⟩))).1
  have h0:bgR wOn G F m 0=some ⟨(0,0,0,1),(0,0,0,1),none⟩:=by
   unfold bgR;rw[if_pos rfl,if_pos ⟨rfl,F0⟩]
  have L:=D.last (bg:=bgR wOn G F m) (j0:=0) ⟨by omega,n00,.inl (.inr ⟨du,rfl,Nat.le_refl _⟩)⟩ h0 (λb _ _ _ p hp=>by
   show ro4 (0,0,0,1) p.2<=0;have:=(cR (gg _ _ _ _ _ hp)).2;generalize p.2=z at this;cases this with
   | e=>decide
   | n _ hU h _=>exact kK hU h) hn (λq=>by
   rintro(⟨p',q',h1,_,s⟩|⟨_,h,_⟩)
   ·exact(e0 p' q' s).2 du (by have:=s.1.1;omega)
   ·omega)
  rcases W.1 rfl with f|⟨w1,w2⟩
  ·exact(e0 n m (beg n m (Nat.le_refl _) (Nat.le_refl _) f (.inl rfl))).2 du rfl
  ·rw[nY (by omega) (by omega)]at w1
   rw[qi (by omega) (by omega)]at w2;rcases L with L|L
   ·rw[w1]at L;cases L
   ·rw[w2]at L;cases L
 ·obtain⟨j0,_,a0⟩:=lI D (i:=0) (j:=0) (by omega) n00
  obtain⟨p,hp,ok⟩:=D.openU (Nat.zero_le _) a0;have h0:bgR bY G F m j0=some ⟨p.1,p.2,none⟩:=by
   unfold bgR;rw[if_neg (λz=>du z.symm),if_pos a0.1];have hp:G 0 0 (j0:Int)=some p:=hp;rw[hp];rfl
  obtain⟨j,r,aj,hu,_⟩:=D.all a0 h0 ok n (Nat.le_refl _);have:=W.2 rfl j aj.1;rw[nY (Nat.le_refl _) aj.1,hu]at this;cases this
theorem iC{x M:Int}{n:Nat}(h:ap x<=n)(e:((2^n:Nat):Int)<=M):-M<=x/\x<=M:=by
 have:=bS h;omega
theorem ug{K:W.Frag}{H H':Hp}{p q:Addr}{l m:N4}(n1:Nm K H p l)(n2:Nm K H' q m)(h:ro4 l m<0):∀F G,Rm l.1 l.2.1 l.2.2.1 l.2.2.2 m.1 m.2.1 m.2.2.1 m.2.2.2 11 F G->F+1+2<=-G - 1:=by
 have ho:ro l.1 l.2.1 l.2.2.1 l.2.2.2 m.1 m.2.1 m.2.2.1 m.2.2.2 = -1:=by
  have h:ro l.1 l.2.1 l.2.2.1 l.2.2.2 m.1 m.2.1 m.2.2.1 m.2.2.2<0:=h;have:=(xU l.1 l.2.1 l.2.2.1 l.2.2.2 m.1 m.2.1 m.2.2.1 m.2.2.2).1;omega
 have w:ap (l.1*m.2.2.2 - m.1*l.2.2.2)<=484:=ar (bQ (bits_mul n1.b0 n2.b3) (bits_mul n2.b0 n1.b3)) (by decide);have k1:ap (l.2.1*m.2.2.2*(l.2.1*m.2.2.2)*l.2.2.1)<=960:=ar (bits_mul (bits_mul (bits_mul n1.b1 n2.b3) (bits_mul n1.b1 n2.b3)) n1.b2) (by decide);have k2:ap (m.2.1*l.2.2.2*(m.2.1*l.2.2.2)*m.2.2.1)<=960:=ar (bits_mul (bits_mul (bits_mul n2.b1 n1.b3) (bits_mul n2.b1 n1.b3)) n2.b2) (by decide);have k4:ap (4*(l.2.2.2*m.2.2.2))<=500:=ar (bits_mul (m:=10) (by decide) (bits_mul n1.b3 n2.b3)) (by decide);have p3:0<l.2.2.2:=n1.p3;have q3:0<m.2.2.2:=n2.p3;exact Sp6.room (K:=2^584) (S:=2^1464) (M:=2^485) n1.p2 p3 n2.p2 q3 ho (by decide +kernel) (by show(2:Int)^2048=_;decide +kernel) ⟨by decide +kernel,by decide +kernel⟩ (iC w (by decide +kernel)) (iC k1 (by decide +kernel)).2 (iC k2 (by decide +kernel)).2 (iC k4 (by decide +kernel)).2
theorem vV{a k z:Int}(ha:a≠0)(h:a*a*k=z*z):∃r,0<=r/\r*r=k:=by
 have d:a.natAbs^2∣z.natAbs^2:=by
  refine⟨k.natAbs,?_⟩;have:=congrArg Int.natAbs h;rw[Int.natAbs_mul,Int.natAbs_mul,Int.natAbs_mul]at this;rw[Nat.pow_two,Nat.pow_two];exact this.symm
 obtain⟨c,hc⟩:=(Nat.pow_dvd_pow_iff (by decide)).mp d;refine⟨(c:Int),by omega,?_⟩;have e1:z*z=a*a*((c:Int)*c):=by
  have e2:z*z=((z.natAbs*z.natAbs:Nat):Int):=(Int.natAbs_mul_self).symm;have e3:a*a=((a.natAbs*a.natAbs:Nat):Int):=(Int.natAbs_mul_self).symm;rw[e2,e3,hc]
  push_cast
  grind
 have e4:a*a*k=a*a*((c:Int)*c):=by rw[h,e1]
 have hn:a*a≠0:=λz=>by rcases Int.mul_eq_zero.mp z with z|z <;> exact ha z
 exact(Int.eq_of_mul_eq_mul_left hn e4).symm
theorem tI{P U L P' U' L':Int}(hL:0<L)(hL':0<L')(hU:0<=U)(hU':0<=U')(h:ro P (-1) U L P' 1 U' L'=0):∃R,0<=R/\R*R=U:=by
 unfold ro at h;have e1:(-1:Int)*L' = -L':=by omega
 have e2:-(1:Int)*L = -L:=by omega
 rw[e1,e2]at h;generalize P*L' - P'*L=D at h;unfold bH at h;have n1:ssq (-L')*U+ssq (-L)*U' = -(L'*L'*U+L*L*U'):=by
  rw[bB (show -L'<=0 by omega),bB (show -L<=0 by omega)]
  grind
 rw[n1]at h;have X0:0<=L'*L'*U:=Int.mul_nonneg (Int.mul_nonneg (by omega) (by omega)) hU;have Y0:0<=L*L*U':=Int.mul_nonneg (Int.mul_nonneg (by omega) (by omega)) hU';have z0:L'*L'*U=0->∃R,0<=R/\R*R=U:=λz=>by
  have hn:L'*L'≠0:=λy=>by rcases Int.mul_eq_zero.mp y with y|y <;> omega
  rcases Int.mul_eq_zero.mp z with y|y
  ·exact absurd y hn
  ·exact⟨0,by decide,by rw[y];rfl⟩
 have sg0:∀{x:Int},sg x=0->x=0:=λ{x} h=>by
  unfold sg at h
  split at h
  ·cases h
  ·split at h
   ·cases h
   ·omega
 split at h
 ·rename_i c
  have h':=sg0 h
  by_cases hN:L'*L'*U+L*L*U'=0
  ·exact z0 (by omega)
  ·have sN:sg (-(L'*L'*U+L*L*U')) = -1:=dD (by omega)
   rw[sN]at h' c;omega
 ·rename_i c
  have hD:0<D:=by
   rcases Int.lt_or_le 0 D with z|z
   ·exact z
   ·exact absurd (Int.mul_nonneg_of_nonpos_of_nonpos (fB.mpr z) (fB.mpr (show -(L'*L'*U+L*L*U')<=0 by omega))) (by omega)
  rw[ce hD,Int.one_mul]at h;unfold swr at h;have h:=sg0 h;have e3:D*D - -L' * -L'*U - -L * -L*U'=D*D - L'*L'*U - L*L*U':=by grind
  have e5:ssq (-2 * -L' * -L)*(U*U') = -(4*(L'*L'*U)*(L*L*U')):=by
   rw[show -2 * -L' * -L = -(2*L'*L) by grind,bB (by have:=Int.mul_nonneg (show 0<=2*L' by omega) (show 0<=L by omega);omega)]
   grind
  rw[e3,e5]at h;have key:(2*D*L')*(2*D*L')*U=(D*D+L'*L'*U - L*L*U')*(D*D+L'*L'*U - L*L*U'):=by
   have e6:(2*D*L')*(2*D*L')*U=4*(D*D)*(L'*L'*U):=by grind
   rw[e6];generalize L'*L'*U=X at *;generalize L*L*U'=Y at *;have zz:(D*D - X - Y)*(D*D - X - Y)=4*X*Y:=by
    rcases Int.lt_or_le (D*D - X - Y) 0 with z|z
    ·rw[bB (by omega)]at h
     have h1:0<(D*D - X - Y)*(D*D - X - Y):=Int.mul_pos_of_neg_of_neg z z;have h2:=Int.mul_nonneg X0 Y0;have e':4*X*Y=4*(X*Y):=by grind
     omega
    ·rw[dQ z]at h
     omega
   generalize D*D=E at *
   grind
  have nz:2*D*L'≠0:=by
   have:=Int.mul_pos (show 0<2*D by omega) hL';omega
  exact vV nz key
noncomputable def PG(l m:N4)(t u:Int):Prop :=
 if ro4 l (0,0,0,1)=0 then t=0/\u=1 else if ro4 m (1,0,0,1)=0 then t=1/\u=1
 else if ro4 l m=0 then ∃R,(0<=R/\R*R=l.2.1*l.2.1*l.2.2.1)/\BW (l.1+sg l.2.1*R) l.2.2.2 t u
 else Wi l.1 l.2.1 l.2.2.1 l.2.2.2 m.1 m.2.1 m.2.2.1 m.2.2.2 t u
inductive E9 (K:W.Frag) (vs:List V) (H:Hp) (Q:VK) (x_3:XK):Prop
 | mk:∀(p q:Addr) (l m:N4),(vs = [.ref p,.ref q])->(Nm K H p l)->(Nm K H q m)->(ro4 l m<=0)->((l=(0,0,0,1)\/(EQ l/\ER m)))->(∀(r:Addr) (t u:Int) (H':Hp),Same H H'->El H' r t u 2600->PG l m t u->0<=t->t<=u->Q (.ref r) H')->E9 K vs H Q x_3
theorem xw{P U L b0 b1 b2 b3 t u:Int}(hL:0<L)(hU:0<=U)(hu:0<u)(b2n:0<=b2)(b3p:0<b3)(z:0<=P/\U<=P*P)(w:Wi P (-1) U L b0 b1 b2 b3 t u):0<=t:=by
 obtain⟨m1,_⟩:=w.mid hU hL b2n b3p;rcases Int.lt_or_le t 0 with y|y
 ·exfalso
  have a1:=Int.mul_nonneg z.1 (show 0<=u by omega);have a2:0 < -(t*L):=by have:=Int.mul_neg_of_neg_of_pos y hL;omega
  rw[dQ (show 0<=P*u - t*L by omega),bB (show -1*u<=0 by omega)]at m1;have b1:=dC a1 (show P*u<=P*u - t*L by omega);have b2:=Int.mul_le_mul_of_nonneg_left z.2 (show 0<=u*u from Int.mul_nonneg (by omega) (by omega));have e1:-(-1*u*(-1*u))*U = -(u*u*U):=by grind
  have e2:u*u*(P*P)=P*u*(P*u):=by grind
  omega
 ·exact y
theorem xx{a0 a1 a2 a3 P U L t u:Int}(hL:0<L)(hU:0<=U)(hu:0<u)(a2n:0<=a2)(a3p:0<a3)(z:P - L<=0/\U<=(P - L)*(P - L))(w:Wi a0 a1 a2 a3 P 1 U L t u):t<=u:=by
 obtain⟨_,m2⟩:=w.mid a2n a3p hU hL;rcases Int.lt_or_le u t with y|y
 ·exfalso
  have a1:0<=u*(L - P):=Int.mul_nonneg (by omega) (by omega);have a2:u*(L - P)<=t*L - P*u:=by
   have:=Int.mul_le_mul_of_nonneg_right (show u<=t by omega) (show 0<=L by omega);have e:u*(L - P)=u*L - P*u:=by grind
   omega
  rw[dQ (show 0<=t*L - P*u by omega),bB (show -1*u<=0 by omega)]at m2;have b1:=dC a1 a2;have b2:=Int.mul_le_mul_of_nonneg_left z.2 (show 0<=u*u from Int.mul_nonneg (by omega) (by omega));have e1:-(-1*u*(-1*u))*U = -(u*u*U):=by grind
  have e2:u*u*((P - L)*(P - L))=u*(L - P)*(u*(L - P)):=by grind
  omega
 ·exact y
theorem Dq:zf ["low","high"] ["low","high"] (ak (top 55)):=smk
theorem kO{C pB pE:Addr}(Du:Df K mg "part_from" (top 55))(Am:mg "BEGIN" = some (.ref pB))(Cz:mg "END" = some (.ref pE))(hB:∀H,SqT K H pB [.int 0,.int 0,.int 0,.int 1])(hE:∀H,SqT K H pE [.int 1,.int 0,.int 0,.int 1])(zh:Fn P w K mg base "root_order" ["one","other"] 4 (D3 K))(Aw:Fx P w K mg base "root_between" ["one","other"] 5 [] (E7 K C)):Fn P w K mg base "part_from" ["low","high"] 6 (E9 K):=by
 refine Du.fn Dq (λ_ _ _ _ _ _ us hl=>by obtain⟨_,_,rfl⟩:=cJ hl;rfl) (λvs H Q E h=>?_) (λf cdv A outer s H vs Q E hr h=>?_)
 ·obtain⟨p,q,l,m,rfl,_⟩:=h
  rfl
 ·obtain⟨p,q,l,m,rfl,n1,n2,le,cs,k⟩:=h
  refine⟨_,(ai (aQ (aB cI (aA zh (hr.mono (by decide)) (by rfl) (ad (pv 0) (ad (aG (v:=.ref _) (by rfl) Am rfl) ag))) af (aC _)) (am (az (ay (ad af (ad af ag))))) aE) (ai (aQ (aB cI (aA zh (hr.mono (by decide)) (by rfl) (ad (pv 1) (ad (aG (v:=.ref _) (by rfl) Cz rfl) ag))) af (aC _)) (am (az (ay (ad af (ad af ag))))) aE) (am (az (iQ Aw (hr.mono (by decide)) (by rfl) (ad (pv 0) (ad (pv 1) ag))))))),?_⟩;have RB:∀H,Rt K H pB 0 0 0 1:=λH=>⟨hB H,by decide,by decide,by decide,by decide⟩;have RE:∀H,Rt K H pE 1 0 0 1:=λH=>⟨hE H,by decide,by decide,by decide,by decide⟩;refine⟨_,rfl,_,_,_,_,_,_,_,_,_,_,rfl,n1.rt,RB _,rfl,_,rfl,?_⟩;rw[di];refine aZ (λc1=>?_) (λc1=>?_)
  ·have c1:ro4 l (0,0,0,1)=0:=bC c1
   exact⟨sz (by simp),λr H1 s1 f1 _=>k r 0 1 H1 s1 ⟨f1,⟨by decide,by decide⟩,by decide,by decide⟩ (by unfold PG;rw[if_pos c1];exact⟨rfl,rfl⟩) (by decide) (by decide)⟩
  have c1:¬ro4 l (0,0,0,1)=0:=bP c1;refine⟨_,rfl,_,_,_,_,_,_,_,_,_,_,rfl,n2.rt,RE _,rfl,_,rfl,?_⟩;rw[di];refine aZ (λc2=>?_) (λc2=>?_)
  ·have c2:ro4 m (1,0,0,1)=0:=bC c2
   exact⟨sz (by simp),λr H1 s1 f1 _=>k r 1 1 H1 s1 ⟨f1,⟨by decide,by decide⟩,by decide,by decide⟩ (by unfold PG;rw[if_neg c1,if_pos c2];exact⟨rfl,rfl⟩) (by decide) (by decide)⟩
  have c2:¬ro4 m (1,0,0,1)=0:=bP c2;have pg:∀{t u:Int},PG l m t u↔if ro4 l m=0 then ∃R,(0<=R/\R*R=l.2.1*l.2.1*l.2.2.1)/\BW (l.1+sg l.2.1*R) l.2.2.2 t u else Wi l.1 l.2.1 l.2.2.1 l.2.2.2 m.1 m.2.1 m.2.2.1 m.2.2.2 t u:=λ{t u}=>by unfold PG;rw[if_neg c1,if_neg c2]
  rcases cs with rfl|⟨hl,hm⟩
  ·exact absurd (by decide) c1
  cases hl with
  | b=>exact absurd (by decide) c1
  | @n P U L hL hU h z=>cases hm with
   | e=>exact absurd (by decide) c2
   | @n P' U' L' hL' hU' h' z' =>
    refine⟨_,rfl,_,rfl,p,q,P,-1,U,L,P',1,U',L',240,235,11,2600,rfl,n1.rt,n2.rt,⟨hU,hL,hU',hL',n1.b0,ar n1.b1 (by decide),n1.b2,n2.b0,by decide,n2.b2,by decide,by decide⟩,⟨by decide,by decide,by decide⟩,λy=>absurd le (by show ¬ro P (-1) U L P' 1 U' L'<=0;omega),λy R r=>?_,λy=>⟨ug n1 n2 y,λr t u H1 s1 f1 wi bt bu=>?_⟩⟩
    ·obtain⟨R0,r0,r1⟩:=tI hL hL' hU hU' y
     have eR:R=R0:=by
      have h1:=r.lo;have h2:=r.hi;have h3:=r.nn;have e:1*(-1 * -1*U)=R0*R0:=by rw[r1];grind
      rw[e]at h1 h2;rcases Int.lt_trichotomy R R0 with w|w|w
      ·have:=dC (show 0<=R+1 by omega) (show R+1<=R0 by omega)
       omega
      ·exact w
      ·have:=Int.mul_lt_mul' (Int.le_of_lt w) w r0 (by omega)
       omega
     subst eR;refine⟨λw=>absurd (by rw[r1];grind) w,λw r' t u H1 s1 f1 fr bt bu=>?_⟩;have hu:=fr.low.pos;have e:=fr.eq;have e:(P+sg (-1)*R)*u=t*L:=e;have sgm:P+sg (-1)*R=P - R:=by show P + -1*R=P - R;omega
     rw[sgm]at e;have rp:R<=P:=by
      rcases Int.lt_or_le P R with y|y
      ·have:=Int.mul_lt_mul' (Int.le_of_lt y) y z.1 (by omega)
       omega
      ·exact y
     have rl:P - R<=L:=by
      rcases h with h|h
      ·omega
      ·rcases Int.lt_or_le L (P - R) with y|y
       ·have:=dC (show 0<=R+1 by omega) (show R+1<=P - L by omega)
        have e':(R+1)*(R+1)=R*R+2*R+1:=by grind
        omega
       ·exact y
     refine k r' t u H1 s1 ⟨f1,fr.low,ar bt (by decide),ar bu (by decide)⟩ (pg.mpr (by rw[if_pos (show ro4 (P,-1,U,L) (P',1,U',L')=0 from y)];exact⟨R,⟨r0,by rw[r1];show U = -1 * -1*U;grind⟩,fr⟩)) ?_ ?_
     ·rcases Int.lt_or_le t 0 with y|y
      ·have h1:=Int.mul_nonneg (show 0<=P - R by omega) (show 0<=u by omega)
       have h2:=Int.mul_neg_of_neg_of_pos y hL;omega
      ·exact y
     ·rcases Int.lt_or_le u t with y|y
      ·have h1:=Int.mul_le_mul_of_nonneg_right rl (show 0<=u by omega)
       have h2:=Int.mul_lt_mul_of_pos_right y hL;have e':L*u=u*L:=Int.mul_comm _ _;omega
      ·exact y
    ·have hu:0<u:=by
      obtain⟨_,_,_,_,_,_,_,_,_,h5⟩:=id wi;exact h5.low.pos
     have hlw:Ds t u:=by
      obtain⟨_,_,_,_,_,_,_,_,_,h5⟩:=id wi;exact h5.low
     exact k r t u H1 s1 ⟨f1,hlw,bt,bu⟩ (pg.mpr (by rw[if_neg (show ¬ro4 (P,-1,U,L) (P',1,U',L')=0 by have y:ro4 (P,-1,U,L) (P',1,U',L')<0:=y;omega)];exact wi)) (xw hL hU hu hU' hL' z wi) (xx hL' hU' hu hU hL z' wi)
theorem Nm.rt8{K:W.Frag}{H:Hp}{p:Addr}{l:N4}(h:Nm K H p l):FI K H p l.1 l.2.1 l.2.2.1 l.2.2.2:=⟨h.at_.sq,ar h.b0 (by decide),ar h.b1 (by decide),ar h.b2 (by decide),ar h.b3 (by decide)⟩
inductive Fb (K:W.Frag) (vs:List V) (H:Hp) (Q:VK) (x_3:XK):Prop
 | mk:∀(p q:Addr) (a b:Int) (m:N4),(vs = [.ref p,.ref q])->(H p=some (.tup [.int a,.int b]))->((ap a<=2600/\ap b<=2600))->(Nm K H q m)->(∀H',Same H H'->Q (.bl (decide (ro4 (a,0,0,b) m<=0))) H')->Fb K vs H Q x_3
theorem DE:zf ["part","high"] ["part","high"] (ak (top 76)):=smk
theorem l7(DM:Df K mg "may_keep" (top 76))(D2:Fn P w K mg base "root_order" ["one","other"] 4 (DY K)):Fn P w K mg base "may_keep" ["part","high"] 5 (Fb K):=by
 refine DM.fn DE (λ_ _ _ _ _ _ us hl=>by obtain⟨_,_,rfl⟩:=cJ hl;rfl) (λvs H Q E h=>?_) (λf cdv A outer s H vs Q E hr h=>?_)
 ·obtain⟨p,q,a,b,m,rfl,_⟩:=h
  rfl
 ·obtain⟨p,q,a,b,m,rfl,hp,⟨ba,bb⟩,nq,k⟩:=h
  have zh:=D2;refine⟨_,(am (az (eY oC (aA zh (hr.mono (by decide)) (by rfl) (ad (ay (ad (aw av (pv 0) af (λ_ _=>rfl)) (ad af (ad af (ad (aw av (pv 0) af (λ_ _=>rfl)) ag))))) (ad (pv 1) ag))) af (aC _)))),?_⟩;refine⟨_,rfl,p,_,_,_,rfl,rfl,SqT.of hp,rfl,_,rfl,p,_,_,_,rfl,rfl,SqT.of hp,rfl,sz (by simp),λt H1 s1 f1 n1=>?_⟩;exact⟨_,rfl,_,_,_,_,_,_,_,_,_,_,rfl,⟨SqT.of f1,ar ba (by decide),by decide,by decide,ar bb (by decide)⟩,(nq.mono s1).rt8,_,_,rfl,rfl,k H1 s1⟩
noncomputable def DrV(H:Hp)(x:Dor)(v:V):Prop:=∃t,v = .ref t/\H t=some (.tup ((dkD x).map kV))
theorem DrV.t{H H':Hp}{x:Dor}{v:V}(h:DrV H x v)(s:SameT H H'):DrV H' x v:=let ⟨t,e,f⟩:=h;⟨t,e,s _ _ f⟩
noncomputable def jf(wy:Str)(n m:Nat):List Dor:=if wy=wOn then [(0,(n:Int) - 1,(m:Int) - 1),(1,(n:Int) - 1,(m:Int) - 1)] else (List.range m).map λ(j:Nat)=>(0,(n:Int),(j:Int))
inductive Fh (vs:List V) (H:Hp) (Q:VK) (x_3:XK):Prop
 | mk:∀(lt:Addr) (n m:Nat) (wy:Str),(vs = [.ref lt,.str wy])->(H lt=some (.tup [.int (n:Int),.int (m:Int)]))->(m<=20)->((wy=wOn\/wy=bY))->(∀r H',Same H H'->H r=none->(∃vs,H' r=some (.lst vs)/\Paired (DrV H') (jf wy n m) vs)->Q (.ref r) H')->Fh vs H Q x_3
theorem jO{α β:Type}{R:α->β->Prop}:∀{l:List α} {ys:List β},ys.length=l.length->(∀(i:Nat) y,ys[i]? = some y->∃x,l[i]? = some x/\R x y)->Paired R l ys
 | [],[],_,_=>.nil
 | a::l,y::ys,h,k=>by
  obtain⟨x,e,r⟩:=k 0 y rfl;cases e;exact .cons r (jO (by simpa using h) λi z hz=>by
   obtain⟨x,e,r⟩:=k (i+1) z (by rw[List.getElem?_cons_succ];exact hz);rw[List.getElem?_cons_succ]at e;exact⟨x,e,r⟩)
theorem Ca:zf ["last","way"] ["last","way"] (ak (top 75)):=smk
theorem ii(Co:Df K mg "doors_at_end" (top 75))(V_UPRIGHT:∃tk,mg "UPRIGHT" = some (.int 0 tk))(V_LEVEL:∃tk,mg "LEVEL" = some (.int 1 tk))(T:Txt mg):Fn P w K mg base "doors_at_end" ["last","way"] 1 Fh:=by
 refine Co.fn Ca (λ_ _ _ _ _ _ us hl=>by obtain⟨_,_,rfl⟩:=cJ hl;rfl) (λvs H Q E h=>?_) (λf cdv A outer s H vs Q E hr h=>?_)
 ·obtain⟨lt,n,m,wy,rfl,_⟩:=h
  rfl
 ·obtain⟨lt,n,m,wy,rfl,hl,hm20,hw,k⟩:=h
  have CN:A6 (aX CX0 P w K mg base ["last","way"] "doors_at_end" (ak (top 75)) f cdv A outer s H E).nox (lcA (top 75) 0) [("last",s.heap.objs.size+1)] "j" [("last",0)] :=
   ⟨by rfl,rfl,by decide +kernel,by decide +kernel,rfl,(λp hp=>by simp only[List.mem_cons,List.not_mem_nil,or_false]at hp;rcases hp with rfl;rfl),by rfl,by decide +kernel,(λp hp=>by simp only[List.mem_cons,List.not_mem_nil,or_false]at hp;rcases hp with rfl;exact⟨rfl,rfl,.inr (.inl rfl),rfl,rfl⟩),⟨rfl,rfl⟩,rfl⟩
  obtain⟨tU,zp⟩:=V_UPRIGHT;obtain⟨tL,AE⟩:=V_LEVEL;refine⟨_,(ai (aQ (aB cI (pv 1) cT (aC _)) (am (az (@aU _ _ _ _ (@ad _ _ _ _ _ (@ay _ _ _ _ _ (@ad _ _ _ _ _ (aG (v:=.int 0) (by rfl) zp ⟨_,rfl⟩) (@ad _ _ _ _ _ (ao aM (aw av (pv 0) af (λ_ _=>rfl)) af) (@ad _ _ _ _ _ (ao aM (aw av (pv 0) af (λ_ _=>rfl)) af) ag (by rfl)) (by rfl)) (by rfl))) (@ad _ _ _ _ _ (@ay _ _ _ _ _ (@ad _ _ _ _ _ (aG (v:=.int 1) (by rfl) AE ⟨_,rfl⟩) (@ad _ _ _ _ _ (ao aM (aw av (pv 0) af (λ_ _=>rfl)) af) (@ad _ _ _ _ _ (ao aM (aw av (pv 0) af (λ_ _=>rfl)) af) ag (by rfl)) (by rfl)) (by rfl))) ag (by rfl)) (by rfl))))) aE) (am (az (dF rfl CN (bW rfl T.z_range (ad (aw av (pv 0) af (λ_ _=>rfl)) ag)) (λfp s₀ H₀=>(ay (ad (aG (v:=.int 0) (by rfl) zp ⟨_,rfl⟩) (ad (aw (fb (K:=K) rfl) (pv 1) af (λ_ _=>rfl)) (ad (pv 0) ag))))))))),?_⟩;have L:∀{H':Hp},Same H H'->SqT K H' lt [.int (n:Int),.int (m:Int)]:=λs=>SqT.of (s _ _ hl);refine⟨_,rfl,rfl,_,rfl,aZ (λc=>?_) (λc=>?_)⟩
  ·have c:wy=wOn:=bC (ds c)
   unfold jf at k;rw[if_pos c]at k;refine⟨_,rfl,lt,_,_,_,rfl,rfl,L (Same.refl _),rfl,_,_,rfl,rfl,_,rfl,lt,_,_,_,rfl,rfl,L (Same.refl _),rfl,_,_,rfl,rfl,sz (by simp),λt1 H1 s1 f1 n1=>?_⟩;refine⟨_,rfl,lt,_,_,_,rfl,rfl,L s1,rfl,_,_,rfl,rfl,_,rfl,lt,_,_,_,rfl,rfl,L s1,rfl,_,_,rfl,rfl,sz (by simp),λt2 H2 s2 f2 n2=>⟨sz (by simp),λr H3 s3 f3 n3=>?_⟩⟩;exact k r H3 (s1.trans (s2.trans s3)) ((s1.trans s2).free n3) ⟨_,f3,.cons ⟨t1,rfl,(s2.trans s3) _ _ f1⟩ (.cons ⟨t2,rfl,s3 _ _ f2⟩ .nil)⟩
  ·have c:¬wy=wOn:=bP (ds c)
   unfold jf at k;rw[if_neg c]at k;refine⟨_,rfl,lt,_,_,_,rfl,rfl,L (Same.refl _),rfl,_,rfl,by omega,by omega,?_⟩;rw[Int.toNat_natCast];refine o8 (n:=m) (lo:=0) (by omega) (λj v H'=>DrV H' (0,(n:Int),(j:Int)) v) (λi v H H' st h=>h.t st) ?_ ?_
   ·intro j H2 Kc hj s2 kk
    refine⟨_,rfl,lt,_,_,_,rfl,rfl,L s2,rfl,_,rfl,sz (by simp),λt H3 s3 f3 n3=>kk _ H3 s3 ⟨t,rfl,?_⟩⟩;rw[Int.zero_add]at f3;exact f3
   ·intro r ys H2 nr s2 f2 hl2 hv
    refine k r H2 s2 nr ⟨ys,f2,jO (by rw[List.length_map,List.length_range];exact hl2) λi y hy=>⟨_,?_,hv i y hy⟩⟩;have hi:=(List.getElem?_eq_some_iff.mp hy).1;rw[List.getElem?_map,List.getElem?_range (by omega)];rfl
noncomputable def mU(bh:Option (Dor×Int×Int))(x:Dor)(r:Rv)(a b:Int):Prop:=match bh with
 | none=>PG r.lo r.hi a b
 | some z=>if z.1.1=x.1/\ro4 (z.2.1,0,0,z.2.2) r.hi<=0 then a=z.2.1/\b=z.2.2 else PG r.lo r.hi a b
inductive Bk (R:RF):Option (Dor×Int×Int)->Dor->List (Dor×Int×Int)->Prop
 | last {bh:Option (Dor×Int×Int)} {x:Dor} {r:Rv} {a b:Int} (h:R x=some r) (e:r.ah=none) (p:mU bh x r a b):Bk R bh x [(x,a,b)]
 | more {bh:Option (Dor×Int×Int)} {x y:Dor} {r:Rv} {a b:Int} {l:List (Dor×Int×Int)} (h:R x=some r) (e:r.ah=some y) (p:mU bh x r a b) (t:Bk R (some (x,a,b)) y l):Bk R bh x ((x,a,b)::l)
noncomputable def fm(x:Dor):Nat:=(x.2.1+x.2.2).toNat
structure FH(K:W.Frag)(R:RF):Prop where
 key:∀x r,R x=some r->(x.1=0\/x.1=1)/\(0<=x.2.1/\x.2.1<=1000)/\0<=x.2.2/\x.2.2<=1000
 le:∀x r,R x=some r->ro4 r.lo r.hi<=0
 ends:∀x r,R x=some r->r.lo=(0,0,0,1)\/(EQ r.lo/\ER r.hi)
 ah:∀x r y,R x=some r->r.ah=some y->(R y).isSome=true/\fm y<fm x
noncomputable def rY(e:Dor×Int×Int)(q:Pr):Prop:=rX e.1.1 e.1.2.1 e.1.2.2 e.2.1 e.2.2 q
inductive Er (K:W.Frag) (vs:List V) (H:Hp) (Q:VK) (x_3:XK):Prop
 | mk:∀(d t:Addr) (R:RF) (c:Nat) (x:Dor),(vs = [.ref d,.ref t])->(Aj K H d R c)->(FH K R)->(H t=some (.tup ((dkD x).map kV)))->(((R x).isSome=true/\fm x<900))->(∀(r:Addr) (H':Hp) (l:List (Dor×Int×Int)) (ps:List Pr),Same H H'->H r=none->Bk R none x l->l.length<=fm x+1->Ek H' r ps->Paired rY l.reverse ps->Q (.ref r) H')->Er K vs H Q x_3
noncomputable def BeP(H':Hp)(bv pv:V):Option (Dor×Int×Int)->Prop
 | none=>bv = .non
 | some z=>DrV H' z.1 bv/\∃tp,pv = .ref tp/\El H' tp z.2.1 z.2.2 2600/\0<=z.2.1/\z.2.1<=z.2.2
noncomputable def LeP(R:RF)(x:Dor)(don:List (Dor×Int×Int))(bh:Option (Dor×Int×Int)):Option Dor->Prop
 | none=>Bk R none x don
 | some y=>((R y).isSome=true/\don.length+fm y<=fm x)/\∀l,Bk R bh y l->Bk R none x (don++l)
structure FQ(K:W.Frag)(R:RF)(x:Dor)(H H':Hp)(pl:Addr)(cv bv pv:V)(cur:Option Dor)(bh:Option (Dor×Int×Int))(don:List (Dor×Int×Int))(ps:List Pr):Prop where
 sm:Same H H'
 nr:H pl=none
 pp:Ek H' pl ps
 pr:Paired rY don ps
 cu:AhV H' cv cur
 be:BeP H' bv pv bh
 left:LeP R x don bh cur
theorem lu(ps:List Pr)(q:Pr):prs (ps++[q])=prs ps++[.ref q.p]:=by unfold prs;rw[List.map_append];rfl
theorem xl{K:W.Frag}{R:RF}(w:FH K R){bh:Option (Dor×Int×Int)}{x:Dor}{l:List (Dor×Int×Int)}(h:Bk R bh x l):l.length<=fm x+1:=by
 induction h with
 | last _ _ _=>simp
 | more h e _ _ ih =>
  have:=(w.ah _ _ _ h e).2;rw[List.length_cons];omega
noncomputable def muB(σ:St)(H:Hp):Nat:=match σ with
 | [_,some (.ref t),_,_,_,_,_]=>(match H t with
  | some (.tup [.int _,.int i,.int j])=>(i+j).toNat+1
  | _=>0)
 | _=>0
theorem qT{z0 z2 z3 z4 z5 z6:Option V}{H:Hp}{t:Addr}{y:Dor}(h:H t=some (.tup ((dkD y).map kV))):muB [z0,some (.ref t),z2,z3,z4,z5,z6] H=fm y+1:=by
 show(match H t with
  | some (.tup [.int _,.int i,.int j])=>(i+j).toNat+1
  | _=>0)=_
 rw[h];rfl
noncomputable def sP(s:Stmt):List Stmt:=match s with
 | .While _ b _ _=>b
 | _=>[]
inductive FJ (K:W.Frag) (R:RF) (x:Dor) (d pl:Addr) (H:Hp) (σ:St) (H':Hp):Prop
 | mk (cv bv pv:V) (z5 z6:Option V) (cur:Option Dor) (bh:Option (Dor×Int×Int)) (don:List (Dor×Int×Int)) (ps:List Pr) (e:σ = [some (.ref d),some cv,some (.ref pl),some bv,some pv,z5,z6]) (j:FQ K R x H H' pl cv bv pv cur bh don ps):FJ K R x d pl H σ H'
theorem zD:zf ["reached","door","pairs","behind","part","low","high"] ["reached","door"] (ak (top 77)):=smk
theorem lX(DK:Df K mg "pairs_to" (top 77))(Bh:Fn P w K mg base "may_keep" ["part","high"] 5 (Fb K))(AY:Fn P w K mg base "part_from" ["low","high"] 6 (E9 K))(Ay:Fn P w K mg base "pair_in_door" ["door","part"] 4 Es):Fn P w K mg base "pairs_to" ["reached","door"] 7 (Er K):=by
 refine DK.fn zD (λ_ _ _ _ _ _ us hl=>by obtain⟨_,_,rfl⟩:=cJ hl;rfl) (λvs H Q E h=>?_) (λf cdv A outer s H vs Q E hr h=>?_)
 ·obtain⟨d,t0,R,c,x,rfl,_⟩:=h
  rfl
 ·obtain⟨d,t0,R,c,x,rfl,rp,wf,ht0,⟨hsx,hrk⟩,k⟩:=h
  have RS:∃uu:TS,PSs (aX CX0 P w K mg base ["reached","door","pairs","behind","part","low","high"] "pairs_to" (ak (top 77)) f cdv A outer s H E).nox ((sP ((aH (top 77)).getD 3 (.Pass ⟨0,0,0,0⟩))).drop 3) uu/\∀(Dd:AL) (H1 H2:Hp) (pl t tp p q':Addr) (bv pv:V) (y:Dor) (r:Rv) (a b:Int) (bh:Option (Dor×Int×Int)) (don:List (Dor×Int×Int)) (ps:List Pr),FQ K R x H H1 pl (.ref t) bv pv (some y) bh don ps->Same H1 H2->H1 t=some (.tup ((dkD y).map kV))->R y=some r->El H2 tp a b 2600->0<=a->a<=b->mU bh y r a b ->
    (∀σ H',(FJ K R x d pl H σ H')->muB σ H'<fm y+1->Dd.nx σ H')->uu Dd [some (.ref d),some (.ref t),some (.ref pl),some bv,some (.ref tp),some (.ref p),some (.ref q')] H2:=by
   refine⟨_,(ai (bJ (fA PySem.F.plainAttrs_list PySem.F.slot_list_append PySem.F.type_list_append bK (pv 2) (ad (aA Ay (hr.mono (by decide)) (by rfl) (ad (pv 1) (ad (pv 4) ag))) ag))) (ai (au (i:=3) zD.nd rfl (Or.inl rfl) (pv 1)) (am (au (i:=1) zD.nd rfl (Or.inl rfl) (aw av (cP (bV hr) (pv 0) (pv 1) (λ_ _=>rfl)) af (λ_ _=>rfl)))))),?_⟩;intro Dd H1 H2 pl t tp p q' bv pv y r a b bh don ps J SS ht hr FR A0 AB PK fin;have wk:=wf.key y r hr;have ly:=J.left.1;have S2':Same H H2:=J.sm.trans SS;have pp2:=J.pp.mono SS;refine⟨_,rfl,.inl ⟨rfl,_,SqL.of pp2.lst⟩,_,rfl,_,rfl,t,tp,y.1,y.2.1,y.2.2,a,b,rfl,SS _ _ ht,wk.1,wk.2.1,wk.2.2,⟨FR,A0,AB⟩,λq H3 s3 pq dp=>?_⟩;have pp3:=pp2.mono s3;refine⟨pl,_,_,rfl,rfl,pp3.lst,aR (by rw[fP];have:=Paired.length J.pr;omega),λH4 u=>?_⟩;have S3:Same H H3:=S2'.trans s3;have S4:Same H H4:=λb o e=>u.at (λz=>by rw[z,J.nr]at e;cases e) (S3 b o e);have ht4:=u.t _ _ (s3 _ _ (SS _ _ ht));obtain⟨o4,dg4,ho4⟩:=(rp.mono S4).get ht4;rcases ho4 with⟨r4,v4,hr4,rfl,tv4,q1,q2,w4,rfl,ev4,_,_,aw4⟩|⟨hn4,_⟩
   ·rw[hr]at hr4
    cases hr4;refine⟨_,rfl,_,rfl,_,rfl,d,_,rfl,dg4,tv4,_,_,_,rfl,rfl,SqT.of ev4,rfl,fin _ H4 ⟨_,_,_,_,_,r.ah,some (y,a,b),don++[(y,a,b)],ps++[q],rfl,⟨S4,J.nr,⟨by rw[u.now,lu],λq' hq=>?_⟩,Paired.snoc J.pr dp,aw4,⟨⟨t,rfl,ht4⟩,tp,rfl,⟨u.t _ _ (s3 _ _ FR.at_),FR.low,FR.ba,FR.bb⟩,A0,AB⟩,?_⟩⟩ ?_⟩
    ·rcases List.mem_append.mp hq with hq|hq
     ·exact(pp3.pr q' hq).t u.t
     ·rw[List.mem_singleton.mp hq]
      exact pq.t u.t
    ·cases ha:r.ah with
     | none=>exact J.left.2 _ (.last hr ha PK)
     | some y' =>
      have wa:=wf.ah y r y' hr ha;refine⟨⟨wa.1,by rw[List.length_append,List.length_singleton];have:=J.left.1.2;have:=wa.2;omega⟩,λl hl=>?_⟩;rw[List.append_assoc];exact J.left.2 _ (.more hr ha PK hl)
    ·cases ha:r.ah with
     | none =>
      rw[ha]at aw4;have aw4:w4 = .non:=aw4;subst aw4;show 0<_;omega
     | some y' =>
      rw[ha]at aw4;obtain⟨t',rfl,ht'⟩:=aw4;have wa:=wf.ah y r y' hr ha;exact Nat.lt_of_le_of_lt (Nat.le_of_eq (qT ht')) (by omega)
   ·rw[hr]at hn4
    cases hn4
  obtain⟨uu,hu1,hRS⟩:=RS;refine⟨_,ai (au (i:=2) zD.nd rfl (Or.inl rfl) (aU ag)) (ai (au (i:=3) zD.nd rfl (Or.inl rfl) bT) (ai (au (i:=4) zD.nd rfl (Or.inl rfl) bT) (ai (dE PassesOwn.never (aB kB (pv 1) bT (aC _)) (ai (au (i:=5) zD.nd rfl (Or.inl rfl) (aw av (cP (bV hr) (pv 0) (pv 1) (λ_ _=>rfl)) af (λ_ _=>rfl))) (ai (au (i:=6) zD.nd rfl (Or.inl rfl) (aw av (cP (bV hr) (pv 0) (pv 1) (λ_ _=>rfl)) af (λ_ _=>rfl))) (ai (aQ (dZ (aB mX (pv 3) bT (aC _)) (dZ (aB lD (aw av (pv 3) af (λ_ _=>rfl)) (aw av (pv 1) af (λ_ _=>rfl)) (aC _)) (eC (fC (dR (aA Bh (hr.mono (by decide)) (by rfl) (ad (pv 4) (ad (pv 6) ag)))))))).pt (am (au (i:=4) zD.nd rfl (Or.inl rfl) (aA AY (hr.mono (by decide)) (by rfl) (ad (pv 5) (ad (pv 6) ag))))) aE) hu1)))) (ai (bJ (mV PySem.F.plainAttrs_list PySem.F.slot_list_reverse PySem.F.type_list_reverse gW (pv 2))) (am (az (pv 2))))))),?_⟩;refine⟨sz (by simp),λpl H0 s0 f0 n0=>?_⟩;refine dB (λσ H'=>FJ K R x d pl H σ H') muB
   ⟨_,_,_,_,_,some x,none,[],[],rfl,s0,n0,⟨f0,λq hq=>nomatch hq⟩,.nil,⟨t0,rfl,s0 _ _ ht0⟩,rfl,⟨⟨hsx,by simp⟩,λl hl=>hl⟩⟩ ?_ ?_
  ·rintro σ H1 ⟨cv,bv,pv,z5,z6,cur,bh,don,ps,rfl,J⟩
   cases cur with
   | none =>
    have cu:cv = .non:=J.cu;subst cu;refine⟨_,rfl,rfl,_,rfl,bU (by simp) ?_⟩;refine⟨_,rfl,.inl ⟨rfl,_,SqL.of J.pp.lst⟩,pl,_,rfl,rfl,J.pp.lst,λH2 u=>⟨_,rfl,?_⟩⟩;have hb:Bk R none x don:=J.left;refine k pl H2 don ps.reverse (λb o e=>u.at (λz=>by rw[z,J.nr]at e;cases e) (J.sm b o e)) J.nr hb ?_ ⟨by rw[u.now];unfold prs;rw[List.map_reverse],λq hq=>(J.pp.pr q (List.mem_reverse.mp hq)).t u.t⟩ (mW J.pr);exact xl wf hb
   | some y =>
    obtain⟨t,rfl,ht⟩:=J.cu;refine⟨_,rfl,rfl,_,rfl,cj (by simp) ?_⟩;have hmu:=qT (z0:=some (.ref d)) (z2:=some (.ref pl)) (z3:=some bv) (z4:=some pv) (z5:=z5) (z6:=z6) ht;rw[hmu];obtain⟨o,dg,ho⟩:=(rp.mono J.sm).get ht;have ly:=J.left.1;rcases ho with⟨r,v,hr,rfl,tv,p,q',w0,rfl,ev,n1,n2,_⟩|⟨hn,_⟩
    ·refine⟨_,rfl,_,rfl,d,_,rfl,dg,tv,_,_,_,rfl,rfl,SqT.of ev,rfl,?_⟩
     refine⟨_,rfl,_,rfl,d,_,rfl,dg,tv,_,_,_,rfl,rfl,SqT.of ev,rfl,?_⟩;cases bh with
     | none =>
      have be:bv = .non:=J.be;subst be;refine⟨_,rfl,rfl,_,rfl,cj rfl ?_⟩;refine⟨_,rfl,_,rfl,p,q',r.lo,r.hi,rfl,n1,n2,wf.le y r hr,wf.ends y r hr,λtp a b H2 s2 fr pg a0 ab=>?_⟩;exact hRS _ H1 H2 pl t tp p q' _ pv y r a b none don ps J s2 ht hr fr a0 ab pg λσ H' h1 h2=>⟨h1,h2⟩
     | some z =>
      obtain⟨⟨tz,rfl,hz⟩,tq,rfl,fz,z0,z1⟩:=J.be;refine⟨_,rfl,rfl,_,rfl,bU (by simp) ?_⟩;refine⟨_,rfl,tz,_,_,_,rfl,rfl,SqT.of hz,rfl,_,rfl,t,_,_,_,rfl,rfl,SqT.of ht,rfl,rfl,_,rfl,?_⟩;have pk0:∀{a b:Int},¬(z.1.1=y.1/\ro4 (z.2.1,0,0,z.2.2) r.hi<=0)->PG r.lo r.hi a b->mU (some z) y r a b:=λ{a b} hn h=>by
       unfold mU;dsimp only;rw[if_neg hn];exact h
      refine aZ (λc1=>?_) (λc1=>?_)
      ·have c1:¬z.1.1=y.1:=by
        have c1:(!decide (V.int z.1.1=V.int y.1))=true:=c1;rw[Bool.not_eq_true',di,decide_eq_false_iff_not]at c1;exact c1
       refine⟨_,rfl,_,rfl,p,q',r.lo,r.hi,rfl,n1,n2,wf.le y r hr,wf.ends y r hr,λtp a b H2 s2 fr pg a0 ab=>?_⟩;exact hRS _ H1 H2 pl t tp p q' _ _ y r a b _ don ps J s2 ht hr fr a0 ab (pk0 (λw=>c1 w.1) pg) λσ H' h1 h2=>⟨h1,h2⟩
      ·have c1:z.1.1=y.1:=by
        have c1:(!decide (V.int z.1.1=V.int y.1))=false:=c1;rw[Bool.not_eq_false',di,decide_eq_true_eq]at c1;exact c1
       refine⟨_,rfl,_,rfl,tq,q',z.2.1,z.2.2,r.hi,rfl,fz.at_,⟨fz.ba,fz.bb⟩,n2,λHk sk=>⟨_,rfl,?_⟩⟩;refine aZ (λc2=>?_) (λc2=>?_)
       ·have c2:¬ro4 (z.2.1,0,0,z.2.2) r.hi<=0:=by
         rw[Bool.not_eq_true',decide_eq_false_iff_not]at c2;exact c2
        refine⟨_,rfl,_,rfl,p,q',r.lo,r.hi,rfl,n1.mono sk,n2.mono sk,wf.le y r hr,wf.ends y r hr,λtp a b H2 s2 fr pg a0 ab=>?_⟩;exact hRS _ H1 H2 pl t tp p q' _ _ y r a b _ don ps J (sk.trans s2) ht hr fr a0 ab (pk0 (λw=>c2 w.2) pg) λσ H' h1 h2=>⟨h1,h2⟩
       ·have c2:ro4 (z.2.1,0,0,z.2.2) r.hi<=0:=by
         rw[Bool.not_eq_false',decide_eq_true_eq]at c2;exact c2
        have pk:mU (some z) y r z.2.1 z.2.2:=by
         unfold mU;dsimp only;rw[if_pos ⟨c1,c2⟩];exact⟨rfl,rfl⟩
        exact hRS _ H1 Hk pl t tq p q' _ _ y r _ _ _ don ps J sk ht hr (fz.mono sk) z0 z1 pk λσ H' h1 h2=>⟨h1,h2⟩
    ·rw[hn]at ly
     cases ly.1
  ·rintro σ H' Q1 Q2 hq ⟨v,e,hs,k,ek,r⟩
   exact⟨v,e,hs,k,ek,hq _ _ r⟩
noncomputable def OkR(r:Rv):Prop:=ro4 r.lo r.hi<=0/\(r.lo=(0,0,0,1)\/(EQ r.lo/\ER r.hi))
theorem kx{gt:Option (N4×N4)}{st tu:Option Rv}{sd td:Dor}{r:Rv}(h:pas gt st tu sd td=some r):∃p,gt=some p/\r.hi=p.2/\((r.lo=p.1/\tu.isSome=true/\r.ah=some td)\/∃r',st=some r'/\(r.lo=p.1\/r.lo=r'.lo)/\ro4 r.lo r.hi<=0/\r.ah=some sd):=by
 cases gt with
 | none=>cases h
 | some p =>
  refine⟨p,rfl,?_⟩;unfold pas at h;dsimp only at h
  split at h
  ·rename_i c
   cases h;exact⟨rfl,.inl ⟨rfl,c,rfl⟩⟩
  ·cases st with
   | none=>cases h
   | some r' =>
    dsimp only at h
    split at h
    ·rename_i c
     cases h;exact⟨rfl,.inr ⟨r',rfl,qS _ _,c,rfl⟩⟩
    ·cases h
theorem qL{gt:Option (N4×N4)}{st tu:Option Rv}{sd td:Dor}{r:Rv}(gk:∀p,gt=some p->(EQ p.1/\ER p.2)/\ro4 p.1 p.2<=0)(hs:∀r',st=some r'->OkR r')(h:pas gt st tu sd td=some r):OkR r:=by
 obtain⟨p,hp,eh,⟨el,_,_⟩|⟨r',hr',el,c,_⟩⟩:=kx h
 ·have k:=gk p hp
  refine⟨by rw[el,eh];exact k.2,.inr ?_⟩;rw[el,eh];exact k.1
 ·have k:=gk p hp
  refine⟨c,?_⟩;rcases el with el|el
  ·rw[el,eh]
   exact .inr k.1
  ·rw[el,eh]
   exact(hs r' hr').2.imp_right λz=>⟨z.1,k.1.2⟩
section
variable {wy:Str} {G:GF} {F:Int->Int->Bool} {n m:Nat}
theorem vA(gg:GGk G){U:Nat->Option Rv}(hu:∀j r,U j=some r->OkR r){i:Nat}:∀j r,Lc G U i j=some r->OkR r
 | 0,_,h=>by cases h
 | j+1,r,h=>qL (λp hp=>⟨cR (gg _ _ _ _ _ hp),iA (gg _ _ _ _ _ hp)⟩) (λr' h'=>vA gg hu j r' h') h
theorem yx(gg:GGk G){j:Nat}{r:Rv}(h:bgR wy G F m j=some r):OkR r:=by
 unfold bgR at h
 split at h
 ·split at h
  ·cases h
   exact⟨by decide,.inl rfl⟩
  ·cases h
 ·split at h
  ·obtain⟨p,hp,rfl⟩:=Option.map_eq_some_iff.mp h
   exact⟨iA (gg _ _ _ _ _ hp),.inr (cR (gg _ _ _ _ _ hp))⟩
  ·cases h
theorem ql(gg:GGk G):∀i j r,Uc G (bgR wy G F m) i j=some r->OkR r
 | 0,j,r,h=>yx gg h
 | i+1,j,r,h=>qL (λp hp=>⟨cR (gg _ _ _ _ _ hp),iA (gg _ _ _ _ _ hp)⟩) (λr' h'=>ql gg i j r' h') h
theorem yy{j:Nat}{r:Rv}(h:bgR wy G F m j=some r):r.ah=none:=by
 unfold bgR at h
 split at h
 ·split at h
  ·cases h;rfl
  ·cases h
 ·split at h
  ·obtain⟨p,hp,rfl⟩:=Option.map_eq_some_iff.mp h
   rfl
  ·cases h
theorem kZ{x:Dor}{r:Rv}(h:RR wy G F n m x=some r):(∃i j:Nat,x=(0,(i:Int),(j:Int))/\i<=n/\j<m/\Uc G (bgR wy G F m) i j=some r)\/∃i j:Nat,x=(1,(i:Int),(j:Int))/\i<n/\j<=m/\Lc G (Uc G (bgR wy G F m) i) i j=some r:=by
 unfold RR at h
 split at h
 ·rename_i c
  exact .inl ⟨x.2.1.toNat,x.2.2.toNat,Prod.ext c.1 (Prod.ext (by show x.2.1=((x.2.1.toNat:Nat):Int);omega) (by show x.2.2=((x.2.2.toNat:Nat):Int);omega)),by omega,by omega,h⟩
 ·split at h
  ·rename_i c
   exact .inr ⟨x.2.1.toNat,x.2.2.toNat,Prod.ext c.1 (Prod.ext (by show x.2.1=((x.2.1.toNat:Nat):Int);omega) (by show x.2.2=((x.2.2.toNat:Nat):Int);omega)),by omega,by omega,h⟩
  ·cases h
theorem xy{K:W.Frag}(gg:GGk G)(hn:n<=20)(hm:m<=20):FH K (RR wy G F n m):=by
 have ok:∀x r,RR wy G F n m x=some r->OkR r:=λx r h=>by
  rcases kZ h with⟨i,j,_,_,_,h⟩|⟨i,j,_,_,_,h⟩
  ·exact ql gg i j r h
  ·exact vA gg (λj r h=>ql gg i j r h) j r h
 refine⟨λx r h=>?_,λx r h=>(ok x r h).1,λx r h=>(ok x r h).2,λx r y h ha=>?_⟩
 ·rcases kZ h with⟨i,j,rfl,_,_,_⟩|⟨i,j,rfl,_,_,_⟩
  ·exact⟨.inl rfl,⟨by show(0:Int)<=i;omega,by show(i:Int)<=1000;omega⟩,by show(0:Int)<=j;omega,by show(j:Int)<=1000;omega⟩
  ·exact⟨.inr rfl,⟨by show(0:Int)<=i;omega,by show(i:Int)<=1000;omega⟩,by show(0:Int)<=j;omega,by show(j:Int)<=1000;omega⟩
 ·rcases kZ h with⟨i,j,rfl,hi,hj,h⟩|⟨i,j,rfl,hi,hj,h⟩
  ·cases i with
   | zero=>rw[yy h]at ha;cases ha
   | succ i =>
    obtain⟨p,_,_,⟨_,ht,ea⟩|⟨r',hr',_,_,ea⟩⟩:=kx h
    ·rw[ea]at ha
     cases ha;exact⟨by rw[qi (by omega) (by omega)];exact ht,by unfold fm;show((i:Int)+j).toNat<(((i+1:Nat):Int)+j).toNat;omega⟩
    ·rw[ea]at ha
     cases ha;exact⟨by rw[nY (by omega) (by omega),hr'];rfl,by unfold fm;show((i:Int)+j).toNat<(((i+1:Nat):Int)+j).toNat;omega⟩
  ·cases j with
   | zero=>cases h
   | succ j =>
    obtain⟨p,_,_,⟨_,ht,ea⟩|⟨r',hr',_,_,ea⟩⟩:=kx h
    ·rw[ea]at ha
     cases ha;exact⟨by rw[nY (by omega) (by omega)];exact ht,by unfold fm;show((i:Int)+j).toNat<((i:Int)+((j+1:Nat):Int)).toNat;omega⟩
    ·rw[ea]at ha
     cases ha;exact⟨by rw[qi (by omega) (by omega),hr'];rfl,by unfold fm;show((i:Int)+j).toNat<((i:Int)+((j+1:Nat):Int)).toNat;omega⟩
end
noncomputable def xo(wy:Str)(n m:Nat)(G:GF)(F:Int->Int->Bool)(ps:List Pr):Prop:=∃(x:Dor) (l:List (Dor×Int×Int)) (ps0:List Pr),((jf wy n m).filter λx=>(RR wy G F n m x).isSome)[0]? = some x/\Bk (RR wy G F n m) none x l/\l.length<=60/\Paired rY l.reverse ps0/\((wy=wOn/\F n m=false/\∃q,ps=ps0++[q]/\prC q ((n:Int),(m:Int)))\/(wy=bY/\ps=ps0))
inductive E6 (K:W.Frag) (C:Addr) (vs:List V) (H:Hp) (Q:VK) (x_3:XK):Prop
 | mk:∀(fo:Addr) (n m:Nat) (room:Int) (G:GF) (F:Int->Int->Bool) (wy:Str),(vs = [.ref fo,.str wy])->(AF K C H fo n m room G F)->((1<=n/\n<=20))->((1<=m/\m<=20))->((wy=wOn\/wy=bY))->(GGk G)->((∀H',Same H H'->NoW wy n m G F->Q .non H'))->(∀r H' ps,Same H H'->H r=none->xo wy n m G F ps->Ek H' r ps->Q (.ref r) H')->E6 K C vs H Q x_3
theorem zV:zf ["field","way","reached","ends","walk"] ["field","way"] (ak (top 78)):=smk
theorem hV(Cg:Df K mg "walk_through" (top 78))(zj:CZ K mg "Field" C_Field)(n_room:aW K C_Field "room")(n_last:aW K C_Field "last")(n_doors:aW K C_Field "doors")(n_far:aW K C_Field "far")(Ak:Fn P w K mg base "doors_reached" ["field","way"] 6 (Ff K C_Field))(AA:Fn P w K mg base "doors_at_end" ["last","way"] 1 Fh)(Bg:Fn P w K mg base "pairs_to" ["reached","door"] 7 (Er K))(Af:Fn P w K mg base "pair_at_corner" ["corner"] 1 CP)(T:Txt mg):Fn P w K mg base "walk_through" ["field","way"] 8 (E6 K C_Field):=by
 refine Cg.fn zV (λ_ _ _ _ _ _ us hl=>by obtain⟨_,_,rfl⟩:=cJ hl;rfl) (λvs H Q E h=>?_) (λf cdv A outer s H vs Q E hr h=>?_)
 ·obtain⟨fo,n,m,room,G,F,wy,rfl,_⟩:=h
  rfl
 ·obtain⟨fo,n,m,room,G,F,wy,rfl,fa,⟨hn,hn20⟩,⟨hm,hm20⟩,hw,gg,q0,q1⟩:=h
  have CN:Br (aX CX0 P w K mg base ["field","way","reached","ends","walk"] "walk_through" (ak (top 78)) f cdv A outer s H E).nox (lcA (top 78) 0) [("reached",s.heap.objs.size+1)] ["door"] [("reached",2)] :=
   ⟨by rfl,rfl,by decide +kernel,by decide +kernel,(λx hx=>by simp only[List.mem_cons,List.not_mem_nil,or_false]at hx;subst hx;rfl),(λp hp=>by simp only[List.mem_cons,List.not_mem_nil,or_false]at hp;subst hp;rfl),by rfl,by decide +kernel,(λp hp=>by simp only[List.mem_cons,List.not_mem_nil,or_false]at hp;subst hp;exact⟨rfl,rfl,.inr (.inl rfl),rfl,rfl⟩),⟨rfl,rfl⟩,rfl⟩
  obtain⟨dx,lt,d0,fr,hf,hl,_,fd⟩:=fa.ex;have wf:FH K (RR wy G F n m):=xy gg hn20 hm20;have R1:∃u:TS,PSs (aX CX0 P w K mg base ["field","way","reached","ends","walk"] "walk_through" (ak (top 78)) f cdv A outer s H E).nox ((aH (top 78)).drop 1) u/\∀(H1:Hp),Same H H1->(wy=wOn->F n m=false)->u { nx:=λ_ H'=>Q .non H',rt:=Q } [some (.ref fo),some (.str wy),none,none,none] H1:=by
   refine⟨_,(ai (au (i:=2) zV.nd rfl (Or.inr rfl) (aA Ak (hr.mono (by decide)) (by rfl) (ad (pv 0) (ad (pv 1) ag)))) (ai (eD (j:=3) rfl CN zV.nd rfl rfl (cW (aA AA (hr.mono (by decide)) (by rfl) (ad (dz (pv 0) rfl) (ad (pv 1) ag)))) (λfp s₀ H₀=>(aK (i:=0) CN.nd rfl (Or.inl rfl) (Or.inr rfl))) (λfp s₀ H₀=>(kg (iM (ku (bV hr) (pv 0) (pv 1)) (by rfl)))) (λfp s₀ H₀=>(pv 0))) (ai (aQ (aB cI (aI aL (by rfl) T.z_len cz (ad (pv 3) ag)) af (aC _)) (am (az bT)) aE) (ai (au (i:=4) zV.nd rfl (Or.inl rfl) (aA Bg (hr.mono (by decide)) (by rfl) (ad (pv 2) (ad (aw bA (pv 3) af (λ_ _=>rfl)) ag)))) (ai (aQ (aB cI (pv 1) cT (aC _)) (am (bJ (fA PySem.F.plainAttrs_list PySem.F.slot_list_append PySem.F.type_list_append bK (pv 4) (ad (aA Af (hr.mono (by decide)) (by rfl) (ad (dz (pv 0) rfl) ag)) ag)))) aE) (am (az (pv 4)))))))),λH1 S1 hF=>?_⟩;refine⟨_,rfl,_,rfl,fo,n,m,room,G,F,wy,rfl,fa.mono S1,⟨hn,hn20⟩,⟨hm,hm20⟩,hw,λd H2 s2 nd rp2=>?_⟩;have S2:=S1.trans s2;refine⟨_,rfl,fo,C_Field,dx,_,_,rfl,S2 _ _ hf,zj.cls,n_last,rfl,_,rfl,lt,n,m,wy,rfl,S2 _ _ hl,hm20,hw,λr3 H3 s3 n3 ⟨v3,e3,p3⟩=>?_⟩;have S3:=S2.trans s3;have rp3:=rp2.mono s3;have l3:=Paired.length p3;have le:(jf wy n m).length<=30:=by
    unfold jf
    split
    ·simp
    ·rw[List.length_map,List.length_range];omega
   refine⟨r3,rfl,⟨_,SqL.of e3⟩,p4 (K:=K) (k:=1) e3 (by omega) (DrV H3) p3 (λx=>(RR wy G F n m x).isSome) ?_ ?_⟩
   ·intro e x H4 τ Kc Kn he hre s4 hτ kc kn
    obtain⟨τ0,rfl⟩:∃τ0,τ = [τ0]:=d9 hτ;obtain⟨t,rfl,ht⟩:=hre;refine⟨⟨[some (.ref t)],rfl,rfl⟩,?_⟩;obtain⟨o,dg,ho⟩:=(rp3.mono s4).get (s4 _ _ ht);refine⟨_,rfl,_,rfl,d,o,rfl,dg,?_⟩;rcases ho with⟨r,v,hr,rfl,_⟩|⟨hr,rfl⟩
    ·exact⟨_,rfl,cj rfl ⟨_,rfl,kc (by rw[hr];rfl) H4 (Same.refl _)⟩⟩
    ·exact⟨_,rfl,bU rfl (kn (by rw[hr];rfl) H4 (Same.refl _))⟩
   ·intro r4 ys H4 nr4 s4 f4 pr4
    have S4:=S3.trans s4;have yl:=Paired.length pr4;refine⟨_,rfl,r4,_,rfl,.inl (SqL.of f4),rfl,_,rfl,?_⟩;rw[di];refine aZ (λc=>?_) (λc=>?_)
    ·have c:ys.length=0:=by have:=bC c;omega
     have nil:∀x∈jf wy n m,RR wy G F n m x=none:=λx hx=>by
      cases h:RR wy G F n m x with
      | none=>rfl
      | some r =>
       have:x∈(jf wy n m).filter λx=>(RR wy G F n m x).isSome:=List.mem_filter.mpr ⟨hx,by rw[h];rfl⟩;have z:((jf wy n m).filter λx=>(RR wy G F n m x).isSome) = []:=List.length_eq_zero_iff.mp (by omega);rw[z]at this;cases this
     refine q0 H4 S4 ⟨λhw'=>.inr ?_,λhw' j hj=>nil _ ?_⟩
     ·have e1:(n:Int) - 1=((n - 1:Nat):Int):=by omega
      have e2:(m:Int) - 1=((m - 1:Nat):Int):=by omega
      rw[<- e1,<- e2];unfold jf at nil;rw[if_pos hw']at nil;exact⟨nil _ List.mem_cons_self,nil _ (List.mem_cons_of_mem _ List.mem_cons_self)⟩
     ·unfold jf
      rw[if_neg (λz=>du (z.symm.trans hw'))];exact List.mem_map.mpr ⟨j,List.mem_range.mpr hj,rfl⟩
    ·have c:ys.length≠0:=λz=>bP c (by rw[z];rfl)
     obtain⟨v0,hv0⟩:∃v0,ys[0]? = some v0:=⟨ys[0]'(by omega),List.getElem?_eq_getElem _⟩;obtain⟨x0,hx0,t0,rfl,ht0⟩:=gU pr4 0 v0 hv0;have mx:=List.mem_filter.mp (List.mem_of_getElem? hx0);have hsx:(RR wy G F n m x0).isSome=true:=mx.2;have rk:fm x0<=50:=by
      obtain⟨r,hr⟩:=Option.isSome_iff_exists.mp hsx;rcases kZ hr with⟨i,j,rfl,_,_,_⟩|⟨i,j,rfl,_,_,_⟩
      ·unfold fm;show((i:Int)+j).toNat<=50;omega
      ·unfold fm;show((i:Int)+j).toNat<=50;omega
     refine⟨_,rfl,_,rfl,r4,_,_,_,rfl,rfl,SqL.of f4,cw (j:=0) hv0,d,t0,RR wy G F n m,900,x0,rfl,rp3.mono s4,wf,s4 _ _ ht0,⟨hsx,by omega⟩,λr5 H5 l ps0 s5 n5 bk ln pp pr=>?_⟩;have S5:=S4.trans s5;have pl:=Paired.length pr;rw[List.length_reverse]at pl;refine⟨_,rfl,rfl,_,rfl,aZ (λc2=>?_) (λc2=>?_)⟩
     ·have c2:wy=wOn:=bC (ds c2)
      refine⟨_,rfl,.inl ⟨rfl,_,SqL.of pp.lst⟩,_,rfl,fo,C_Field,dx,_,_,rfl,S5 _ _ hf,zj.cls,n_last,rfl,lt,(n:Int),(m:Int),rfl,S5 _ _ hl,⟨by omega,by omega⟩,⟨by omega,by omega⟩,λq' H6 s6 pq cq=>?_⟩;have pp6:=pp.mono s6;refine⟨r5,_,_,rfl,rfl,pp6.lst,aR (by rw[fP];omega),λH7 u=>⟨_,rfl,?_⟩⟩;have S6:=S5.trans s6;have nr5:H r5=none:=S4.free n5;refine q1 r5 H7 (ps0++[q']) (λb o e=>u.at (λz=>by rw[z,nr5]at e;cases e) (S6 b o e)) nr5 ⟨x0,l,ps0,hx0,bk,by omega,pr,.inl ⟨c2,hF c2,q',rfl,cq⟩⟩ ⟨by rw[u.now,lu],λz hz=>?_⟩;rcases List.mem_append.mp hz with hz|hz
      ·exact(pp6.pr z hz).t u.t
      ·rw[List.mem_singleton.mp hz]
       exact pq.two.t u.t
     ·have c2:¬wy=wOn:=bP (ds c2)
      exact⟨_,rfl,q1 r5 H5 ps0 S5 (S4.free n5) ⟨x0,l,ps0,hx0,bk,by omega,pr,.inr ⟨hw.resolve_left c2,rfl⟩⟩ pp⟩
  obtain⟨u1,hu1,h1⟩:=R1;refine⟨_,(ai (aQ (v7 (aB cI (pv 1) cT (aC _)) (tQ (iM (ku (bV hr) (dz (pv 0) rfl) (dz (pv 0) rfl)) (by rfl)))).pt (am (az bT)) aE) hu1),?_⟩;refine⟨_,rfl,rfl,_,rfl,aZ (λc=>?_) (λc=>?_)⟩
  ·have c:wy=wOn:=bC (ds c)
   obtain⟨o',dg',ho'⟩:=fd.get (x:=(n:Int)) (y:=(m:Int)) hl;refine⟨_,rfl,fo,C_Field,dx,_,_,rfl,hf,zj.cls,n_last,rfl,_,rfl,fo,C_Field,dx,_,_,rfl,hf,zj.cls,n_far,rfl,fr,o',rfl,dg',_,rfl,aZ (λh=>?_) (λh=>?_)⟩
   ·rw[ho',decide_eq_true_eq]at h
    exact q0 H (Same.refl _) ⟨λ_=>.inl (de.mp h).2.2.2.2,λz=>absurd (c.symm.trans z) du⟩
   ·rw[ho',decide_eq_false_iff_not]at h
    refine h1 H (Same.refl _) λ_=>?_;cases e:F n m with
    | false=>rfl
    | true=>exact absurd (de.mpr ⟨by omega,by omega,by omega,by omega,e⟩) h
  ·have c:¬wy=wOn:=bP (ds c)
   exact h1 H (Same.refl _) λz=>absurd z c
noncomputable def br(H H':Hp):Prop:=∀b o,H b=some o->(∀ps,o≠.tbl ps)->H' b=some o
theorem br.of{H H':Hp}(s:Same H H'):br H H':=λb o e _=>s b o e
theorem br.refl(H:Hp):br H H:=λ_ _ e _=>e
theorem br.trans{H H1 H2:Hp}(a:br H H1)(b:br H1 H2):br H H2:=λc o e n=>b c o (a c o e n) n
theorem br.t{H H':Hp}(s:br H H'){b:Addr}{xs:List V}(e:H b=some (.tup xs)):H' b=some (.tup xs):=s b _ e λps q=>by cases q
theorem br.l{H H':Hp}(s:br H H'){b:Addr}{xs:List V}(e:H b=some (.lst xs)):H' b=some (.lst xs):=s b _ e λps q=>by cases q
theorem br.line{H H':Hp}(s:br H H'){l:Addr}{qs:Crn}(L:LineM H l qs):LineM H' l qs:=⟨s.l L.lst,λq hq=>⟨s.t (L.crn q hq).1,(L.crn q hq).2⟩⟩
theorem br.seq{H H':Hp}(s:br H H'){l:Addr}{xs:List V}(L:SqL K H l xs):SqL K H' l xs:=by
 rcases L with(h|⟨o,h⟩)|h
 ·exact .inl (.inl (s.l h))
 ·exact .inl (.inr ⟨o,s _ _ h λps q=>by cases q⟩)
 ·exact .inr h
theorem cD.n{p:Addr}{H H':Hp}{ls:List (Pos×Str)}(s:cD p H H')(t:Tab H p ls):br H H':=λb o e n=>s.keep t e n
theorem oz{α:Type}{R:α->Pr->Prop}:∀{l:List α} {ys:List V},ys.length=l.length->(∀(i:Nat) y,ys[i]? = some y->∃q e,l[i]? = some e/\y=V.ref q.p/\R e q)->∃ps,ys=prs ps/\Paired R l ps
 | [],[],_,_=>⟨[],rfl,.nil⟩
 | e::l,y::ys,hl,h=>by
  obtain⟨q,e',h1,h2,h3⟩:=h 0 y rfl;cases h1;obtain⟨ps,h4,h5⟩:=oz (R:=R) (l:=l) (ys:=ys) (by simpa using hl) (λi y hy=>h (i+1) y (by simpa using hy));exact⟨q::ps,by rw[h2,h4];rfl,.cons h3 h5⟩
 | [],_::_,hl,_=>by simp at hl
 | _::_,[],hl,_=>by simp at hl
noncomputable def onB(n1:Bool)(a b a' b':Int):Prop:=if n1=true then a'=0/\b'=1 else a'=a/\b'=b
inductive Eu (vs:List V) (H:Hp) (Q:VK) (x_3:XK):Prop
 | mk:∀(l p:Addr) (qs:Crn) (a b:Int),(vs = [.ref l,.ref p])->(LineM H l qs)->((El H p a b 5300/\0<=a))->(∀(r:Addr) (a' b':Int) (H':Hp),Same H H'->El H' r a' b' 5300->0<=a'->onB (decide (qs.length=1)) a b a' b'->Q (.ref r) H')->Eu vs H Q x_3
noncomputable def wC(o1 o2:Bool)(q q':Pr):Prop:=onB o1 q.a q.b q'.a q'.b/\onB o2 q.c q.d q'.c q'.d
inductive CO (vs:List V) (H:Hp) (Q:VK) (x_3:XK):Prop
 | mk:∀(l1 l2 l:Addr) (qs rs:Crn) (ps:List Pr),(vs = [.ref l1,.ref l2,.ref l])->(LineM H l1 qs)->(LineM H l2 rs)->(Ek H l ps)->(ps.length<990)->(∀(r:Addr) (ps':List Pr) (H':Hp),H r=none->Same H H'->Ek H' r ps'->Paired (wC (decide (qs.length=1)) (decide (rs.length=1))) ps ps'->Q (.ref r) H')->CO vs H Q x_3
theorem DC:zf ["line","place"] ["line","place"] (ak (top 57)):=smk
theorem lW(DJ:Df K mg "place_on" (top 57))(T:Txt mg):Fn P w K mg base "place_on" ["line","place"] 1 Eu:=by
 refine DJ.fn DC (λ_ _ _ _ _ _ us hl=>by obtain⟨_,_,rfl⟩:=cJ hl;rfl) (λvs H Q E h=>?_) (λf cdv A outer s H vs Q E hr h=>?_)
 ·obtain⟨l,p,qs,a,b,rfl,_⟩:=h
  rfl
 ·obtain⟨l,p,qs,a,b,rfl,L,⟨fr,a0⟩,k⟩:=h
  refine⟨_,(am (az (eF (aB cI (aI aL (by rfl) T.z_len cz (ad (pv 0) ag)) af (aC _)) (ay (ad af (ad af ag))) (pv 1)))),?_⟩;have hll:(qs.map λ(q:Addr×Int×Int)=>V.ref q.1).length=qs.length:=List.length_map _;unfold onB at k;refine⟨_,rfl,l,_,rfl,.inl (SqL.of L.lst),rfl,_,rfl,?_⟩;rw[hll,di];refine aZ (λc=>?_) (λc=>?_)
  ·have c:qs.length=1:=by have:((qs.length:Nat):Int)=1:=bC c;omega
   rw[decide_eq_true c]at k;exact⟨sz (by simp),λr H1 s1 f1 _=>k r 0 1 H1 s1 ⟨f1,⟨by decide,by decide⟩,by decide,by decide⟩ (by decide) ⟨rfl,rfl⟩⟩
  ·have c:¬qs.length=1:=λz=>bP c (by rw[z];rfl)
   rw[decide_eq_false c]at k;exact⟨_,rfl,k p a b H (Same.refl _) fr a0 ⟨rfl,rfl⟩⟩
theorem DD:zf ["one","other","pairs"] ["one","other","pairs"] (ak (top 58)):=smk
theorem lY(DL:Df K mg "pairs_on" (top 58))(AO:Fn P w K mg base "place_on" ["line","place"] 1 Eu)(T:Txt mg):Fn P w K mg base "pairs_on" ["one","other","pairs"] 2 CO:=by
 refine DL.fn DD (λ_ _ _ _ _ _ us hl=>by obtain⟨_,_,_,rfl⟩:=kH hl;rfl) (λvs H Q E h=>?_) (λf cdv A outer s H vs Q E hr h=>?_)
 ·obtain⟨l1,l2,l,qs,rs,ps,rfl,_⟩:=h
  rfl
 ·obtain⟨l1,l2,l,qs,rs,ps,rfl,L1,L2,PP,hlen,k⟩:=h
  have CN:A6 (aX CX0 P w K mg base ["one","other","pairs"] "pairs_on" (ak (top 58)) f cdv A outer s H E).nox (Sp7.retScope ((aH (top 58)).getD 0 (.Pass ⟨0,0,0,0⟩))) [("other",s.heap.objs.size+2),("one",s.heap.objs.size+1)] "pair" [("one",0),("other",1)] :=
   ⟨by rfl,rfl,by decide +kernel,by decide +kernel,rfl,(λp hp=>by simp only[List.mem_cons,List.not_mem_nil,or_false]at hp;rcases hp with rfl|rfl <;> rfl),by rfl,by decide +kernel,(λp hp=>by simp only[List.mem_cons,List.not_mem_nil,or_false]at hp;rcases hp with rfl|rfl <;> exact⟨rfl,rfl,.inr (.inl rfl),rfl,rfl⟩),⟨rfl,rfl⟩,rfl⟩
  refine⟨_,(am (az (dF rfl CN (cW (pv 2)) (λfp s₀ H₀=>(ay (ad (aA AO (hr.mono (by decide)) (by rfl) (ad (pv 1) (ad (aw (fb (K:=K) rfl) (pv 0) af (λ_ _=>rfl)) ag))) (ad (aA AO (hr.mono (by decide)) (by rfl) (ad (pv 2) (ad (aw (fb (K:=K) rfl) (pv 0) af (λ_ _=>rfl)) ag))) ag))))))),?_⟩;refine⟨_,rfl,l,rfl,⟨_,SqL.of PP.lst⟩,kR (SqL.of PP.lst) (by rw[fP];omega) (λi v H'=>∃(q':Pr) (q:Pr),ps[i]? = some q/\v = .ref q'.p/\(E3 H' q'/\wC (decide (qs.length=1)) (decide (rs.length=1)) q q')) (λi v H H' st ⟨q',q,x1,x2,x3,x4⟩=>⟨q',q,x1,x2,x3.t st,x4⟩) ?_ ?_⟩
  ·intro i x H2 Kc hx s2 kk
   obtain⟨q,hq,rfl⟩:=tT hx;have mq:=List.mem_of_getElem? hq;have pq:=(PP.pr q mq).t s2.t;have T:=λ{H':Hp} (s:Same H2 H')=>SqT.of (K:=K) (s _ _ pq.p_);refine⟨_,rfl,_,rfl,q.p,_,_,_,rfl,rfl,T (Same.refl _),rfl,l1,q.x,qs,q.a,q.b,rfl,L1.mono s2,⟨⟨pq.x_,pq.lx,pq.ba,pq.bb⟩,pq.nx⟩,λr1 a' b' H3 s3 f3 a0 o1=>?_⟩;refine⟨_,rfl,_,rfl,q.p,_,_,_,rfl,rfl,T s3,rfl,l2,q.y,rs,q.c,q.d,rfl,L2.mono (s2.trans s3),⟨⟨s3 _ _ pq.y_,pq.ly,pq.bc,pq.bd⟩,pq.ny⟩,λr2 c' d' H4 s4 f4 c0 o2=>⟨sz (by simp),λo H5 s5 f5 n5=>?_⟩⟩;have g3:=(f3.mono s4).mono s5;have g4:=f4.mono s5;exact kk _ H5 ((s3.trans s4).trans s5) ⟨⟨o,r1,r2,a',b',c',d'⟩,q,hq,rfl,⟨f5,g3.at_,g4.at_,g3.low,g4.low,a0,c0,g3.ba,g3.bb,g4.ba,g4.bb⟩,o1,o2⟩
  ·intro lr ys H9 nl s9 f9 hly hr
   rw[fP]at hly;obtain⟨ps',rfl,hp⟩:=oz (R:=λq q'=>E3 H9 q'/\wC (decide (qs.length=1)) (decide (rs.length=1)) q q') (l:=ps) (ys:=ys) hly (λi y hy=>let ⟨q',q,h1,h2,h3⟩:=hr i y hy;⟨q',q,h1,h2,h3⟩);exact k lr ps' H9 nl s9 ⟨f9,λq hq=>by
    obtain⟨i,hi⟩:=List.mem_iff_getElem?.mp hq;obtain⟨e,_,h2⟩:=gU hp i q hi;exact h2.1⟩ (Paired.mapP hp λa b x=>x.2)
theorem qj{wy:Str}{n m:Nat}{G:GF}{F:Int->Int->Bool}{ps:List Pr}(h:xo wy n m G F ps):ps.length<990:=by
 obtain⟨_,l,ps0,_,_,hl,pp,h⟩:=h;have:=Paired.length pp;rw[List.length_reverse]at this;rcases h with⟨_,_,q,rfl,_⟩|⟨_,rfl⟩
 ·rw[List.length_append,List.length_singleton];omega
 ·omega
theorem jQ{qs:Crn}(h:1<=qs.length/\qs.length<=10):(dbl qs).length=d5 qs+1/\1<=d5 qs/\d5 qs<=9:=by
 have:=kQ h;unfold d5;omega
structure Pl(p:Addr)(H H':Hp):Prop where
 oth:∀b o,b≠p->H b=some o->H' b=some o
 was:∃n:Int,H p=some (.lst [.int n])
 now:∃n:Int,H' p=some (.lst [.int n])
theorem Pl.refl{p:Addr}{H:Hp}{n:Int}(h:H p=some (.lst [.int n])):Pl p H H:=⟨λ_ _ _ e=>e,⟨n,h⟩,⟨n,h⟩⟩
theorem Pl.trans{p:Addr}{H H1 H2:Hp}(a:Pl p H H1)(b:Pl p H1 H2):Pl p H H2:=⟨λc o n e=>b.oth c o n (a.oth c o n e),a.was,b.now⟩
theorem Pl.same{p:Addr}{H0 H H':Hp}(a:Pl p H H')(s:Same H0 H)(h:H0 p=none):Same H0 H':=λb o e=>a.oth b o (aT e h) (s b o e)
theorem Pl.t{p:Addr}{H H':Hp}(a:Pl p H H'):SameT H H':=λb xs e=>by
 obtain⟨n,h⟩:=a.was;exact a.oth b _ (oF e h (by intro z;cases z)) e
theorem Pl.grow{p:Addr}{H H1 H2:Hp}(a:Pl p H H1)(s:Same H1 H2):Pl p H H2:=⟨λc o n e=>s c o (a.oth c o n e),a.was,let ⟨n,h⟩:=a.now;⟨n,s _ _ h⟩⟩
theorem Pl.lst{p l:Addr}{H H':Hp}{xs:List V}(a:Pl p H H')(n:l≠p)(e:H l=some (.lst xs)):H' l=some (.lst xs):=a.oth l _ n e
inductive DA (K:W.Frag) (vs:List V) (H:Hp) (Q:VK) (x_3:XK):Prop
 | mk:∀(sa:Addr) (ss:List Int) (k:Int),(vs = [.ref sa,.int k])->(SqL K H sa (ss.map V.int))->(0<=k)->(∀c:Int,Q (.int c) H)->DA K vs H Q x_3
inductive Dy (K:W.Frag) (vs:List V) (H:Hp) (Q:VK) (x_3:XK):Prop
 | mk:∀(sa:Addr) (ss:List Int) (k:Int),(vs = [.ref sa,.int k])->(SqL K H sa (ss.map V.int))->(0<=k)->(k<=100)->(∀(p:Addr) (n:Int) (H':Hp),Same H H'->H p=none->H' p=some (.lst [.int n])->Q (.ref p) H')->Dy K vs H Q x_3
inductive CB (vs:List V) (H:Hp) (Q:VK) (x_3:XK):Prop
 | mk:∀(p:Addr) (n m:Int),(vs = [.ref p,.int m])->(H p=some (.lst [.int n]))->((0<m/\ap m<=8000))->(∀(r:Int) (H':Hp),0<=r->r<m->Pl p H H'->Q (.int r) H')->CB vs H Q x_3
theorem Pl.sameN{p:Addr}{H0 H H':Hp}(a:Pl p H H')(s:br H0 H)(h:H0 p=none):br H0 H':=λb o e n=>a.oth b o (aT e h) (s b o e n)
theorem Pl.tab{p t:Addr}{H H':Hp}{ls:List (Pos×Str)}(a:Pl p H H')(h:Tab H t ls):Tab H' t ls:=by
 obtain⟨ps,e,r1,r2⟩:=h;obtain⟨n,hp⟩:=a.was;refine⟨ps,a.oth t _ (λz=>by rw[z,hp]at e;cases e) e,r1,λl hl=>?_⟩;rcases r2 l hl with h|⟨c,h1,o,vs,tt,e',r⟩
 ·exact .inl h
 ·exact .inr ⟨c,h1,o,vs,tt,a.oth c _ (λz=>by rw[z,hp]at e';cases e') e',r⟩
theorem Pl.line{p l:Addr}{H H':Hp}{qs:Crn}(a:Pl p H H')(L:LineM H l qs)(n:l≠p):LineM H' l qs:=⟨a.lst n L.lst,λq hq=>⟨a.t _ _ (L.crn q hq).1,(L.crn q hq).2⟩⟩
theorem oq{z:Int}(a:-999999999999<=z)(b:z<=999999999999):Sm z:=⟨a,b⟩
theorem vh{qs:List (Addr×Int×Int)}{k:Int}(h0:0<=k)(h1:k<(qs.length:Int)):∃q,q∈qs/\atI (qs.map λ(q:Addr×Int×Int)=>V.ref q.1) k=some (.ref q.1):=by
 obtain⟨v,hv,mv⟩:=atI_mem (xs:=qs.map λ(q:Addr×Int×Int)=>V.ref q.1) h0 (by rw[List.length_map];exact h1);obtain⟨q,hq,rfl⟩:=List.mem_map.mp mv;exact⟨q,hq,hv⟩
theorem xf{xs:List V}{k:Nat}(h:k<=xs.length):fF xs (some (k:Int)) none=xs.drop k:=by
 unfold fF;rw[HT.sIx_nat,HT.sIx_none,Nat.min_eq_left h,List.take_of_length_le (by rw[List.length_drop];exact Nat.le_refl _)]
theorem tV{p r:Addr}{H H':Hp}(a:Pl p H H')(h:H' r=none):H r=none:=by
 obtain⟨n,hn⟩:=a.now;cases e:H r with
 | none=>rfl
 | some o =>
  have np:r≠p:=λz=>by rw[z,hn]at h;cases h
  rw[a.oth r o np e]at h;cases h
theorem Cp:zf ["script","k"] ["script","k"] (ak (top 92)):=smk
theorem jc(Cu:Df K mg "_law_cell_at" (top 92))(T:Txt mg):Fn P w K mg base "_law_cell_at" ["script","k"] 1 (DA K):=by
 refine Cu.fn Cp (λ_ _ _ _ _ _ us hl=>by obtain⟨_,_,rfl⟩:=cJ hl;rfl) (λvs H Q E h=>?_) (λf cdv A outer s H vs Q E hr h=>?_)
 ·obtain⟨sa,ss,k,rfl,_⟩:=h
  rfl
 ·obtain⟨sa,ss,k,rfl,hS,hk,q⟩:=h
  refine⟨_,(ai (aQ (aB eJ (pv 1) (aI aL (by rfl) T.z_len cz (ad (pv 0) ag)) (aC _)) (am (az (aw bA (pv 0) (pv 1) (λ_ _=>rfl)))) aE) (am (az af))),?_⟩;refine⟨_,rfl,_,rfl,sa,_,rfl,.inl hS,_,_,rfl,rfl,_,rfl,aZ (λh1=>?_) (λh1=>?_)⟩
  ·have h1:k<(((ss.map V.int).length:Nat):Int):=bC h1
   rw[List.length_map]at h1;exact⟨_,rfl,_,rfl,sa,_,_,_,rfl,rfl,hS,xn k.toNat (by omega) (by omega),q _⟩
  ·exact q _
theorem zK:zf ["script","at","cell","big","turn","one"] ["script","at"] (ak (top 93)):=smk
theorem me(DQ:Df K mg "_law_pool" (top 93))(AH:Fn P w K mg base "_law_cell_at" ["script","k"] 1 (DA K))(T:Txt mg):Fn P w K mg base "_law_pool" ["script","at"] 2 (Dy K):=by
 refine DQ.fn zK (λ_ _ _ _ _ _ us hl=>by obtain⟨_,_,rfl⟩:=cJ hl;rfl) (λvs H Q E h=>?_) (λf cdv A outer s H vs Q E hr h=>?_)
 ·obtain⟨sa,ss,k,rfl,_⟩:=h
  rfl
 ·obtain⟨sa,ss,k,rfl,hS,hk,hk2,q⟩:=h
  refine⟨_,(ai (au (i:=2) zK.nd rfl (Or.inl rfl) (aA AH (hr.mono (by decide)) (by rfl) (ad (pv 0) (ad (pv 1) ag)))) (ai (aQ (aB lE (pv 2) (ao kA af af) (aC _)) (am (az (aU (ad (pv 2) ag)))) aE) (ai (au (i:=3) zK.nd rfl (Or.inl rfl) af) (ai (bI PassesOwn.never rfl (bW rfl T.z_range (ad af ag)) (aK (i:=4) zK.nd rfl (Or.inl rfl)) (ai (au (i:=5) zK.nd rfl (Or.inl rfl) (ao eG (ao ax (ao aO (ao aO (ao aO (ao eG (pv 2) af) (ao ax (ao ax af (pv 4)) (pv 4))) (ao ax af (pv 1))) af) af) af)) (ai (au (i:=5) zK.nd rfl (Or.inl rfl) (ao eG (ao ax (pv 5) (pv 5)) af)) (ai (au (i:=5) zK.nd rfl (Or.inl rfl) (ao eG (ao ax (ao aO (pv 5) (ao ax af (pv 4))) af) af)) (am (au (i:=3) zK.nd rfl (Or.inl rfl) (ao aO (ao ax (pv 3) af) (ao eG (ao db (pv 5) af) af)))))))) (am (az (aU (ad (pv 3) ag)))))))),?_⟩;refine⟨_,rfl,_,rfl,sa,ss,k,rfl,hS,hk,λc=>?_⟩;refine⟨_,rfl,_,_,rfl,rfl,⟨by decide,by decide,by decide⟩,_,_,rfl,rfl,_,rfl,aZ (λh1=>?_) (λh1=>?_)⟩
  ·exact⟨_,rfl,sz (by simp),λp H2 s2 f2 n2=>q p c H2 s2 n2 f2⟩
  refine⟨24,rfl,by decide,by decide,bR (n:=24) (lo:=0) (λ_ σ H1=>∃(b:Int) (z1 z2:Option V),σ = [some (.ref sa),some (.int k),some (.int c),some (.int b),z1,z2]/\H1=H) ⟨_,_,_,rfl,rfl⟩ ?_ ?_⟩
  ·rintro i σ H1 hi ⟨b,z1,z2,rfl,rfl⟩
   have g0:=Int.emod_nonneg c (show(998244353:Int)≠0 by decide);have e64:(2:Int)^64=18446744073709551616:=by decide
   have r1:∀n:Int,0<=n % 2147483647/\n % 2147483647<2147483647:=λn=>⟨Int.emod_nonneg _ (by decide),Int.emod_lt_of_pos _ (by decide)⟩;refine⟨_,rfl,_,_,rfl,rfl,(by show(0:Int)<998244353;decide),_,rfl,_,_,rfl,rfl,CM.l ⟨by decide,by decide⟩,_,rfl,_,_,rfl,rfl,CM.l (by rw[e64];omega),_,_,rfl,rfl,_,rfl,_,_,rfl,rfl,CM.l ⟨by decide,by decide⟩,_,_,rfl,rfl,_,_,rfl,rfl,_,_,rfl,rfl,CM.r ⟨by decide,by decide⟩,_,_,rfl,rfl,(by show(0:Int)<2147483647;decide),?_⟩;refine⟨_,rfl,_,rfl,_,_,rfl,rfl,CM.l (by rw[e64];have:=r1 ((c % 998244353+89*(0+(i:Int))*(0+(i:Int))+7*k+1)*48271);omega),_,_,rfl,rfl,(by show(0:Int)<1000000007;decide),?_⟩
   walk_at "rd"
   exact⟨_,_,_,rfl,rfl⟩
  ·rintro σ H1 ⟨b,z1,z2,rfl,rfl⟩
   exact⟨_,rfl,sz (by simp),λp H2 s2 f2 n2=>q p b H2 s2 n2 f2⟩
theorem B9:zf ["pool","many","number"] ["pool","many"] (ak (top 94)):=smk
theorem md(DP:Df K mg "_law_take" (top 94)):Fn P w K mg base "_law_take" ["pool","many"] 1 CB:=by
 refine DP.fn B9 (λ_ _ _ _ _ _ us hl=>by obtain⟨_,_,rfl⟩:=cJ hl;rfl) (λvs H Q E h=>?_) (λf cdv A outer s H vs Q E hr h=>?_)
 ·obtain⟨p,n,m,rfl,_⟩:=h
  rfl
 ·obtain⟨p,n,m,rfl,ep,⟨hm,bm⟩,q⟩:=h
  refine⟨_,(ai (au (i:=2) B9.nd rfl (Or.inl rfl) (ao eG (aw bA (pv 0) af (λ_ _=>rfl)) (pv 1))) (ai (wb (ao db (aw bA (pv 0) af (λ_ _=>rfl)) (pv 1)) (wm (pv 0) af pD)) (am (az (pv 2))))),?_⟩;refine⟨_,rfl,p,_,_,_,rfl,rfl,SqL.of ep,rfl,_,rfl,_,_,rfl,rfl,hm,?_⟩;refine⟨_,rfl,p,_,_,_,rfl,rfl,SqL.of ep,rfl,_,rfl,_,_,rfl,rfl,⟨hm,bm⟩,_,rfl,p,_,_,0,rfl,rfl,ep,rfl,λH2 u=>?_⟩;exact⟨_,rfl,q _ _ (Int.emod_nonneg _ (by omega)) (Int.emod_lt_of_pos _ hm) ⟨λb o nb e=>u.at nb e,⟨n,ep⟩,⟨_,u.now⟩⟩⟩
noncomputable def sqI(c d:Int×Int):Int:=(c.1 - d.1)*(c.1 - d.1)+(c.2 - d.2)*(c.2 - d.2)
noncomputable def cr(qs:Crn)(i:Nat):Int×Int:=(qs.getD i (0,0,0)).2
theorem wY{qs rs:Crn}{a b:Int}{i j:Nat}(hi:i<qs.length)(hj:j<rs.length):(eQ qs rs a b 0 i j=true↔a<sqI (cr qs i) (cr rs j)*b):=by
 have h1:qs[i]? = some qs[i]:=List.getElem?_eq_getElem hi;have h2:rs[j]? = some rs[j]:=List.getElem?_eq_getElem hj;have e1:cr qs i=qs[i].2:=by unfold cr;rw[List.getD_eq_getElem?_getD,h1];rfl
 have e2:cr rs j=rs[j].2:=by unfold cr;rw[List.getD_eq_getElem?_getD,h2];rfl
 rw[oV h1 h2,decide_eq_true_eq,e1,e2];generalize qs[i].2=c;generalize rs[j].2=d;unfold lo;rw[show(d.1 - c.1)*(d.1 - c.1)+(d.2 - c.2)*(d.2 - c.2)=sqI c d by unfold sqI;grind];unfold sg
 split
 ·omega
 ·split <;> omega
noncomputable def xu(qs rs:Crn)(a b:Int):Prop:=∀i j:Nat,i<qs.length->j<rs.length->eQ qs rs a b 0 (i:Int) (j:Int)=false
theorem qR{qs rs:Crn}{a b:Int}{n m:Nat}(hb:0<b)(en:qs.length=n+1)(em:rs.length=m+1)(hn:1<=n)(hm:1<=m)(near:xu qs rs a b):¬NoW wOn n m (cL qs rs a b 0) (eQ qs rs a b 0):=λW=>by
 refine ue hb en em hn hm (.inl rfl) W ⟨[],λs hs=>?_,λs hs=>absurd hs List.not_mem_nil,λs hs=>absurd hs List.not_mem_nil⟩;obtain⟨p,hp,_⟩:=List.mem_map.mp hs;obtain⟨x,y⟩:=p;obtain⟨h1,h2,h3,h4,h5⟩:=de.mp (List.mem_filter.mp hp).1;obtain⟨i,rfl⟩:=Int.eq_ofNat_of_zero_le h1;obtain⟨j,rfl⟩:=Int.eq_ofNat_of_zero_le h3;rw[near i j (by omega) (by omega)]at h5;cases h5
theorem sO{wy:Str}{n m:Nat}{G:GF}{F:Int->Int->Bool}{ps:List Pr}(on:wy=wOn)(h:xo wy n m G F ps):2<=ps.length:=by
 obtain⟨x,l,ps0,hx,bk,hl,pr,h⟩:=h;have e:=Paired.length pr;rw[List.length_reverse]at e;have l1:1<=l.length:=by
  cases bk <;> simp
 rcases h with⟨_,_,q,rfl,_⟩|⟨pt,_⟩
 ·rw[List.length_append,List.length_singleton];omega
 ·exact absurd (on.symm.trans pt) du
theorem lC{R:Pr->Pr->Prop}{ps ps':List Pr}(h:Paired R ps ps')(k:2<=ps.length):2<=ps'.length:=by
 have:=Paired.length h;omega
inductive Dj (wy:Str) (vs:List V) (H:Hp) (Q:VK) (x_3:XK):Prop
 | mk:∀(l1 l2 p:Addr) (qs rs:Crn) (a b:Int),(vs = [.ref l1,.ref l2,.ref p]++(if wy=wOn then [] else [.str wOn]))->((LineM H l1 qs/\LineM H l2 rs))->(((1<=qs.length/\qs.length<=10)/\1<=rs.length/\rs.length<=10))->((Sq H p a b/\0<b/\0<=a))->(sqV H (.ref p)=true)->(Al H (.ref p))->(xu (dbl qs) (dbl rs) a b)->(∀(u r:Addr) (H':Hp) (ps:List Pr),H r=none->H u=none->u≠r->Same H H'->Ek H' r ps->2<=ps.length->H' u=some (.tup [.str "walk",.ref r])->Q (.ref u) H')->Dj wy vs H Q x_3
noncomputable def xQ:Sp:=λ_ _ _ _=>False
theorem CY:zf ["field","way","begins","row","pairs","corner","bend"] ["field","way"] (ak (top 69)):=smk
theorem jt(Di:Df K mg "fence_past" (top 69)):Fn P w K mg base "fence_past" ["field","way"] 1 xQ:=by
 exact Di.fn CY (λ_ _ _ _ _ _ us hl=>by obtain⟨_,_,rfl⟩:=cJ hl;rfl) (λvs H Q E h=>False.elim h) (λf cdv A outer s H vs Q E hr h=>False.elim h)
theorem CW:zf ["one","other","square","way","field","walk"] ["one","other","square","way"] (ak (top 80)):=smk
theorem rR(EU:Df K mg "go_by" (top 80))(zj:CZ K mg "Field" C_Field)(zu:Fx P w K mg base "look_at_square" ["square"] 3 [] (B2 C_NoSquare))(AC:Mt P w K mg base C_Field "__init__" ["self","one","other","square","room"] 7 (B6 K C_Field))(Au:Fn P w K mg base "walk_through" ["field","way"] 8 (E6 K C_Field))(AQ:Fn P w K mg base "pairs_on" ["one","other","pairs"] 2 CO)(AS:Fn P w K mg base "fence_past" ["field","way"] 1 xQ):Fx P w K mg base "go_by" ["one","other","square","way"] 9 [] (Dj bY):=by
 refine EU.fx CW (λ_ _ _ _ _ _ us hl=>by obtain⟨_,_,_,_,rfl⟩:=uw hl;rfl) (λvs H Q E h=>?_) (λf cdv A outer s H vs Q E hr h=>?_)
 ·obtain⟨l1,l2,p,qs,rs,a,b,rfl,_⟩:=h
  rfl
 ·obtain⟨l1,l2,p,qs,rs,a,b,rfl,⟨L1,L2'⟩,⟨b1,b2⟩,⟨sq,hb,ha⟩,sv,th,near,q⟩:=h
  refine⟨_,(ai (bJ (lA zu (hr.mono (by decide)) (by rfl) (ad (pv 2) ag))) (ai (v9 (au (i:=4) CW.nd rfl (Or.inl rfl) (xX zj AC (hr.mono (by decide)) (by rfl) (ad (pv 0) (ad (pv 1) (ad (pv 2) (ad af ag))))))) (ai (au (i:=5) CW.nd rfl (Or.inl rfl) (aA Au (hr.mono (by decide)) (by rfl) (ad (pv 4) (ad (pv 3) ag)))) (ai (aQ (aB kB (pv 5) bT (aC _)) (am (az (ay (ad cT (ad (aA AQ (hr.mono (by decide)) (by rfl) (ad (pv 0) (ad (pv 1) (ad (pv 5) ag)))) ag))))) aE) (am (az (ay (ad cT (ad (aA AQ (hr.mono (by decide)) (by rfl) (ad (pv 0) (ad (pv 1) (ad (aA AS (hr.mono (by decide)) (by rfl) (ad (pv 4) (ad (pv 3) ag))) ag)))) ag))))))))),?_⟩;refine⟨_,rfl,.ref p,rfl,th,(λz=>by rw[sv]at z;cases z),λ_=>?_⟩;obtain⟨d1,n1,n2⟩:=jQ b1;obtain⟨d2,m1,m2⟩:=jQ b2;refine⟨_,rfl,_,rfl,_,rfl,λfo dx nf nd ne=>?_⟩;have sX:Same H (upd (upd H dx (.own fo)) fo (.ins C_Field dx [])):=(Same.new nd).trans (Same.new (by rw[aF (λz=>ne z.symm)];exact nf));refine⟨fo,dx,l1,l2,p,qs,rs,a,b,0,rfl,upd_same,L1.mono sX,L2'.mono sX,b1,b2,⟨sq.mono sX,hb⟩,.inl rfl,λH2 bt fa=>⟨rfl,?_⟩⟩;have S2:Same H H2:=λc o e=>bt c o (λz=>by rw[z,nf]at e;cases e) (sX c o e);have gg:GGk (cL (dbl qs) (dbl rs) a b 0):=fZ (.inl rfl) hb;refine⟨_,rfl,_,rfl,fo,d5 qs,d5 rs,0,_,_,wOn,rfl,fa,⟨n1,by omega⟩,⟨m1,by omega⟩,.inl rfl,gg,(λH3 s3 nh=>absurd nh (qR hb d1 d2 n1 m1 near)),λr H3 ps s3 nr hwk pp=>?_⟩;refine⟨_,rfl,rfl,_,rfl,uF ?_⟩;have S3:=S2.trans s3;refine⟨_,rfl,_,rfl,_,rfl,l1,l2,r,qs,rs,ps,rfl,L1.mono S3,L2'.mono S3,pp,qj hwk,λr' ps' H4 nr' s4 pp' on=>⟨sz (by simp),λt H5 s5 f5 n5=>?_⟩⟩;exact q t r' H5 ps' (S3.free nr') (S3.free (s4.free n5)) (λz=>by rw[z,pp'.lst]at n5;cases n5) (S3.trans (s4.trans s5)) (pp'.mono s5) (lC on (sO rfl hwk)) f5
theorem EO:zf ["one","other","square"] ["one","other","square"] (ak (top 81)):=smk
theorem rQ(ET:Df K mg "go_on" (top 81))(Dc:Fx P w K mg base "go_by" ["one","other","square","way"] 9 [] (Dj bY)):Fx P w K mg base "go_on" ["one","other","square"] 10 [] (Dj wOn):=by
 refine ET.fx EO (λ_ _ _ _ _ _ us hl=>by obtain⟨_,_,_,rfl⟩:=kH hl;rfl) (λvs H Q E h=>?_) (λf cdv A outer s H vs Q E hr h=>?_)
 ·obtain⟨l1,l2,p,qs,rs,a,b,rfl,_⟩:=h
  rfl
 ·obtain⟨l1,l2,p,qs,rs,a,b,rfl,⟨L1,L2'⟩,⟨b1,b2⟩,⟨sq,hb,ha⟩,sv,th,near,q⟩:=h
  refine⟨_,(am (az (lA Dc (hr.mono (by decide)) (by rfl) (ad (pv 0) (ad (pv 1) (ad (pv 2) (ad cT ag))))))),?_⟩;exact⟨_,rfl,_,rfl,_,rfl,l1,l2,p,qs,rs,a,b,rfl,⟨L1,L2'⟩,⟨b1,b2⟩,⟨sq,hb,ha⟩,sv,th,near,q⟩
inductive Dz (K:W.Frag) (vs:List V) (H:Hp) (Q:VK) (x_3:XK):Prop
 | mk:∀(l:Addr) (xs:List V) (a b:Int),(vs = [.ref l,.int a,.int b])->(H l=some (.lst xs))->(∀(p:Addr) (H':Hp),Same H H'->H' p=some (.lst (fF xs (some a) (some (b+1))))->H p=none->Q (.ref p) H')->Dz K vs H Q x_3
inductive EA (vs:List V) (H:Hp) (Q:VK) (x_3:XK):Prop
 | mk:∀(l:Addr) (xs:List V) (a b:Int) (x y:V),(vs = [.ref l,.int a,.int b])->(H l=some (.lst xs))->(atI xs a=some x)->(atI xs b=some y)->(∀(p:Addr) (H':Hp),Same H H'->H' p=some (.lst [x,y])->H p=none->Q (.ref p) H')->EA vs H Q x_3
noncomputable def wc(n:Nat):List (Nat×Nat):=(List.range (n - 1)).flatMap λa=>(List.range (n - 1 - a)).map λd=>(a,a+1+d)
noncomputable def lv(n i:Nat):List (Nat×Nat):=(List.range i).flatMap λa=>(List.range (n - 1 - a)).map λd=>(a,a+1+d)
theorem iN(n i:Nat):lv n (i+1)=lv n i++(List.range (n - 1 - i)).map λd=>(i,i+1+d):=by
 unfold lv;rw[List.range_succ,List.flatMap_append,List.flatMap_singleton]
theorem iU{n a b:Nat}:(a,b)∈wc n↔a<b/\b<n:=by
 unfold wc;rw[List.mem_flatMap];constructor
 ·rintro⟨x,hx,h⟩
  obtain⟨d,hd,e⟩:=List.mem_map.mp h;rw[List.mem_range]at hx hd;cases e;omega
 ·intro h
  exact⟨a,List.mem_range.mpr (by omega),List.mem_map.mpr ⟨b - a - 1,List.mem_range.mpr (by omega),by rw[show a+1+(b - a - 1)=b by omega]⟩⟩
theorem eW{n:Nat}(hn:n<=10):∀i,i<=n->(lv n i).length<=10*i
 | 0,_=>Nat.le_refl _
 | i+1,h=>by
  rw[iN,List.length_append,List.length_map,List.length_range];have:=eW hn i (by omega);omega
noncomputable def j8(H:Hp)(l:Addr)(cs:List (Addr×Nat×Nat)):Prop:=H l=some (.lst (cs.map λc=>V.ref c.1))/\∀c∈cs,H c.1=some (.tup [.int (c.2.1:Int),.int (c.2.2:Int)])
theorem j8.mono{H H':Hp}{l:Addr}{cs:List (Addr×Nat×Nat)}(h:j8 H l cs)(s:Same H H'):j8 H' l cs:=⟨s _ _ h.1,λc hc=>s _ _ (h.2 c hc)⟩
inductive EK (vs:List V) (H:Hp) (Q:VK) (x_3:XK):Prop
 | mk:∀(l:Addr) (xs:List V),(vs = [.ref l])->(H l=some (.lst xs))->((1<=xs.length/\xs.length<=10))->(∀(r:Addr) (cs:List (Addr×Nat×Nat)) (H':Hp),Same H H'->H r=none->j8 H' r cs->cs.map (·.2)=wc xs.length->Q (.ref r) H')->EK vs H Q x_3
theorem wd{H:Hp}{m lo i:Nat}:∀(ys:List V),ys.length=m->(∀(j:Nat) y,ys[j]? = some y->∃a,y = .ref a/\H a=some (.tup [.int (i:Int),.int ((lo+j:Nat):Int)]))->∃cs:List (Addr×Nat×Nat),ys=cs.map (λc=>V.ref c.1)/\cs.map (·.2)=(List.range m).map (λd=>(i,lo+d))/\∀c∈cs,H c.1=some (.tup [.int (c.2.1:Int),.int (c.2.2:Int)]):=by
 induction m generalizing lo with
 | zero =>
  intro ys hl _;rw[List.length_eq_zero_iff.mp hl];exact⟨[],rfl,rfl,λc h=>nomatch h⟩
 | succ m ih =>
  intro ys hl h;cases ys with
  | nil=>cases hl
  | cons y r =>
   obtain⟨a,rfl,ha⟩:=h 0 y rfl;obtain⟨cs,e1,e2,e3⟩:=ih (lo:=lo+1) r (by simpa using hl) λj z hz=>by
    obtain⟨b,e,hb⟩:=h (j+1) z (by simpa using hz);exact⟨b,e,by rw[hb,show lo+(j+1)=lo+1+j by omega]⟩
   refine⟨(a,i,lo)::cs,by rw[e1];rfl,?_,λc hc=>?_⟩
   ·rw[List.map_cons,e2,List.range_succ_eq_map,List.map_cons,List.map_map,Nat.add_zero]
    congr 1
    refine List.map_congr_left λd _=>?_;show(i,lo+1+d)=(i,lo+(d+1));rw[show lo+(d+1)=lo+1+d by omega]
   ·rcases List.mem_cons.mp hc with rfl|hc
    ·rw[ha];rfl
    ·exact e3 c hc
theorem D9:zf ["line","a","b"] ["line","a","b"] (ak (top 83)):=smk
theorem nA(Ee:Df K mg "part_of" (top 83)):Fn P w K mg base "part_of" ["line","a","b"] 1 (Dz K):=by
 refine Ee.fn D9 (λ_ _ _ _ _ _ us hl=>by obtain⟨_,_,_,rfl⟩:=kH hl;rfl) (λvs H Q E h=>?_) (λf cdv A outer s H vs Q E hr h=>?_)
 ·obtain⟨l,xs,a,b,rfl,_⟩:=h
  rfl
 ·obtain⟨l,xs,a,b,rfl,el,k⟩:=h
  refine⟨_,(am (az (fR fL (pv 0) (fQ (pv 1)) (fQ (ao aO (pv 2) af))))),?_⟩;exact⟨_,rfl,_,rfl,_,rfl,_,rfl,_,_,rfl,rfl,_,rfl,l,_,rfl,SqL.of el,λp H2 s2 f2 n2=>k p H2 s2 f2 n2⟩
theorem Dp:zf ["line","a","b"] ["line","a","b"] (ak (top 84)):=smk
theorem kN(Dt:Df K mg "short_cut" (top 84)):Fn P w K mg base "short_cut" ["line","a","b"] 1 EA:=by
 refine Dt.fn Dp (λ_ _ _ _ _ _ us hl=>by obtain⟨_,_,_,rfl⟩:=kH hl;rfl) (λvs H Q E h=>?_) (λf cdv A outer s H vs Q E hr h=>?_)
 ·obtain⟨l,xs,a,b,x,y,rfl,_⟩:=h
  rfl
 ·obtain⟨l,xs,a,b,x,y,rfl,el,ha,hb,k⟩:=h
  refine⟨_,(am (az (aU (ad (aw bA (pv 0) (pv 1) (λ_ _=>rfl)) (ad (aw bA (pv 0) (pv 2) (λ_ _=>rfl)) ag))))),?_⟩;refine⟨_,rfl,_,rfl,l,_,_,_,rfl,rfl,SqL.of el,ha,_,rfl,_,rfl,l,_,_,_,rfl,rfl,SqL.of el,hb,?_⟩;exact⟨sz (by simp),λp H2 s2 f2 n2=>k p H2 s2 f2 n2⟩
theorem Ai:zf ["line","numbers","a"] ["line"] (ak (top 85)):=smk
theorem gO(BZ:Df K mg "corners_apart" (top 85))(zr:Fn P w K mg base "last_of" ["line"] 1 Bs)(T:Txt mg):Fn P w K mg base "corners_apart" ["line"] 2 EK:=by
 refine BZ.fn Ai (λ_ _ _ _ _ _ us hl=>by obtain⟨_,rfl⟩:=d9 hl;rfl) (λvs H Q E h=>?_) (λf cdv A outer s H vs Q E hr h=>?_)
 ·obtain⟨l,xs,rfl,_⟩:=h
  rfl
 ·obtain⟨l,xs,rfl,el,⟨h1,h10⟩,k⟩:=h
  have CN:A6 (aX CX0 P w K mg base ["line","numbers","a"] "corners_apart" (ak (top 85)) f cdv A outer s H E).nox (lcA (top 85) 0) [("a",s.heap.objs.size+1)] "b" [("a",2)] :=
   ⟨by rfl,rfl,by decide +kernel,by decide +kernel,rfl,(λp hp=>by simp only[List.mem_cons,List.not_mem_nil,or_false]at hp;rcases hp with rfl <;> exact rfl),by rfl,by decide +kernel,(λp hp=>by simp only[List.mem_cons,List.not_mem_nil,or_false]at hp;rcases hp with rfl <;> exact⟨rfl,rfl,.inr (.inl rfl),rfl,rfl⟩),⟨rfl,rfl⟩,rfl⟩
  refine⟨_,(ai (au (i:=1) Ai.nd rfl (Or.inl rfl) (aU ag)) (ai (bI PassesOwn.never rfl (bW rfl T.z_range (ad (aA zr (hr.mono (by decide)) (by rfl) (ad (pv 0) ag)) ag)) (aK (i:=2) Ai.nd rfl (Or.inr rfl)) (am (bJ (fA PySem.F.plainAttrs_list PySem.F.slot_list_extend PySem.F.type_list_extend mZ (pv 1) (ad (dF rfl CN (eX rfl T.z_range (ad (ao aO (pv 2) af) (ad (aI aL (by rfl) T.z_len cz (ad (pv 0) ag)) ag))) (λfp s₀ H₀=>(ay (ad (pv 1) (ad (pv 0) ag))))) ag))))) (am (az (pv 1))))),?_⟩;refine⟨sz (by simp),λnl H1 s1 f1 n1=>?_⟩;refine⟨_,rfl,l,_,rfl,s1 _ _ el,_,rfl,by omega,by omega,?_⟩;have en:((xs.length:Nat):Int) - 1=((xs.length - 1:Nat):Int):=by omega
  rw[en,Int.toNat_natCast];refine bR (n:=xs.length - 1) (lo:=0) (λi σ H'=>∃(z2:Option V) (cs:List (Addr×Nat×Nat)),σ = [some (.ref l),some (.ref nl),z2]/\Same H H'/\j8 H' nl cs/\cs.map (·.2)=lv xs.length i) ⟨_,[],rfl,s1,⟨f1,λc h=>nomatch h⟩,rfl⟩ ?_ ?_
  ·rintro i σ H2 hi ⟨z2,cs,rfl,S2,P2,ec⟩
   rw[Int.zero_add];refine⟨_,rfl,.inl ⟨rfl,_,SqL.of P2.1⟩,?_⟩;refine⟨_,rfl,_,_,rfl,rfl,_,rfl,l,_,rfl,.inl (SqL.of (S2 _ _ el)),?_⟩;have e62:(2:Int)^62=4611686018427387904:=by decide
   refine⟨_,_,rfl,⟨by rw[e62];omega,by rw[e62];omega,by rw[e62];omega,by rw[e62];omega⟩,?_⟩;dsimp only;rw[show(((xs.length:Nat):Int) - ((i:Int)+1)).toNat=xs.length - 1 - i by omega];refine o8 (by omega) (λj v H'=>∃a,v = .ref a/\H' a=some (.tup [.int (i:Int),.int ((i+1+j:Nat):Int)])) (λj v H H' st ⟨a,e,h⟩=>⟨a,e,st _ _ h⟩) ?_ ?_
   ·intro j H3 Kc hj s3 kk
    refine⟨_,rfl,_,rfl,sz (by simp),λa H4 s4 f4 n4=>kk _ H4 s4 ⟨a,rfl,?_⟩⟩;rw[f4,show((i+1+j:Nat):Int)=(i:Int)+1+(j:Int) by omega]
   ·intro r ys H3 nr s3 f3 hl hr
    obtain⟨ds,rfl,ed,hd⟩:=wd ys hl hr;have P3:=P2.mono s3;have lc:cs.length<=10*i:=by
     have:=eW h10 i (by omega);rw[<- ec,List.length_map]at this;exact this
    refine⟨nl,r,_,_,rfl,rfl,P3.1,f3,Nat.le_trans (show _<=900 by rw[List.length_map,hl];omega) (sz (n:=900) (by omega)),λH4 u4=>?_⟩;refine⟨_,cs++ds,rfl,u4.same (S2.trans s3) n1,⟨by rw[u4.now,List.map_append],λc hc=>?_⟩,?_⟩
    ·rcases List.mem_append.mp hc with hc|hc
     ·exact u4.t _ _ (P3.2 c hc)
     ·exact u4.t _ _ (hd c hc)
    ·rw[List.map_append,ec,ed,iN]
  ·rintro σ H2 ⟨z2,cs,rfl,S2,P2,ec⟩
   exact⟨_,rfl,k nl cs H2 S2 n1 P2 ec⟩
theorem qx{H H':Hp}{v:V}(h:Al H v)(s:Same H H'):sqV H' v=sqV H v:=by
 obtain⟨⟨t,k⟩,pt⟩:=h;cases k with
 | non=>rfl
 | bl b=>rfl
 | int i=>rfl
 | str x=>rfl
 | lst e=>simp only[sqV,e,s _ _ e]
 | dict e=>simp only[sqV,e,s _ _ e]
 | tup e=>simp only[sqV,e,s _ _ e]
noncomputable def WkV(H:Hp)(v:V):Prop:=∃(u r:Addr) (ps:List Pr),v = .ref u/\H u=some (.tup [.str "walk",.ref r])/\Ek H r ps/\2<=ps.length
theorem WkV.mono{H H':Hp}{v:V}(h:WkV H v)(s:Same H H'):WkV H' v:=by
 obtain⟨u,r,ps,e,f,P,l⟩:=h;exact⟨u,r,ps,e,s _ _ f,P.mono s,l⟩
theorem WkV.keep{H H':Hp}{v:V}(h:WkV H v)(k:∀c o,H c=some o->(∀z,o≠.dT z)->H' c=some o):WkV H' v:=by
 obtain⟨u,r,ps,e,f,P,l⟩:=h;exact⟨u,r,ps,e,k _ _ f (λz q=>by cases q),⟨k _ _ P.lst (λz q=>by cases q),λq hq=>(P.pr q hq).t λc xs e=>k _ _ e (λz q=>by cases q)⟩,l⟩
structure Aa(H:Hp)(d:Addr)(D:Nat->Nat->Prop)(c:Nat):Prop where
 ex:∃kvs:List (List Key×V),H d=some (.dT kvs)/\kvs.length<=c/\∀a b:Nat,D a b->∃v,cE kvs (ck (a:Int) (b:Int))=some v/\WkV H v
theorem Aa.mono{H H':Hp}{d:Addr}{D:Nat->Nat->Prop}{c:Nat}(h:Aa H d D c)(s:Same H H'):Aa H' d D c:=by
 obtain⟨kvs,e,l,a⟩:=h.ex;exact⟨kvs,s _ _ e,l,λx y h=>let ⟨v,e,g⟩:=a x y h;⟨v,e,g.mono s⟩⟩
theorem Aa.get{H:Hp}{d t:Addr}{D:Nat->Nat->Prop}{c:Nat}(h:Aa H d D c){a b:Nat}(hd:D a b)(ht:H t=some (.tup [.int (a:Int),.int (b:Int)])):∃v,er H d (.ref t) (some v)/\WkV H v:=by
 obtain⟨kvs,e,_,g⟩:=h.ex;obtain⟨v,e2,w⟩:=g a b hd;exact⟨v,by rw[<- e2];exact er.t (k:=ck (a:Int) (b:Int)) e ht,w⟩
theorem tR{kvs:List (List Key×V)}{k:List Key}{v:V}:(d8 kvs k v).length<=kvs.length+1:=by
 unfold d8
 split
 ·rw[List.length_map];omega
 ·rw[List.length_append,List.length_singleton];exact Nat.le_refl _
theorem Aa.put{H:Hp}{d t:Addr}{D D':Nat->Nat->Prop}{c:Nat}{a b:Nat}{v:V}(h:Aa H d D c)(ht:H t=some (.tup [.int (a:Int),.int (b:Int)]))(w:WkV H v)(hc:c<1000)(hD:∀x y,D' x y->(x=a/\y=b)\/D x y):∃H',jm H d (.ref t) v H'/\Aa H' d D' (c+1)/\a7 d H H':=by
 obtain⟨kvs,e,l,g⟩:=h.ex;have T:∀c o,H c=some o->(∀z,o≠.dT z)->upd H d (.dT (d8 kvs (ck (a:Int) (b:Int)) v)) c=some o:=λc o h n=>by
  rw[aF (λz=>by rw[z,e]at h;exact n _ (Option.some.inj h).symm)];exact h
 refine⟨_,jm.t (k:=ck (a:Int) (b:Int)) (v:=v) e ht (aR (by omega)),⟨_,upd_same,Nat.le_trans tR (by omega),λx y hd=>?_⟩,a7.upd⟩;rw[eA];rcases hD x y hd with⟨rfl,rfl⟩|hd
 ·rw[if_pos rfl]
  exact⟨v,rfl,w.keep T⟩
 ·by_cases z:ck (x:Int) (y:Int)=ck (a:Int) (b:Int)
  ·rw[if_pos z]
   exact⟨v,rfl,w.keep T⟩
  ·rw[if_neg z]
   obtain⟨v',e',w'⟩:=g x y hd;exact⟨v',e',w'.keep T⟩
noncomputable def sM(qs:Crn)(a b:Int):Prop:=∀u∈qs,∀v∈qs,sqI u.2 v.2*b<=a
theorem sj{qs:Crn}{i:Nat}(h:i<qs.length):∃u∈qs,cr qs i=u.2:=⟨qs[i],List.getElem_mem h,by unfold cr;rw[List.getD_eq_getElem?_getD,List.getElem?_eq_getElem h];rfl⟩
theorem o6{qs:Crn}{u:Addr×Int×Int}(h:u∈dbl qs):u∈qs:=by
 unfold dbl at h
 split at h
 ·exact(List.mem_append.mp h).elim id id
 ·exact h
theorem qQ{qs us vs:Crn}{a b:Int}(n:sM qs a b)(hu:∀u∈us,u∈qs)(hv:∀v∈vs,v∈qs):xu (dbl us) (dbl vs) a b:=λi j hi hj=>by
 cases h:eQ (dbl us) (dbl vs) a b 0 (i:Int) (j:Int) with
 | false=>rfl
 | true =>
  have f:=(wY hi hj).mp h;obtain⟨u,mu,eu⟩:=sj hi;obtain⟨v,mv,ev⟩:=sj hj;have:=n u (hu u (o6 mu)) v (hv v (o6 mv));rw[eu,ev]at f;omega
theorem uX{qs:Crn}{a b:Nat}(h1:a<=b)(h2:b<qs.length):fF (qs.map λ(q:Addr×Int×Int)=>V.ref q.1) (some (a:Int)) (some ((b:Int)+1))=((qs.drop a).take (b+1 - a)).map λ(q:Addr×Int×Int)=>V.ref q.1:=by
 unfold fF;rw[show(b:Int)+1=((b+1:Nat):Int) by omega,HT.sIx_nat,HT.sIx_nat,List.length_map,Nat.min_eq_left (by omega),Nat.min_eq_left (by omega),<- List.map_drop,<- List.map_take]
inductive Fj (vs:List V) (H:Hp) (Q:VK) (x_3:XK):Prop
 | mk:∀(l p:Addr) (qs:Crn) (a b:Int),(vs = [.ref l,.ref p])->(LineM H l qs)->((1<=qs.length/\qs.length<=10))->((Sq H p a b/\0<b/\0<=a))->(sqV H (.ref p)=true)->(Al H (.ref p))->(sM qs a b)->(∀(d:Addr) (H':Hp),Same H H'->H d=none->Aa H' d (λa b=>a<b/\b<qs.length) 100->Q (.ref d) H')->Fj vs H Q x_3
theorem A8:zf ["line","square","cuts","a","b"] ["line","square"] (ak (top 86)):=smk
theorem nK(Ej:Df K mg "cuts_of" (top 86))(zx:Fn P w K mg base "corners_apart" ["line"] 2 EK)(AX:Fn P w K mg base "short_cut" ["line","a","b"] 1 EA)(BD:Fn P w K mg base "part_of" ["line","a","b"] 1 (Dz K))(Db:Fx P w K mg base "go_on" ["one","other","square"] 10 [] (Dj wOn))(T:Txt mg):Fn P w K mg base "cuts_of" ["line","square"] 11 Fj:=by
 refine Ej.fn A8 (λ_ _ _ _ _ _ us hl=>by obtain⟨_,_,rfl⟩:=cJ hl;rfl) (λvs H Q E h=>?_) (λf cdv A outer s H vs Q E hr h=>?_)
 ·obtain⟨l,p,qs,a,b,rfl,_⟩:=h
  rfl
 ·obtain⟨l,p,qs,a,b,rfl,L,⟨h1,h10⟩,⟨sq,hb,ha⟩,sv,th,near,k⟩:=h
  refine⟨_,(ai (au (i:=2) A8.nd rfl (Or.inl rfl) fS) (ai (bI PassesOwn.never rfl (cW (aA zx (hr.mono (by decide)) (by rfl) (ad (pv 0) ag))) (eE rfl (aV (aK (i:=3) A8.nd rfl (Or.inl rfl)) (aV (aK (i:=4) A8.nd rfl (Or.inl rfl)) cX))) (am (dl (bV hr) (pv 2) (ay (ad (pv 3) (ad (pv 4) ag))) (iQ Db (hr.mono (by decide)) (by rfl) (ad (aA AX (hr.mono (by decide)) (by rfl) (ad (pv 0) (ad (pv 3) (ad (pv 4) ag)))) (ad (aA BD (hr.mono (by decide)) (by rfl) (ad (pv 0) (ad (pv 3) (ad (pv 4) ag)))) (ad (pv 1) ag)))) rfl))) (am (az (pv 2))))),?_⟩;have hlq:(qs.map λ(q:Addr×Int×Int)=>V.ref q.1).length=qs.length:=List.length_map _;refine λd hd=>?_;have s0:Same H (upd H d (.dT [])):=Same.new hd;have c0:Aa (upd H d (.dT [])) d (λ_ _=>False) 0:=⟨[],upd_same,Nat.le_refl _,λ_ _ h=>h.elim⟩;generalize upd H d (.dT [])=H0 at s0 c0;refine⟨_,rfl,l,_,rfl,s0 _ _ L.lst,⟨by rw[hlq];exact h1,by rw[hlq];exact h10⟩,λr cs H1 s1 nr P1 ec=>?_⟩;rw[hlq]at ec;have mem:∀{c:Addr×Nat×Nat},c∈cs->c.2.1<c.2.2/\c.2.2<qs.length:=λ{c} hc=>iU.mp (by rw[<- ec];exact List.mem_map.mpr ⟨c,hc,rfl⟩);have cl:cs.length<=100:=by
   have e:=congrArg List.length ec;have:=eW h10 (qs.length - 1) (by omega);rw[List.length_map]at e;rw[e];exact Nat.le_trans this (by omega)
  have S1:=s0.trans s1;refine⟨r,rfl,⟨_,SqL.of P1.1⟩,i9 (K:=K) (a:=r) (xs:=cs.map λc=>V.ref c.1) (λi σ H'=>∃(z3 z4:Option V),σ = [some (.ref l),some (.ref p),some (.ref d),z3,z4]/\Same H H'/\j8 H' r cs/\Aa H' d (λa b=>∃c∈cs.take i,c.2=(a,b)) i) ⟨_,_,rfl,S1,P1,⟨(c0.mono s1).ex.imp λkvs h=>⟨h.1,h.2.1,λa b h=>by obtain⟨c,hc,_⟩:=h;simp at hc⟩⟩⟩ (λi σ H' _ ⟨_,_,_,_,P,_⟩=>SqL.of P.1) ?_ ?_⟩
  ·rintro i v σ H2 hv ⟨z3,z4,rfl,S2,P2,C2⟩
   rw[List.getElem?_map]at hv;obtain⟨c,hc,rfl⟩:=Option.map_eq_some_iff.mp hv;have ic:=(List.getElem?_eq_some_iff.mp hc).1;have mc:=List.mem_of_getElem? hc;obtain⟨m1,m2⟩:=mem mc;obtain⟨ca,x,y⟩:=c;dsimp only at m1 m2;have L2':=L.mono S2;refine⟨ca,_,rfl,SqT.of (P2.2 _ mc),rfl,_,_,rfl,_,_,rfl,rfl,?_⟩;obtain⟨u,hu⟩:∃u,qs[x]? = some u:=⟨qs[x],List.getElem?_eq_getElem (by omega)⟩;obtain⟨w,hw⟩:∃w,qs[y]? = some w:=⟨qs[y],List.getElem?_eq_getElem m2⟩;have mu:=List.mem_of_getElem? hu;have mw:=List.mem_of_getElem? hw;refine⟨_,rfl,_,rfl,_,rfl,l,_,(x:Int),(y:Int),.ref u.1,.ref w.1,rfl,L2'.lst,cw (by rw[List.getElem?_map,hu];rfl),cw (by rw[List.getElem?_map,hw];rfl),λl3 H3 s3 f3 n3=>?_⟩;refine⟨_,rfl,_,rfl,_,rfl,l,_,(x:Int),(y:Int),rfl,s3 _ _ L2'.lst,λl4 H4 s4 f4 n4=>?_⟩;rw[uX (by omega) m2]at f4;have S4:=S2.trans (s3.trans s4);have L4:=L.mono S4;have A4:LineM H4 l3 [u,w]:=⟨s4 _ _ f3,λq hq=>by
    rcases List.mem_cons.mp hq with rfl|hq
    ·exact L4.crn _ mu
    ·rw[List.mem_singleton.mp hq];exact L4.crn _ mw⟩
   have sub:∀q∈(qs.drop x).take (y+1 - x),q∈qs:=λq hq=>List.mem_of_mem_drop (List.mem_of_mem_take hq);have B4:LineM H4 l4 ((qs.drop x).take (y+1 - x)):=⟨f4,λq hq=>L4.crn q (sub q hq)⟩;have bl:((qs.drop x).take (y+1 - x)).length=y+1 - x:=by rw[List.length_take,List.length_drop];omega
   refine⟨_,rfl,l3,l4,p,_,_,a,b,rfl,⟨A4,B4⟩,⟨⟨by simp,by simp⟩,by rw[bl];omega,by rw[bl];omega⟩,⟨sq.mono S4,hb,ha⟩,(qx th S4).trans sv,Al.mono th S4,qQ near (λq hq=>by
    rcases List.mem_cons.mp hq with rfl|hq
    ·exact mu
    ·rw[List.mem_singleton.mp hq];exact mw) sub,λt q H5 ps n5 n6 ne s5 P5 l5 f5=>?_⟩
   have S5:=s3.trans (s4.trans s5);refine⟨_,rfl,_,rfl,_,rfl,sz (by simp),λkt H6 s6 f6 _=>?_⟩;have S6:=S5.trans s6;obtain⟨H7,dp,C7,b7⟩:=(C2.mono S6).put (D':=λa b=>∃c∈cs.take (i+1),c.2=(a,b)) f6 ⟨t,q,ps,rfl,s6 _ _ f5,P5.mono s6,l5⟩ (by omega) (λa' b' h=>by
    obtain⟨c,hc',e⟩:=h;rw[List.take_add_one,hc]at hc';rcases List.mem_append.mp hc' with h|h
    ·exact .inr ⟨c,h,e⟩
    ·have h:c=(ca,x,y):=by simpa using h
     rw[h]at e;cases e;exact .inl ⟨rfl,rfl⟩)
   have P6:=P2.mono S6;have nrd:r≠d:=λz=>by
    obtain⟨kvs,e,_⟩:=(C2.mono S6).ex;rw[<- z,P6.1]at e;cases e
   have T7:SameT H6 H7:=b7.t λxs z=>by
    obtain⟨kvs,e,_⟩:=(C2.mono S6).ex;rw[e]at z;cases z
   exact⟨d,H7,rfl,dp,_,_,rfl,b7.same (S2.trans S6) hd,⟨b7 _ _ nrd P6.1,λc hc=>T7 _ _ (P6.2 c hc)⟩,C7⟩
  ·rintro σ H2 ⟨z3,z4,rfl,S2,P2,C2⟩
   refine⟨_,rfl,k d H2 S2 hd ?_⟩;obtain⟨kvs,e,hl,g⟩:=C2.ex;refine⟨kvs,e,by rw[List.length_map]at hl;omega,λa' b' h=>g a' b' ?_⟩;have m:=iU.mpr h;rw[<- ec]at m;obtain⟨c,hc,e⟩:=List.mem_map.mp m;exact⟨c,by rw[List.length_map,List.take_length];exact hc,e⟩
theorem uY{n:Nat}{lo:Int}{fv:List (Str×Nat)}{g:TG}{tc:TT}{te:TE}{σ:St}{H1:Hp}{Q:VK}{k:Nat}(hlen:n<1000)(R:Nat->V->Prop)
  (hs:∀(i:Nat) H2 (τ:St) (Kc:VK) (Kn:Hp->Prop),i<n->Same H1 H2->τ.length=k->(∀y H4,Same H2 H4->R i y->Kc y H4)->g (.int (lo+i)) (τ++fvs fv σ) H2 λσ2 H4=>(∃τ':St,τ'.length=k/\σ2=τ'++fvs fv σ)/\tc σ2 H4 λb H5=>if b=true then te σ2 H5 Kc else Kn H5)
  (hd:∀l ys H',H1 l=none->Same H1 H'->H' l=some (.lst ys)->ys.length=n->(∀i y,ys[i]? = some y->R i y)->Q (.ref l) H'):dX (Itr lo n) k fv g tc te σ H1 Q:=by
 intro l hl;refine⟨λi m acc H2=>m=n - i/\i<=n/\acc.length=i/\Same H1 H2/\H2 l=some (.lst acc)/\∀j y,acc[j]? = some y->R j y,⟨n,rfl,Nat.zero_le _,rfl,Same.new hl,upd_same,λj y h=>by simp at h⟩,?_⟩;rintro i m acc H2 ⟨rfl,hi,e1,sm,e3,hr⟩;refine⟨e3,aR (by omega),?_⟩
 by_cases hlt:i<n
 ·refine .inr ⟨hlt,λx H3 y τ hτ=>?_⟩
  obtain⟨rfl,rfl⟩:=y;refine hs i H3 τ _ _ hlt sm hτ λy H4 s4 ry=>⟨s4 _ _ e3,n - (i+1),by omega,rfl,hlt,by simp[e1],(sm.trans s4).upd hl,upd_same,λj z hz=>?_⟩;rcases Nat.lt_trichotomy j acc.length with h|h|h
  ·rw[List.getElem?_append_left h]at hz
   exact hr j z hz
  ·subst h
   rw[List.getElem?_append_right (Nat.le_refl _),Nat.sub_self]at hz;cases hz;rw[e1];exact ry
  ·rw[List.getElem?_eq_none (by simp;omega)]at hz
   cases hz
 ·have e:i=n:=by omega
  subst e;exact .inl ⟨Nat.le_refl _,hd l acc H2 hl sm e3 e1 hr⟩
noncomputable def ups(n:Nat):List V:=(List.range n).map λ(a:Nat)=>V.int (a:Int)
theorem im{n j:Nat}(h:j<n):(ups n)[j]? = some (.int (j:Int)):=by
 unfold ups;rw[List.getElem?_map,List.getElem?_range h];rfl
theorem dP{n:Nat}:(ups n).length=n:=by unfold ups;rw[List.length_map,List.length_range]
theorem vN{n:Nat}{ys:List V}(hl:ys.length=n)(h:∀(i:Nat) y,ys[i]? = some y->y = .int (i:Int)):ys=ups n:=by
 apply List.ext_getElem?;intro i
 by_cases c:i<n
 ·rw[im c,List.getElem?_eq_getElem (by omega)]
  exact congrArg some (h i _ (List.getElem?_eq_getElem (by omega)))
 ·rw[List.getElem?_eq_none (by omega),List.getElem?_eq_none (by rw[dP];omega)]
inductive EJ (vs:List V) (H:Hp) (Q:VK) (x_3:XK):Prop
 | mk:∀(d:Addr) (b n c:Nat),(vs = [.ref d,.int (b:Int)])->(Aa H d (λx y=>x<y/\y<n) c)->((b<n/\n<=10))->(∀(r:Addr) (H':Hp),Same H H'->H r=none->H' r=some (.lst (ups b))->Q (.ref r) H')->EJ vs H Q x_3
theorem Cq:zf ["cuts","b"] ["cuts","b"] (ak (top 87)):=smk
theorem jd(Cv:Df K mg "good_begins" (top 87))(T:Txt mg):Fn P w K mg base "good_begins" ["cuts","b"] 1 EJ:=by
 refine Cv.fn Cq (λ_ _ _ _ _ _ us hl=>by obtain⟨_,_,rfl⟩:=cJ hl;rfl) (λvs H Q E h=>?_) (λf cdv A outer s H vs Q E hr h=>?_)
 ·obtain⟨d,b,n,c,rfl,_⟩:=h
  rfl
 ·obtain⟨d,b,n,c,rfl,C,⟨hb,hn⟩,k⟩:=h
  have CN:Br (aX CX0 P w K mg base ["cuts","b"] "good_begins" (ak (top 87)) f cdv A outer s H E).nox (lcA (top 87) 0) [("cuts",s.heap.objs.size+1),("b",s.heap.objs.size+2)] ["a"] [("cuts",0),("b",1)] :=
   ⟨by rfl,rfl,by decide +kernel,by decide +kernel,(λx hx=>by simp only[List.mem_cons,List.not_mem_nil,or_false]at hx;rcases hx with rfl <;> exact rfl),(λp hp=>by simp only[List.mem_cons,List.not_mem_nil,or_false]at hp;rcases hp with rfl|rfl <;> exact rfl),by rfl,by decide +kernel,(λp hp=>by simp only[List.mem_cons,List.not_mem_nil,or_false]at hp;rcases hp with rfl|rfl <;> exact⟨rfl,rfl,.inr (.inl rfl),rfl,rfl⟩),⟨rfl,rfl⟩,rfl⟩
  refine⟨_,(am (az (qI rfl CN (bW rfl T.z_range (ad (pv 1) ag)) (λfp s₀ H₀=>(aK (i:=0) CN.nd rfl (Or.inl rfl) (Or.inr rfl))) (λfp s₀ H₀=>(kg (aB cI (aw (fb (K:=K) rfl) (cP (bV hr) (pv 1) (ay (ad (pv 0) (ad (pv 2) ag))) (λ_ _=>rfl)) af (λ_ _=>rfl)) cT (aC _)))) (λfp s₀ H₀=>(pv 0))))),?_⟩;have e62:(2:Int)^62=4611686018427387904:=by decide
  refine⟨_,rfl,(b:Int),rfl,by rw[e62];omega,by rw[e62];omega,?_⟩;dsimp only;rw[Int.toNat_natCast];refine uY (k:=1) (by omega) (λi y=>y = .int (i:Int)) ?_ ?_
  ·intro a H3 τ Kc Kn ha s3 hτ kk
   obtain⟨τ0,rfl⟩:∃τ0,τ = [τ0]:=d9 hτ;rw[Int.zero_add];refine⟨⟨[some (.int (a:Int))],rfl,rfl⟩,?_⟩;refine⟨_,rfl,_,rfl,_,rfl,sz (by simp),λt H4 s4 f4 n4=>?_⟩;obtain⟨v,dg,u,q,ps,rfl,fu,P,l2⟩:=(C.mono (s3.trans s4)).get ⟨ha,hb⟩ f4;refine⟨d,_,rfl,dg,u,_,_,_,rfl,rfl,SqT.of fu,rfl,rfl,_,rfl,?_⟩;rw[if_pos (by decide)];exact⟨_,rfl,kk _ H4 s4 rfl⟩
  ·intro r ys H3 nr s3 f3 hl hr
   rw[vN hl hr]at f3;exact k r H3 s3 nr f3
noncomputable def mk1(i:Nat):Int:=if i=0 then 0 else 1
noncomputable def mks(n:Nat):List V:=(List.range n).map λi=>V.int (mk1 i)
theorem iy{n j:Nat}(h:j<n):(mks n)[j]? = some (.int (mk1 j)):=by
 unfold mks;rw[List.getElem?_map,List.getElem?_range h];rfl
theorem uj{n:Nat}:(mks n).length=n:=by unfold mks;rw[List.length_map,List.length_range]
theorem qX(i:Nat):0<=mk1 i:=by unfold mk1;split <;> omega
theorem wE{n:Nat}{ys:List V}(hl:ys.length=n)(h:∀(i:Nat) y,ys[i]? = some y->y = .int (mk1 i)):ys=((List.range n).map mk1).map V.int:=by
 apply List.ext_getElem?;intro i;rw[List.map_map]
 by_cases c:i<n
 ·rw[List.getElem?_map,List.getElem?_range c,List.getElem?_eq_getElem (by omega)]
  exact congrArg some (h i _ (List.getElem?_eq_getElem (by omega)))
 ·rw[List.getElem?_eq_none (by omega),List.getElem?_eq_none (by rw[List.length_map,List.length_range];omega)]
theorem qV{n:Nat}:mks (n+1)=mks n++[.int (mk1 n)]:=by
 unfold mks;rw[List.range_succ,List.map_append];rfl
inductive Fa (vs:List V) (H:Hp) (Q:VK) (x_3:XK):Prop
 | mk:∀(l d:Addr) (xs:List V) (c:Nat),(vs = [.ref l,.ref d])->(H l=some (.lst xs))->((1<=xs.length/\xs.length<=10))->(Aa H d (λx y=>x<y/\y<xs.length) c)->(∀(r:Addr) (H':Hp),Same H H'->H r=none->H' r=some (.lst (mks xs.length))->Q (.ref r) H')->Fa vs H Q x_3
theorem Be:zf ["line","cuts","marks","b"] ["line","cuts"] (ak (top 88)):=smk
theorem l8(DN:Df K mg "marks_of" (top 88))(zJ:Fn P w K mg base "good_begins" ["cuts","b"] 1 EJ)(T:Txt mg):Fn P w K mg base "marks_of" ["line","cuts"] 2 Fa:=by
 refine DN.fn Be (λ_ _ _ _ _ _ us hl=>by obtain⟨_,_,rfl⟩:=cJ hl;rfl) (λvs H Q E h=>?_) (λf cdv A outer s H vs Q E hr h=>?_)
 ·obtain⟨l,d,xs,c,rfl,_⟩:=h
  rfl
 ·obtain⟨l,d,xs,c,rfl,el,⟨h1,h10⟩,C,k⟩:=h
  have CN:A6 (aX CX0 P w K mg base ["line","cuts","marks","b"] "marks_of" (ak (top 88)) f cdv A outer s H E).nox (lcA (top 88) 0) [("marks",s.heap.objs.size+1)] "a" [("marks",2)] :=
   ⟨by rfl,rfl,by decide +kernel,by decide +kernel,rfl,(λp hp=>by simp only[List.mem_cons,List.not_mem_nil,or_false]at hp;rcases hp with rfl <;> exact rfl),by rfl,by decide +kernel,(λp hp=>by simp only[List.mem_cons,List.not_mem_nil,or_false]at hp;rcases hp with rfl <;> exact⟨rfl,rfl,.inr (.inl rfl),rfl,rfl⟩),⟨rfl,rfl⟩,rfl⟩
  refine⟨_,(ai (au (i:=2) Be.nd rfl (Or.inr rfl) (aU (ad af ag))) (ai (bI PassesOwn.never rfl (eX rfl T.z_range (ad af (ad (aI aL (by rfl) T.z_len cz (ad (pv 0) ag)) ag))) (aK (i:=3) Be.nd rfl (Or.inl rfl)) (am (bJ (fA PySem.F.plainAttrs_list PySem.F.slot_list_append PySem.F.type_list_append bK (pv 2) (ad (ao aO af (aI (qc rfl) (by rfl) T.z_min nU (ad (dF rfl CN (cW (aA zJ (hr.mono (by decide)) (by rfl) (ad (pv 1) (ad (pv 3) ag)))) (λfp s₀ H₀=>(aw (fV (K:=K) rfl) (pv 1) (pv 0) (λ_ _=>rfl)))) ag))) ag))))) (am (az (pv 2))))),?_⟩;have e62:(2:Int)^62=4611686018427387904:=by decide
  refine⟨sz (by simp),λm H1 s1 f1 n1=>?_⟩;refine⟨_,rfl,l,_,rfl,.inl (SqL.of (s1 _ _ el)),?_⟩;refine⟨_,_,rfl,⟨by rw[e62];omega,by rw[e62];omega,by rw[e62];omega,by rw[e62];omega⟩,?_⟩;rw[show(((xs.length:Nat):Int) - 1).toNat=xs.length - 1 by omega];refine bR (n:=xs.length - 1) (lo:=1) (λi σ H'=>∃z3,σ = [some (.ref l),some (.ref d),some (.ref m),z3]/\Same H H'/\H' m=some (.lst (mks (i+1)))) ⟨none,rfl,s1,f1⟩ ?_ ?_
  ·rintro i σ H2 hi ⟨z3,rfl,S2,f2⟩
   rw[show(1:Int)+(i:Int)=((i+1:Nat):Int) by omega];refine⟨_,rfl,.inl ⟨rfl,_,SqL.of f2⟩,?_⟩;refine⟨_,rfl,_,rfl,d,i+1,xs.length,c,rfl,C.mono S2,⟨by omega,h10⟩,λr H3 s3 nr f3=>⟨r,rfl,⟨_,SqL.of f3⟩,kR (K:=K) (SqL.of f3) (by rw[dP];omega) (λj v _=>v = .int (mk1 j)) (λ_ _ _ _ _ h=>h) ?_ ?_⟩⟩
   ·intro j x H4 Kc hx s4 kk
    have hj:j<i+1:=by
     have:=(List.getElem?_eq_some_iff.mp hx).1
     rwa [dP]at this
    rw[im hj]at hx;cases hx;exact⟨_,rfl,_,rfl,m,_,_,_,rfl,rfl,SqL.of (s4 _ _ (s3 _ _ f2)),cw (iy hj),kk _ H4 (Same.refl _) rfl⟩
   ·intro q ys H4 nq s4 f4 hl hr
    rw[dP]at hl;rw[wE hl hr]at f4;refine⟨q,(List.range (i+1)).map mk1,rfl,SqL.of f4,by rw[List.length_map,List.length_range];omega,λv hv hle=>?_⟩;obtain⟨j,hj,rfl⟩:=List.mem_map.mp hv;have v0:=hle 0 (List.mem_map.mpr ⟨0,List.mem_range.mpr (by omega),rfl⟩);have v1:=qX j;have ev:mk1 j=0:=by omega
    rw[ev];refine⟨_,_,rfl,rfl,m,_,_,rfl,rfl,s4 _ _ (s3 _ _ f2),aR (by rw[uj];omega),λH5 u5=>?_⟩;refine⟨_,rfl,u5.same (S2.trans (s3.trans s4)) n1,?_⟩;rw[u5.now,qV (n:=i+1),show mk1 (i+1)=1+0 by unfold mk1;simp]
  ·rintro σ H2 ⟨z3,rfl,S2,f2⟩
   rw[show xs.length - 1+1=xs.length by omega]at f2;exact⟨_,rfl,k m H2 S2 n1 f2⟩
noncomputable def wS(s:Stmt):Expr:=match s with
 | .Assign _ (.Call _ _ [⟨_,d,_⟩] _) _=>d
 | _=>.Name "" ⟨0,0,0,0⟩
noncomputable def qK:Str:="kept_of"++".<locals>."++"<lambda>"
noncomputable def yE(s:Stmt):List Stmt:=match s with
 | .While _ b _ _=>b
 | _=>[]
noncomputable def laK:Expr:=wS ((yE ((aH (top 89)).getD 2 (.Pass ⟨0,0,0,0⟩))).getD 1 (.Pass ⟨0,0,0,0⟩))
noncomputable def lsK:List (Pos×Str):=[(iX laK,qK)]
noncomputable def kpt(n:Nat):List V:=if n=1 then [.int 0] else [.int 0,.int ((n:Int) - 1)]
theorem WkV.n{H H':Hp}{v:V}(h:WkV H v)(s:br H H'):WkV H' v:=by
 obtain⟨u,r,ps,e,f,P,l⟩:=h;exact⟨u,r,ps,e,s.t f,⟨s.l P.lst,λq hq=>(P.pr q hq).t λc xs e=>s.t e⟩,l⟩
theorem Aa.n{H H':Hp}{d:Addr}{D:Nat->Nat->Prop}{c:Nat}(h:Aa H d D c)(s:br H H'):Aa H' d D c:=by
 obtain⟨kvs,e,l,g⟩:=h.ex;exact⟨kvs,s _ _ e (λps q=>by cases q),l,λx y hd=>let ⟨v,e,w⟩:=g x y hd;⟨v,e,w.n s⟩⟩
theorem oi{H H':Hp}{p l:Addr}{ls:List (Pos×Str)}{xs ys:List V}(t:Tab H p ls)(u:DB H H' l xs ys):Tab H' p ls:=by
 obtain⟨ps,e,k,a⟩:=t;have nl:∀{b:Addr} {o:HO},H b=some o->(∀zs,o≠.lst zs)->H' b=some o:=λ{b o} e n=>u.at (λz=>by
  rw[z,u.1]at e;exact n _ (Option.some.inj e).symm) e
 refine⟨ps,nl e (λzs q=>by cases q),k,λl hl=>(a l hl).imp_right ?_⟩;rintro⟨c,e2,o,vs,t,e3,r⟩;exact⟨c,e2,o,vs,t,nl e3 (λzs q=>by cases q),r⟩
theorem jJ{H0 H H':Hp}{p l:Addr}{xs ys:List V}(s:cD p H0 H)(u:DB H H' l xs ys)(n:H0 l=none):cD p H0 H':=λb o nb e=>u.at (λz=>by rw[z,n]at e;cases e) (s b o nb e)
inductive Fc (t:Addr) (vs:List V) (H:Hp) (Q:VK) (x_3:XK):Prop
 | mk:∀(l d m:Addr) (xs:List V) (c:Nat),(vs = [.ref l,.ref d,.ref m])->(Tab H t lsK)->(H l=some (.lst xs))->((1<=xs.length/\xs.length<=10))->(Aa H d (λx y=>x<y/\y<xs.length) c)->(H m=some (.lst (mks xs.length)))->(∀(r:Addr) (H':Hp),cD t H H'->Tab H' t lsK->H r=none->H' r=some (.lst (kpt xs.length))->Q (.ref r) H')->Fc t vs H Q x_3
theorem AK:zf ["line","cuts","marks","b","kept","begins"] ["line","cuts","marks"] (ak (top 89)):=smk
theorem nJ{t_kept_of:Addr}(BP:FD K mg "kept_of" (top 89) t_kept_of)(BF:vn K mg)(zJ:Fn P w K mg base "good_begins" ["cuts","b"] 1 EJ)(zr:Fn P w K mg base "last_of" ["line"] 1 Bs)(T:Txt mg):Fn P w K mg base "kept_of" ["line","cuts","marks"] 5 (Fc t_kept_of):=by
 refine BP.fn AK (λ_ _ _ _ _ _ us hl=>by obtain⟨_,_,_,rfl⟩:=kH hl;rfl) (λvs H Q E h=>?_) (λf cdv A outer s H vs Q E CF hr h=>?_)
 ·obtain⟨l,d,m,xs,cn,rfl,_⟩:=h
  rfl
 ·obtain⟨l,d,m,xs,cn,rfl,tb,el,⟨h1,h10⟩,C,em,k⟩:=h
  obtain⟨c,ec,CF⟩:=CF;have CL_a:closureFor (iW laK) (aX CX0 P w K mg base ["line","cuts","marks","b","kept","begins"] "kept_of" (ak (top 89)) f cdv A outer s H E).nox.env=pure ([("marks",s.heap.objs.size+1)]:List (Str×Addr)):=by rfl
  have CM_a:(iX laK,qK)∈lsK:=List.mem_cons_self;have CD_a:∀l∈lsK,l≠(iX laK,qK)->¬(l.1.line=(iX laK).line/\l.1.col=(iX laK).col):=by
   intro l hl ne;exact absurd (List.mem_singleton.mp hl) ne
  have CS:∀p∈[((s.heap.objs.size+1:Addr),2)],∃y,(aX CX0 P w K mg base ["line","cuts","marks","b","kept","begins"] "kept_of" (ak (top 89)) f cdv A outer s H E).nox.env.cells.lookup y=some p.1/\(aX CX0 P w K mg base ["line","cuts","marks","b","kept","begins"] "kept_of" (ak (top 89)) f cdv A outer s H E).nox.N[p.2]? = some y/\(aX CX0 P w K mg base ["line","cuts","marks","b","kept","begins"] "kept_of" (ak (top 89)) f cdv A outer s H E).nox.env.kindOf y=some .cell/\Vis (aX CX0 P w K mg base ["line","cuts","marks","b","kept","begins"] "kept_of" (ak (top 89)) f cdv A outer s H E).nox.env.scope y:=by
   intro p hp;rw[List.mem_singleton.mp hp];exact⟨"marks",rfl,rfl,rfl,.inr (.inl rfl)⟩
  refine⟨_,(ai (au (i:=3) AK.nd rfl (Or.inl rfl) (aA zr (hr.mono (by decide)) (by rfl) (ad (pv 0) ag))) (ai (au (i:=4) AK.nd rfl (Or.inl rfl) (aU (ad (pv 3) ag))) (ai (dE PassesOwn.never (aB iS (pv 3) af (aC _)) (ai (au (i:=5) AK.nd rfl (Or.inl rfl) (aA zJ (hr.mono (by decide)) (by rfl) (ad (pv 1) (ad (pv 3) ag)))) (ai (au (i:=3) AK.nd rfl (Or.inl rfl) (tW (k:=2) rfl (hr.mono (by decide)) (λ_=>rfl) CS (by rfl) T.z_min (pv 5) (wt CL_a ec CF BF rfl rfl CM_a CD_a))) (am (bJ (fA PySem.F.plainAttrs_list PySem.F.slot_list_append PySem.F.type_list_append bK (pv 4) (ad (pv 3) ag))))))) (ai (bJ (mV PySem.F.plainAttrs_list PySem.F.slot_list_reverse PySem.F.type_list_reverse gW (pv 4))) (am (az (pv 4))))))),?_⟩;refine⟨_,rfl,l,_,rfl,el,_,rfl,sz (by simp),λkp H1 s1 f1 n1=>?_⟩;have en:((xs.length:Nat):Int) - 1=((xs.length - 1:Nat):Int):=by omega
  rw[en]at f1;refine dB (λσ H'=>∃(b:Nat) (bs:List V) (z5:Option V),σ = [some (.ref l),some (.ref d),some (.ref m),some (.int (b:Int)),some (.ref kp),z5]/\cD t_kept_of H H'/\Tab H' t_kept_of lsK/\H' kp=some (.lst bs)/\((b+1=xs.length/\bs = [.int (b:Int)])\/(b=0/\2<=xs.length/\bs = [.int ((xs.length - 1:Nat):Int),.int 0])))
   (λσ _=>match σ with | [_,_,_,some (.int b),_,_]=>b.toNat|_=>0) ⟨xs.length - 1,_,none,by rw[en];rfl,s1.p,tb.same s1,f1,.inl ⟨by omega,rfl⟩⟩ ?_ ?_
  ·rintro σ H2 ⟨b,bs,z5,rfl,P2,tb2,f2,hb⟩
   have N2:=cD.n P2 tb;refine⟨_,rfl,_,_,rfl,rfl,_,rfl,aZ (λc=>?_) (λc=>?_)⟩
   ·have c:(0:Int)<(b:Int):=bC c
    obtain⟨eb,rfl⟩:b+1=xs.length/\bs = [.int (b:Int)]:=hb.resolve_right λz=>by omega
    refine⟨_,rfl,_,rfl,d,b,xs.length,cn,rfl,C.n N2,⟨by omega,h10⟩,λr H3 s3 nr f3=>?_⟩;refine⟨_,rfl,tb2.same s3,λq H4 P4 tb4 la4 nq=>?_⟩;obtain⟨pm,cc,ct,ea,ck⟩:=la4;have LN:Fr "a" (iW laK) [("marks",s.heap.objs.size+1)]:=by
     refine⟨rfl,rfl,rfl,by decide +kernel,rfl,by rfl,?_,λp hp=>?_,λp hp q hq e=>?_⟩
     ·show(["a","marks"]:List Str).Nodup
      decide +kernel
     ·rw[List.mem_singleton.mp hp]
      rfl
     ·rw[List.mem_singleton.mp hp,List.mem_singleton.mp hq]
    have N24:br H2 H4:=(br.of s3).trans (cD.n P4 (tb2.same s3));have f4:H4 r=some (.lst (ups b)):=cD.keep P4 (tb2.same s3) f3 (λps q=>by cases q);have m4:H4 m=some (.lst (mks xs.length)):=(N2.trans N24).l em;have hI:∀{i:Nat} {v:V},(ups b)[i]? = some v->i<b:=λh=>by
     have:=(List.getElem?_eq_some_iff.mp h).1
     rwa [dP]at this
    refine .mk r q (ups b) mk1 _ ["a"] _ rfl rfl (SqL.of f4) (by rw[dP];omega) (wL (P:=P) (w:=w) (K:=K) (mg:=mg) (base:=base) (x:="a") (q:=qK) (params:=uC laK) (body:=uB laK) (scope:=iW laK) (pm:=pm) (ctv:=ct) (f:=q) (c:=cc) (k:=1) LN (λA2 o2 s2 H2 hr2=>aw (fV (K:=K) rfl) (pv 1) (pv 0) (λ_ _=>rfl))) (.all λus hl=>by obtain⟨_,rfl⟩:=d9 hl;rfl) ?_ ?_
    ·intro i v H5 H6 s5 s6 hx hc
     have c1:=hc (s.heap.objs.size+1,2) List.mem_cons_self (.ref m) rfl;have cs:Paired (λ(p:Str×Addr) z=>dA H6 p.2 z) [("marks",s.heap.objs.size+1)] [.ref m]:=.cons c1 .nil;have hC:=sB cs;have hi:=hI hx;rw[im hi]at hx;cases hx;have CK:jn H6 cc qK:=by
      obtain⟨o,vs,t,e,r⟩:=ck;exact⟨o,vs,t,s6 _ _ (s5 _ _ e),r⟩
     refine⟨.int (i:Int),[.ref m],rfl,s6 _ _ (s5 _ _ ea),CK,cs,?_⟩;exact⟨_,rfl,_,rfl,m,_,_,_,rfl,rfl,SqL.of (sf hC (s6 _ _ (s5 _ _ m4)) (λz q=>by cases q)),cw (iy (by omega)),λhC1 H7 h1 h2=>⟨rfl,λb o e=>h2 b o e (pG (Same.refl _) b o (s6 b o e))⟩⟩
    ·intro i v H5 s5 hx hm
     have hi:=hI hx;rw[im hi]at hx;cases hx;have i0:i=0:=by
      by_cases z:i=0
      ·exact z
      ·have:=(hm 0 (by rw[dP];omega)).2 (by omega)
       unfold mk1 at this;rw[if_neg z,if_pos rfl]at this;omega
     subst i0;have f5:=s5 _ _ (N24.l f2);refine⟨_,rfl,.inl ⟨rfl,_,SqL.of f5⟩,_,rfl,kp,_,_,rfl,rfl,f5,sz (by simp),λH6 u6=>⟨⟨0,_,_,rfl,jJ (((cD.trans P2 s3.p).trans P4).trans s5.p) u6 n1,oi (tb4.same s5) u6,u6.now,.inr ⟨rfl,by omega,by rw[show xs.length - 1=b by omega];rfl⟩⟩,?_⟩⟩;show(0:Int).toNat<(b:Int).toNat;omega
   ·have c:¬(0:Int)<(b:Int):=bP c
    have e0:b=0:=by omega
    subst e0;refine⟨_,rfl,.inl ⟨rfl,_,SqL.of f2⟩,kp,_,rfl,rfl,f2,λH3 u3=>⟨_,rfl,k kp H3 (jJ P2 u3 n1) (oi tb2 u3) n1 ?_⟩⟩;rw[u3.now];unfold kpt;rcases hb with⟨z,rfl⟩|⟨_,z,rfl⟩
    ·rw[if_pos (by omega)]
     rfl
    ·rw[if_neg (by omega),en]
     rfl
  ·rintro σ H' Q1 Q2 hq ⟨v,e,i,j,e3,e4,k',ek,r⟩
   exact⟨v,e,i,j,e3,e4,k',ek,hq _ _ r⟩
theorem p5{K:W.Frag}{a:Addr}{xs:List V}{fv:List (Str×Nat)}{g:TG}{tc:TT}{te:TE}{σ:St}{H1:Hp}{Q:VK}{k:Nat}(hD:H1 a=some (.lst xs))(hlen:xs.length<1000)(sel:Nat->Bool)(R:Nat->V->Prop)
  (hs:∀(i:Nat) x H2 (τ:St) (Kc:VK) (Kn:Hp->Prop),xs[i]? = some x->Same H1 H2->τ.length=k->(sel i=true->∀y H4,Same H2 H4->R i y->Kc y H4)->(sel i=false->∀H4,Same H2 H4->Kn H4) ->
   g x (τ++fvs fv σ) H2 λσ2 H4=>(∃τ':St,τ'.length=k/\σ2=τ'++fvs fv σ)/\tc σ2 H4 λb H5=>if b=true then te σ2 H5 Kc else Kn H5)
  (hd:∀l ys H',H1 l=none->Same H1 H'->H' l=some (.lst ys)->Paired R ((List.range xs.length).filter sel) ys->Q (.ref l) H'):dX (Itl K a) k fv g tc te σ H1 Q:=by
 intro l hl;have la:l≠a:=λz=>by rw[z,hD]at hl;cases hl
 refine⟨λi m acc H2=>m=xs.length - i/\i<=xs.length/\acc.length<=i/\Same H1 H2/\H2 l=some (.lst acc)/\Paired R ((List.range i).filter sel) acc,⟨_,rfl,Nat.zero_le _,Nat.le_refl _,Same.new hl,upd_same,.nil⟩,?_⟩;rintro i m acc H2 ⟨rfl,hi,e1,sm,e3,hr⟩;refine⟨e3,aR (by omega),?_⟩
 by_cases hlt:i<xs.length
 ·refine .inr ⟨⟨xs,xs[i],SqL.of (sm _ _ hD),List.getElem?_eq_getElem hlt⟩,λx H3 y τ hτ=>?_⟩
  obtain⟨rfl,e⟩:=y;have hx:=e xs (SqL.of (sm _ _ hD));refine hs i x H3 τ _ _ hx sm hτ (λhsel y H4 s4 ry=>⟨s4 _ _ e3,xs.length - (i+1),by omega,rfl,hlt,by simp;exact e1,(sm.trans s4).upd hl,upd_same,?_⟩) λhsel H4 s4=>⟨xs.length - (i+1),by omega,rfl,hlt,by omega,sm.trans s4,s4 _ _ e3,?_⟩
  ·rw[List.range_succ,List.filter_append,List.filter_cons,hsel]
   exact Paired.snoc hr ry
  ·rw[List.range_succ,List.filter_append,List.filter_cons,hsel]
   simp only[Bool.false_eq_true,if_false,List.filter_nil,List.append_nil];exact hr
 ·have e:i=xs.length:=by omega
  subst e;exact .inl ⟨⟨xs,SqL.of (sm _ _ hD),Nat.le_refl _⟩,hd l acc H2 hl sm e3 hr⟩
noncomputable def zc(H:Hp)(w:Addr)(k:Nat):Prop:=∃ws:List V,H w=some (.lst ws)/\ws.length=k/\∀x∈ws,∃(r:Addr) (ps:List Pr),x = .ref r/\Ek H r ps/\2<=ps.length
noncomputable def WR(H:Hp)(x:V):Prop:=∃(r:Addr) (ps:List Pr),x = .ref r/\Ek H r ps/\2<=ps.length
theorem Aa.get2{H H':Hp}{d t:Addr}{D:Nat->Nat->Prop}{c:Nat}(h:Aa H d D c)(s:Same H H'){a b:Nat}(hd:D a b)(ht:H' t=some (.tup [.int (a:Int),.int (b:Int)])):∃v,er H' d (.ref t) (some v)/\WkV H v:=by
 obtain⟨kvs,e,_,g⟩:=h.ex;obtain⟨v,e2,w⟩:=g a b hd;exact⟨v,by rw[<- e2];exact er.t (k:=ck (a:Int) (b:Int)) (s _ _ e) ht,w⟩
theorem uE(n:Nat):fF (kpt n) (some 1) none=(kpt n).drop 1:=by
 unfold kpt
 split <;> rfl
theorem oM(n:Nat):(kpt n).length<=2:=by
 unfold kpt
 split <;> simp
theorem wM{n i:Nat}{x y:V}(hn:1<=n)(hx:(kpt n)[i]? = some x)(hy:((kpt n).drop 1)[i]? = some y):x = .int ((0:Nat):Int)/\y = .int ((n - 1:Nat):Int)/\0<n - 1/\n - 1<n:=by
 unfold kpt at hx hy
 by_cases z:n=1
 ·rw[if_pos z]at hy
  cases hy
 ·rw[if_neg z]at hx hy
  cases i with
  | zero =>
   cases hx;cases hy;exact⟨rfl,congrArg V.int (by omega),by omega,by omega⟩
  | succ i=>cases hy
inductive EH (C t:Addr) (vs:List V) (H:Hp) (Q:VK) (E:XK):Prop
 | mk:∀(l:Addr) (qs:Crn) (v:V),(vs = [.ref l,v])->(LineM H l qs)->((1<=qs.length/\qs.length<=10))->(Al H v)->(((sqV H v=false/\E (.ref C) none H)\/(sqV H v=true/\∃(p:Addr) (a b:Int),v = .ref p/\(Sq H p a b/\0<b/\0<=a)/\sM qs a b/\Tab H t lsK/\∀(u k w m f:Addr) (H':Hp),br H H'->Tab H' t lsK ->
  H' u=some (.tup [.ref k,.ref w,.ref m,.ref f])->H' k=some (.lst (kpt qs.length))->zc H' w ((kpt qs.length).length - 1)->H' m=some (.lst (mks qs.length))->H' f=some (.lst [])->Q (.ref u) H')))->EH C t vs H Q E
theorem Ao:zf ["line","square","cuts","marks","kept","walks","fences"] ["line","square"] (ak (top 90)):=smk
theorem nj{t_kept_of:Addr}(Ec:Df K mg "thinned" (top 90))(zu:Fx P w K mg base "look_at_square" ["square"] 3 [] (B2 C_NoSquare))(BJ:Fn P w K mg base "cuts_of" ["line","square"] 11 Fj)(Bi:Fn P w K mg base "marks_of" ["line","cuts"] 2 Fa)(BI:Fn P w K mg base "kept_of" ["line","cuts","marks"] 5 (Fc t_kept_of))(zx:Fn P w K mg base "corners_apart" ["line"] 2 EK)(T:Txt mg):Fx P w K mg base "thinned" ["line","square"] 13 [] (EH C_NoSquare t_kept_of):=by
 refine Ec.fx Ao (λ_ _ _ _ _ _ us hl=>by obtain⟨_,_,rfl⟩:=cJ hl;rfl) (λvs H Q E h=>?_) (λf cdv A outer s H vs Q E hr h=>?_)
 ·obtain⟨l,qs,v,rfl,_⟩:=h
  rfl
 ·obtain⟨l,qs,v,rfl,L,⟨h1,h10⟩,th,q⟩:=h
  have C1:Br (aX (CXE P w) P w K mg base ["line","square","cuts","marks","kept","walks","fences"] "thinned" (ak (top 90)) f cdv A outer s H E) (lcA (top 90) 0) [("cuts",s.heap.objs.size+1)] ["a","b"] [("cuts",2)] :=
   ⟨by rfl,rfl,by decide +kernel,by decide +kernel,(λx hx=>by simp only[List.mem_cons,List.not_mem_nil,or_false]at hx;rcases hx with rfl|rfl <;> exact rfl),(λp hp=>by simp only[List.mem_cons,List.not_mem_nil,or_false]at hp;rcases hp with rfl <;> exact rfl),by rfl,by decide +kernel,(λp hp=>by simp only[List.mem_cons,List.not_mem_nil,or_false]at hp;rcases hp with rfl <;> exact⟨rfl,rfl,.inr (.inl rfl),rfl,rfl⟩),⟨rfl,rfl⟩,rfl⟩
  have C2:Br (aX (CXE P w) P w K mg base ["line","square","cuts","marks","kept","walks","fences"] "thinned" (ak (top 90)) f cdv A outer s H E) (lcA (top 90) 1) [("marks",s.heap.objs.size+2),("cuts",s.heap.objs.size+1)] ["a","b"] [("cuts",2),("marks",3)] :=
   ⟨by rfl,rfl,by decide +kernel,by decide +kernel,(λx hx=>by simp only[List.mem_cons,List.not_mem_nil,or_false]at hx;rcases hx with rfl|rfl <;> exact rfl),(λp hp=>by simp only[List.mem_cons,List.not_mem_nil,or_false]at hp;rcases hp with rfl|rfl <;> exact rfl),by rfl,by decide +kernel,(λp hp=>by simp only[List.mem_cons,List.not_mem_nil,or_false]at hp;rcases hp with rfl|rfl <;> exact⟨rfl,rfl,.inr (.inl rfl),rfl,rfl⟩),⟨rfl,rfl⟩,rfl⟩
  refine⟨_,(ai (bJ (lA zu (hr.mono (by decide)) (by rfl) (ad (pv 1) ag))) (ai (au (i:=2) Ao.nd rfl (Or.inr rfl) (aA BJ (hr.mono (by decide)) (by rfl) (ad (pv 0) (ad (pv 1) ag)))) (ai (au (i:=3) Ao.nd rfl (Or.inr rfl) (aA Bi (hr.mono (by decide)) (by rfl) (ad (pv 0) (ad (pv 2) ag)))) (ai (au (i:=4) Ao.nd rfl (Or.inl rfl) (aA BI (hr.mono (by decide)) (by rfl) (ad (pv 0) (ad (pv 2) (ad (pv 3) ag))))) (ai (eD (j:=5) rfl C1 Ao.nd rfl rfl (we rfl T.z_zip (ad (pv 4) (ad (fR fL (pv 4) (fQ af) kj) ag))) (λfp s₀ H₀=>(oB (K:=K) (n:=2) rfl rfl (aV (aK (i:=0) C1.nd rfl (Or.inl rfl) (Or.inr rfl)) (aV (aK (i:=1) C1.nd rfl (Or.inl rfl) (Or.inr rfl)) cX)))) (λfp s₀ H₀=>tS) (λfp s₀ H₀=>(aw (fb (K:=K) rfl) (cP (bV hr) (pv 2) (ay (ad (pv 0) (ad (pv 1) ag))) (λ_ _=>rfl)) af (λ_ _=>rfl)))) (ai (eD (j:=6) rfl C2 Ao.nd rfl rfl (cW (aA zx (hr.mono (by decide)) (by rfl) (ad (pv 0) ag))) (λfp s₀ H₀=>(oB (K:=K) (n:=2) rfl rfl (aV (aK (i:=0) C2.nd rfl (Or.inl rfl) (Or.inr rfl)) (aV (aK (i:=1) C2.nd rfl (Or.inl rfl) (Or.inr rfl)) cX)))) (λfp s₀ H₀=>(kg (aB lE (ao aM (aw (fV (K:=K) rfl) (pv 3) (pv 1) (λ_ _=>rfl)) (aw (fV (K:=K) rfl) (pv 3) (pv 0) (λ_ _=>rfl))) af (aC _)))) (λfp s₀ H₀=>(ay (ad (pv 0) (ad (pv 1) (ad (aw (fb (K:=K) rfl) (cP (bV hr) (pv 2) (ay (ad (pv 0) (ad (pv 1) ag))) (λ_ _=>rfl)) af (λ_ _=>rfl)) ag)))))) (am (az (ay (ad (pv 4) (ad (pv 5) (ad (pv 3) (ad (pv 6) ag))))))))))))),?_⟩;have hlq:(qs.map λ(q:Addr×Int×Int)=>V.ref q.1).length=qs.length:=List.length_map _;refine⟨_,rfl,v,rfl,th,λsv=>?_,λsv=>?_⟩
  ·rcases q with⟨_,k⟩|⟨sv',_⟩
   ·exact k
   ·rw[sv]at sv'
    cases sv'
  obtain⟨_,p,a,b,rfl,⟨sq,hb,ha⟩,near,tb,k⟩:sqV H v=true/\_:=q.resolve_left λz=>by
   have:=z.1;rw[sv]at this;cases this
  refine⟨_,rfl,_,rfl,l,p,qs,a,b,rfl,L,⟨h1,h10⟩,⟨sq,hb,ha⟩,sv,th,near,λd H1 s1 nd CC=>?_⟩;refine⟨_,rfl,_,rfl,l,d,_,100,rfl,s1 _ _ L.lst,⟨by rw[hlq];exact h1,by rw[hlq];exact h10⟩,by rw[hlq];exact CC,λm H2 s2 nm em=>?_⟩;rw[hlq]at em;have S2:=s1.trans s2;refine⟨_,rfl,_,rfl,_,rfl,l,d,m,_,100,rfl,tb.same S2,S2 _ _ L.lst,⟨by rw[hlq];exact h1,by rw[hlq];exact h10⟩,by rw[hlq];exact CC.mono s2,by rw[hlq];exact em,λkp H3 P3 tb3 nk fk=>?_⟩;rw[hlq]at fk;have N23:=cD.n P3 (tb.same S2);have C3:=(CC.mono s2).n N23;have m3:=N23.l em;have L3:=(br.of S2 |>.trans N23).line L;refine⟨_,rfl,_,rfl,_,rfl,kp,_,rfl,SqL.of fk,λk2 H4 s4 f4 n4=>?_⟩;rw[uE]at f4;have k4:=s4 _ _ fk;have C4:=C3.mono s4;have kl:=oM qs.length;have lmin:min (kpt qs.length).length ((kpt qs.length).drop 1).length=(kpt qs.length).length - 1:=by rw[List.length_drop];omega
  refine⟨kp,k2,rfl,⟨_,SqL.of k4⟩,⟨_,SqL.of f4⟩,pZ (K:=K) (k:=2) (SqL.of k4) (SqL.of f4) (by rw[lmin];omega) (λ_ y _=>WR H4 y) (λ_ _ _ _ _ h=>h) ?_ ?_⟩
  ·intro i x y pp H5 τ Kc hx hy s5 ep hτ kk
   obtain⟨τ0,τ1,rfl⟩:∃τ0 τ1,τ = [τ0,τ1]:=cJ hτ;obtain⟨rfl,rfl,z1,z2⟩:=wM h1 hx hy;refine⟨pp,_,rfl,SqT.of ep,rfl,_,_,rfl,_,_,rfl,rfl,⟨[some (.int ((0:Nat):Int)),some (.int ((qs.length - 1:Nat):Int))],rfl,rfl⟩,?_⟩;refine⟨_,rfl,_,rfl,_,rfl,sz (by simp),λt H6 s6 f6 n6=>?_⟩;obtain⟨v,dg,u,q,ps,rfl,fu,P,l2⟩:=C4.get2 (s5.trans s6) ⟨z1,z2⟩ f6;exact⟨d,_,rfl,dg,u,_,_,_,rfl,rfl,SqT.of ((s5.trans s6) _ _ fu),rfl,kk _ H6 s6 ⟨q,ps,rfl,P,l2⟩⟩
  intro wl ys H5 nw s5 f5 hl hr;rw[lmin]at hl;have S35:=s4.trans s5;have C5:=C4.mono s5;have m5:=S35 _ _ m3;have L5:=L3.mono S35;refine⟨_,rfl,l,_,rfl,L5.lst,⟨by rw[hlq];exact h1,by rw[hlq];exact h10⟩,λr cs H6 s6 nr P6 ec=>⟨r,rfl,⟨_,SqL.of P6.1⟩,p5 (K:=K) (k:=2) P6.1 ?_ (λ_=>false) (λ_ _=>False) ?_ ?_⟩⟩
  ·have e:=congrArg List.length ec
   have:=eW h10 (qs.length - 1) (by omega);rw[List.length_map,hlq]at e;rw[List.length_map,e];exact Nat.lt_of_le_of_lt this (by omega)
  ·intro i x H7 τ Kc Kn hx s7 hτ _ kn
   obtain⟨τ0,τ1,rfl⟩:∃τ0 τ1,τ = [τ0,τ1]:=cJ hτ;rw[List.getElem?_map]at hx;obtain⟨c,hc,rfl⟩:=Option.map_eq_some_iff.mp hx;have mc:=List.mem_of_getElem? hc;have hab:c.2.1<c.2.2/\c.2.2<qs.length:=iU.mp (by rw[<- hlq,<- ec];exact List.mem_map.mpr ⟨c,mc,rfl⟩);obtain⟨ca,x,y⟩:=c;dsimp only at hab;have m7:=s7 _ _ (s6 _ _ m5);refine⟨ca,_,rfl,SqT.of (s7 _ _ (P6.2 _ mc)),rfl,_,_,rfl,_,_,rfl,rfl,⟨[some (.int (x:Int)),some (.int (y:Int))],rfl,rfl⟩,?_⟩;refine⟨_,rfl,_,rfl,m,_,_,_,rfl,rfl,SqL.of m7,cw (iy (by omega)),_,rfl,_,rfl,m,_,_,_,rfl,rfl,SqL.of m7,cw (iy (by omega)),_,_,rfl,rfl,_,_,rfl,rfl,_,rfl,?_⟩;have e:decide ((2:Int)<=mk1 y - mk1 x)=false:=by
    have h0:=qX x;have hy:mk1 y=1:=by unfold mk1;exact if_neg (by omega)
    exact decide_eq_false (by omega)
   rw[e];exact kn rfl H7 (Same.refl _)
  intro fl fs H7 nf s7 f7 pf;have e0:fs = []:=by
   rw[show(List.range (cs.map λc=>V.ref c.1).length).filter (λ_=>false) = [] from List.filter_eq_nil_iff.mpr λ_ _=>by simp]at pf;cases pf;rfl
  subst e0;have N37:br H3 H7:=.of (S35.trans (s6.trans s7));refine⟨_,rfl,_,rfl,_,rfl,_,rfl,sz (by simp),λu H8 s8 f8 n8=>?_⟩;have S58:=s6.trans (s7.trans s8);refine k u kp wl m fl H8 (((br.of S2).trans N23).trans (N37.trans (.of s8))) (tb3.same (S35.trans S58)) f8 (s8 _ _ (s7 _ _ (s6 _ _ (s5 _ _ k4)))) ⟨ys,S58 _ _ f5,hl,λx hx=>?_⟩ (S58 _ _ m5) (s8 _ _ f7);obtain⟨i,hi⟩:=List.mem_iff_getElem?.mp hx;obtain⟨r',ps,e,P,l2⟩:=hr i x hi;exact⟨r',ps,e,P.mono (s5.trans S58),l2⟩
theorem wH{x:Int}(h:x.natAbs<10^60):ap x<=200:=bM (n:=200) (Nat.lt_of_lt_of_le h (by decide +kernel))
theorem xP{x y:Int}(h:¬(0<y/\Int.gcd x y=1/\0<=x)):(lowB x y && !decide (x<0))=false:=by
 cases hc:lowB x y && !decide (x<0) with
 | false=>rfl
 | true =>
  simp only[lowB,Bool.and_eq_true,decide_eq_true_eq,Bool.not_eq_true',decide_eq_false_iff_not]at hc;exact absurd ⟨by omega,hc.1.2,by omega⟩ h
noncomputable def sqL:List V->Bool
 | [.int a,.int b]=>lowB a b && !decide (a<0)
 | _=>false
theorem tD{H:Hp}{r:Addr}{xs:List V}(e:H r=some (.tup xs)):sqV H (.ref r)=sqL xs:=by
 simp only[sqV,e];rcases xs with _|⟨a,_|⟨b,_|⟨c,r⟩⟩⟩
 ·rfl
 ·cases a <;> rfl
 ·cases a <;> cases b <;> rfl
 ·cases a <;> cases b <;> rfl
noncomputable def Odd(H:Hp)(v:V):Prop:=Al H v/\sqV H v=false
theorem dU{H:Hp}:∀y∈([]:List V),∃t,Kn H y t:=λy hy=>nomatch hy
theorem bw{H:Hp}{v:V}{vs:List V}{t:String}(k:Kn H v t)(h:∀y∈vs,∃t,Kn H y t):∀y∈v::vs,∃t,Kn H y t:=λy hy=>by
 rcases List.mem_cons.mp hy with rfl|hy
 ·exact⟨t,k⟩
 ·exact h y hy
theorem odT{H:Hp}{r:Addr}{xs:List V}(e:H r=some (.tup xs))(no:sqL xs=false)(kn:∀y∈xs,∃t,Kn H y t):Odd H (.ref r):=⟨th_tup e kn,(tD e).trans no⟩
theorem od2{H:Hp}{r:Addr}{x y:Int}(e:H r=some (.tup [.int x,.int y]))(no:¬(0<y/\Int.gcd x y=1/\0<=x)):Odd H (.ref r):=odT e (xP no) (bw (.int _) (bw (.int _) dU))
inductive Ev (vs:List V) (H:Hp) (Q:VK) (x_3:XK):Prop
 | mk:∀(p:Addr) (n:Int),(vs = [.ref p])->(H p=some (.lst [.int n]))->(∀(v:V) (H':Hp),Odd H' v->Pl p H H'->Q v H')->Ev vs H Q x_3
theorem AJ:zf ["pool","top","bottom","some"] ["pool"] (ak (top 96)):=smk
theorem nE(Eg:Df K mg "_law_odd" (top 96))(zn:Fn P w K mg base "_law_take" ["pool","many"] 1 CB)(T:Txt mg):Fn P w K mg base "_law_odd" ["pool"] 2 Ev:=by
 refine Eg.fn AJ (λ_ _ _ _ _ _ us hl=>by obtain⟨_,rfl⟩:=d9 hl;rfl) (λvs H Q E h=>?_) (λf cdv A outer s H vs Q E hr h=>?_)
 ·obtain⟨p,n,rfl,_⟩:=h
  rfl
 ·obtain⟨p,n,rfl,ep,q⟩:=h
  refine⟨_,(ai (au (i:=1) AJ.nd rfl (Or.inl rfl) (aA zn (hr.mono (by decide)) (by rfl) (ad (pv 0) (ad (ao kA af af) ag)))) (ai (au (i:=2) AJ.nd rfl (Or.inl rfl) (ao aO af (aA zn (hr.mono (by decide)) (by rfl) (ad (pv 0) (ad (ao kA af af) ag))))) (@ai _ _ _ _ _ (@au _ _ 3 _ _ _ _ AJ.nd rfl (Or.inl rfl) (@aU _ _ _ _ (@ad _ _ _ _ _ (pv 1) (@ad _ _ _ _ _ dn (@ad _ _ _ _ _ bT (@ad _ _ _ _ _ cT (@ad _ _ _ _ _ cT (@ad _ _ _ _ _ (@aU _ _ _ _ (@ad _ _ _ _ _ af (@ad _ _ _ _ _ af ag (by rfl)) (by rfl))) (@ad _ _ _ _ _ (@ay _ _ _ _ _ (@ad _ _ _ _ _ (pv 1) ag (by rfl))) (@ad _ _ _ _ _ (@ay _ _ _ _ _ (@ad _ _ _ _ _ (pv 1) (@ad _ _ _ _ _ af (@ad _ _ _ _ _ af ag (by rfl)) (by rfl)) (by rfl))) (@ad _ _ _ _ _ (@ay _ _ _ _ _ (@ad _ _ _ _ _ dn (@ad _ _ _ _ _ af ag (by rfl)) (by rfl))) (@ad _ _ _ _ _ (@ay _ _ _ _ _ (@ad _ _ _ _ _ (pv 1) (@ad _ _ _ _ _ dn ag (by rfl)) (by rfl))) (@ad _ _ _ _ _ (@ay _ _ _ _ _ (@ad _ _ _ _ _ cT (@ad _ _ _ _ _ af ag (by rfl)) (by rfl))) (@ad _ _ _ _ _ (@ay _ _ _ _ _ (@ad _ _ _ _ _ (pv 1) (@ad _ _ _ _ _ cT ag (by rfl)) (by rfl))) ag (by rfl)) (by rfl)) (by rfl)) (by rfl)) (by rfl)) (by rfl)) (by rfl)) (by rfl)) (by rfl)) (by rfl)) (by rfl)) (by rfl))) (by rfl) (by first|exact .inl rfl|exact .inr rfl|assumption)) (ai (au (i:=3) AJ.nd rfl (Or.inl rfl) (ao ix (pv 3) (@aU _ _ _ _ (@ad _ _ _ _ _ (@ay _ _ _ _ _ (@ad _ _ _ _ _ (pv 1) (@ad _ _ _ _ _ af ag (by rfl)) (by rfl))) (@ad _ _ _ _ _ (@ay _ _ _ _ _ (@ad _ _ _ _ _ (pv 1) (@ad _ _ _ _ _ (dm cF af) ag (by rfl)) (by rfl))) (@ad _ _ _ _ _ (@ay _ _ _ _ _ (@ad _ _ _ _ _ (ao aM (dm cF af) (pv 1)) (@ad _ _ _ _ _ af ag (by rfl)) (by rfl))) (@ad _ _ _ _ _ (@ay _ _ _ _ _ (@ad _ _ _ _ _ (ao ax (pv 1) af) (@ad _ _ _ _ _ af ag (by rfl)) (by rfl))) (@ad _ _ _ _ _ (@ay _ _ _ _ _ (@ad _ _ _ _ _ af (@ad _ _ _ _ _ (pv 2) ag (by rfl)) (by rfl))) (@ad _ _ _ _ _ (@ay _ _ _ _ _ (@ad _ _ _ _ _ (pv 2) (@ad _ _ _ _ _ (pv 2) ag (by rfl)) (by rfl))) (@ad _ _ _ _ _ (@ay _ _ _ _ _ (@ad _ _ _ _ _ af (@ad _ _ _ _ _ (@ay _ _ _ _ _ (@ad _ _ _ _ _ af (@ad _ _ _ _ _ af ag (by rfl)) (by rfl))) ag (by rfl)) (by rfl))) ag (by rfl)) (by rfl)) (by rfl)) (by rfl)) (by rfl)) (by rfl)) (by rfl))))) (am (az (aw bA (pv 3) (aA zn (hr.mono (by decide)) (by rfl) (ad (pv 0) (ad (aI aL (by rfl) T.z_len cz (ad (pv 3) ag)) ag))) (λ_ _=>rfl)))))))),?_⟩
  refine⟨_,rfl,_,_,rfl,rfl,⟨by decide,by decide,by decide⟩,p,_,_,rfl,ep,⟨by decide,by decide⟩,λr1 H1 a1 b1 P1=>?_⟩;obtain⟨n1,e1⟩:=P1.now;refine⟨_,rfl,_,_,rfl,rfl,⟨by decide,by decide,by decide⟩,p,_,_,rfl,e1,⟨by decide,by decide⟩,λr2 J0 a2 b2 P2=>⟨_,_,rfl,rfl,?_⟩⟩;have e59:(10:Int)^(59:Int).toNat=100000000000000000000000000000000000000000000000000000000000:=by decide +kernel
  have e9:(10:Int)^(9:Int).toNat=1000000000:=by decide +kernel
  rw[e59]at b1;rw[e9]at b2;have bt:ap r1<=200:=wH (by omega);have btwo:ap (2:Int)<=2:=by decide
  refine⟨_,rfl,sz (by simp),λt1 J1 s1 f1 n1x=>?_⟩;refine⟨_,rfl,sz (by simp),λt2 J2 s2 f2 n2=>?_⟩;refine⟨_,rfl,sz (by simp),λt3 J3 s3 f3 n3=>?_⟩;refine⟨sz (by simp),λt4 J4 s4 f4 n4=>?_⟩;refine⟨_,rfl,sz (by simp),λt5 J5 s5 f5 n5=>?_⟩;refine⟨sz (by simp),λt6 J6 s6 f6 n6=>?_⟩;refine⟨_,rfl,sz (by simp),λt7 J7 s7 f7 n7=>?_⟩;refine⟨sz (by simp),λt8 J8 s8 f8 n8=>?_⟩;refine⟨_,rfl,_,rfl,sz (by simp),λt9 J9 s9 f9 n9=>?_⟩;refine⟨_,rfl,_,rfl,sz (by simp),λt10 J10 s10 f10 n10=>?_⟩;refine⟨_,rfl,_,rfl,_,_,rfl,rfl,sz (by simp),λt11 J11 s11 f11 n11=>?_⟩;refine⟨_,rfl,_,_,rfl,rfl,CM.of bt btwo ⟨by decide,by decide⟩,sz (by simp),λt12 J12 s12 f12 n12=>?_⟩;refine⟨_,rfl,sz (by simp),λt13 J13 s13 f13 n13=>?_⟩;refine⟨_,rfl,_,rfl,sz (by simp),λt14 J14 s14 f14 n14=>?_⟩;refine⟨sz (by simp),λt15 J15 s15 f15 n15=>?_⟩;refine⟨sz (by simp),λt16 J16 s16 f16 n16=>?_⟩;refine⟨sz (by simp),λt17 J17 s17 f17 n17=>?_⟩;have S17:Same J0 J17:=(s1.trans (s2.trans (s3.trans (s4.trans (s5.trans (s6.trans (s7.trans (s8.trans (s9.trans (s10.trans (s11.trans (s12.trans (s13.trans (s14.trans (s15.trans (s16.trans (s17)))))))))))))))));refine⟨t8,t17,_,_,rfl,rfl,(s9.trans (s10.trans (s11.trans (s12.trans (s13.trans (s14.trans (s15.trans (s16.trans (s17))))))))) _ _ f8,f17,sz (by simp),λl9 H3 s18 f18 n18=>?_⟩;have P3:=(P1.trans P2).grow (S17.trans s18);obtain⟨n3,e3⟩:=P3.now;refine⟨_,rfl,_,rfl,_,rfl,l9,_,rfl,.inl (SqL.of f18),p,_,_,rfl,e3,⟨by simp,by simp;decide⟩,λr4 H4 a4 b4 P4=>?_⟩;have nlp:l9≠p:=λz=>by
   obtain⟨n17,e17⟩:=((P1.trans P2).grow S17).now;rw[z,e17]at n18;cases n18
  refine yT (P4.lst nlp f18) a4 b4 λv hv=>?_;refine q v H4 ?_ (P3.trans P4);simp only[List.mem_append,List.mem_cons,List.not_mem_nil,or_false,or_assoc]at hv;rcases hv with rfl|rfl|rfl|rfl|rfl|rfl|rfl|rfl|rfl|rfl|rfl|rfl|rfl|rfl|rfl|rfl|rfl|rfl|rfl
  ·exact⟨th_flat (.int _) (λp e=>nomatch e),rfl⟩
  ·exact⟨th_flat (.bl _) (λp e=>nomatch e),rfl⟩
  ·exact⟨th_flat .non (λp e=>nomatch e),rfl⟩
  ·exact⟨th_flat (.str _) (λp e=>nomatch e),rfl⟩
  ·exact⟨th_flat (.str _) (λp e=>nomatch e),rfl⟩
  ·have h:=P4.lst (λz=>by
    obtain⟨n0,e0⟩:=(P1.trans P2).now;rw[z,e0]at n1x;cases n1x) ((s2.trans (s3.trans (s4.trans (s5.trans (s6.trans (s7.trans (s8.trans (s9.trans (s10.trans (s11.trans (s12.trans (s13.trans (s14.trans (s15.trans (s16.trans (s17.trans (s18))))))))))))))))) _ _ f1)
   exact⟨th_lst h,by simp only[sqV,h]⟩
  ·exact odT (P4.t _ _ ((s3.trans (s4.trans (s5.trans (s6.trans (s7.trans (s8.trans (s9.trans (s10.trans (s11.trans (s12.trans (s13.trans (s14.trans (s15.trans (s16.trans (s17.trans (s18)))))))))))))))) _ _ f2)) rfl (bw (.int _) dU)
  ·exact odT (P4.t _ _ ((s4.trans (s5.trans (s6.trans (s7.trans (s8.trans (s9.trans (s10.trans (s11.trans (s12.trans (s13.trans (s14.trans (s15.trans (s16.trans (s17.trans (s18))))))))))))))) _ _ f3)) rfl (bw (.int _) (bw (.int _) (bw (.int _) dU)))
  ·exact odT (P4.t _ _ ((s5.trans (s6.trans (s7.trans (s8.trans (s9.trans (s10.trans (s11.trans (s12.trans (s13.trans (s14.trans (s15.trans (s16.trans (s17.trans (s18)))))))))))))) _ _ f4)) rfl (bw (.bl _) (bw (.int _) dU))
  ·exact odT (P4.t _ _ ((s6.trans (s7.trans (s8.trans (s9.trans (s10.trans (s11.trans (s12.trans (s13.trans (s14.trans (s15.trans (s16.trans (s17.trans (s18))))))))))))) _ _ f5)) rfl (bw (.int _) (bw (.bl _) dU))
  ·exact odT (P4.t _ _ ((s7.trans (s8.trans (s9.trans (s10.trans (s11.trans (s12.trans (s13.trans (s14.trans (s15.trans (s16.trans (s17.trans (s18)))))))))))) _ _ f6)) rfl (bw (.str _) (bw (.int _) dU))
  ·exact odT (P4.t _ _ ((s8.trans (s9.trans (s10.trans (s11.trans (s12.trans (s13.trans (s14.trans (s15.trans (s16.trans (s17.trans (s18))))))))))) _ _ f7)) rfl (bw (.int _) (bw (.str _) dU))
  ·exact od2 (P4.t _ _ ((s10.trans (s11.trans (s12.trans (s13.trans (s14.trans (s15.trans (s16.trans (s17.trans (s18))))))))) _ _ f9)) (λh=>by omega)
  ·exact od2 (P4.t _ _ ((s11.trans (s12.trans (s13.trans (s14.trans (s15.trans (s16.trans (s17.trans (s18)))))))) _ _ f10)) (λh=>by omega)
  ·exact od2 (P4.t _ _ ((s12.trans (s13.trans (s14.trans (s15.trans (s16.trans (s17.trans (s18))))))) _ _ f11)) (λh=>by omega)
  ·exact od2 (P4.t _ _ ((s13.trans (s14.trans (s15.trans (s16.trans (s17.trans (s18)))))) _ _ f12)) (λh=>by
    have h1:=h.2.1;have h2:(2:Int)∣(Int.gcd (r1*2) 2:Int):=Int.dvd_coe_gcd ⟨r1,by omega⟩ ⟨1,rfl⟩;rw[h1]at h2;exact absurd h2 (by decide))
  ·exact od2 (P4.t _ _ ((s14.trans (s15.trans (s16.trans (s17.trans (s18))))) _ _ f13)) (λh=>by
    have h1:=h.2.1;rw[Int.gcd_zero_left]at h1;omega)
  ·exact od2 (P4.t _ _ ((s15.trans (s16.trans (s17.trans (s18)))) _ _ f14)) (λh=>by
    have h1:=h.2.1;rw[Int.gcd_self]at h1;omega)
  ·exact odT (P4.t _ _ ((s17.trans (s18)) _ _ f16)) rfl (bw (.int _) (bw (.tup (P4.t _ _ ((s16.trans (s17.trans (s18))) _ _ f15))) dU))
noncomputable def vo:List V:=[.bl true,.bl true,.bl false,.bl false]
inductive Dw (vs:List V) (H:Hp) (Q:VK) (x_3:XK):Prop
 | mk:∀(l:Addr) (qs:Crn) (v:V),(vs = [.ref l,v])->(LineM H l qs)->((1<=qs.length/\qs.length<=10))->(Al H v)->(sqV H v=false)->(∀(r:Addr) (H':Hp),Same H H'->H' r=some (.lst vo)->Q (.ref r) H')->Dw vs H Q x_3
theorem Rp.l4{H:Hp}{p:Addr}{n:Nat}{x y z w:V}{a b c d:D}(e:H p=some (.lst [x,y,z,w]))(ha:Rp H n x a)(hb:Rp H n y b)(hc:Rp H n z c)(hd:Rp H n w d):Rp H (n+1) (.ref p) (.lst [a,b,c,d]):=.lst e rfl λj x d h k=>by
 match j,h,k with
 | 0,h,k=>cases h;cases k;exact ha
 | 1,h,k=>cases h;cases k;exact hb
 | 2,h,k=>cases h;cases k;exact hc
 | 3,h,k=>cases h;cases k;exact hd
 | n+4,h,k=>simp at h
theorem sU{H:Hp}{t:Addr}{ls:List (Pos×Str)}(e:H t=some (.tbl #[])):Tab H t ls:=⟨#[],e,trivial,λ_ _=>.inl rfl⟩
theorem vW{H:Hp}{z:Addr}{a b:Int}(sq:Sq H z a b)(lw:lowB a b=true)(ha:0<=a):sqV H (.ref z)=true:=by
 simp only[sqV,sq.at_,lw,Bool.true_and,Bool.not_eq_true',decide_eq_false_iff_not];omega
theorem xz{H:Hp}{z:Addr}{a b:Int}(sq:Sq H z a b):Al H (.ref z):=th_tup sq.at_ (bw (.int _) (bw (.int _) dU))
theorem Ar:zf ["line","square","caught","e","others"] ["line","square"] (ak (top 97)):=smk
theorem ma{B CQ X1 X2 X3 X4 X5 X6 X7 X8 X9 Y1 Y2 Y3 Y4 t_kept_of:Addr}(DO:Df K mg "_law_told" (top 97))(AN:Ac K mg "LeashError" B)(zU:Ac K mg "NoSquare" CQ)(Cf:Ac K mg "NoDeed" X1)(BC:Ac K mg "NoFence" X2)(Ce:Ac K mg "NoLine" X3)(BB:Ac K mg "NoLines" X4)(Cd:Ac K mg "NoName" X5)(Bz:Ac K mg "NoPlace" X6)(zw:Ac K mg "NoRatio" X7)(C8:Ac K mg "NoRow" X8)(Cc:Ac K mg "NoText" X9)(Cb:Ac K mg "NoWalk" Y1)(C6:Ac K mg "NoWay" Y2)(By:Ac K mg "TooMany" Y3)(C0:Ac K mg "Twice" Y4)(Bc:W.exmOne K (.ref CQ) (.ref B)=some true)(f_NoSquare:ES K CQ)(is_NoSquare:W.kitOne K (.ref CQ) (.ref CQ)=some true)(AV:W.kitOne K (.ref CQ) (.type "ValueError")=some true)(i9_NoSquare:W.kitAny K (.ref CQ) [.ref X1,.ref X2,.ref X3,.ref X4,.ref X5,.ref X6,.ref X7,.ref X8,.ref X9]=some false)(i4_NoSquare:W.kitAny K (.ref CQ) [.ref Y1,.ref Y2,.ref Y3,.ref Y4]=some false)(Ap:Fx P w K mg base "thinned" ["line","square"] 13 [] (EH CQ t_kept_of))(T:Txt mg):Fn P w K mg base "_law_told" ["line","square"] 14 Dw:=by
 refine DO.fn Ar (λ_ _ _ _ _ _ us hl=>by obtain⟨_,_,rfl⟩:=cJ hl;rfl) (λvs H Q E h=>?_) (λf cdv A outer s H vs Q E hr h=>?_)
 ·obtain⟨l,qs,v,rfl,_⟩:=h
  rfl
 ·obtain⟨l,qs,v,rfl,L,b,th,sv,k⟩:=h
  have HM:∀Z,(λD=>D=CQ) Z->W.exmOne K (.ref Z) (.ref B)=some true:=λZ hC=>by
   have hC:Z=CQ:=hC;rw[hC];exact Bc
  have IE:cU (aX CX0 P w K mg base ["line","square","caught","e","others"] "_law_told" (ak (top 97)) f cdv A outer s H E).nox (.builtin "isinstance") (EF K (λD=>D=CQ)):=mE λZ hC=>by
   have hC:Z=CQ:=hC;rw[hC];exact⟨⟨_,zU⟩,f_NoSquare⟩
  have R:∃u:TS,PSs (aX CX0 P w K mg base ["line","square","caught","e","others"] "_law_told" (ak (top 97)) f cdv A outer s H E).nox ((aH (top 97)).drop 2) u/\∀(cv:V) (z1 z2:Option V) (H':Hp),(∃a,cv = .ref a/\H' a=some (nN CQ a)/\∀r H2,Same H' H2->H2 r=some (.lst vo)->Q (.ref r) H2)->u { nx:=λ_ H'=>Q .non H',rt:=Q } [some (.ref l),some v,some cv,z1,z2] H':=by
   refine⟨_,(ai (aQ (aB mX (pv 2) bT (aC _)) (am (az (aU ag))) aE) (ai (au (i:=4) Ar.nd rfl (Or.inl rfl) (aU (ad (aI (IE) (by rfl) T.z_isinstance bo (ad (pv 2) (ad (@ay _ _ _ _ _ (@ad _ _ _ _ _ (aG (v:=.ref _) (by rfl) Cf.bound rfl) (@ad _ _ _ _ _ (aG (v:=.ref _) (by rfl) BC.bound rfl) (@ad _ _ _ _ _ (aG (v:=.ref _) (by rfl) Ce.bound rfl) (@ad _ _ _ _ _ (aG (v:=.ref _) (by rfl) BB.bound rfl) (@ad _ _ _ _ _ (aG (v:=.ref _) (by rfl) Cd.bound rfl) (@ad _ _ _ _ _ (aG (v:=.ref _) (by rfl) Bz.bound rfl) (@ad _ _ _ _ _ (aG (v:=.ref _) (by rfl) zw.bound rfl) (@ad _ _ _ _ _ (aG (v:=.ref _) (by rfl) C8.bound rfl) (@ad _ _ _ _ _ (aG (v:=.ref _) (by rfl) Cc.bound rfl) ag (by rfl)) (by rfl)) (by rfl)) (by rfl)) (by rfl)) (by rfl)) (by rfl)) (by rfl)) (by rfl))) ag))) ag))) (ai (bJ (fA PySem.F.plainAttrs_list PySem.F.slot_list_append PySem.F.type_list_append bK (pv 4) (ad (aI (IE) (by rfl) T.z_isinstance bo (ad (pv 2) (ad (ay (ad (aG (v:=.ref _) (by rfl) Cb.bound rfl) (ad (aG (v:=.ref _) (by rfl) C6.bound rfl) (ad (aG (v:=.ref _) (by rfl) By.bound rfl) (ad (aG (v:=.ref _) (by rfl) C0.bound rfl) ag))))) ag))) ag))) (am (az (ao ix (aU (ad (aI (IE) (by rfl) T.z_isinstance bo (ad (pv 2) (ad (aG (v:=.ref _) (by rfl) zU.bound rfl) ag))) (ad (aI (IE) (by rfl) T.z_isinstance bo (ad (pv 2) (ad (lz T.z_ValueError jx) ag))) ag))) (pv 4))))))),λcv z1 z2 H' hcv=>?_⟩;obtain⟨e,rfl,he,k⟩:=hcv;refine⟨_,rfl,rfl,_,rfl,bU (by simp) ?_⟩;refine⟨_,rfl,sz (by simp),λt1 H1 s1 f1 n1=>⟨CQ,rfl,e,_,_,rfl,s1 _ _ he,.inr (.inr ⟨t1,[X1,X2,X3,X4,X5,X6,X7,X8,X9],rfl,f1,i9_NoSquare⟩),sz (by simp),λo2 H2 s2 f2 n2=>?_⟩⟩;have e2:=s2 _ _ (s1 _ _ he);refine⟨_,rfl,.inl ⟨rfl,_,SqL.of f2⟩,_,rfl,sz (by simp),λt3 H3 s3 f3 n3=>⟨CQ,rfl,e,_,_,rfl,s3 _ _ e2,.inr (.inr ⟨t3,[Y1,Y2,Y3,Y4],rfl,f3,i4_NoSquare⟩),?_⟩⟩;refine⟨o2,_,_,rfl,rfl,s3 _ _ f2,aR (by simp),λH4 u4=>?_⟩;have S4:Same H' H4:=λb o h=>u4.at (λz=>by rw[z]at h;rw[s1 _ _ h]at n2;cases n2) (s3 _ _ (s2 _ _ (s1 _ _ h)));have e4:=S4 _ _ he;refine⟨_,rfl,CQ,rfl,e,_,_,rfl,e4,.inl ⟨_,rfl,is_NoSquare⟩,_,rfl,CQ,rfl,e,_,_,rfl,e4,.inr (.inl ⟨_,rfl,AV⟩),sz (by simp),λl5 H5 s5 f5 n5=>?_⟩;refine⟨_,rfl,l5,o2,_,_,rfl,rfl,f5,s5 _ _ u4.now,sz (by simp),λl6 H6 s6 f6 n6=>?_⟩;exact k l6 H6 (S4.trans (s5.trans s6)) f6
  obtain⟨u,hu,hR⟩:=R;refine⟨_,(ai (au (i:=2) Ar.nd rfl (Or.inl rfl) bT) (ai (mT (i:=3) rfl rfl (tO (tP Ap (hr.mono (by decide)) (by rfl) (ad (pv 0) (ad (pv 1) ag)))) AN (by rfl) (HM) rfl Ar.nd rfl rfl (λe=>(am (au (i:=2) Ar.nd rfl (Or.inl rfl) (pv 3))))) hu)),?_⟩;exact⟨_,rfl,_,rfl,l,qs,v,rfl,L,b,th,.inl ⟨sv,CQ,rfl,rfl,λe he=>⟨_,rfl,hR (.ref e) _ _ _ ⟨e,rfl,upd_same,λr H2 s2=>k r H2 ((Same.new he).trans s2)⟩⟩⟩⟩
theorem xO{d:Int}(h1:-2000000000000<=d)(h2:d<=2000000000000):d*d<=4000000000000000000000000/\0<=d*d:=by
 have e:((d.natAbs*d.natAbs:Nat):Int)=d*d:=Int.natAbs_mul_self;have b:d.natAbs*d.natAbs<=2000000000000*2000000000000:=Nat.mul_le_mul (by omega) (by omega);rw[<- e];constructor
 ·have:=Int.ofNat_le.mpr b
  exact Int.le_trans this (by decide)
 ·exact Int.natCast_nonneg _
inductive Ey (vs:List V) (H:Hp) (Q:VK) (x_3:XK):Prop
 | mk:∀(l:Addr) (qs:Crn),(vs = [.ref l])->(LineM H l qs)->(qs.length<=10)->(∀(far:Int) (H':Hp),Same H H'->1<=far->(∀u∈qs,∀v∈qs,sqI u.2 v.2+1<=far)->far<10^26->Q (.int far) H')->Ey vs H Q x_3
theorem Ad:zf ["line","far","east","north","mine","yours"] ["line"] (ak (top 98)):=smk
theorem nF(Eh:Df K mg "_law_far" (top 98))(T:Txt mg):Fn P w K mg base "_law_far" ["line"] 1 Ey:=by
 refine Eh.fn Ad (λ_ _ _ _ _ _ us hl=>by obtain⟨_,rfl⟩:=d9 hl;rfl) (λvs H Q E h=>?_) (λf cdv A outer s H vs Q E hr h=>?_)
 ·obtain⟨l,qs,rfl,_⟩:=h
  rfl
 ·obtain⟨l,qs,rfl,L,h10,k⟩:=h
  refine⟨_,(ai (au (i:=1) Ad.nd rfl (Or.inl rfl) af) (ai (bI PassesOwn.never rfl (cW (pv 0)) (eE rfl (aV (aK (i:=2) Ad.nd rfl (Or.inl rfl)) (aV (aK (i:=3) Ad.nd rfl (Or.inl rfl)) cX))) (am (bI PassesOwn.never rfl (cW (pv 0)) (eE rfl (aV (aK (i:=4) Ad.nd rfl (Or.inl rfl)) (aV (aK (i:=5) Ad.nd rfl (Or.inl rfl)) cX))) (am (au (i:=1) Ad.nd rfl (Or.inl rfl) (aI (jY rfl) (by rfl) T.z_max sF (ad (pv 1) (ad (ao aO (ao aO (ao ax (ao aM (pv 2) (pv 4)) (ao aM (pv 2) (pv 4))) (ao ax (ao aM (pv 3) (pv 5)) (ao aM (pv 3) (pv 5)))) af) ag)))))))) (am (az (pv 1))))),?_⟩;have hlq:(qs.map λ(q:Addr×Int×Int)=>V.ref q.1).length=qs.length:=List.length_map _;have hget:∀{i:Nat} {x:V},(qs.map λ(q:Addr×Int×Int)=>V.ref q.1)[i]? = some x->∃u,qs[i]? = some u/\x = .ref u.1:=λh=>by
   rw[List.getElem?_map]at h;obtain⟨u,hu,rfl⟩:=Option.map_eq_some_iff.mp h;exact⟨u,hu,rfl⟩
  have bs:∀{x y:Int},Sm x->Sm y->ap (x - y)<=60:=λh1 h2=>by
   unfold Sm uz at h1 h2;refine bM (n:=60) ?_;have:(2:Nat)^60=1152921504606846976:=by decide
   omega
  have cm:∀{x y z w:Int},Sm x->Sm y->Sm z->Sm w->CM (x - y) (z - w):=λa b c d=>CM.b (bs a b) (bs c d) (by decide) (by decide);have sq:∀{x y:Int},Sm x->Sm y->(x - y)*(x - y)<=4000000000000000000000000/\0<=(x - y)*(x - y):=λh1 h2=>by
   unfold Sm uz at h1 h2;exact xO (by omega) (by omega)
  refine⟨_,rfl,l,rfl,⟨_,SqL.of L.lst⟩,i9 (K:=K) (a:=l) (xs:=qs.map λ(q:Addr×Int×Int)=>V.ref q.1) (λi σ H'=>∃(far:Int) (z2 z3 z4 z5:Option V),σ = [some (.ref l),some (.int far),z2,z3,z4,z5]/\Same H H'/\(1<=far/\far<10^26)/\∀u∈qs.take i,∀v∈qs,sqI u.2 v.2+1<=far)
   ⟨_,_,_,_,_,rfl,Same.refl _,⟨by decide,by decide⟩,λu h=>by simp at h⟩ (λi σ H' _ ⟨_,_,_,_,_,_,S,_⟩=>SqL.of (S _ _ L.lst)) ?_ ?_⟩
  ·rintro i x σ H2 hx ⟨far,z2,z3,z4,z5,rfl,S2,⟨f1,f2⟩,hf⟩
   obtain⟨u,hu,rfl⟩:=hget hx;have mu:=List.mem_of_getElem? hu;have cu:=(L.mono S2).crn u mu;refine⟨u.1,_,rfl,SqT.of cu.1,rfl,_,_,rfl,_,_,rfl,rfl,?_⟩;refine⟨_,rfl,l,rfl,⟨_,SqL.of (S2 _ _ L.lst)⟩,i9 (K:=K) (a:=l) (xs:=qs.map λ(q:Addr×Int×Int)=>V.ref q.1) (λj σ H'=>∃(fr:Int) (z4 z5:Option V),σ = [some (.ref l),some (.int fr),some (.int u.2.1),some (.int u.2.2),z4,z5]/\Same H H'/\(1<=fr/\fr<10^26)/\far<=fr/\∀v∈qs.take j,sqI u.2 v.2+1<=fr)
    ⟨far,z4,z5,rfl,S2,⟨f1,f2⟩,Int.le_refl _,λv h=>by simp at h⟩ (λj σ H' _ ⟨_,_,_,_,S,_⟩=>SqL.of (S _ _ L.lst)) ?_ ?_⟩
   ·rintro j y σ H3 hy ⟨fr,z4,z5,rfl,S3,⟨g1,g2⟩,gf,hg⟩
    obtain⟨v,hv,rfl⟩:=hget hy;have mv:=List.mem_of_getElem? hv;have cv:=(L.mono S3).crn v mv;refine⟨v.1,_,rfl,SqT.of cv.1,rfl,_,_,rfl,_,_,rfl,rfl,?_⟩;have LS:=L.mono S3;have a1:=cu.2.1;have a2:=cu.2.2;have b1:=cv.2.1;have b2:=cv.2.2;obtain⟨q1,q2⟩:=sq a1 b1;obtain⟨q3,q4⟩:=sq a2 b2;have eq:sqI u.2 v.2=(u.2.1 - v.2.1)*(u.2.1 - v.2.1)+(u.2.2 - v.2.2)*(u.2.2 - v.2.2):=rfl;refine⟨_,rfl,_,rfl,_,rfl,_,_,rfl,rfl,_,rfl,_,rfl,_,_,rfl,rfl,_,_,rfl,rfl,cm a1 b1 a1 b1,_,rfl,_,rfl,_,_,rfl,rfl,_,rfl,_,rfl,_,_,rfl,rfl,_,_,rfl,rfl,cm a2 b2 a2 b2,_,_,rfl,rfl,_,_,rfl,rfl,_,_,rfl,?_⟩;rw[<- eq];have e26:(10:Int)^26=100000000000000000000000000:=by decide
    rw[e26]at g2 ⊢;generalize hz:sqI u.2 v.2=z at eq ⊢;refine⟨_,_,_,rfl,S3,⟨?_,?_⟩,?_,λw hw=>?_⟩
    ·split <;> omega
    ·split <;> omega
    ·split <;> omega
    ·rw[List.take_add_one,hv]at hw
     rcases List.mem_append.mp hw with h|h
     ·have:=hg w h
      split <;> omega
     ·have h:w=v:=by simpa using h
      rw[h,hz]
      split <;> omega
   ·rintro σ H3 ⟨fr,z4,z5,rfl,S3,⟨g1,g2⟩,gf,hg⟩
    refine⟨fr,_,_,_,_,rfl,S3,⟨g1,g2⟩,λw hw v hv=>?_⟩;rw[List.take_add_one,hu]at hw;rcases List.mem_append.mp hw with h|h
    ·exact Int.le_trans (hf w h v hv) gf
    ·have h:w=u:=by simpa using h
     rw[h];exact hg v (by rw[hlq,List.take_length];exact hv)
  ·rintro σ H2 ⟨far,z2,z3,z4,z5,rfl,S2,⟨f1,f2⟩,hf⟩
   exact⟨_,rfl,k far H2 S2 f1 (λu hu v hv=>hf u (by rw[hlq,List.take_length];exact hu) v hv) f2⟩
noncomputable def nW(qs:Crn)(i:Nat):Prop:=∀q∈qs,(-(20000000000+30000000000*(i:Int))<=q.2.1/\q.2.1<=20000000000+30000000000*(i:Int))/\(-(20000000000+30000000000*(i:Int))<=q.2.2/\q.2.2<=20000000000+30000000000*(i:Int))
theorem nW.le{qs:Crn}{i j:Nat}(h:nW qs i)(l:i<=j):nW qs j:=λq hq=>by
 obtain⟨⟨a,b⟩,c,d⟩:=h q hq;omega
theorem ir{x s:Int}{n:Int}(h:-n<=x/\x<=n)(hs:s=1\/s=10000000000)(hn:0<=n):-(10000000000*n)<=x*s/\x*s<=10000000000*n:=by
 rcases hs with rfl|rfl <;> omega
inductive Eo (vs:List V) (H:Hp) (Q:VK) (x_3:XK):Prop
 | mk:∀(p:Addr) (n m:Int),(vs = [.ref p,.int m])->(H p=some (.lst [.int n]))->((0<m/\m<=10))->(∀(l:Addr) (qs:Crn) (H':Hp),LineM H' l qs->1<=qs.length->(qs.length:Int)<=m->H l=none->Pl p H H'->Q (.ref l) H')->Eo vs H Q x_3
theorem zA:zf ["pool","most","many","sort","scale","corners","k","east","north"] ["pool","most"] (ak (top 95)):=smk
theorem nD(Ef:Df K mg "_law_row" (top 95))(zn:Fn P w K mg base "_law_take" ["pool","many"] 1 CB)(T:Txt mg):Fn P w K mg base "_law_row" ["pool","most"] 2 Eo:=by
 refine Ef.fn zA (λ_ _ _ _ _ _ us hl=>by obtain⟨_,_,rfl⟩:=cJ hl;rfl) (λvs H Q E h=>?_) (λf cdv A outer s H vs Q E hr h=>?_)
 ·obtain⟨p,n,m,rfl,_⟩:=h
  rfl
 ·obtain⟨p,n,m,rfl,ep,⟨hm0,hm1⟩,k⟩:=h
  have bsm:∀{z:Int},-1000<=z->z<=1000->ap z<=10:=λa b=>dj a b;have e64:(2:Int)^64=18446744073709551616:=by decide
  have R:∃u:TS,PSs (aX CX0 P w K mg base ["pool","most","many","sort","scale","corners","k","east","north"] "_law_row" (ak (top 95)) f cdv A outer s H E).nox ((aH (top 95)).drop 2) u/\∀(H1:Hp) (mn so:Int) (z4 z5 z6 z7 z8:Option V),1<=mn->mn<=m->0<=so->so<6->Pl p H H1->u { nx:=λ_ H'=>Q .non H',rt:=Q } [some (.ref p),some (.int m),some (.int mn),some (.int so),z4,z5,z6,z7,z8] H1:=by
   have R2:∃u:TS,PSs (aX CX0 P w K mg base ["pool","most","many","sort","scale","corners","k","east","north"] "_law_row" (ak (top 95)) f cdv A outer s H E).nox ((uQ ((aH (top 95)).getD 4 (.Pass ⟨0,0,0,0⟩))).drop 4) u/\∀(D:AL) (H1:Hp) (l:Addr) (qs:Crn) (i:Nat) (m mn so sc ea no:Int),1<=qs.length->qs.length=i+1->(i:Int)<m->nW qs i->(sc=1\/sc=10000000000)->(-3<=ea/\ea<=3)->(-2<=no/\no<=2)->LineM H1 l qs->m<=10 ->
     (∀(H2 H3:Hp) (pt:Addr) (x y:Int),Same H1 H2->H2 pt=some (.tup [.int x,.int y])->Sm x->Sm y->nW [(pt,x,y)] (i+1)->DB H2 H3 l (qs.map λq=>V.ref q.1) ((qs.map λq=>V.ref q.1)++[.ref pt])->D.nx [some (.ref p),some (.int m),some (.int mn),some (.int so),some (.int sc),some (.ref l),some (.int (1+(i:Int))),some (.int ea),some (.int no)] H3) ->
     u D [some (.ref p),some (.int m),some (.int mn),some (.int so),some (.int sc),some (.ref l),some (.int (1+(i:Int))),some (.int ea),some (.int no)] H1:=by
    refine⟨_,(am (bJ (fA PySem.F.plainAttrs_list PySem.F.slot_list_append PySem.F.type_list_append bK (pv 5) (ad (ay (ad (ao aO (aw av (aw bA (pv 5) (ao aM (pv 6) af) (λ_ _=>rfl)) af (λ_ _=>rfl)) (ao ax (pv 7) (pv 4))) (ad (ao aO (aw av (aw bA (pv 5) (ao aM (pv 6) af) (λ_ _=>rfl)) af (λ_ _=>rfl)) (ao ax (pv 8) (pv 4))) ag))) ag)))),?_⟩;intro D H1 l qs i m mn so sc ea no g1 gl gi gb gs ge gn L gm fin;obtain⟨q,mq,aq⟩:=vh (qs:=qs) (k:=1+(i:Int) - 1) (by omega) (by omega);have cq:=L.crn q mq;obtain⟨⟨bx1,bx2⟩,by1,by2⟩:=gb q mq;obtain⟨ux1,ux2⟩:=ir (n:=3) ge gs (by decide);obtain⟨uy1,uy2⟩:=ir (n:=2) gn gs (by decide);refine⟨_,rfl,.inl ⟨rfl,_,SqL.of L.lst⟩,?_⟩;refine⟨_,rfl,_,rfl,_,_,rfl,rfl,l,_,_,_,rfl,rfl,SqL.of L.lst,aq,q.1,_,_,_,rfl,rfl,SqT.of cq.1,rfl,_,rfl,_,rfl,_,_,rfl,rfl,CM.l (by rw[e64];omega),_,_,rfl,rfl,?_⟩;refine⟨_,rfl,_,rfl,_,_,rfl,rfl,l,_,_,_,rfl,rfl,SqL.of L.lst,aq,q.1,_,_,_,rfl,rfl,SqT.of cq.1,rfl,_,rfl,_,rfl,_,_,rfl,rfl,CM.l (by rw[e64];omega),_,_,rfl,rfl,sz (by simp),λpt H2 s2 f2 n2=>?_⟩;generalize ea*sc=ux at f2 ux1 ux2 ⊢;generalize no*sc=uy at f2 uy1 uy2 ⊢;refine⟨l,_,_,rfl,rfl,s2 _ _ L.lst,aR (by rw[List.length_map];omega),λH3 u=>fin H2 H3 pt _ _ s2 f2 (oq (by omega) (by omega)) (oq (by omega) (by omega)) (λq' hq=>?_) u⟩;rw[List.mem_singleton.mp hq];show(_<=q.2.1+ux/\q.2.1+ux<=_)/\(_<=q.2.2+uy/\q.2.2+uy<=_);omega
   obtain⟨u2,hu2,hR2⟩:=R2;refine⟨_,@ai _ _ _ _ _ (@au _ _ 4 _ _ _ _ zA.nd rfl (Or.inl rfl) (@aw _ _ _ _ _ _ _ bA (@aU _ _ _ _ (@ad _ _ _ _ _ af (@ad _ _ _ _ _ af (@ad _ _ _ _ _ af (@ad _ _ _ _ _ af (@ad _ _ _ _ _ af (@ad _ _ _ _ _ (ao kA af af) ag (by rfl)) (by rfl)) (by rfl)) (by rfl)) (by rfl)) (by rfl))) (pv 3) (λ_ _=>rfl)) (by rfl) (by first|exact .inl rfl|exact .inr rfl|assumption)) (ai (@au _ _ 5 _ _ _ _ zA.nd rfl (Or.inl rfl) (@aU _ _ _ _ (@ad _ _ _ _ _ (@ay _ _ _ _ _ (@ad _ _ _ _ _ (ao ax (ao aM (aA zn (hr.mono (by decide)) (by rfl) (ad (pv 0) (ad af ag))) af) (pv 4)) (@ad _ _ _ _ _ (ao ax (ao aM (aA zn (hr.mono (by decide)) (by rfl) (ad (pv 0) (ad af ag))) af) (pv 4)) ag (by rfl)) (by rfl))) ag (by rfl))) (by rfl) (by first|exact .inl rfl|exact .inr rfl|assumption)) (ai (bI PassesOwn.never rfl (eX rfl T.z_range (ad af (ad (pv 2) ag))) (aK (i:=6) zA.nd rfl (Or.inl rfl)) (ai (au (i:=7) zA.nd rfl (Or.inl rfl) (ao aO af (aA zn (hr.mono (by decide)) (by rfl) (ad (pv 0) (ad af ag))))) (ai (au (i:=8) zA.nd rfl (Or.inl rfl) (ao aM (aA zn (hr.mono (by decide)) (by rfl) (ad (pv 0) (ad af ag))) af)) (ai (aQ (aB cI (pv 3) af (aC _)) (am (au (i:=7) zA.nd rfl (Or.inl rfl) (ao aM (pv 7) af))) aE) (ai (aQ (aB cI (pv 3) af (aC _)) (ai (au (i:=8) zA.nd rfl (Or.inl rfl) af) (am (au (i:=7) zA.nd rfl (Or.inl rfl) (ao aM (pv 7) (ao ax (ao ax af (ao eG (pv 7) af)) (aA zn (hr.mono (by decide)) (by rfl) (ad (pv 0) (ad af ag)))))))) aE) hu2))))) (am (az (pv 5))))),?_⟩
   intro H1 mn so z4 z5 z6 z7 z8 g1 g2 g3 g4 P1;have e10:(10:Int)^(10:Int).toNat=10000000000:=by decide +kernel
   obtain⟨sc,gs,ha⟩:∃sc:Int,(sc=1\/sc=10000000000)/\atI [V.int 1,V.int 1,V.int 1,V.int 1,V.int 1,V.int ((10:Int)^(10:Int).toNat)] so=some (.int sc):=by
    have h:so=0\/so=1\/so=2\/so=3\/so=4\/so=5:=by omega
    rw[e10];rcases h with rfl|rfl|rfl|rfl|rfl|rfl <;> first|exact⟨_,.inl rfl,rfl⟩|exact⟨_,.inr rfl,rfl⟩
   refine⟨_,_,rfl,rfl,⟨by decide,by decide,by decide⟩,sz (by simp),λla H2 s2 f2 n2=>⟨_,rfl,la,_,_,_,rfl,rfl,SqL.of f2,ha,?_⟩⟩;have P2:=P1.grow s2;obtain⟨n2',e2⟩:=P2.now;refine⟨_,rfl,p,_,_,rfl,e2,⟨by decide,by decide⟩,λr3 H3 a3 b3 P3=>?_⟩;obtain⟨n3,e3⟩:=P3.now;obtain⟨ux1,ux2⟩:=ir (x:=r3 - 2) (n:=2) (by omega) gs (by decide);refine⟨_,_,rfl,rfl,_,rfl,_,_,rfl,rfl,CM.l (by rw[e64];omega),?_⟩;refine⟨_,rfl,p,_,_,rfl,e3,⟨by decide,by decide⟩,λr4 H4 a4 b4 P4=>?_⟩;obtain⟨n4,e4⟩:=P4.now;obtain⟨uy1,uy2⟩:=ir (x:=r4 - 2) (n:=2) (by omega) gs (by decide);refine⟨_,_,rfl,rfl,_,rfl,_,_,rfl,rfl,CM.l (by rw[e64];omega),sz (by simp),λpa H5 s5 f5 n5=>⟨sz (by simp),λl H6 s6 f6 n6=>?_⟩⟩;generalize (r3 - 2)*sc=ux at f5 ux1 ux2;generalize (r4 - 2)*sc=uy at f5 uy1 uy2;have Q4:Pl p H H4:=P2.trans (P3.trans P4);have Q6:Pl p H H6:=(Q4.grow s5).grow s6;have npl:l≠p:=λz=>by
    have e5:=s5 _ _ e4;subst z;rw[n6]at e5;cases e5
   have h6:H l=none:=tV (Q4.grow s5) n6;have e62:(2:Int)^62=4611686018427387904:=by decide
   refine⟨_,rfl,_,_,rfl,⟨by rw[e62];omega,by rw[e62];omega,by rw[e62];omega,by rw[e62];omega⟩,?_⟩;refine bR (n:=(mn - 1).toNat) (lo:=1) (λi σ H7=>∃(z6 z7 z8:Option V) (qs:Crn),σ = [some (.ref p),some (.int m),some (.int mn),some (.int so),some (.int sc),some (.ref l),z6,z7,z8]/\qs.length=i+1/\LineM H7 l qs/\nW qs i/\Pl p H H7) ⟨_,_,_,[(pa,ux,uy)],rfl,rfl,⟨f6,λq h=>?_⟩,λq h=>?_,Q6⟩ ?_ ?_
   ·rw[List.mem_singleton.mp h]
    exact⟨s6 _ _ f5,oq (by omega) (by omega),oq (by omega) (by omega)⟩
   ·rw[List.mem_singleton.mp h]
    show(_<=ux/\ux<=_)/\(_<=uy/\uy<=_);omega
   ·rintro i σ H7 hi ⟨z6,z7,z8,qs,rfl,hl,L7,B7,P7⟩
    obtain⟨n7,e7⟩:=P7.now;refine⟨_,rfl,p,_,_,rfl,e7,⟨by decide,by decide⟩,λr8 H8 a8 b8 P8=>⟨_,_,rfl,rfl,?_⟩⟩;obtain⟨n8,e8⟩:=P8.now;refine⟨_,rfl,p,_,_,rfl,e8,⟨by decide,by decide⟩,λr9 H9 a9 b9 P9=>⟨_,_,rfl,rfl,?_⟩⟩;obtain⟨n9,e9⟩:=P9.now;have P79:=P7.trans (P8.trans P9);have L9:=(P8.trans P9).line L7 npl;have fin:∀(D:AL) (H10:Hp) (ea no:Int),Pl p H9 H10->(-3<=ea/\ea<=3)->(-2<=no/\no<=2)->(∀σ H',(∃(z6 z7 z8:Option V) (qs:Crn),σ = [some (.ref p),some (.int m),some (.int mn),some (.int so),some (.int sc),some (.ref l),z6,z7,z8]/\qs.length=i+1+1/\LineM H' l qs/\nW qs (i+1)/\Pl p H H')->D.nx σ H')->u2 D [some (.ref p),some (.int m),some (.int mn),some (.int so),some (.int sc),some (.ref l),some (.int (1+(i:Int))),some (.int ea),some (.int no)] H10:=by
     intro D H10 ea no P10 ge gn nx;refine hR2 D H10 l qs i m mn so sc ea no (by omega) hl (by omega) B7 gs ge gn (P10.line L9 npl) hm1 λH11 H12 pt x y s11 f11 sx sy rb u=>nx _ _ ⟨_,_,_,qs++[(pt,x,y)],rfl,by simp[hl],⟨by rw[u.now];simp,λq hq=>?_⟩,λq hq=>?_,?_⟩
     ·rcases List.mem_append.mp hq with hq|hq
      ·exact⟨u.t _ _ (s11 _ _ ((P10.line L9 npl).crn q hq).1),(L9.crn q hq).2⟩
      ·rw[List.mem_singleton.mp hq]
       exact⟨u.t _ _ f11,sx,sy⟩
     ·rcases List.mem_append.mp hq with hq|hq
      ·exact B7.le (Nat.le_succ i) q hq
      ·exact rb q hq
     ·have P11:=(P79.trans P10).grow s11
      obtain⟨n11,e11⟩:=P11.now;exact⟨λb o nb e=>u.at (λz=>by rw[z,h6]at e;cases e) (P11.oth b o nb e),P11.was,⟨n11,u.at npl.symm e11⟩⟩
    refine⟨_,rfl,rfl,_,rfl,aZ (λc1=>?_) (λc1=>?_)⟩
    ·refine⟨_,rfl,_,_,rfl,rfl,?_⟩
     refine⟨_,rfl,rfl,_,rfl,aZ (λc2=>?_) (λc2=>?_)⟩
     ·have q1:=bC c1
      have q2:=bC c2;rw[q1]at q2;cases q2
     ·exact fin _ H9 _ _ (Pl.refl e9) (by omega) (by omega) λ_ _ h=>h
    ·refine⟨_,rfl,rfl,_,rfl,aZ (λc2=>?_) (λc2=>?_)⟩
     ·refine⟨_,rfl,_,rfl,_,_,rfl,rfl,(by show(0:Int)<2;decide),_,_,rfl,rfl,CM.l ⟨by decide,by decide⟩,?_⟩
      refine⟨_,rfl,p,_,_,rfl,e9,⟨by decide,by decide⟩,λr10 H10 a10 b10 P10=>?_⟩;have g2:=Int.emod_nonneg (1+r8) (show(2:Int)≠0 by decide);have g3:=Int.emod_lt_of_pos (1+r8) (show(0:Int)<2 by decide);have hz:∀z:Int,0<=z->z<2->z=0\/z=1:=λz _ _=>by omega
      refine⟨_,_,rfl,rfl,CM.l (by rw[e64];omega),_,_,rfl,rfl,?_⟩;refine fin _ H10 _ _ P10 ?_ (by decide) λ_ _ h=>h;rcases hz _ g2 g3 with e|e <;> rcases hz _ a10 b10 with e'|e' <;> rw[e,e'] <;> omega
     ·exact fin _ H9 _ _ (Pl.refl e9) (by omega) (by omega) λ_ _ h=>h
   ·rintro σ H7 ⟨z6,z7,z8,qs,rfl,hl,L7,B7,P7⟩
    exact⟨_,rfl,k l qs H7 L7 (by omega) (by omega) h6 P7⟩
  obtain⟨u,hu,hR⟩:=R;refine⟨_,(ai (au (i:=2) zA.nd rfl (Or.inl rfl) (ao aO af (aA zn (hr.mono (by decide)) (by rfl) (ad (pv 0) (ad (pv 1) ag))))) (ai (au (i:=3) zA.nd rfl (Or.inl rfl) (aA zn (hr.mono (by decide)) (by rfl) (ad (pv 0) (ad af ag)))) hu)),?_⟩;refine⟨_,rfl,_,rfl,p,_,_,rfl,ep,⟨hm0,ar (bsm (by omega) (by omega)) (by decide)⟩,λr1 H1 a1 b1 P1=>⟨_,_,rfl,rfl,?_⟩⟩;obtain⟨n1,e1⟩:=P1.now;exact⟨_,rfl,p,_,_,rfl,e1,⟨by decide,by decide⟩,λr2 H2 a2 b2 P2=>hR H2 _ _ _ _ _ _ _ (by omega) (by omega) a2 b2 (P1.trans P2)⟩
theorem oh{K:W.Frag}{H:Hp}{a:Addr}{oc:Value}{od:Option Addr}{its:Array Value}{n:Nat}{sl:Array (Option Value)}{xs:List V}(hk:K.lookup a=some ⟨oc,od,.seq its n,sl⟩)(hc:oc = .type "tuple")(hz:its.size<=100)(r:aJ xs its.toList):TpK K H a xs :=
 .inr ⟨_,its,n,hk,hc,rfl,Nat.le_of_lt (aR (by omega)),r⟩
theorem qd{X:Cx}{K:W.Frag}(h:X.K=K):cU X (.builtin "len") (EE K):=h▸aL
theorem uq(a:Int):lowB a 1=true:=by
 simp[lowB]
theorem iq{H:Hp}{p:Addr}{n:Nat}{zs:List Int}(e:H p=some (.lst (zs.map V.int))):Rp H (n+1) (.ref p) (.lst (zs.map D.int)):=.lst e (by rw[List.length_map,List.length_map]) λj x d h k=>by
 rw[List.getElem?_map]at h k;obtain⟨z,hz,rfl⟩:=Option.map_eq_some_iff.mp h;rw[hz]at k;cases k;exact .int
noncomputable def kpi(n:Nat):List Int:=if n=1 then [0] else [0,(n:Int) - 1]
theorem vB(n:Nat):kpt n=(kpi n).map V.int:=by
 unfold kpt kpi
 split <;> rfl
noncomputable def mki(n:Nat):List Int:=(List.range n).map mk1
theorem x5(n:Nat):mks n=(mki n).map V.int:=by
 unfold mks mki;rw[List.map_map];rfl
theorem qW(n:Nat):mki (n+1)=0::List.replicate n 1:=by
 unfold mki;rw[List.range_succ_eq_map,List.map_cons,List.map_map]
 congr 1
 refine List.eq_replicate_iff.mpr ⟨by simp,λb hb=>?_⟩;obtain⟨i,_,rfl⟩:=List.mem_map.mp hb;rfl
theorem fU{H:Hp}{l:Addr}{qs:Crn}(L:LineM H l qs):Rp H 9 (.ref l) (.lst (qs.map λq=>.tup [.int q.2.1,.int q.2.2])):=.lst L.lst (by simp) λj x d a b=>by
 rw[List.getElem?_map]at a b;obtain⟨q,hq,rfl⟩:=Option.map_eq_some_iff.mp a;rw[hq]at b;cases b;exact Rp.t2 (L.crn q (List.mem_of_getElem? hq)).1 .int .int
theorem BT:zf ["script","line","handed","at","pool","found","ends","marks"] ["script"] (ak (top 99)):=smk
theorem wW{t_kept_of:Addr}(FF:Df K mg "law" (top 99))(BE:Fn P w K mg base "_law_row" ["pool","most"] 2 Eo)(AR:Fn P w K mg base "_law_pool" ["script","at"] 2 (Dy K))(BG:Fn P w K mg base "_law_odd" ["pool"] 2 Ev)(Bj:Fn P w K mg base "_law_told" ["line","square"] 14 Dw)(BH:Fn P w K mg base "_law_far" ["line"] 1 Ey)(Ap:Fx P w K mg base "thinned" ["line","square"] 13 [] (EH CQ t_kept_of))(T:Txt mg):Fn P w K mg base "law" ["script"] 15 (mO K [t_kept_of]):=by
 refine FF.fn BT (λ_ _ _ _ _ _ us hl=>by obtain⟨_,rfl⟩:=d9 hl;rfl) (λvs H Q E h=>?_) (λf cdv A outer s H vs Q E hr h=>?_)
 ·obtain⟨sa,ss,rfl,_⟩:=h
  rfl
 ·obtain⟨sa,ss,rfl,hS,hlen,htab,fin⟩:=h
  have C1:A6 (aX CX0 P w K mg base ["script","line","handed","at","pool","found","ends","marks"] "law" (ak (top 99)) f cdv A outer s H E).nox (lcA (top 99) 0) [] "corner" [] :=
   ⟨by rfl,rfl,by decide +kernel,by decide +kernel,rfl,(λp hp=>nomatch hp),by rfl,by decide +kernel,(λp hp=>nomatch hp),⟨rfl,rfl⟩,rfl⟩
  have C2:A6 (aX CX0 P w K mg base ["script","line","handed","at","pool","found","ends","marks"] "law" (ak (top 99)) f cdv A outer s H E).nox (lcA (top 99) 1) [] "walk" [] :=
   ⟨by rfl,rfl,by decide +kernel,by decide +kernel,rfl,(λp hp=>nomatch hp),by rfl,by decide +kernel,(λp hp=>nomatch hp),⟨rfl,rfl⟩,rfl⟩
  have hs63:(ss.map V.int).length<=63:=by rw[List.length_map];exact hlen
  have TB:Tab H t_kept_of lsK:=sU (htab _ List.mem_cons_self);refine⟨_,(ai (au (i:=1) BT.nd rfl (Or.inl rfl) (aA BE (hr.mono (by decide)) (by rfl) (ad (aA AR (hr.mono (by decide)) (by rfl) (ad (pv 0) (ad af ag))) (ad af ag)))) (ai (au (i:=2) BT.nd rfl (Or.inl rfl) (jM jw (by rfl) T.z_list o9 (ad (pv 1) ag))) (ai (bI PassesOwn.never rfl (eX rfl T.z_range (ad af (ad (aI (jY rfl) (by rfl) T.z_max sF (ad af (ad (aI (p9 rfl) (by rfl) T.z_min nU (ad af (ad (aI aL (by rfl) T.z_len cz (ad (pv 0) ag)) ag))) ag))) ag))) (aK (i:=3) BT.nd rfl (Or.inl rfl)) (ai (au (i:=4) BT.nd rfl (Or.inl rfl) (aA AR (hr.mono (by decide)) (by rfl) (ad (pv 0) (ad (pv 3) ag)))) (am (aQ (dZ (aB (iR hr.units10) (aA Bj (hr.mono (by decide)) (by rfl) (ad (pv 2) (ad (aA BG (hr.mono (by decide)) (by rfl) (ad (pv 4) ag)) ag))) (aU (ad dn (ad dn (ad dn (ad dn ag))))) (aC _)) (eC (aB (iR hr.units10) (pv 2) (pv 1) (aC _)))).pt (am (az dn)) aE)))) (ai (au (i:=5) BT.nd rfl (Or.inl rfl) (iQ Ap (hr.mono (by decide)) (by rfl) (ad (pv 2) (ad (ay (ad (aA BH (hr.mono (by decide)) (by rfl) (ad (pv 1) ag)) (ad af ag))) ag)))) (@ai _ _ _ _ _ (@au _ _ 6 _ _ _ _ BT.nd rfl (Or.inl rfl) (@aw _ _ _ _ _ _ _ bA (@aU _ _ _ _ (@ad _ _ _ _ _ (@aU _ _ _ _ (@ad _ _ _ _ _ af ag (by rfl))) (@ad _ _ _ _ _ (@aU _ _ _ _ (@ad _ _ _ _ _ af (@ad _ _ _ _ _ (ao aM (aI aL (by rfl) T.z_len cz (ad (pv 1) ag)) af) ag (by rfl)) (by rfl))) ag (by rfl)) (by rfl))) (jM qe (by rfl) T.z_int sG (ad (eY iS (aI aL (by rfl) T.z_len cz (ad (pv 1) ag)) af (aC _)) ag)) (λ_ _=>rfl)) (by rfl) (by first|exact .inl rfl|exact .inr rfl|assumption)) (ai (au (i:=7) BT.nd rfl (Or.inl rfl) (ao ix (aU (ad af ag)) (dF rfl C1 (cW (fR fL (pv 1) (fQ af) kj)) (λfp s₀ H₀=>af)))) (ai (aQ (dZ (aB (iR hr.units10) (aw av (pv 5) af (λ_ _=>rfl)) (pv 6) (aC _)) (dZ (aB (iR hr.units10) (aw av (pv 5) af (λ_ _=>rfl)) (pv 7) (aC _)) (dZ (aB (iR hr.units10) (aw av (pv 5) af (λ_ _=>rfl)) (aU ag) (aC _)) (eC (aB lD (aI aL (by rfl) T.z_len cz (ad (aw av (pv 5) af (λ_ _=>rfl)) ag)) (ao aM (aI aL (by rfl) T.z_len cz (ad (pv 6) ag)) af) (aC _)))))).pt (am (az dn)) aE) (am (az (kr (eY (wA hr.units10) (pv 2) (pv 1) (aC _)) (km (aI (sD rfl) (by rfl) T.z_all xi (ad (dF rfl C2 (cW (aw av (pv 5) af (λ_ _=>rfl))) (λfp s₀ H₀=>(kr (aI dw (by rfl) T.z_isinstance bo (ad (pv 0) (ad (lz T.z_list o9) ag))) (km (eY iS (aI (qd (K:=K) rfl) (by rfl) T.z_len cz (ad (pv 0) ag)) af (aC _)))))) ag))))))))))))),?_⟩
  refine⟨_,rfl,sa,ss,0,rfl,hS,by decide,by decide,λp0 m0 H0 s0 np0 f0=>?_⟩;refine⟨p0,_,5,rfl,f0,⟨by decide,by decide⟩,λl qs H1 L1 h1 h5 nl P1=>?_⟩;have S1:Same H H1:=P1.same s0 np0;refine⟨_,rfl,l,_,rfl,.inl (SqL.of L1.lst),λhd H2 s2 e2 n2=>?_⟩;have L2':=L1.mono s2;have LF:LineM H2 hd qs:=⟨e2,L2'.crn⟩;have S2:Same H H2:=S1.trans s2;have T2:=TB.same S2;have Q2:SqL K H2 sa (ss.map V.int):=S2.seq hS;refine⟨_,rfl,sa,_,rfl,.inl Q2,_,_,rfl,_,_,rfl,_,_,rfl,?_⟩;have hJ:2<=(if (if (((ss.map V.int).length:Nat):Int)<13 then (((ss.map V.int).length:Nat):Int) else 13)>2 then (if (((ss.map V.int).length:Nat):Int)<13 then (((ss.map V.int).length:Nat):Int) else 13) else 2)/\(if (if (((ss.map V.int).length:Nat):Int)<13 then (((ss.map V.int).length:Nat):Int) else 13)>2 then (if (((ss.map V.int).length:Nat):Int)<13 then (((ss.map V.int).length:Nat):Int) else 13) else 2)<=13:=by
   split <;> split <;> omega
  generalize (if (if (((ss.map V.int).length:Nat):Int)<13 then (((ss.map V.int).length:Nat):Int) else 13)>2 then (if (((ss.map V.int).length:Nat):Int)<13 then (((ss.map V.int).length:Nat):Int) else 13) else 2)=J at hJ
  have e62:(2:Int)^62=4611686018427387904:=by decide
  refine⟨by rw[e62];omega,bR (n:=(J - 1).toNat) (lo:=1) (λ_ σ H7=>∃z3 z4 z5 z6 z7,σ = [some (.ref sa),some (.ref l),some (.ref hd),z3,z4,z5,z6,z7]/\br H2 H7/\Tab H7 t_kept_of lsK) ⟨_,_,_,_,_,rfl,br.refl _,T2⟩ ?_ ?_⟩
  ·rintro i σ H7 hi ⟨z3,z4,z5,z6,z7,rfl,N7,T7⟩
   refine⟨_,rfl,_,rfl,sa,ss,_,rfl,N7.seq Q2,by omega,by omega,λpp np H8 s8 n8 f8=>?_⟩;have N8:=N7.trans (.of s8);refine⟨_,rfl,_,rfl,pp,_,rfl,f8,λv H9 od P9=>?_⟩;have N9:=N7.trans (P9.sameN (.of s8) n8);have T9:Tab H9 t_kept_of lsK:=P9.tab (T7.same s8);refine⟨hd,qs,v,rfl,N9.line LF,⟨h1,by omega⟩,od.1,od.2,λr14 H14 s14 f14=>⟨sz (by simp),λr15 H15 s15 f15 n15=>?_⟩⟩;refine⟨_,_,Rp.l4 (n:=8) (s15 _ _ f14) .bl .bl .bl .bl,Rp.l4 (n:=8) f15 .bl .bl .bl .bl,?_⟩;rw[dh];have N15:=N9.trans (.of (s14.trans s15));refine⟨_,rfl,g8 ?_⟩;refine⟨_,rfl,_,rfl,_,_,fU (N15.line LF),fU (N15.line L2'),?_⟩;rw[dh];exact⟨_,rfl,bU (by simp) ⟨_,_,_,_,_,rfl,N15,T9.same (s14.trans s15)⟩⟩
  ·rintro σ H7 ⟨z3,z4,z5,z6,z7,rfl,N7,T7⟩
   have LF7:=N7.line LF;have LL7:=N7.line L2';refine⟨_,rfl,_,rfl,l,qs,rfl,LL7,by omega,λfar H8 s8 g1 gf g26=>⟨sz (by simp),λt9 H9 s9 f9 n9=>?_⟩⟩;have S9:=s8.trans s9;rw[show(10:Int)^26=100000000000000000000000000 by decide]at g26;have sq9:Sq H9 t9 far 1:=⟨f9,ar (bM (n:=100) (by show _<1267650600228229401496703205376;omega)) (by decide),by decide⟩;refine⟨hd,qs,.ref t9,rfl,LF7.mono S9,⟨h1,by omega⟩,xz sq9,.inr ⟨vW sq9 (uq _) (by omega),t9,far,1,rfl,⟨sq9,by decide,by omega⟩,λu hu v hv=>by have:=gf u hu v hv;omega,T7.same S9,λu k w m f H10 N10 T10 eu ek W em ef=>?_⟩⟩;have N2:=N7.trans ((br.of S9).trans N10);have LL:=N2.line L2';refine⟨sz (by simp),λa1 H11 s11 f11 n11=>?_⟩;refine⟨_,rfl,l,_,rfl,.inl (SqL.of (s11 _ _ LL.lst)),_,_,rfl,rfl,sz (by simp),λa2 H12 s12 f12 n12=>⟨sz (by simp),λa3 H13 s13 f13 n13=>?_⟩⟩;have S13:=s11.trans (s12.trans s13);have hlq:(qs.map λ(q:Addr×Int×Int)=>V.ref q.1).length=qs.length:=List.length_map _;refine⟨_,rfl,l,_,rfl,.inl (SqL.of (S13 _ _ LL.lst)),_,_,rfl,rfl,.inr ⟨_,rfl,?_⟩⟩;rw[hlq]at f12 ⊢;obtain⟨ea,hat,fa⟩:∃ea,atI [V.ref a1,V.ref a2] (if decide (1<(qs.length:Int))=true then 1 else 0)=some (.ref ea)/\H13 ea=some (.lst ((kpi qs.length).map V.int)):=by
    by_cases z:qs.length=1
    ·rw[z]
     exact⟨a1,rfl,s13 _ _ (s12 _ _ f11)⟩
    ·rw[if_pos (decide_eq_true (by omega))]
     refine⟨a2,rfl,?_⟩;unfold kpi;rw[if_neg z];exact s13 _ _ f12
   refine⟨a3,_,_,_,rfl,rfl,SqL.of f13,hat,?_⟩;refine⟨sz (by simp),λb1 H14 s14 f14 n14=>?_⟩;have S14:=S13.trans s14;refine⟨_,rfl,_,rfl,l,_,rfl,SqL.of (S14 _ _ LL.lst),λb2 H15 s15 f15 n15=>⟨b2,rfl,⟨_,SqL.of f15⟩,?_⟩⟩;have ecut:(fF (qs.map λ(q:Addr×Int×Int)=>V.ref q.1) (some 1) none).length=qs.length - 1:=by
    rw[show(some 1:Option Int)=some ((1:Nat):Int) from rfl,xf (k:=1) (by rw[hlq];omega),List.length_drop,hlq]
   refine kR (K:=K) (SqL.of f15) (by omega) (λ_ v _=>v = .int 1) (λ_ _ _ _ _ h=>h) (λi x H16 Kc hx s16 kk=>kk _ _ (Same.refl _) rfl) (λb3 ys H16 hl16 s16 e16 hn hy=>?_);rw[ecut]at hn;have ey:[V.int 0]++ys=(mki qs.length).map V.int:=by
    obtain⟨n,hn'⟩:∃n,qs.length=n+1:=⟨qs.length - 1,by omega⟩;rw[hn',qW,List.map_cons,List.map_replicate];show V.int 0::ys=_
    congr 1
    refine List.eq_replicate_iff.mpr ⟨by omega,λb hb=>?_⟩;obtain⟨i,hi⟩:=List.mem_iff_getElem?.mp hb;exact hy i b hi
   refine⟨b1,b3,_,_,rfl,rfl,s16 _ _ (s15 _ _ f14),e16,sz (by simp;omega),λmm H17 s17 f17 n17=>?_⟩;rw[ey]at f17;have S17:=s14.trans (s15.trans (s16.trans s17));have SS:=S13.trans S17;have eu':=SS _ _ eu;have ek':=SS _ _ ek;rw[vB]at ek';have em':=SS _ _ em;rw[x5]at em';refine⟨_,rfl,u,_,_,_,rfl,rfl,SqT.of eu',rfl,_,rfl,_,_,iq (n:=8) ek',iq (n:=8) (S17 _ _ fa),?_⟩;rw[dh];refine⟨_,rfl,g8 ?_⟩;refine⟨_,rfl,u,_,_,_,rfl,rfl,SqT.of eu',rfl,_,rfl,_,_,iq (n:=8) em',iq (n:=8) f17,?_⟩;rw[dh];refine⟨_,rfl,g8 ?_⟩;refine⟨_,rfl,u,_,_,_,rfl,rfl,SqT.of eu',rfl,sz (by simp),λb5 H18 s18 f18 n18=>⟨_,_,Rp.l0 (n:=8) (s18 _ _ (SS _ _ ef)),Rp.l0 (n:=8) f18,?_⟩⟩;rw[dh];refine⟨_,rfl,g8 ?_⟩;obtain⟨ws,ew,lw,hw⟩:=W;have ew':=s18 _ _ (SS _ _ ew);refine⟨_,rfl,u,_,_,_,rfl,rfl,SqT.of (s18 _ _ eu'),rfl,w,_,rfl,.inl (SqL.of ew'),_,rfl,ea,_,rfl,.inl (SqL.of (s18 _ _ (S17 _ _ fa))),_,_,rfl,rfl,rfl,?_⟩;have lkk:((ws.length:Nat):Int)=((((kpi qs.length).map V.int).length:Nat):Int) - 1:=by
    rw[vB]at lw;have:1<=((kpi qs.length).map V.int).length:=by
     unfold kpi
     split <;> simp
    omega
   refine⟨_,rfl,bU (by rw[lkk];simp) ?_⟩;have N18:=(N10.trans (.of (SS.trans s18)));have N18:=N7.trans ((br.of S9).trans N18);refine⟨_,rfl,_,rfl,_,_,fU (N18.line LF),fU (N18.line L2'),?_⟩;rw[dh];refine⟨_,rfl,cj (by simp) ?_⟩;have lwn:ws.length<1000:=by
    have:=oM qs.length;omega
   refine⟨_,rfl,u,_,_,_,rfl,rfl,SqT.of (s18 _ _ eu'),rfl,w,rfl,⟨_,SqL.of ew'⟩,?_⟩;refine kR (K:=K) (SqL.of ew') lwn (λ_ v _=>v = .bl true) (λ_ _ _ _ _ h=>h) (λi x H19 Kc hx s19 kk=>?_) (λb6 ys H19 hl19 s19 e19 hn hy=>?_)
   ·obtain⟨r,ps,rfl,PP,l2⟩:=hw x (List.mem_of_getElem? hx)
    have PP:=PP.mono (SS.trans (s18.trans s19));refine⟨_,rfl,.ref r,_,"list",rfl,.lst PP.lst,.inr (.inr (.inr (.inl rfl))),_,rfl,cj (by decide) ?_⟩;refine⟨_,rfl,r,_,rfl,.inl (SqL.of PP.lst),_,_,rfl,rfl,kk _ _ (Same.refl _) ?_⟩;exact congrArg V.bl (decide_eq_true (by rw[fP];omega))
   have ey':ys=(List.replicate ys.length true).map V.bl:=by
    rw[List.map_replicate];refine List.eq_replicate_iff.mpr ⟨rfl,λb hb=>?_⟩;obtain⟨i,hi⟩:=List.mem_iff_getElem?.mp hb;exact hy i b hi
   rw[ey']at e19;refine⟨b6,_,rfl,SqL.of e19,?_⟩;rw[show(List.replicate ys.length true).all id=true from List.all_eq_true.mpr λb hb=>(List.mem_replicate.mp hb).2];exact fin _
end
theorem hLeft:W.LeftO Challenge.rw_oneleash_k53_thinning_refused.prog hView hLoose (λ_=>true) (W.Hook.obs (Hd.hookT hFacts hGood)) (W.Hook.val (Hd.hookT hFacts hGood)) 100000:=yY
theorem hTabOk{K:W.Frag}(FK:hFacts K=hGood):hTabs.all (Hd.tabFact K)=true:=(congrArg Prod.fst (congrArg Prod.snd (congrArg Prod.snd (congrArg Prod.snd (congrArg Prod.snd FK)))))
theorem all_of{P:Program}{w:World}{K0 K:W.Frag}(eK:K=Hd.strip K0)(FK0:hFacts K0=hGood){h:Heap}{mg:Str->Option Value}{fa:Addr}(X:K.In h)(G:h.Ns mainGlobals mg)(hfa:mg "law" = some (.ref fa)) :
  ∃fd:FuncData,(∀(s:Shared) (v:Value),BindsTo s fd ⟨[v],[]⟩ [("script",v)])/\∀base:Heap,K.In base->base.Ns mainGlobals mg->AT P w K mg base CX0 15 fa fd ["script"] (mO K (hTabs.map (Hd.tabP K0))):=by
 have FK:(hF0 K,hF1 K,hF2 K,hF3 K,hF4 K0)=hGood:=by
  rw[eK];exact FK0
 have H0:(fY.map (λp=>Hd.fnFact K p.1):List (Option (Arguments×List Stmt×Scope×Value)))=fY.map (λp=>some (aP (top p.2),aH (top p.2),ak (top p.2),.none)):=congrArg Prod.fst FK;have dH0:∀i {n:Str} {t:Nat},fY[i]? = some (n,t)->Df K mg n (top t):=λi _ _ e=>Hd.df_of X G (Hd.at_map H0 i e);have q_1:=congrArg Prod.snd FK;have H1:(fX.map (λp=>Hd.fnFact K p.1):List (Option (Arguments×List Stmt×Scope×Value)))=fX.map (λp=>some (aP (top p.2),aH (top p.2),ak (top p.2),.none)):=congrArg Prod.fst q_1;have dH1:∀i {n:Str} {t:Nat},fX[i]? = some (n,t)->Df K mg n (top t):=λi _ _ e=>Hd.df_of X G (Hd.at_map H1 i e);have q_2:=congrArg Prod.snd q_1;have H2:(fW.map (λp=>Hd.fnFact K p.1):List (Option (Arguments×List Stmt×Scope×Value)))=fW.map (λp=>some (aP (top p.2),aH (top p.2),ak (top p.2),.none)):=congrArg Prod.fst q_2;have dH2:∀i {n:Str} {t:Nat},fW[i]? = some (n,t)->Df K mg n (top t):=λi _ _ e=>Hd.df_of X G (Hd.at_map H2 i e);have q_3:=congrArg Prod.snd q_2;have q_4:=congrArg Prod.fst q_3;have H3:(iz.map (λp=>Hd.fnFactD K p.1):List (Option (Arguments×List Stmt×Scope×List V)))=iz.map (λp=>some (aP (top p.2.1),aH (top p.2.1),ak (top p.2.1),p.2.2)):=congrArg Prod.fst q_4;have q_5:=congrArg Prod.snd q_4;have H4:(wU.all (Hd.excFact K):Bool)=true:=congrArg Prod.fst q_5;have eO:∀i {x:Str},wU[i]? = some x->Ac K mg x (Hd.cls K x):=λi _ e=>Hd.exc_of X G (Hd.at_all H4 i e);have q_6:=congrArg Prod.snd q_5;have H5:(hNo.all (Hd.noFact K):Bool)=true:=congrArg Prod.fst q_6;have zN:∀i {x:Str},hNo[i]? = some x->mg x=none:=λi _ e=>W.mg_none_of X G (Hd.no_of (Hd.at_all H5 i e));have q_7:=congrArg Prod.snd q_6;have H6:(uH.map (λp=>Hd.tupFact K p.1):List (Option (List V)))=uH.map (λp=>some p.2):=congrArg Prod.fst q_7;have q_8:=congrArg Prod.snd q_7;have H7:(yf.all (Hd.ownFact K):Bool)=true:=congrArg Prod.fst q_8;have q_9:=congrArg Prod.snd q_8;have H8:(hMt.map (λp=>Hd.mtFact K p.1 p.2.1 p.2.2.1):List (Option (Arguments×List Stmt×Scope×Value)))=hMt.map (λp=>some (aP p.2.2.2,aH p.2.2.2,ak p.2.2.2,.none)):=congrArg Prod.fst q_9;have q_10:=congrArg Prod.snd q_9;have H9:(yq K:List (Option (Option V)))=vH:=congrArg Prod.fst q_10;have q_11:=congrArg Prod.snd q_10;have H10:(yp K:List (Option (Option Value)))=vG:=congrArg Prod.fst q_11;have q_12:=congrArg Prod.snd q_11;have H11:(yo K:List (Bool))=vF:=congrArg Prod.fst q_12;have H12:(ym K:List (Option Bool))=vE:=congrArg Prod.snd q_12;have q_13:=congrArg Prod.snd q_3;have H13:(hTabs.all (Hd.tabFact K0):Bool)=true:=congrArg Prod.fst q_13;have q_14:=congrArg Prod.snd q_13;have H14:(Hd.bltFact (Hd.strip K0):Bool)=true:=congrArg Prod.fst q_14;have H15:(Hd.apart (hTabs.map (Hd.tabP K0)):Bool)=true:=congrArg Prod.snd q_14;have BP:FD K mg "kept_of" (top 89) (Hd.tabP K0 "kept_of"):=by
  subst eK;exact Hd.dft_of X G (Hd.at_map H2 9 rfl) (Hd.at_all H13 0 rfl)
 have Dg:Fu K mg "ratio" (top 19) [.int 1]:=Hd.dfd_of X G (Hd.at_map H3 0 rfl);have AN:=eO 0 (x:="LeashError") rfl;have Cf:=eO 1 (x:="NoDeed") rfl;have BC:=eO 2 (x:="NoFence") rfl;have Ce:=eO 3 (x:="NoLine") rfl;have BB:=eO 4 (x:="NoLines") rfl;have Cd:=eO 5 (x:="NoName") rfl;have Bz:=eO 6 (x:="NoPlace") rfl;have zw:=eO 7 (x:="NoRatio") rfl;have C8:=eO 8 (x:="NoRow") rfl;have zU:=eO 9 (x:="NoSquare") rfl;have Cc:=eO 10 (x:="NoText") rfl;have Cb:=eO 11 (x:="NoWalk") rfl;have C6:=eO 12 (x:="NoWay") rfl;have By:=eO 13 (x:="TooMany") rfl;have C0:=eO 14 (x:="Twice") rfl;have T:Txt mg:=⟨zN 0 rfl,zN 1 rfl,zN 2 rfl,zN 3 rfl,zN 4 rfl,zN 5 rfl,zN 6 rfl,zN 7 rfl,zN 8 rfl,zN 9 rfl,zN 10 rfl,zN 11 rfl,zN 12 rfl,zN 13 rfl,zN 14 rfl⟩;obtain⟨D0,od_BEGIN,its_BEGIN,n_BEGIN,sl_BEGIN,EG,DV,B0⟩:=Hd.tup_of (Hd.at_map H6 0 rfl);obtain⟨EZ,od_END,its_END,n_END,sl_END,Fv,EV,DW⟩:=Hd.tup_of (Hd.at_map H6 1 rfl);have BF:vn K mg:=by
  subst eK;exact Hd.blt_of X G H14
 have D4:(W.nsIn K mainGlobals "UPRIGHT").map (λo=>o.map Hd.bareV)=some (some (.int 0)):=Hd.at_two H9 0 rfl rfl;have EN:(W.nsIn K mainGlobals "LEVEL").map (λo=>o.map Hd.bareV)=some (some (.int 1)):=Hd.at_two H9 1 rfl rfl;have sa_Field:W.findIn K (.ref (Hd.cls K "Field")) "__setattr__" = some (some (.builtin "object.__setattr__")):=Hd.at_two H10 0 rfl rfl;have n_room:W.findIn K (.ref (Hd.cls K "Field")) "room" = some none:=Hd.at_two H10 1 rfl rfl;have n_last:W.findIn K (.ref (Hd.cls K "Field")) "last" = some none:=Hd.at_two H10 2 rfl rfl;have n_doors:W.findIn K (.ref (Hd.cls K "Field")) "doors" = some none:=Hd.at_two H10 3 rfl rfl;have n_far:W.findIn K (.ref (Hd.cls K "Field")) "far" = some none:=Hd.at_two H10 4 rfl rfl;have sm:(K.lookup sysModules).isSome=true:=Hd.at_two H11 0 rfl rfl;have Do:W.findIn K (.ref (Hd.cls K "NoSquare")) "__getattribute__" = some (some (.builtin "BaseException.__getattribute__")):=Hd.findR_eq (Hd.fE_ga K) (Hd.at_two H11 1 rfl rfl);have Dn:W.findIn K (.ref (Hd.cls K "NoSquare")) "__getattr__" = some none:=Hd.findR_eq (Hd.fE_gn K) (Hd.at_two H11 2 rfl rfl);have Dm:W.findIn K (.ref (Hd.cls K "NoSquare")) "__class__" = some (some (.builtin "object.__class__")):=Hd.findR_eq (Hd.fE_cl K) (Hd.at_two H11 3 rfl rfl);have Bc:W.exmOne K (.ref (Hd.cls K "NoSquare")) (.ref (Hd.cls K "LeashError"))=some true:=Hd.exmR_one (Hd.at_two H12 0 rfl rfl);have is_NoSquare:W.kitOne K (.ref (Hd.cls K "NoSquare")) (.ref (Hd.cls K "NoSquare"))=some true:=Hd.kitR_one (Hd.at_two H12 1 rfl rfl);have AV:W.kitOne K (.ref (Hd.cls K "NoSquare")) (.type "ValueError")=some true:=Hd.kitT_one (Hd.at_two H12 2 rfl rfl);have i9_NoSquare:W.kitAny K (.ref (Hd.cls K "NoSquare")) [(.ref (Hd.cls K "NoDeed")),(.ref (Hd.cls K "NoFence")),(.ref (Hd.cls K "NoLine")),(.ref (Hd.cls K "NoLines")),(.ref (Hd.cls K "NoName")),(.ref (Hd.cls K "NoPlace")),(.ref (Hd.cls K "NoRatio")),(.ref (Hd.cls K "NoRow")),(.ref (Hd.cls K "NoText"))]=some false:=Hd.kitRs_any (Hd.at_two H12 3 rfl rfl);have i4_NoSquare:W.kitAny K (.ref (Hd.cls K "NoSquare")) [(.ref (Hd.cls K "NoWalk")),(.ref (Hd.cls K "NoWay")),(.ref (Hd.cls K "TooMany")),(.ref (Hd.cls K "Twice"))]=some false:=Hd.kitRs_any (Hd.at_two H12 4 rfl rfl);have zj:CZ K mg "Field" (Hd.cls K "Field"):=Hd.own_of X G (Hd.at_all H7 0 rfl) sa_Field;have AD:FE K (Hd.cls K "Field") "__init__" "Field.__init__" (uh 51 0):=Hd.dfm_of (Hd.at_map H8 0 rfl);refine wK h hfa λbase=>?_;have hB:∀H,SqT K H D0 [.int 0,.int 0,.int 0,.int 1]:=λH=>SqT.mod DV rfl (Hd.vals_sz B0 (by decide)) B0;have hE:∀H,SqT K H EZ [.int 1,.int 0,.int 0,.int 1]:=λH=>SqT.mod EV rfl (Hd.vals_sz DW (by decide)) DW;have tB:∀H,TpK K H D0 [.int 0,.int 0,.int 0,.int 1]:=λH=>oh DV rfl (Hd.vals_sz B0 (by decide)) B0;have tE:∀H,TpK K H EZ [.int 1,.int 0,.int 0,.int 1]:=λH=>oh EV rfl (Hd.vals_sz DW (by decide)) DW;have iC_c_UPRIGHT:=Hd.int_of X G D4;have iC_c_LEVEL:=Hd.int_of X G EN;have iV_v_BEGIN:=W.mg_of X G EG;have iV_v_END:=W.mg_of X G Fv;have zM:=mf (P:=P) (w:=w) (base:=base) (dH0 0 rfl) T;have zv:=gz (P:=P) (w:=w) (base:=base) (dH0 1 rfl) T;have An:=rP Dg zw zM zv;have zk:=nu (P:=P) (w:=w) (base:=base) (dH0 4 rfl);have zo:=gM (P:=P) (w:=w) (base:=base) (dH0 5 rfl) T;have Ae:=gj (dH0 6 rfl) zk zo;have zZ:=fD (dH0 7 rfl) zk zo Ae;have D2:=wV (dH0 8 rfl) zZ;have zh:=jr D2;have zQ:=js (P:=P) (w:=w) (base:=base) (dH0 9 rfl);have zB:=h8 (dH0 11 rfl) zQ;have AZ:=kP (dH0 12 rfl) zB;have Av:=hZ (P:=P) (w:=w) (base:=base) (dH0 13 rfl) T;have zR:=eM (dH0 14 rfl) An T;have z9:=fE (dH0 15 rfl) zB AZ zR Av;have Az:=ig (dH0 10 rfl) zw zQ zk An;have Aw:=ia (dH0 16 rfl) zw zh Az z9;have Da:=uR (dH0 2 rfl) An;have Bl:=mh (dH0 3 rfl) zM zv T;have zr:=nG (P:=P) (w:=w) (base:=base) (dH1 2 rfl) T;have zH:=jb (dH0 18 rfl) zk;have Bf:=lV (P:=P) (w:=w) (base:=base) (dH1 0 rfl);have zu:=gu (dH0 17 rfl) zU Bl;have Ah:=ja (dH1 1 rfl) iV_v_BEGIN iV_v_END hB hE tB tE zH Bf zk zh;have Af:=gq (P:=P) (w:=w) (base:=base) (dH1 6 rfl);have AI:=je (dH1 5 rfl) zH T;have zP:=gh (P:=P) (w:=w) (base:=base) (dH1 3 rfl) T;have Bm:=mi (dH1 4 rfl) iC_c_UPRIGHT iC_c_LEVEL Ah zr T;have AC:=ik AD zj n_room n_last n_doors n_far zP zr Bm AI T;have Ay:=ie (dH1 8 rfl) iC_c_UPRIGHT Da;have Bn:=mj (P:=P) (w:=w) (base:=base) (dH1 13 rfl) iC_c_UPRIGHT iC_c_LEVEL;have Ax:=ib (dH1 14 rfl) zj n_room n_last n_doors n_far zh T;have Ag:=gw (P:=P) (w:=w) (base:=base) (dH1 12 rfl) zj n_room n_last n_doors n_far iC_c_UPRIGHT iC_c_LEVEL iV_v_BEGIN tB T;have Ak:=gN (dH1 15 rfl) zj n_room n_last n_doors n_far iC_c_UPRIGHT iC_c_LEVEL Ag Bn Ax T;have AY:=kO (dH1 7 rfl) iV_v_BEGIN iV_v_END hB hE zh Aw;have Bh:=l7 (dH1 17 rfl) D2;have AA:=ii (P:=P) (w:=w) (base:=base) (dH1 16 rfl) iC_c_UPRIGHT iC_c_LEVEL T;have Bg:=lX (dH1 18 rfl) Bh AY Ay;have Au:=hV (dH2 0 rfl) zj n_room n_last n_doors n_far Ak AA Bg Af T;have AO:=lW (P:=P) (w:=w) (base:=base) (dH1 9 rfl) T
 have AQ:=lY (dH1 10 rfl) AO T;have AH:=jc (P:=P) (w:=w) (base:=base) (dH2 11 rfl) T;have AR:=me (dH2 12 rfl) AH T;have zn:=md (P:=P) (w:=w) (base:=base) (dH2 13 rfl);have AS:=jt (P:=P) (w:=w) (base:=base) (dH1 11 rfl);have Dc:=rR (dH2 1 rfl) zj zu AC Au AQ AS;have Db:=rQ (dH2 2 rfl) Dc;have BD:=nA (P:=P) (w:=w) (base:=base) (dH2 3 rfl);have AX:=kN (P:=P) (w:=w) (base:=base) (dH2 4 rfl);have zx:=gO (dH2 5 rfl) zr T;have BJ:=nK (dH2 6 rfl) zx AX BD Db T;have zJ:=jd (P:=P) (w:=w) (base:=base) (dH2 7 rfl) T;have Bi:=l8 (dH2 8 rfl) zJ T;have BI:=nJ BP BF zJ zr T;have Ap:=nj (dH2 10 rfl) zu BJ Bi BI zx T;have BG:=nE (dH2 15 rfl) zn T;have Bj:=ma (dH2 16 rfl) AN zU Cf BC Ce BB Cd Bz zw C8 Cc Cb C6 By C0 Bc ⟨Do,Dn,Dm⟩ is_NoSquare AV i9_NoSquare i4_NoSquare Ap T;have BH:=nF (P:=P) (w:=w) (base:=base) (dH2 17 rfl) T;have BE:=nD (dH2 14 rfl) zn T;exact wW (dH2 18 rfl) BE AR BG Bj BH Ap T
end K53
end
open PySem PySem.W PyProof.Rows
lay_quick Challenge.pw_oneleash_k53_thinning_refused
set_option maxRecDepth 100000 in
set_option maxHeartbeats 0 in
theorem PySem.Challenge.cw_oneleash_k53_thinning_refused_holds : PySem.Challenge.rw_oneleash_k53_thinning_refused.Holds := by
 w_on;o_law
 refine holds_open (q:=K53.hView) (loose:=K53.hLoose) (Xt:=fun _=>true) (XP:=fun _ _=>True) (Yf:=Hook.obs (Hd.hookT K53.hFacts K53.hGood)) (Ya:=Hook.val (Hd.hookT K53.hFacts K53.hGood)) (YP:=Hook.says (Hd.hookT K53.hFacts K53.hGood)) (N:=100000) K53.hLeft (Hook.of _) (Hook.keeps _) (fun _ _=>trivial) (fun _ _ _ _ _=>trivial) (by rfl) (by rfl) (by rfl) (fun _ _=>recFacts_nil rfl) (by rfl) (by first|assumption|decide +kernel) (by decide +kernel) ⟨rfl,rfl,rfl,rfl,rfl,by decide +kernel⟩ ?hw ?hc
 case hw=>w_witness2
 exact Hd.law_walkT (names:=K53.hTabs) (l:=Challenge.rw_oneleash_k53_thinning_refused) (k:=15) ⟨rfl,by decide,by decide,rfl⟩ rfl rfl (fun K FK=>K53.hTabOk FK) fun K FK w mg fa h KX G hmg=>K53.all_of rfl FK KX G hmg
