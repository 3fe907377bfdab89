import PyProof.Rows.All
import Wide.All
import OpenK.AllK
import Wide.FinOn
import Lean
import PyProof.EqAt
import PyProof.EqKinds
import PyProof.TupleCall
import PyProof.ExcArgsOwn
import KE.KTryMore
import PyProof.NsDelKeeps
import PyProof.ConsumeWalk
import PyProof.ZipIter
import PyProof.WalksEnum
import PyProof.EnumMake
import PyProof.NeKinds
import PyProof.CompMap
import PyProof.DictWalks
import KE.KLam
import KE.KRevIter
import PyProof.ListRange
import PyProof.AttrMissHeap
import KE.KDictOf
import PySem.Challenge.RW_oneleash_k28_no_leash
local macro_rules | `(tactic| omega)=>`(tactic| lia)
section
set_option Elab.async false
set_option linter.all false
set_option maxRecDepth 100000
namespace L2
open PySem PySem.Spec PyProof.Rows
abbrev Key:=Sum Int Str
def k6:Key->Value->Bool
 | .inl k,v=>Value.isInt k v
 | .inr x,v=>Value.isStrOf x v
def zP(w:World):Key->Int
 | .inl k=>hashInt k
 | .inr x=>hashStr w x
theorem bK:∀{k:Key} {v:Value},k6 k v=true->(∃i t,k=Sum.inl i∧v=Value.int i t)∨(∃x t,k=Sum.inr x∧v=Value.str x t)
 | .inl i,v,h=>by
  obtain⟨t,e⟩:=Value.isInt_shape (k:=i) (v:=v) h;exact .inl ⟨i,t,rfl,e⟩
 | .inr x,v,h=>by
  obtain⟨t,e⟩:=Value.isStrOf_shape (x:=x) (v:=v) h;exact .inr ⟨x,t,rfl,e⟩
theorem qX(i:Int)(t:Tok):k6 (.inl i) (.int i t)=true:=by simp[k6,Value.isInt]
theorem qW(x:Str)(t:Tok):k6 (.inr x) (.str x t)=true:=by simp[k6,Value.isStrOf]
theorem xS(a b:Int):decide ((Sum.inl a:Key)=Sum.inl b)=(a == b):=by
 by_cases e:a=b
 ·subst e;simp
 ·have h:¬(Sum.inl a:Key)=Sum.inl b:=fun q=>e (Sum.inl.inj q)
  rw[decide_eq_false h];exact(beq_eq_false_iff_ne.mpr e).symm
theorem xP(a b:Str):decide ((Sum.inr a:Key)=Sum.inr b)=decide (a=b):=by
 by_cases e:a=b
 ·subst e;simp
 ·have h:¬(Sum.inr a:Key)=Sum.inr b:=fun q=>e (Sum.inr.inj q)
  rw[decide_eq_false h,decide_eq_false e]
theorem xR(a:Int)(b:Str):decide ((Sum.inl a:Key)=Sum.inr b)=false:=decide_eq_false (fun q=>nomatch q)
theorem xQ(a:Str)(b:Int):decide ((Sum.inr a:Key)=Sum.inl b)=false:=decide_eq_false (fun q=>nomatch q)
def bX(prog:Program)(w:World):PySem.KeyKind prog w Key where
 is:=k6
 hash:=zP w
 inj:=fun v a b ha hb=>by
  rcases bK ha with⟨i,t,rfl,rfl⟩|⟨x,t,rfl,rfl⟩
  ·rcases bK hb with⟨j,u,rfl,e⟩|⟨y,u,rfl,e⟩
   ·injection e with e1 _;rw[e1]
   ·exact nomatch e
  ·rcases bK hb with⟨j,u,rfl,e⟩|⟨y,u,rfl,e⟩
   ·exact nomatch e
   ·injection e with e1 _;rw[e1]
 byValue:=fun k v h=>by
  rcases bK h with⟨i,t,rfl,rfl⟩|⟨x,t,rfl,rfl⟩ <;> rfl
 pyHash:=fun hv h=>by
  rcases bK hv with⟨i,t,rfl,rfl⟩|⟨x,t,rfl,rfl⟩
  ·exact wpAny_pyHash_int h
  ·exact wpAny_pyHash_str h
 eqBool:=fun hu hv h=>by
  rcases bK hu with⟨i,t,rfl,rfl⟩|⟨x,t,rfl,rfl⟩
  ·rcases bK hv with⟨j,u,rfl,rfl⟩|⟨y,u,rfl,rfl⟩
   ·rw[xS]at h;exact wpAny_eqBool_int h
   ·rw[xR]at h;exact SeqAt.EqAt.int_str i t y u _ _ _ _ h
  ·rcases bK hv with⟨j,u,rfl,rfl⟩|⟨y,u,rfl,rfl⟩
   ·rw[xQ]at h;exact SeqAt.EqAt.str_int x t j u _ _ _ _ h
   ·rw[xP]at h;exact wpAny_eqBool_str h
 «strs»:=fun k x t v h=>by
  rcases bK h with⟨i,u,rfl,e⟩|⟨y,u,rfl,e⟩
  ·exact nomatch e
  ·injection e with e1 _
   subst e1;cases v <;> rfl
theorem mW(prog:Program)(w:World)(i:Int)(t:Tok):(bX prog w).is (.inl i) (.int i t)=true:=qX i t
theorem mV(prog:Program)(w:World)(x:Str)(t:Tok):(bX prog w).is (.inr x) (.str x t)=true:=qW x t
end L2
namespace L2
open PySem PySem.Spec PyProof.Rows
inductive V where
 | non|bl (b:Bool)|int (i:Int)|str (x:Str)|byt (b:Array UInt8)|flt (b:UInt64)|ref (a:Addr)|ty (n:String)
 deriving DecidableEq
def aU:V->Value->Prop
 | .non,u=>u=Value.none
 | .bl b,u=>u=Value.bool b
 | .int i,u=>∃t,u=Value.int i t
 | .str x,u=>∃t,u=Value.str x t
 | .byt b,u=>∃t,u=Value.bytes b t
 | .flt b,u=>∃t,u=Value.float b t
 | .ref a,u=>u=Value.ref a
 | .ty n,u=>u=Value.type n
abbrev aN:List V->List Value->Prop:=Paired aU
theorem aN.length{xs:List V}{us:List Value}(r:aN xs us):xs.length=us.length:=Paired.length r
theorem aN.get:∀{xs:List V} {us:List Value} {i:Nat} {x:V},aN xs us->xs[i]? = some x->∃u,us[i]? = some u∧aU x u
 | _,_,_,_,.nil,e=>by simp at e
 | _,_,0,_,.cons r _,e=>by simp at e;subst e;exact⟨_,rfl,r⟩
 | _,_,i+1,x,.cons _ t,e=>by
  obtain⟨u,h1,h2⟩:=aN.get (i:=i) (x:=x) t (by simpa using e);exact⟨u,by simpa using h1,h2⟩
theorem aN.set{x:V}{u:Value}(r:aU x u):∀{xs:List V} {us:List Value} (i:Nat),aN xs us->aN (xs.set i x) (us.set i u)
 | _,_,_,.nil=>.nil
 | _,_,0,.cons _ t=>.cons r t
 | _,_,i+1,.cons q t=>.cons q (aN.set r i t)
theorem aN.append:∀{xs ys:List V} {us ws:List Value},aN xs us->aN ys ws->aN (xs++ys) (us++ws)
 | _,_,_,_,.nil,s=>s
 | _,_,_,_,.cons r t,s=>.cons r (aN.append t s)
theorem aN.take:∀{xs:List V} {us:List Value} (n:Nat),aN xs us->aN (xs.take n) (us.take n)
 | _,_,0,_=>.nil
 | _,_,_+1,.nil=>.nil
 | _,_,n+1,.cons r t=>.cons r (aN.take n t)
theorem aN.drop:∀{xs:List V} {us:List Value} (n:Nat),aN xs us->aN (xs.drop n) (us.drop n)
 | _,_,0,r=>r
 | _,_,_+1,.nil=>.nil
 | _,_,n+1,.cons _ t=>aN.drop n t
def ix:Option V->Option Value->Prop
 | some v,some u=>aU v u
 | none,none=>True
 | _,_=>False
def KV{κ:Type}:List (κ×V)->List (κ×Value)->Prop:=Paired fun (p:κ×V) (q:κ×Value)=>p.1=q.1∧aU p.2 q.2
def kV:Key->V
 | .inl i=>.int i
 | .inr x=>.str x
inductive HO where
 /-- a list -/
 | lst (xs:List V)
 /-- a tuple (never changes) -/
 | tup (xs:List V)
 /-- a dict whose keys are ints and texts;one whose keys are tuples of ints and texts (the empty one is both) -/
 | dK (kvs:List (Key×V))|dT (kvs:List (List Key×V))
 /-- a set of ints: its members,its size -/
 | set (S:Int->Bool) (n:Nat)
 /-- an instance of the class at C,its dict at dx,its attributes -/
 | ins (C dx:Addr) (fs:List (Str×V))
 /-- the dict of the instance at x -/
 | own (x:Addr)
 /-- the dict of an exception -/
 | xd (fs:List (Str×V))
 /-- a bound method,f of x -/
 | met (f x:Addr)
 /-- a range object lo,lo+1,.. xb hi -/
 | rng (lo hi:Int)
 /-- a thing that is known to the object (the script;a dict while a loop walks it): read,never written while it is so -/
 | frz (o:Obj) (u:HO)
 /-- a code object's table -/
 | tbl (ps:Array Value)
 /-- any other thing,by what is true of its one object (a def of one's own: SetO a S n:=HO.ext fun h=>..) -/
 | ext (φ:Heap->Prop)
abbrev Hp:=Addr->Option HO
def upd(H:Hp)(a:Addr)(o:HO):Hp:=fun b=>if b=a then some o else H b
theorem upd_same{H:Hp}{a:Addr}{o:HO}:upd H a o a=some o:=by unfold upd;rw[if_pos rfl]
theorem aH{H:Hp}{a b:Addr}{o:HO}(h:b≠a):upd H a o b=H b:=by unfold upd;rw[if_neg h]
theorem tm{H:Hp}{a b:Addr}{o u:HO}(h:H a=some o)(h':H b=some u)(d:o≠u):a≠b:=by
 intro e;subst e;rw[h]at h';exact d (Option.some.inj h')
theorem aQ{H:Hp}{a b:Addr}{o:HO}(h:H a=some o)(h':H b=none):a≠b:=by
 intro e;subst e;rw[h]at h';cases h'
section
variable (P:Program) (w:World)
def a7(H:Hp)(h:Heap)(a:Addr):HO->Prop
 | .lst xs=>xs.length≤sizeLine∧∃(its:List Value) (n:Nat),aN xs its∧h.get? a=some { cls:=.type "list",data:=.seq its.toArray n }
 | .tup xs=>xs.length≤sizeLine∧∃its:List Value,aN xs its∧IsTup h a its.toArray
 | .dK kvs=>kvs.length≤sizeLine∧(a == sysModules)=false∧∃vs,KV kvs vs∧h.DictOf (bX P w) a vs
 | .dT kvs=>kvs.length≤sizeLine∧(a == sysModules)=false∧∃xs:List (List Key×Addr×Value),
   Paired (fun (p:List Key×V) (q:List Key×Addr×Value)=>p.1=q.1∧H q.2.1=some (.tup (p.1.map kV))∧aU p.2 q.2.2) kvs xs ∧
   ∃o es ep,h.get? a=some o∧o.ExactDict∧o.data = .dict es ep∧es.toList=xs.map (entryOfKey (tupleKind (bX P w)))∧(xs.map (·.1)).Nodup
 | .set S n=>h.SetOf (intKind P w) a S n
 | .ins C dx fs=>H dx=some (.own a)∧fs.length≤1000∧dx≠a∧h.get? a=some (W.instObj C dx) ∧
   ∃mA,h.Ns1 dx mA∧(∀f,ix (fs.lookup f) (mA f))∧PySem.Within mA (fs.map (·.1))
 | .own _=>∃o,h.get? a=some o
 | .xd fs=>∃mA,h.Ns1 a mA∧∀f,ix (fs.lookup f) (mA f)
 | .rng lo hi=>∃t u v,h.get? a=some { cls:=.type "range",data:=.fields #[.int lo t,.int hi u,.int 1 v] }
 | .frz o u=>h.get? a=some o∧a7 H h a u
 | .tbl ps=>h.get? a=some { cls:=.none,data:=.fields ps }
 | .met f x=>h.get? a=some (W.methodObj (.ref f) (.ref x))
 | .ext φ=>φ h∧(∃o,h.get? a=some o)∧∀h1 h2:Heap,φ h1->(∀o,h1.get? a=some o->h2.get? a=some o)->φ h2
def HOk(H:Hp)(h:Heap):Prop:=∀a o,H a=some o->a7 P w H h a o
end
section
variable {P:Program} {w:World} {H H':Hp} {h h':Heap} {a:Addr} {o:HO}
theorem a7.lt(x:a7 P w H h a o):a<h.objs.size:=by
 cases o with
 | lst xs=>obtain⟨_,_,_,_,e⟩:=x;exact Heap.lt_size e
 | tup xs=>obtain⟨_,_,_,p⟩:=x;exact p.lt
 | dK kvs=>obtain⟨_,_,_,_,o,_,_,e,_⟩:=x;exact Heap.lt_size e
 | dT kvs=>obtain⟨_,_,_,_,o,_,_,e,_⟩:=x;exact Heap.lt_size e
 | set S n=>obtain⟨o,_,_,_,e,_⟩:=x;exact Heap.lt_size e
 | ins C dx fs=>obtain⟨_,_,_,e,_⟩:=x;exact Heap.lt_size e
 | own y=>obtain⟨_,e⟩:=x;exact Heap.lt_size e
 | xd fs=>obtain⟨_,⟨_,_,_,e,_⟩,_⟩:=x;exact Heap.lt_size e
 | rng lo hi=>obtain⟨_,_,_,e⟩:=x;exact Heap.lt_size e
 | frz ob u=>obtain⟨e,_⟩:=x;exact Heap.lt_size e
 | tbl ps=>exact Heap.lt_size (show h.get? a=some _ from x)
 | met f y=>exact Heap.lt_size (show h.get? a=some _ from x)
 | ext φ=>obtain⟨_,⟨_,e⟩,_⟩:=x;exact Heap.lt_size e
theorem Paired.mapP{α β:Type}{F G:α->β->Prop}:∀{l₁:List α} {l₂:List β},Paired F l₁ l₂->(∀a b,F a b->G a b)->Paired G l₁ l₂
 | _,_,.nil,_=>.nil
 | _,_,.cons r t,f=>.cons (f _ _ r) (Paired.mapP t f)
theorem a7.stay(x:a7 P w H h a o)(k:∀b u,(b=a∨H b=some (.own a))->h.get? b=some u->h'.get? b=some u)
  (ho:∀b,H b=some (.own a)->H' b=some (.own a)) (ht:∀b xs,H b=some (.tup xs)->H' b=some (.tup xs)):a7 P w H' h' a o:=by
 induction o with
 | lst xs=>obtain⟨z,its,n,r,e⟩:=x;exact⟨z,its,n,r,k _ _ (.inl rfl) e⟩
 | tup xs=>obtain⟨z,its,r,ob,e,c⟩:=x;exact⟨z,its,r,ob,k _ _ (.inl rfl) e,c⟩
 | dK kvs=>obtain⟨z,y,vs,r,ob,es,ep,e,c⟩:=x;exact⟨z,y,vs,r,ob,es,ep,k _ _ (.inl rfl) e,c⟩
 | dT kvs =>
  obtain⟨z,y,xs,r,ob,es,ep,e,c⟩:=x;exact⟨z,y,xs,Paired.mapP r fun p q z=>⟨z.1,ht _ _ z.2.1,z.2.2⟩,ob,es,ep,k _ _ (.inl rfl) e,c⟩
 | set S n=>obtain⟨ob,es,ep,t,e,c⟩:=x;exact⟨ob,es,ep,t,k _ _ (.inl rfl) e,c⟩
 | ins C dx fs =>
  obtain⟨d,z,ne,e,mA,⟨od,es,ep,e2,c⟩,r⟩:=x;exact⟨ho _ d,z,ne,k _ _ (.inl rfl) e,mA,⟨od,es,ep,k _ _ (.inr d) e2,c⟩,r⟩
 | own y=>obtain⟨ob,e⟩:=x;exact⟨ob,k _ _ (.inl rfl) e⟩
 | xd fs=>obtain⟨mA,⟨od,es,ep,e,c⟩,r⟩:=x;exact⟨mA,⟨od,es,ep,k _ _ (.inl rfl) e,c⟩,r⟩
 | rng lo hi=>obtain⟨t,u,v,e⟩:=x;exact⟨t,u,v,k _ _ (.inl rfl) e⟩
 | frz ob u ih=>obtain⟨e,q⟩:=x;exact⟨k _ _ (.inl rfl) e,ih q⟩
 | tbl ps =>
  have e:h.get? a=some { cls:=.none,data:=.fields ps }:=x;show h'.get? a=some { cls:=.none,data:=.fields ps };exact k a _ (.inl rfl) e
 | met f y =>
  have e:h.get? a=some (W.methodObj (.ref f) (.ref y)):=x;show h'.get? a=some (W.methodObj (.ref f) (.ref y));exact k a _ (.inl rfl) e
 | ext φ=>obtain⟨p,⟨o,e⟩,st⟩:=x;exact⟨st _ _ p fun o q=>k _ _ (.inl rfl) q,⟨o,k _ _ (.inl rfl) e⟩,st⟩
theorem HOk.lt(x:HOk P w H h)(e:H a=some o):a<h.objs.size:=(x a o e).lt
theorem HOk.fresh(x:HOk P w H h)(e:h.objs.size≤a):H a=none:=by
 cases q:H a with
 | none=>rfl
 | some u=>exact absurd (Nat.lt_of_lt_of_le (x.lt q) e) (Nat.lt_irrefl _)
theorem HOk.kept(x:HOk P w H h)(k:∀b u,h.get? b=some u->h'.get? b=some u):HOk P w H h':=fun a o e =>
 (x a o e).stay (fun b u _ q=>k b u q) (fun _ q=>q) fun _ _ q=>q
theorem HOk.laid(x:HOk P w H h)(k:∀b u,h.get? b=some u->h'.get? b=some u)(hp:h.objs.size≤a)(new:a7 P w (upd H a o) h' a o):HOk P w (upd H a o) h':=fun b u e=>by
 have hn:=x.fresh hp
 by_cases hb:b=a
 ·subst hb;rw[upd_same]at e;cases e;exact new
 ·rw[aH hb]at e
  exact(x b u e).stay (fun c v _ q=>k c v q) (fun c q=>by rw[aH (aQ q hn)];exact q) fun c xs q=>by rw[aH (aQ q hn)];exact q
end
def Rd(H:Hp)(a:Addr)(u:HO):Prop:=H a=some u∨∃o,H a=some (.frz o u)
theorem Rd.ok{P:Program}{w:World}{H:Hp}{h:Heap}{a:Addr}{u:HO}(r:Rd H a u)(x:HOk P w H h):a7 P w H h a u:=by
 rcases r with r|⟨o,r⟩
 ·exact x a u r
 ·obtain⟨_,q⟩:=x a _ r
  exact q
def Mut:Option HO->Prop
 | some (.lst _)=>True
 | some (.dK _)=>True
 | some (.dT _)=>True
 | some (.set _ _)=>True
 | some (.ins _ _ _)=>True
 | some (.ext _)=>True
 | _=>False
section
variable {P:Program} {w:World} {H:Hp} {h h':Heap} {x e:Addr} {o':HO}
theorem HOk.write(ok:HOk P w H h)(mu:Mut (H x))(he:e=x∨H e=some (.own x))(k:∀b u,b≠e->h.get? b=some u->h'.get? b=some u)(heo:∃u,h'.get? e=some u)
  (new:a7 P w (upd H x o') h' x o'):HOk P w (upd H x o') h':=fun b u q=>by
 have nown:∀c y,H c=some (.own y)->c≠x:=fun c y r z=>by subst z;rw[r]at mu;exact mu
 have ntup:∀c xs,H c=some (.tup xs)->c≠x:=fun c xs r z=>by subst z;rw[r]at mu;exact mu
 by_cases hb:b=x
 ·subst hb;rw[upd_same]at q;cases q;exact new
 ·rw[aH hb]at q
  by_cases hbe:b=e
  ·have q':H b=some (.own x):=by
    rcases he with z|z
    ·exact absurd (hbe.trans z) hb
    ·rw[hbe];exact z
   rw[q]at q';cases q';obtain⟨v,hv⟩:=heo;exact⟨v,by rw[hbe];exact hv⟩
  ·refine(ok b u q).stay (fun c v hc r=>k c v ?_ r) (fun c r=>by rw[aH (nown c b r)];exact r) fun c xs r=>by rw[aH (ntup c xs r)];exact r
   rcases hc with rfl|hc
   ·exact hbe
   ·rintro rfl
    rcases he with z|z
    ·exact nown c b hc z
    ·rw[hc]at z;cases z;exact hb rfl
end
structure Un(fs ex:List Addr)(H H':Hp)(h h':Heap):Prop where
 keep:∀b o,h.get? b=some o->H b=none->b∉fs->b∉ex->h'.get? b=some o
 slot:∀b o,h.get? b=some o->H b=none->b∈fs->b∉ex->∃sl,h'.get? b=some { o with slots:=sl }
 free:∀b o,h.get? b=some o->H b=none->b∉ex->H' b=none
 there:∀b o,h.get? b=some o->b∉ex->∃o',h'.get? b=some o'
 tups:∀b xs,H b=some (.tup xs)->H' b=some (.tup xs)
 frzs:∀b o u,H b=some (.frz o u)->H' b=some (.frz o u)
 tbls:∀b ps,H b=some (.tbl ps)->∃more,H' b=some (.tbl (ps++more))
section
variable {fs fs' ex ex':List Addr} {H H1 H2:Hp} {h h1 h2 h':Heap} {a x e:Addr} {o:HO}
theorem Un.any(u:Un fs ex H H1 h h1){b:Addr}{ob:Obj}(q:h.get? b=some ob)(n:H b=none)(hx:b∉ex):∃sl,h1.get? b=some { ob with slots:=sl }:=by
 by_cases hb:b∈fs
 ·exact u.slot b ob q n hb hx
 ·exact⟨ob.slots,u.keep b ob q n hb hx⟩
theorem Un.kept(k:∀b u,h.get? b=some u->h'.get? b=some u):Un fs ex H H h h' :=
 ⟨fun b ob q _ _ _=>k b ob q,fun b ob q _ _ _=>⟨ob.slots,k b ob q⟩,fun _ _ _ n _=>n,fun b ob q _=>⟨ob,k b ob q⟩,fun _ _ q=>q,fun _ _ _ q=>q,fun _ ps q=>⟨#[],by rw[q];simp⟩⟩
theorem Un.refl:Un fs ex H H h h:=Un.kept fun _ _ q=>q
theorem Un.laid(k:∀b u,h.get? b=some u->h'.get? b=some u)(hp:h.objs.size≤a)(hn:H a=none):Un fs ex H (upd H a o) h h' where
 keep:=fun b u q _ _ _=>k b u q
 slot:=fun b u q _ _ _=>⟨u.slots,k b u q⟩
 free:=fun b u q n _=>by rw[aH (Nat.ne_of_lt (Nat.lt_of_lt_of_le (Heap.lt_size q) hp))];exact n
 there:=fun b u q _=>⟨u,k b u q⟩
 tups:=fun b xs q=>by rw[aH (aQ q hn)];exact q
 frzs:=fun b u xs q=>by rw[aH (aQ q hn)];exact q
 tbls:=fun b ps q=>⟨#[],by rw[aH (aQ q hn),q];simp⟩
theorem Un.write(mu:Mut (H x))(he:e=x∨H e=some (.own x))(k:∀b u,b≠e->h.get? b=some u->h'.get? b=some u)(heo:∃u,h'.get? e=some u):Un fs ex H (upd H x o) h h':=by
 have hx:∀b,H b=none->b≠x:=fun b n z=>by subst z;rw[n]at mu;exact mu
 have hb:∀b,H b=none->b≠e:=fun b n z=>by
  subst z;rcases he with r|r
  ·exact hx b n r
  ·rw[n]at r;cases r
 have hm:∀b u,H b=some u->¬Mut (some u)->b≠x:=fun b u q nm z=>by subst z;rw[q]at mu;exact nm mu
 refine⟨fun b u q n _ _=>k b u (hb b n) q,fun b u q n _ _=>⟨u.slots,k b u (hb b n) q⟩,fun b u q n _=>by rw[aH (hx b n)];exact n,fun b u q _=>?_,
  fun b xs q=>by rw[aH (hm b _ q fun z=>z)];exact q,fun b u xs q=>by rw[aH (hm b _ q fun z=>z)];exact q,fun b ps q=>⟨#[],by rw[aH (hm b _ q fun z=>z),q];simp⟩⟩
 by_cases hbe:b=e
 ·subst hbe;exact heo
 ·exact⟨u,k b u hbe q⟩
end
def trk(h:Heap)(H:Hp):List Addr:=(List.range h.objs.size).filter fun a=>(H a).isSome
def l7(h:Heap)(H:Hp):Heap:=W.hideAll h (trk h H)
theorem rh(h:Heap)(H:Hp):(l7 h H).objs.size=h.objs.size:=W.hideAll_size _ _
theorem tV{h:Heap}{H:Hp}{b:Addr}{o:Obj}(e:h.get? b=some o)(n:H b=none):(l7 h H).get? b=some o :=
 W.hideAll_get _ e fun hm=>by
  have q:(H b).isSome=true:=(List.mem_filter.mp hm).2;rw[n]at q;simp at q
theorem vz{h:Heap}{H:Hp}{b:Addr}{o:Obj}(e:(l7 h H).get? b=some o):h.get? b=some o∧H b=none:=by
 have e':h.get? b=some o:=W.of_hideAll (trk h H) e;refine⟨e',?_⟩;cases q:H b with
 | none=>rfl
 | some x =>
  have hm:b∈trk h H:=List.mem_filter.mpr ⟨List.mem_range.mpr (Heap.lt_size e'),by simp[q]⟩;have z:(l7 h H).get? b=none:=W.hideAll_none (trk h H) hm;rw[z]at e;cases e
end L2
namespace L2
open PySem PySem.Spec PyProof.Rows
structure Mod(K:W.Frag)(mg:Str->Option Value)(base:Heap):Prop where
 kin:K.In base
 glob:base.Ns mainGlobals mg
 blt:∃mb,base.Ns builtinsNs mb∧∀x:Str,x≠"__name__"->mb x=bootBuiltins x
 nolimit:base.NoLimit
structure Cx where
 prog:Program
 w:World
 K:W.Frag
 mg:Str->Option Value
 base:Heap
 A:Around
 N:List Str
 s₀:Shared
 H₀:Hp
 env:Env
 outer:List Env
 stack:List Env
 ex:List Addr
 fn:Str->Bool
 calm:Bool
 pn:List (Addr×Obj)
 xe:Value->Shared->Prop
def frs(l:List Env):List Addr:=l.filterMap (·.frame)
abbrev Cx.fs(X:Cx):List Addr:=frs X.outer
def Vis(sc:Scope)(x:Str):Prop:=sc.names.lookup x=some .local∨sc.names.lookup x=some .cell∨sc.names.lookup x=some .free
def Loc(sc:Scope)(x:Str):Prop:=sc.names.lookup x=some .local∨sc.names.lookup x=some .cell
def zY(env:Env)(h:Heap)(m:Str->Option Value)(x:Str)(u:Value):Prop :=
 (env.kindOf x=some .local∧m x=some u)∨((env.kindOf x=some .cell∨env.kindOf x=some .free)∧∃c,env.cells.lookup x=some c∧h.IsCell c (some u))
structure Cx.Ok(X:Cx):Prop where
 mod:Mod X.K X.mg X.base
 kind:X.env.scope.kind = .function
 glob:X.env.globals=mainGlobals
 blt:X.env.builtins=builtinsNs
 above:X.s₀.heap.objs.size≤X.env.locals
 inj:∀x y c,X.env.cells.lookup x=some c->X.env.cells.lookup y=some c->x=y
 has:∀x,(X.env.kindOf x=some .cell∨X.env.kindOf x=some .free)->∃c,X.env.cells.lookup x=some c
 cab:∀x c,X.fn x=true->X.env.cells.lookup x=some c->X.s₀.heap.objs.size≤c
 hd:X.calm=true->X.A.handled=none
 frames:X.A.frames=some X.stack
 stk:X.stack=X.outer∨(X.stack=X.env::X.outer∧X.env.frame=some X.env.locals)
 exf:∀b∈X.ex,b≠X.env.locals∧∀x c,X.env.cells.lookup x=some c->c≠b
 bs:∀b o,X.base.get? b=some o->X.s₀.heap.get? b=some o∧X.H₀ b=none
 bsz:X.base.objs.size≤X.s₀.heap.objs.size
 noex:∀b o,X.base.get? b=some o->b∉X.ex
 exfs:∀b∈X.ex,b∉X.fs
 funs:X.s₀.heap.FunFrames X.base X.outer
 frf:∀b∈X.fs,X.H₀ b=none
structure Aa(X:Cx)(pins:List (Addr×Obj))(σ:List (Option V))(H:Hp)(s:Shared):Prop where
 ok:X.Ok
 os:s.os=X.s₀.os
 bare:AllBare s.gens
 base:Un X.fs X.ex X.H₀ H X.s₀.heap s.heap
 loc:∃m,s.heap.Ns X.env.locals m∧∀(i:Nat) (x:Str) (v:V),X.N[i]? = some x->σ[i]? = some (some v)->Vis X.env.scope x->∃u,aU v u∧zY X.env s.heap m x u
 cell:∀x c,X.env.cells.lookup x=some c->∃v,s.heap.IsCell c v
 free:H X.env.locals=none
 freeC:∀x c,X.env.cells.lookup x=some c->H c=none
 pin:∀p∈X.pn++pins,s.heap.get? p.1=some p.2∧H p.1=none∧p.1≠X.env.locals∧p.1∉X.fs∧∀v,p.2.data≠.cell v
 hok:HOk X.prog X.w H s.heap
 len:σ.length=X.N.length
section
variable {X:Cx} {pins:List (Addr×Obj)} {σ:List (Option V)} {H H':Hp} {s:Shared} {h':Heap}
theorem Cx.Ok.nofr(ok:X.Ok){b:Addr}{o:Obj}(e:X.base.get? b=some o):b∉X.fs:=fun hb=>by
 have:=(ok.funs.mem hb).1;rw[e]at this;cases this
theorem Aa.bs(I:Aa X pins σ H s):∀b o,X.base.get? b=some o->s.heap.get? b=some o∧H b=none:=fun b o e =>
 ⟨I.base.keep b o (I.ok.bs b o e).1 (I.ok.bs b o e).2 (I.ok.nofr e) (I.ok.noex b o e),I.base.free b o (I.ok.bs b o e).1 (I.ok.bs b o e).2 (I.ok.noex b o e)⟩
theorem Aa.bk(I:Aa X pins σ H s):∀b o,X.base.get? b=some o->s.heap.get? b=some o:=fun b o e=>(I.bs b o e).1
theorem Aa.mod(I:Aa X pins σ H s):Mod X.K X.mg X.base:=I.ok.mod
theorem Aa.kIn(I:Aa X pins σ H s):X.K.In s.heap:=I.ok.mod.kin.keeps I.bk
theorem Aa.lt(I:Aa X pins σ H s):X.env.locals<s.heap.objs.size:=let ⟨_,hn,_⟩:=I.loc;hn.lt
theorem Aa.sz(I:Aa X pins σ H s):X.s₀.heap.objs.size≤s.heap.objs.size:=Nat.le_trans I.ok.above (Nat.le_of_lt I.lt)
theorem Aa.nofs(I:Aa X pins σ H s){a:Addr}(h:s.heap.objs.size≤a):a∉X.fs:=fun hb=>by
 obtain⟨_,o,ho,_⟩:=I.ok.funs.mem hb;exact absurd (Nat.lt_of_lt_of_le (Heap.lt_size ho) (Nat.le_trans I.sz h)) (Nat.lt_irrefl _)
theorem Aa.cne(I:Aa X pins σ H s):∀x c,X.env.cells.lookup x=some c->c≠X.env.locals:=fun x c e z=>by
 obtain⟨v,o,ho,hd⟩:=I.cell x c e;obtain⟨m,⟨o',es,ep,ho',hd',_⟩,_⟩:=I.loc;rw[z,ho']at ho;cases ho;rw[hd']at hd;cases hd
theorem Aa.funs(I:Aa X pins σ H s):s.heap.FunFrames X.base X.outer:=by
 have all:∀(l:List Env),(∀b∈frs l,b∈X.fs)->X.s₀.heap.FunFrames X.base l->s.heap.FunFrames X.base l:=by
  intro l
  induction l with
  | nil=>intro _ _;trivial
  | cons env r ih =>
   intro hs hl;obtain⟨hk,⟨L,o,hf,hn,ho,hd⟩,hr⟩:=hl;have hL:L∈X.fs:=hs L (by unfold frs;rw[List.filterMap_cons,hf];exact List.mem_cons_self);obtain⟨sl,e⟩:=I.base.slot L o ho (I.ok.frf L hL) hL fun z=>I.ok.exfs L z hL;exact⟨hk,⟨L,_,hf,hn,e,hd⟩,ih (fun b hb=>hs b (by unfold frs;rw[List.filterMap_cons,hf];exact List.mem_cons_of_mem _ hb)) hr⟩
 exact all X.outer (fun _ hb=>hb) I.ok.funs
theorem Aa.stack(I:Aa X pins σ H s):s.heap.FunFrames X.base X.stack:=by
 rcases I.ok.stk with e|⟨e,hf⟩
 ·rw[e];exact I.funs
 ·rw[e]
  obtain⟨m,hn,_⟩:=I.loc;refine .cons (by rw[I.ok.kind];decide) hf hn ?_ I.funs;exact Heap.get?_none_of_le (Nat.le_trans I.ok.bsz I.ok.above)
theorem Aa.stkSub(I:Aa X pins σ H s):∀b∈frs X.stack,b∈X.env.locals::X.fs:=fun b hb=>by
 rcases I.ok.stk with e|⟨e,hf⟩
 ·rw[e]at hb;exact List.mem_cons_of_mem _ hb
 ·rw[e]at hb
  unfold frs at hb;rw[List.filterMap_cons,hf]at hb;exact hb
theorem Aa.stkFree(I:Aa X pins σ H s):∀b∈frs X.stack,H b=none:=fun b hb=>by
 rcases List.mem_cons.mp (I.stkSub b hb) with e|hb
 ·rw[e];exact I.free
 ·obtain⟨_,o,ho,_⟩:=I.ok.funs.mem hb
  exact I.base.free b o ho (I.ok.frf b hb) fun z=>I.ok.exfs b z hb
theorem Aa.step{g':Array GenState}{t':Nat}{d':Drawn}{ch:List Addr}(I:Aa X pins σ H s)
  (hch:∀b∈ch,(b∈X.ex∨X.s₀.heap.objs.size≤b)∧b≠X.env.locals∧(∀x c,X.env.cells.lookup x=some c->c≠b)∧∀p∈X.pn++pins,p.1≠b)
  (keep:∀b o,b≠X.env.locals->b∉X.fs->b∉ch->s.heap.get? b=some o->H b=none->h'.get? b=some o)
  (slot:∀b o,b≠X.env.locals->b∈X.fs->b∉ch->s.heap.get? b=some o->H b=none->∃sl,h'.get? b=some { o with slots:=sl }) (free:∀b o,b∉ch->s.heap.get? b=some o->H b=none->H' b=none)
  (there:∀b o,b∉ch->s.heap.get? b=some o->∃o',h'.get? b=some o')
  (tups:∀b xs,H b=some (.tup xs)->H' b=some (.tup xs)) (frzs:∀b o u,H b=some (.frz o u)->H' b=some (.frz o u)) (tbls:∀b ps,H b=some (.tbl ps)->∃more,H' b=some (.tbl (ps++more)))
  (ns:∀m,s.heap.Ns X.env.locals m->h'.Ns X.env.locals m) (hok:HOk X.prog X.w H' h') (hg:AllBare g') :
  Aa X pins σ H' { s with heap:=h',gens:=g',drawn:=d',toks:=t' }:=by
 have neL:∀b o,X.s₀.heap.get? b=some o->b≠X.env.locals:=fun b o e=>Nat.ne_of_lt (Nat.lt_of_lt_of_le (Heap.lt_size e) I.ok.above);have neC:∀b o,X.s₀.heap.get? b=some o->b∉X.ex->b∉ch:=fun b o e hx hb=>by
  rcases(hch b hb).1 with z|z
  ·exact hx z
  ·exact absurd (Nat.lt_of_lt_of_le (Heap.lt_size e) z) (Nat.lt_irrefl _)
 have cellK:∀x c,X.env.cells.lookup x=some c->∀v,s.heap.IsCell c v->h'.IsCell c v:=fun x c e v ⟨o,ho,hd⟩=>by
  have nch:c∉ch:=fun z=>(hch c z).2.2.1 x c e rfl
  by_cases hc:c∈X.fs
  ·obtain⟨sl,q⟩:=slot c o (I.cne x c e) hc nch ho (I.freeC x c e)
   exact⟨_,q,hd⟩
  ·exact⟨o,keep c o (I.cne x c e) hc nch ho (I.freeC x c e),hd⟩
 refine⟨I.ok,I.os,hg,⟨fun b o e n hb hx=>?_,fun b o e n hb hx=>?_,fun b o e n hx=>?_,fun b o e hx=>?_,fun b xs e=>tups b xs (I.base.tups b xs e),fun b o xs e=>frzs b o xs (I.base.frzs b o xs e),fun b ps e=>?_⟩,?_,fun x c e=>?_,?_,fun x c e=>?_,fun p hp=>?_,hok,I.len⟩
 ·exact keep b o (neL b o e) hb (neC b o e hx) (I.base.keep b o e n hb hx) (I.base.free b o e n hx)
 ·obtain⟨sl,e1⟩:=I.base.slot b o e n hb hx
  obtain⟨sl',e2⟩:=slot b _ (neL b o e) hb (neC b o e hx) e1 (I.base.free b o e n hx);exact⟨sl',e2⟩
 ·obtain⟨o',e1⟩:=I.base.there b o e hx
  exact free b o' (neC b o e hx) e1 (I.base.free b o e n hx)
 ·obtain⟨o',e1⟩:=I.base.there b o e hx
  exact there b o' (neC b o e hx) e1
 ·obtain⟨m1,e1⟩:=I.base.tbls b ps e
  obtain⟨m2,e2⟩:=tbls b _ e1;exact⟨m1++m2,by rw[e2,Array.append_assoc]⟩
 ·obtain⟨m,hn,hl⟩:=I.loc
  refine⟨m,ns m hn,fun i x v e1 e2 e3=>?_⟩;obtain⟨u,r,l⟩:=hl i x v e1 e2 e3;refine⟨u,r,?_⟩;rcases l with l|⟨k,c,e,z⟩
  ·exact .inl l
  ·exact .inr ⟨k,c,e,cellK x c e _ z⟩
 ·obtain⟨v,z⟩:=I.cell x c e
  exact⟨v,cellK x c e v z⟩
 ·obtain⟨m,⟨o,_,_,ho,_⟩,_⟩:=I.loc
  exact free _ o (fun z=>(hch _ z).2.1 rfl) ho I.free
 ·obtain⟨v,o,ho,hd⟩:=I.cell x c e
  exact free c o (fun z=>(hch c z).2.2.1 x c e rfl) ho (I.freeC x c e)
 ·obtain⟨e,n,ne,nf,d⟩:=I.pin p hp
  have nch:p.1∉ch:=fun z=>(hch p.1 z).2.2.2 p hp rfl;exact⟨keep p.1 p.2 ne nf nch e n,free p.1 p.2 nch e n,ne,nf,d⟩
theorem Aa.un{t':Nat}(I:Aa X pins σ H s)(u:Un X.fs [] H H' s.heap h')(hok:HOk X.prog X.w H' h'):Aa X pins σ H' { s with heap:=h',toks:=t' }:=by
 obtain⟨m,⟨o,es,ep,ho,r⟩,_⟩:=id I.loc;obtain⟨sl,hL⟩:=u.any ho I.free (by simp);exact I.step (g':=s.gens) (d':=s.drawn) (ch:=[]) (fun _ z=>nomatch z) (fun b o _ hb _ e n=>u.keep b o e n hb (by simp)) (fun b o _ hb _ e n=>u.slot b o e n hb (by simp)) (fun b o _ e n=>u.free b o e n (by simp)) (fun b o _ e=>u.there b o e (by simp)) u.tups u.frzs u.tbls (fun m' hm=>by
  obtain⟨o',es',ep',ho',r'⟩:=hm;rw[ho]at ho';cases ho';exact⟨_,es',ep',hL,r'⟩) hok I.bare
theorem Aa.call{g':Array GenState}{t':Nat}{d':Drawn}{ch:List Addr}(I:Aa X pins σ H s)(u:Un (frs X.stack) ch H H' s.heap h')(hok:HOk X.prog X.w H' h')(hg:AllBare g')
  (hch:∀b∈ch,(b∈X.ex∨X.s₀.heap.objs.size≤b)∧b≠X.env.locals∧(∀x c,X.env.cells.lookup x=some c->c≠b)∧∀p∈X.pn++pins,p.1≠b) :
  Aa X pins σ H' { s with heap:=h',gens:=g',drawn:=d',toks:=t' }:=by
 obtain⟨m,⟨o,es,ep,ho,r⟩,_⟩:=id I.loc;obtain⟨sl,hL⟩:=u.any ho I.free fun z=>(hch _ z).2.1 rfl;exact I.step (ch:=ch) hch (fun b o hL hb hc e n=>u.keep b o e n (fun z=>(List.mem_cons.mp (I.stkSub b z)).elim hL hb) hc) (fun b o _ _ hc e n=>u.any e n hc) (fun b o hc e n=>u.free b o e n hc) (fun b o hc e=>u.there b o e hc) u.tups u.frzs u.tbls (fun m' hm=>by
  obtain⟨o',es',ep',ho',r'⟩:=hm;rw[ho]at ho';cases ho';exact⟨_,es',ep',hL,r'⟩) hok hg
theorem Aa.turned{t':Nat}{it:Addr}(I:Aa X pins σ H s)(k:∀b o,b≠it->s.heap.get? b=some o->h'.get? b=some o)(hn:H it=none)(hL:it≠X.env.locals)
  (h1:it∈X.ex∨X.s₀.heap.objs.size≤it) (h2:∀x c,X.env.cells.lookup x=some c->c≠it) (h3:∀p∈X.pn++pins,p.1≠it):Aa X pins σ H { s with heap:=h',toks:=t' }:=by
 have nit:∀b u,H b=some u->b≠it:=fun b u e z=>by rw[z,hn]at e;cases e
 refine I.step (g':=s.gens) (d':=s.drawn) (ch:=[it]) (fun b hb=>?_) (fun b o _ _ hc e _=>k b o (fun z=>hc (by simp[z])) e) (fun b o _ _ hc e _=>⟨o.slots,k b o (fun z=>hc (by simp[z])) e⟩) (fun _ _ _ _ n=>n)
  (fun b o hc e=>⟨o,k b o (fun z=>hc (by simp[z])) e⟩) (fun _ _ e=>e) (fun _ _ _ e=>e) (fun b ps e=>⟨#[],by rw[e];simp⟩) (fun m hm=>?_) (fun b u e=>?_) I.bare
 ·have e:b=it:=by simpa using hb
  subst e;exact⟨h1,hL,h2,h3⟩
 ·obtain⟨o,es,ep,ho,r⟩:=hm
  exact⟨o,es,ep,k _ o (Ne.symm hL) ho,r⟩
 ·refine(I.hok b u e).stay (fun c v hc q=>k c v ?_ q) (fun _ q=>q) fun _ _ q=>q
  rcases hc with z|z
  ·rw[z];exact nit b u e
  ·exact nit c _ z
theorem Aa.tok(I:Aa X pins σ H s)(t:Nat):Aa X pins σ H { s with toks:=t }:=I.un (h':=s.heap) (t':=t) Un.refl I.hok
theorem Aa.kept{t':Nat}(I:Aa X pins σ H s)(k:∀b u,s.heap.get? b=some u->h'.get? b=some u):Aa X pins σ H { s with heap:=h',toks:=t' }:=I.un (Un.kept k) (I.hok.kept k)
theorem Aa.laid{a:Addr}{o:HO}{t':Nat}(I:Aa X pins σ H s)(k:∀b u,s.heap.get? b=some u->h'.get? b=some u)(hp:s.heap.objs.size≤a)(new:a7 X.prog X.w (upd H a o) h' a o) :
  Aa X pins σ (upd H a o) { s with heap:=h',toks:=t' }:=I.un (Un.laid k hp (I.hok.fresh hp)) (I.hok.laid k hp new)
theorem Aa.write{x e:Addr}{o:HO}{t':Nat}(I:Aa X pins σ H s)(mu:Mut (H x))(he:e=x∨H e=some (.own x))(k:∀b u,b≠e->s.heap.get? b=some u->h'.get? b=some u)(heo:∃u,h'.get? e=some u)
  (new:a7 X.prog X.w (upd H x o) h' x o):Aa X pins σ (upd H x o) { s with heap:=h',toks:=t' }:=I.un (Un.write mu he k heo) (I.hok.write mu he k heo new)
theorem Aa.pins_of{pins':List (Addr×Obj)}(I:Aa X pins σ H s)(h:∀p∈pins',s.heap.get? p.1=some p.2∧H p.1=none∧p.1≠X.env.locals∧p.1∉X.fs∧∀v,p.2.data≠.cell v):Aa X pins' σ H s :=
 ⟨I.ok,I.os,I.bare,I.base,I.loc,I.cell,I.free,I.freeC,fun p hp=>(List.mem_append.mp hp).elim (fun z=>I.pin p (List.mem_append_left _ z)) (h p),I.hok,I.len⟩
theorem jE{N:List Str}(hN:N.Nodup){i j:Nat}{x:Str}(a:N[i]? = some x)(b:N[j]? = some x):i=j:=by
 obtain⟨h1,e1⟩:=List.getElem?_eq_some_iff.mp a;obtain⟨h2,e2⟩:=List.getElem?_eq_some_iff.mp b;exact(List.getElem_inj hN).mp (e1.trans e2.symm)
theorem kL{M:Model}{A:Around}{E:Value->Shared->Prop}{i:Nat}{x:Str}{v:V}{u:Value}{Q:Unit->Shared->Prop}(I:Aa X pins σ H s)(hN:X.N.Nodup)(hi:X.N[i]? = some x)(hx:Loc X.env.scope x)(r:aU v u)
  (h:∀s',Aa X pins (σ.set i (some v)) H s'->(∃a,Heap.SameBut a s.heap s'.heap∧(a=X.env.locals∨X.env.cells.lookup x=some a))->Q () s') (hf:X.fn x=true∨X.env.scope.names.lookup x=some .local:=by first|exact .inl rfl|exact .inr rfl|assumption):wpAny M A (storeName X.env x u) Q E s:=by
 obtain⟨m,hn,hl⟩:=id I.loc;have hcls:(X.env.scope.kind == .class || (X.env.scope.kind == .module && X.env.locals != X.env.globals))=false:=by rw[I.ok.kind];rfl
 have hiσ:i<σ.length:=by rw[I.len];exact(List.getElem?_eq_some_iff.mp hi).1
 have cne:=I.cne;have tracked:∀{a:Addr} {h':Heap},(∃o,s.heap.get? a=some o∧H a=none)->Heap.SameBut a s.heap h'->HOk X.prog X.w H h':=fun {a h'} ha hs b ob e=>by
  obtain⟨_,_,hfree⟩:=ha;refine(I.hok b ob e).stay (fun c w' hc q=>(hs.2 c ?_).trans q) (fun _ q=>q) fun _ _ q=>q;rintro rfl;rcases hc with rfl|hc
  ·rw[hfree]at e;cases e
  ·rw[hfree]at hc;cases hc
 rcases hx with hk|hk
 ·refine wpAny_storeName_local hk hn (fun h' hn' hs=>?_) hcls
  obtain⟨oL,_,_,hoL,_⟩:=id hn;refine h _ ⟨I.ok,I.os,I.bare,⟨fun b o e n hb hx=>?_,fun b o e n hb hx=>?_,I.base.free,fun b o e hx=>?_,I.base.tups,I.base.frzs,I.base.tbls⟩,⟨_,hn',fun j y v' e1 e2 e3=>?_⟩,fun y c e=>?_,I.free,I.freeC,fun p hp=>?_,tracked ⟨oL,hoL,I.free⟩ hs,by simpa using I.len⟩ ⟨_,hs,.inl rfl⟩
  ·exact(hs.2 b (Nat.ne_of_lt (Nat.lt_of_lt_of_le (Heap.lt_size e) I.ok.above))).trans (I.base.keep b o e n hb hx)
  ·obtain⟨sl,e1⟩:=I.base.slot b o e n hb hx
   exact⟨sl,(hs.2 b (Nat.ne_of_lt (Nat.lt_of_lt_of_le (Heap.lt_size e) I.ok.above))).trans e1⟩
  ·obtain⟨o',e1⟩:=I.base.there b o e hx
   exact⟨o',(hs.2 b (Nat.ne_of_lt (Nat.lt_of_lt_of_le (Heap.lt_size e) I.ok.above))).trans e1⟩
  ·by_cases hj:j=i
   ·subst hj
    rw[hi]at e1;cases e1;rw[List.getElem?_set_self hiσ]at e2;cases e2;exact⟨u,r,.inl ⟨hk,by simp⟩⟩
   ·rw[List.getElem?_set_ne (Ne.symm hj)]at e2
    obtain⟨u',r',q⟩:=hl j y v' e1 e2 e3;refine⟨u',r',?_⟩;rcases q with⟨k,e⟩|⟨k,c,e,z⟩
    ·refine .inl ⟨k,?_⟩
     have:y≠x:=fun e=>hj (jE hN e1 (e▸hi));simp[this,e]
    ·exact .inr ⟨k,c,e,z.sameBut hs (cne y c e)⟩
  ·obtain⟨w',z⟩:=I.cell y c e
   exact⟨w',z.sameBut hs (cne y c e)⟩
  ·obtain⟨e,n,ne,nf,d⟩:=I.pin p hp
   exact⟨(hs.2 p.1 ne).trans e,n,ne,nf,d⟩
 ·have hfn:X.fn x=true:=by
   rcases hf with z|z
   ·exact z
   ·rw[z]at hk;cases hk
  obtain⟨c,hc⟩:=I.ok.has x (.inl hk);obtain⟨w',z⟩:=I.cell x c hc;refine wpAny_storeName_cell I.ok.kind hk hc z (fun h' hc' hs=>?_);obtain⟨oc,hoc,hocd⟩:=id z;refine h { s with heap:=h' } ⟨I.ok,I.os,I.bare,⟨fun b o e n hb hx=>?_,fun b o e n hb hx=>?_,I.base.free,fun b o e hx=>?_,I.base.tups,I.base.frzs,I.base.tbls⟩,⟨m,hn.sameBut hs (Ne.symm (cne x c hc)),fun j y v' e1 e2 e3=>?_⟩,fun y c' e=>?_,I.free,I.freeC,fun p hp=>?_,tracked ⟨oc,hoc,I.freeC x c hc⟩ hs,by simpa using I.len⟩ ⟨c,hs,.inr hc⟩
  ·exact(hs.2 b (Nat.ne_of_lt (Nat.lt_of_lt_of_le (Heap.lt_size e) (I.ok.cab x c hfn hc)))).trans (I.base.keep b o e n hb hx)
  ·obtain⟨sl,e1⟩:=I.base.slot b o e n hb hx
   exact⟨sl,(hs.2 b (Nat.ne_of_lt (Nat.lt_of_lt_of_le (Heap.lt_size e) (I.ok.cab x c hfn hc)))).trans e1⟩
  ·obtain⟨o',e1⟩:=I.base.there b o e hx
   exact⟨o',(hs.2 b (Nat.ne_of_lt (Nat.lt_of_lt_of_le (Heap.lt_size e) (I.ok.cab x c hfn hc)))).trans e1⟩
  ·by_cases hj:j=i
   ·subst hj
    rw[hi]at e1;cases e1;rw[List.getElem?_set_self hiσ]at e2;cases e2;exact⟨u,r,.inr ⟨.inl hk,c,hc,hc'⟩⟩
   ·rw[List.getElem?_set_ne (Ne.symm hj)]at e2
    obtain⟨u',r',q⟩:=hl j y v' e1 e2 e3;refine⟨u',r',?_⟩;rcases q with q|⟨k,c',e,z'⟩
    ·exact .inl q
    ·refine .inr ⟨k,c',e,z'.sameBut hs ?_⟩
     rintro rfl;exact hj (jE hN e1 (I.ok.inj _ _ _ e hc▸hi))
  ·by_cases hcc:c'=c
   ·subst hcc;exact⟨_,hc'⟩
   ·obtain⟨w2,z2⟩:=I.cell y c' e
    exact⟨w2,z2.sameBut hs hcc⟩
  ·obtain⟨e,n,ne,nf,d⟩:=I.pin p hp
   refine⟨(hs.2 p.1 ?_).trans e,n,ne,nf,d⟩;intro q;rw[q,hoc]at e;have q':oc=p.2:=Option.some.inj e;exact d w' (by rw[<- q'];exact hocd)
theorem gz{M:Model}{A:Around}{E:Value->Shared->Prop}{i:Nat}{x:Str}{v:V}{u:Value}{Q:Unit->Shared->Prop}(I:Aa X pins σ H s)(hN:X.N.Nodup)(hi:X.N[i]? = some x)(hx:Loc X.env.scope x)(r:aU v u)
  (h:∀s',Aa X pins (σ.set i (some v)) H s'->Q () s') (hf:X.fn x=true∨X.env.scope.names.lookup x=some .local:=by first|exact .inl rfl|exact .inr rfl|assumption):wpAny M A (storeName X.env x u) Q E s :=
 kL I hN hi hx r (fun s' I' _=>h s' I') hf
theorem Aa.call'{s':Shared}{ch:List Addr}(I:Aa X pins σ H s)(ho:s'.os=s.os)(u:Un (frs X.stack) ch H H' s.heap s'.heap)(hok:HOk X.prog X.w H' s'.heap)(hg:AllBare s'.gens)
  (hch:∀b∈ch,(b∈X.ex∨X.s₀.heap.objs.size≤b)∧b≠X.env.locals∧(∀x c,X.env.cells.lookup x=some c->c≠b)∧∀p∈X.pn++pins,p.1≠b):Aa X pins σ H' s':=by
 obtain⟨h',g',d',t',o'⟩:=s';have e:o'=s.os:=ho;subst e;exact I.call (g':=g') (t':=t') (d':=d') u hok hg hch
end
abbrev XK:=Value->Option Addr->Hp->Prop
abbrev St:=List (Option V)
abbrev VK:=V->Hp->Prop
abbrev TE:=St->Hp->VK->Prop
abbrev TT:=St->Hp->(Bool->Hp->Prop)->Prop
abbrev TA:=St->Hp->(List V->Hp->Prop)->Prop
structure CY where
 nx:St->Hp->Prop
 rt:VK
 bk:St->Hp->Prop:=fun _ _=>False
 ct:St->Hp->Prop:=fun _ _=>False
abbrev TS:=CY->St->Hp->Prop
def EP(X:Cx)(pins:List (Addr×Obj))(σ:St)(Q:VK)(u:Value)(s':Shared):Prop:=∃v H',Aa X pins σ H' s'∧aU v u∧Q v H'
def TP(X:Cx)(pins:List (Addr×Obj))(σ:St)(Q:Bool->Hp->Prop)(b:Bool)(s':Shared):Prop:=∃H',Aa X pins σ H' s'∧Q b H'
def AP(X:Cx)(pins:List (Addr×Obj))(σ:St)(Q:List V->Hp->Prop)(us:List Value)(s':Shared):Prop:=∃vs H',Aa X pins σ H' s'∧aN vs us∧Q vs H'
def SP(X:Cx)(pins:List (Addr×Obj))(D:CY)(f:Flow)(s':Shared):Prop :=
 match f with
 | .next=>∃σ' H',Aa X pins σ' H' s'∧D.nx σ' H'
 | .brk=>∃σ' H',Aa X pins σ' H' s'∧D.bk σ' H'
 | .cont=>∃σ' H',Aa X pins σ' H' s'∧D.ct σ' H'
 | .ret u=>∃v σ' H',Aa X pins σ' H' s'∧aU v u∧D.rt v H'
def PE(X:Cx)(e:Expr)(t:TE):Prop :=
 ∀(pins:List (Addr×Obj)) (s:Shared) (σ:St) (H:Hp) (Q:VK),Aa X pins σ H s->t σ H Q->wpAny (model X.prog X.w) X.A (eval e X.env) (EP X pins σ Q) X.xe s
def PT(X:Cx)(e:Expr)(t:TT):Prop :=
 ∀(pins:List (Addr×Obj)) (s:Shared) (σ:St) (H:Hp) (Q:Bool->Hp->Prop),Aa X pins σ H s->t σ H Q->wpAny (model X.prog X.w) X.A (isTrue e X.env (eval e X.env)) (TP X pins σ Q) X.xe s
def PW(X:Cx)(e:Expr)(t:TT):Prop :=
 ∀(whole:Sem Value) (pins:List (Addr×Obj)) (s:Shared) (σ:St) (H:Hp) (Q:Bool->Hp->Prop),Aa X pins σ H s->t σ H Q->wpAny (model X.prog X.w) X.A (isTrue e X.env whole) (TP X pins σ Q) X.xe s
theorem PW.pt{X:Cx}{e:Expr}{t:TT}(h:PW X e t):PT X e t:=h _
def PA(X:Cx)(es:List Expr)(t:TA):Prop :=
 ∀(pos:Pos) (pins:List (Addr×Obj)) (s:Shared) (σ:St) (H:Hp) (Q:List V->Hp->Prop),Aa X pins σ H s->t σ H Q->wpAny (model X.prog X.w) X.A (spliced (backTo pos (starEach es X.env))) (AP X pins σ Q) X.xe s
def PS(X:Cx)(st:Stmt)(t:TS):Prop :=
 ∀(pins:List (Addr×Obj)) (s:Shared) (σ:St) (H:Hp) (D:CY),Aa X pins σ H s->t D σ H->wpAny (model X.prog X.w) X.A (exec st X.env) (SP X pins D) X.xe s
def PSs(X:Cx)(st:List Stmt)(t:TS):Prop :=
 ∀(pins:List (Addr×Obj)) (s:Shared) (σ:St) (H:Hp) (D:CY),Aa X pins σ H s->t D σ H->wpAny (model X.prog X.w) X.A (execs st X.env) (SP X pins D) X.xe s
theorem thn{α:Type}{t:Sem α}{Q Q':α->Shared->Prop}{M:Model}{A:Around}{E:Value->Shared->Prop}{s:Shared}(h:wpAny M A t Q E s)(hQ:∀a s,Q a s->Q' a s):wpAny M A t Q' E s:=wpAny_mono h hQ fun _ _ x=>x
end L2
namespace L2
open PySem PySem.Spec PyProof.Rows
section
variable {X:Cx}
inductive Fi (i:Nat) (σ:St) (H:Hp) (Q:VK):Prop
 | mk (v:V) (e:σ[i]? = some (some v)) (q:Q v H):Fi i σ H Q
def tC(v:V):TE:=fun _ H Q=>Q v H
theorem sP{i:Nat}{x:Str}{pos:Pos}(hN:X.N[i]? = some x)(hv:Vis X.env.scope x)(hd:(x == ("__debug__" : Str))=false:=by decide)(hcd:(x == ("__classdict__" : Str))=false:=by decide):PE X (.Name x pos) (Fi i):=by
 intro pins s σ H Q I h;obtain⟨v,e,h⟩:=h;obtain⟨m,hn,hl⟩:=I.loc;obtain⟨u,r,l⟩:=hl i x v hN e hv;have fin:EP X pins σ Q u s:=⟨v,H,I,r,h⟩;rcases l with⟨hk,hm⟩|⟨hk,c,hc,hcell⟩
 ·exact wpAny_Name (wpAny_loadName_local I.ok.kind hk hn hm fin) hd
 ·rcases hk with hk|hk
  ·exact wpAny_Name (wpAny_loadName_cell I.ok.kind hk hc hcell fin) hd
  ·exact wpAny_Name (wpAny_loadName_free I.ok.kind hk hc hcell fin hcd) hd
theorem af{i j pos}:PE X (.Constant (.int i) j pos) (tC (.int i)):=fun _ _ _ H _ I h=>wpAny_Constant_int ⟨.int i,H,I.tok _,⟨_,rfl⟩,h⟩
theorem dH{b j pos}:PE X (.Constant (.bool b) j pos) (tC (.bl b)):=fun _ _ _ H _ I h=>Constant_bool ⟨.bl b,H,I,rfl,h⟩
theorem aW{j pos}:PE X (.Constant .none j pos) (tC .non):=fun _ _ _ H _ I h=>Constant_none ⟨.non,H,I,rfl,h⟩
theorem db{x j pos}:PE X (.Constant (.str x) j pos) (tC (.str x)):=fun _ _ _ H _ I h=>Calls.Constant_str ⟨.str x,H,I.tok _,⟨_,rfl⟩,h⟩
def Gl(X:Cx)(x:Str):Prop:=X.env.kindOf x=some .globalImplicit
theorem eA{E:Value->Shared->Prop}{pins:List (Addr×Obj)}{s:Shared}{σ:St}{H:Hp}{x:Str}{u:Value}{pos:Pos}{Q:Value->Shared->Prop}(I:Aa X pins σ H s)(hg:Gl X x)(hm:X.mg x=some u)(h:Q u s)
  (hd:(x == ("__debug__" : Str))=false:=by decide):wpAny (model X.prog X.w) X.A (eval (.Name x pos) X.env) Q E s :=
 Calls.Name_function_global I.ok.kind hg (Calls.loadGlobal_global (by rw[I.ok.glob];exact I.mod.glob.keeps I.bk) hm h) hd
theorem fW{E:Value->Shared->Prop}{pins:List (Addr×Obj)}{s:Shared}{σ:St}{H:Hp}{x:Str}{u:Value}{pos:Pos}{Q:Value->Shared->Prop}(I:Aa X pins σ H s)(hg:Gl X x)(hm:X.mg x=none)(hv:bootBuiltins x=some u)(h:Q u s)
  (hn:x≠"__name__":=by decide) (hd:(x == ("__debug__" : Str))=false:=by decide):wpAny (model X.prog X.w) X.A (eval (.Name x pos) X.env) Q E s:=by
 obtain⟨mb,h1,h2⟩:=I.mod.blt;exact Calls.Name_function_global I.ok.kind hg (Calls.loadGlobal_builtin (by rw[I.ok.glob];exact I.mod.glob.keeps I.bk) hm (by rw[I.ok.blt];exact h1.keeps I.bk) ((h2 x hn).trans hv) h) hd
theorem aJ{x:Str}{v:V}{u:Value}{pos:Pos}(hg:Gl X x)(hm:X.mg x=some u)(r:aU v u)(hd:(x == ("__debug__" : Str))=false:=by decide):PE X (.Name x pos) (tC v) :=
 fun _ _ _ H _ I h=>eA I hg hm ⟨v,H,I,r,h⟩ hd
theorem vw{x:Str}{v:V}{u:Value}{pos:Pos}(hg:Gl X x)(hm:X.mg x=none)(hv:bootBuiltins x=some u)(r:aU v u)(hn:x≠"__name__":=by decide)(hd:(x == ("__debug__" : Str))=false:=by decide):PE X (.Name x pos) (tC v) :=
 fun _ _ _ H _ I h=>fW I hg hm hv ⟨v,H,I,r,h⟩ hn hd
variable {a b:Expr} {ta tb:TE} {pos:Pos}
def PC(X:Cx)(op:CmpOp)(a b:Expr)(t:TE):Prop :=
 ∀(pins:List (Addr×Obj)) (s:Shared) (σ:St) (H:Hp) (Q:VK),Aa X pins σ H s->t σ H Q ->
  wpAny (model X.prog X.w) X.A (eval a X.env) (fun v s₁=>wpAny (model X.prog X.w) X.A (eval b X.env) (fun u s₂=>wpAny (model X.prog X.w) X.A (compareOp op v u) (EP X pins σ Q) X.xe s₂) X.xe s₁) X.xe s
def tB(t:TE):TT:=fun σ H Q=>t σ H fun x H1=>∃c,x = .bl c∧Q c H1
theorem g8{op:CmpOp}{t:TE}(h:PC X op a b t)(h1:behindInMarks op b=false:=by first|exact nobehind _ (by decide) (by decide)|rfl):PT X (.Compare a [op] [b] pos) (tB t):=by
 intro pins s σ H Q I hw;refine wpAny_isTrue_Compare1 (thn (h pins s σ H _ I hw) fun v s1 h1=>thn h1 fun u s2 h2=>thn h2 fun c s3 ⟨x,H1,I1,r1,q1⟩=>?_) h1;obtain⟨d,rfl,q⟩:=q1;cases r1;exact wpAny_truthy_bool ⟨H1,I1,q⟩
theorem cW{e:Expr}{t:TE}(h:PE X e t)(he:∀whole,isTrue e X.env whole=(do let v <- whole;standAt e.pos;holding [v] (truthy v)):=by intro _;rfl):PT X e (tB t):=by
 intro pins s σ H Q I hw;refine isTrue_plain (thn (h pins s σ H _ I hw) fun v s1 ⟨x,H1,I1,r1,q1⟩=>?_) (he _);obtain⟨d,rfl,q⟩:=q1;cases r1;exact wpAny_truthy_bool ⟨H1,I1,q⟩
variable {tA tB':TT} {rest:List Expr}
def zL(t u:TT):TT:=fun σ H Q=>t σ H fun c H1=>if c=true then u σ H1 Q else Q false H1
def tOr(t u:TT):TT:=fun σ H Q=>t σ H fun c H1=>if c=true then Q true H1 else u σ H1 Q
def zD(t:TT):TT:=fun σ H Q=>t σ H fun c H1=>Q (!c) H1
theorem i9(ha:PT X a tA):PW X (.BoolOp .And [a] pos) tA:=by
 intro wh pins s σ H Q I h;refine isTrue_and (thn (ha pins s σ H Q I h) fun c s1 e=>?_);cases c with
 | true=>exact isTrue_and_nil e
 | false=>exact e
theorem eS(ha:PT X a tA):PW X (.BoolOp .Or [a] pos) tA:=by
 intro wh pins s σ H Q I h;refine isTrue_or (thn (ha pins s σ H Q I h) fun c s1 e=>?_);cases c with
 | false=>exact isTrue_or_nil e
 | true=>exact e
theorem jz(ha:PT X a tA)(hb:PW X (.BoolOp .And (b::rest) pos) tB'):PW X (.BoolOp .And (a::b::rest) pos) (zL tA tB'):=by
 intro wh pins s σ H Q I h;refine isTrue_and (thn (ha pins s σ H _ I h) fun c s1 ⟨H1,I1,q1⟩=>?_);cases c with
 | true=>exact hb wh pins s1 σ H1 Q I1 q1
 | false=>exact⟨H1,I1,q1⟩
theorem eT(ha:PT X a tA)(hb:PW X (.BoolOp .Or (b::rest) pos) tB'):PW X (.BoolOp .Or (a::b::rest) pos) (tOr tA tB'):=by
 intro wh pins s σ H Q I h;refine isTrue_or (thn (ha pins s σ H _ I h) fun c s1 ⟨H1,I1,q1⟩=>?_);cases c with
 | true=>exact⟨H1,I1,q1⟩
 | false=>exact hb wh pins s1 σ H1 Q I1 q1
theorem d6(ha:PT X a tA):PT X (.UnaryOp .Not a pos) (zD tA):=by
 intro pins s σ H Q I h;exact isTrue_not (ha pins s σ H (fun c H1=>Q (!c) H1) I h)
def yO(ta tb:TE):TE:=fun σ H Q=>ta σ H fun x H1=>∃c,x = .bl c∧if c=true then tb σ H1 Q else Q (.bl false) H1
def zC(ta tb:TE):TE:=fun σ H Q=>ta σ H fun x H1=>∃c,x = .bl c∧if c=true then Q (.bl true) H1 else tb σ H1 Q
def yH(ta:TE):TE:=fun σ H Q=>ta σ H fun x H1=>∃c,x = .bl c∧Q (.bl (!c)) H1
theorem h8{op}{t:TE}(h:PE X a t):PE X (.BoolOp op [a] pos) t:=fun pins s σ H Q I hw=>BoolOp_one (h pins s σ H Q I hw)
theorem lQ(ha:PE X a ta)(hb:PE X (.BoolOp .And (b::rest) pos) tb):PE X (.BoolOp .And (a::b::rest) pos) (yO ta tb):=by
 intro pins s σ H Q I h;refine BoolOp_and (thn (ha pins s σ H _ I h) fun v s1 ⟨x,H1,I1,r1,q1⟩=>?_);obtain⟨c,rfl,q1⟩:=q1;cases r1;refine wpAny_truthy_bool ?_;cases c with
 | true=>exact hb pins s1 σ H1 Q I1 q1
 | false=>exact⟨.bl false,H1,I1,rfl,q1⟩
theorem wN(ha:PE X a ta)(hb:PE X (.BoolOp .Or (b::rest) pos) tb):PE X (.BoolOp .Or (a::b::rest) pos) (zC ta tb):=by
 intro pins s σ H Q I h;refine BoolOp_or (thn (ha pins s σ H _ I h) fun v s1 ⟨x,H1,I1,r1,q1⟩=>?_);obtain⟨c,rfl,q1⟩:=q1;cases r1;refine wpAny_truthy_bool ?_;cases c with
 | false=>exact hb pins s1 σ H1 Q I1 q1
 | true=>exact⟨.bl true,H1,I1,rfl,q1⟩
theorem sQ(ha:PE X a ta):PE X (.UnaryOp .Not a pos) (yH ta):=by
 intro pins s σ H Q I h;refine UnaryOp_ (thn (ha pins s σ H _ I h) fun v s1 ⟨x,H1,I1,r1,q1⟩=>?_);obtain⟨c,rfl,q1⟩:=q1;cases r1;exact not_of (wpAny_truthy_bool ⟨.bl (!c),H1,I1,rfl,q1⟩)
def tIf(t:TT)(ta tb:TE):TE:=fun σ H Q=>t σ H fun c H1=>if c=true then ta σ H1 Q else tb σ H1 Q
theorem eV{c:Expr}(hc:PT X c tA)(ha:PE X a ta)(hb:PE X b tb):PE X (.IfExp c a b pos) (tIf tA ta tb):=by
 intro pins s σ H Q I h;refine wpAny_IfExp (thn (hc pins s σ H _ I h) fun d s1 ⟨H1,I1,q1⟩=>?_);cases d with
 | true=>exact ha pins s1 σ H1 Q I1 q1
 | false=>exact hb pins s1 σ H1 Q I1 q1
end
end L2
namespace L2
open PySem PySem.Spec PyProof.Rows
def SqL(K:W.Frag)(H:Hp)(a:Addr)(xs:List V):Prop :=
 Rd H a (.lst xs) ∨
  ∃(o:Obj) (its:Array Value) (n:Nat),K.lookup a=some o∧o.cls = .type "list"∧o.dict=none∧o.data = .seq its n∧its.size≤sizeLine∧aN xs its.toList
def SqT(K:W.Frag)(H:Hp)(a:Addr)(xs:List V):Prop :=
 Rd H a (.tup xs) ∨
  ∃(o:Obj) (its:Array Value) (n:Nat),K.lookup a=some o∧o.cls = .type "tuple"∧o.data = .seq its n∧its.size≤sizeLine∧aN xs its.toList
def zX:Value->Option V
 | .none=>some .non
 | .bool b=>some (.bl b)
 | .int i _=>some (.int i)
 | .str x _=>some (.str x)
 | .bytes b _=>some (.byt b)
 | .float b _=>some (.flt b)
 | .ref a=>some (.ref a)
 | .type n=>some (.ty n)
 | _=>none
theorem aU.abs{x:V}{u:Value}(r:aU x u):zX u=some x:=by
 cases x with
 | non=>cases r;rfl
 | bl _=>cases r;rfl
 | int _=>obtain⟨t,rfl⟩:=r;rfl
 | str _=>obtain⟨t,rfl⟩:=r;rfl
 | byt _=>obtain⟨t,rfl⟩:=r;rfl
 | flt _=>obtain⟨t,rfl⟩:=r;rfl
 | ref _=>cases r;rfl
 | ty _=>cases r;rfl
theorem aU.inj{x y:V}{u:Value}(r:aU x u)(q:aU y u):x=y:=Option.some.inj (r.abs.symm.trans q.abs)
theorem aN.inj:∀{xs ys:List V} {us:List Value},aN xs us->aN ys us->xs=ys
 | _,_,_,.nil,.nil=>rfl
 | _,_,_,.cons r t,.cons r' t'=>by rw[r.inj r',aN.inj t t']
section
variable {X:Cx} {pins:List (Addr×Obj)} {σ:St} {H:Hp} {s:Shared} {a:Addr} {xs ys:List V}
theorem SqL.of{K:W.Frag}(h:H a=some (.lst xs)):SqL K H a xs:=.inl (.inl h)
theorem SqT.of{K:W.Frag}(h:H a=some (.tup xs)):SqT K H a xs:=.inl (.inl h)
theorem Aa.list(I:Aa X pins σ H s)(h:SqL X.K H a xs):∃its:List Value,aN xs its∧PlainL s.heap a its.toArray∧xs.length≤sizeLine:=by
 rcases h with h|⟨o,its,n,hk,hc,hd,hs,hz,r⟩
 ·obtain⟨z,its,n,r,e⟩:=h.ok I.hok
  exact⟨its,r,⟨_,n,e,rfl,rfl,rfl⟩,z⟩
 ·refine⟨its.toList,r,⟨o,n,I.kIn a o hk,hc,hd,by simpa using hs⟩,?_⟩
  have e:=r.length;simp only[Array.length_toList]at e;omega
theorem Aa.tuple(I:Aa X pins σ H s)(h:SqT X.K H a xs):∃its:List Value,aN xs its∧IsTup s.heap a its.toArray∧xs.length≤sizeLine:=by
 rcases h with h|⟨o,its,n,hk,hc,hs,hz,r⟩
 ·obtain⟨z,its,r,p⟩:=h.ok I.hok
  exact⟨its,r,p,z⟩
 ·refine⟨its.toList,r,⟨o,I.kIn a o hk,hc,n,by simpa using hs⟩,?_⟩
  have e:=r.length;simp only[Array.length_toList]at e;omega
theorem Aa.list_inj(I:Aa X pins σ H s)(h:SqL X.K H a xs)(h':SqL X.K H a ys):xs=ys:=by
 obtain⟨its,r,⟨o,n,e,_,_,d⟩,_⟩:=I.list h;obtain⟨its',r',⟨o',n',e',_,_,d'⟩,_⟩:=I.list h';rw[e]at e';cases e';rw[d]at d';injection d' with d1 _
 have:its=its':=by simpa using congrArg Array.toList d1
 subst this;exact r.inj r'
theorem Aa.tuple_inj(I:Aa X pins σ H s)(h:SqT X.K H a xs)(h':SqT X.K H a ys):xs=ys:=by
 obtain⟨its,r,⟨o,e,_,n,d⟩,_⟩:=I.tuple h;obtain⟨its',r',⟨o',e',_,n',d'⟩,_⟩:=I.tuple h';rw[e]at e';cases e';rw[d]at d';injection d' with d1 _
 have:its=its':=by simpa using congrArg Array.toList d1
 subst this;exact r.inj r'
end
abbrev Cx.wish(X:Cx)(E:Value->Shared->Prop):Cx:={ X with xe:=E }
abbrev Cx.nox(X:Cx):Cx:=X.wish fun _ _=>False
theorem Cx.Ok.wish{X:Cx}(ok:X.Ok)(E:Value->Shared->Prop):(X.wish E).Ok :=
 ⟨ok.mod,ok.kind,ok.glob,ok.blt,ok.above,ok.inj,ok.has,ok.cab,ok.hd,ok.frames,ok.stk,ok.exf,ok.bs,ok.bsz,ok.noex,ok.exfs,ok.funs,ok.frf⟩
theorem Cx.Ok.unwish{X:Cx}{E:Value->Shared->Prop}(ok:(X.wish E).Ok):X.Ok :=
 ⟨ok.mod,ok.kind,ok.glob,ok.blt,ok.above,ok.inj,ok.has,ok.cab,ok.hd,ok.frames,ok.stk,ok.exf,ok.bs,ok.bsz,ok.noex,ok.exfs,ok.funs,ok.frf⟩
section
variable {X:Cx} {pins:List (Addr×Obj)} {σ:St} {H:Hp} {s:Shared} {E:Value->Shared->Prop}
theorem Aa.wish(I:Aa X pins σ H s)(E:Value->Shared->Prop):Aa (X.wish E) pins σ H s:=⟨I.ok.wish E,I.os,I.bare,I.base,I.loc,I.cell,I.free,I.freeC,I.pin,I.hok,I.len⟩
theorem Aa.unwish(I:Aa (X.wish E) pins σ H s):Aa X pins σ H s:=⟨I.ok.unwish,I.os,I.bare,I.base,I.loc,I.cell,I.free,I.freeC,I.pin,I.hok,I.len⟩
theorem SP.unwish{D:CY}{f:Flow}{s':Shared}(h:SP (X.wish E) pins D f s'):SP X pins D f s':=by
 cases f with
 | next=>obtain⟨σ',H',I,q⟩:=h;exact⟨σ',H',I.unwish,q⟩
 | brk=>obtain⟨σ',H',I,q⟩:=h;exact⟨σ',H',I.unwish,q⟩
 | cont=>obtain⟨σ',H',I,q⟩:=h;exact⟨σ',H',I.unwish,q⟩
 | ret u=>obtain⟨v,σ',H',I,r,q⟩:=h;exact⟨v,σ',H',I.unwish,r,q⟩
theorem PSs.nox{st:List Stmt}{t:TS}(h:PSs X.nox st t):PSs X st t:=fun pins s σ H D I hw =>
 wpAny_mono (h pins s σ H D (I.wish _) hw) (fun _ _ q=>q.unwish) fun _ _ z=>False.elim z
end
section
variable {X:Cx} {st:Stmt} {rest:List Stmt} {t u:TS} {e:Expr} {te:TE} {pos:Pos}
def yI:TS:=fun D σ H=>D.nx σ H
def zB(t u:TS):TS:=fun D σ H=>t { D with nx:=u D } σ H
theorem aF:PSs X [] yI:=fun _ _ σ H _ I h=>wpAny_execs_nil ⟨σ,H,I,h⟩
theorem ai(h1:PS X st t)(h2:PSs X rest u):PSs X (st::rest) (zB t u):=by
 intro pins s σ H D I h;refine wpAny_execs_cons (thn (h1 pins s σ H { D with nx:=u D } I h) fun f s1 q=>?_);cases f with
 | next =>
  obtain⟨σ',H',I',q⟩:=q;exact h2 pins s1 σ' H' D I' q
 | ret v=>exact q
 | brk=>exact q
 | cont=>exact q
theorem ak(h1:PS X st t):PSs X [st] t:=by
 intro pins s σ H D I h;refine wpAny_execs_cons (thn (h1 pins s σ H D I h) fun f s1 q=>?_);cases f with
 | next=>exact wpAny_execs_nil q
 | ret v=>exact q
 | brk=>exact q
 | cont=>exact q
theorem Aa.quiet{pins:List (Addr×Obj)}{σ:St}{H:Hp}{s:Shared}(I:Aa X pins σ H s):interactive X.env=false:=by simp[interactive,I.ok.kind]
def yL(te:TE):TS:=fun D σ H=>te σ H fun _ H1=>D.nx σ H1
theorem bD(he:PE X e te)(hs:swapsWith e none pos.line X.env=pure false:=by rfl):PS X (.Expr e pos) (yL te):=by
 intro pins s σ H D I h;exact wpAny_Expr_any (thn (he pins s σ H _ I h) fun v s1 ⟨x,H1,I1,r1,q1⟩=>⟨σ,H1,I1,q1⟩) I.quiet hs
def yF(te:TE):TS:=fun D σ H=>te σ H D.rt
theorem ay(he:PE X e te):PS X (.Return (some e) pos) (yF te):=by
 intro pins s σ H D I h;exact wpAny_Return_some (thn (he pins s σ H _ I h) fun v s1 ⟨x,H1,I1,r1,q1⟩=>⟨x,σ,H1,I1,r1,q1⟩)
def yE:TS:=fun D _ H=>D.rt .non H
theorem pQ:PS X (.Return none pos) yE:=fun _ _ σ H _ I h=>wpAny_Return_none ⟨.non,σ,H,I,rfl,h⟩
def zF(c:TT)(t u:TS):TS:=fun D σ H=>c σ H fun b H1=>if b=true then t D σ H1 else u D σ H1
theorem aL{c:Expr}{a b:List Stmt}{tc:TT}(hc:PT X c tc)(ha:PSs X a t)(hb:PSs X b u):PS X (.If c a b pos) (zF tc t u):=by
 intro pins s σ H D I h;refine wpAny_If (thn (hc pins s σ H _ I h) fun d s1 ⟨H1,I1,q1⟩=>?_);cases d with
 | true=>exact ha pins s1 σ H1 D I1 q1
 | false=>exact hb pins s1 σ H1 D I1 q1
end
abbrev TG:=V->St->Hp->(St->Hp->Prop)->Prop
abbrev TGs:=List V->St->Hp->(St->Hp->Prop)->Prop
def PG(X:Cx)(target:Expr)(t:TG):Prop :=
 ∀(pins:List (Addr×Obj)) (s:Shared) (σ:St) (H:Hp) (v:V) (u:Value) (Q:St->Hp->Prop),Aa X pins σ H s->aU v u->t v σ H Q ->
  wpAny (model X.prog X.w) X.A (assign target X.env u) (fun _ s'=>∃σ' H',Aa X pins σ' H' s'∧Q σ' H') X.xe s
def PGs(X:Cx)(ts:List Expr)(t:TGs):Prop :=
 ∀(pins:List (Addr×Obj)) (s:Shared) (σ:St) (H:Hp) (vs:List V) (us:List Value) (Q:St->Hp->Prop),Aa X pins σ H s->aN vs us->t vs σ H Q ->
  wpAny (model X.prog X.w) X.A (assignInOrder ((assignEach ts X.env).map (·.2)) us) (fun _ s'=>∃σ' H',Aa X pins σ' H' s'∧Q σ' H') X.xe s
abbrev yr:=V->V->V->Hp->(Hp->Prop)->Prop
def yu(X:Cx)(t:yr):Prop :=
 ∀(pins:List (Addr×Obj)) (s:Shared) (σ:St) (H:Hp) (o i v:V) (ov iv u:Value) (Q:Hp->Prop),Aa X pins σ H s->aU o ov->aU i iv->aU v u->t o i v H Q ->
  wpAny (model X.prog X.w) X.A (setItem ov iv u) (fun _ s'=>∃H',Aa X pins σ H' s'∧Q H') X.xe s
abbrev TIp:=V->V->Hp->VK->Prop
def PIp(X:Cx)(op:Operator)(t:TIp):Prop :=
 ∀(pins:List (Addr×Obj)) (s:Shared) (σ:St) (H:Hp) (x y:V) (v u:Value) (Q:VK),Aa X pins σ H s->aU x v->aU y u->t x y H Q ->
  wpAny (model X.prog X.w) X.A (inplaceOp op v u) (EP X pins σ Q) X.xe s
section
variable {X:Cx} {pos:Pos}
def qj(i:Nat):TG:=fun v σ H Q=>Q (σ.set i (some v)) H
theorem aS{i:Nat}{x:Str}(hN:X.N.Nodup)(hi:X.N[i]? = some x)(hx:Loc X.env.scope x)(hf:X.fn x=true∨X.env.scope.names.lookup x=some .local:=by first|exact .inl rfl|exact .inr rfl|assumption):PG X (.Name x pos) (qj i):=by
 intro pins s σ H v u Q I r h;exact wpAny_assign_Name (gz I hN hi hx r (fun s' I'=>⟨_,H,I',h⟩) hf)
inductive Gz (vs:List V) (σ:St) (H:Hp) (Q:St->Hp->Prop):Prop
 | mk (e:vs = []) (q:Q σ H):Gz vs σ H Q
inductive FW (t:TG) (u:TGs) (vs:List V) (σ:St) (H:Hp) (Q:St->Hp->Prop):Prop
 | mk (v:V) (r:List V) (e:vs=v::r) (q:t v σ H fun σ' H'=>u r σ' H' Q):FW t u vs σ H Q
theorem fI:PGs X [] Gz:=by
 intro pins s σ H vs us Q I r h;obtain⟨e,h⟩:=h;subst e;cases r;exact assignInOrder_nil ⟨σ,H,I,h⟩
theorem bZ{e:Expr}{es:List Expr}{t:TG}{u:TGs}(h1:PG X e t)(h2:PGs X es u)
  (hs:(assignEach (e::es) X.env).map (·.2)=assign e X.env::(assignEach es X.env).map (·.2):=by rfl):PGs X (e::es) (FW t u):=by
 intro pins s σ H vs us Q I r h;obtain⟨v,vr,e1,h⟩:=h;subst e1;cases r with
 | cons r rr =>
  rw[hs];refine assignInOrder_cons (thn (h1 pins s σ H _ _ _ I r h) fun _ s1 ⟨σ1,H1,I1,q1⟩=>?_);exact h2 pins s1 σ1 H1 _ _ Q I1 rr q1
inductive Gy (K:W.Frag) (n:Nat) (t:TGs) (v:V) (σ:St) (H:Hp) (Q:St->Hp->Prop):Prop
 | mk (a:Addr) (xs:List V) (e:v = .ref a) (s:SqT K H a xs) (l:xs.length=n) (q:t xs σ H Q):Gy K n t v σ H Q
theorem hV{es:List Expr}{k:Nat}{t:TGs}{n:Nat}(hc:X.calm=true)(h:PGs X es t)
  (hn:(assignEach es X.env).length=n:=by rfl) (hst:(assignEach es X.env).findIdx? (·.1)=none:=by rfl):PG X (.Tuple es k pos) (Gy X.K n t):=by
 intro pins s σ H v u Q I r hw;obtain⟨a,xs,e1,hq,hl,hw⟩:=hw;subst e1;cases r;obtain⟨its,rv,ht,hz⟩:=I.tuple hq;refine assign_Tuple_tuple (I.ok.hd hc) ht (by simp[hn,<- hl,rv.length]) hst fun h' hx=>?_;have I1:Aa X pins σ H { s with heap:=h' }:=I.kept (t':=s.toks) fun b o e=>hx b o (Nat.ne_of_lt (Heap.lt_size e)) e
 exact h pins _ σ H xs _ Q I1 (by simpa using rv) hw
def zV(to ti:TE)(t:yr):TG:=fun v σ H Q=>to σ H fun o H1=>ti σ H1 fun i H2=>t o i v H2 fun H3=>Q σ H3
theorem xD{o i:Expr}{to ti:TE}{t:yr}(ho:PE X o to)(hi:PE X i ti)(hs:yu X t)
  (ha:∀v,assign (.Subscript o i pos) X.env v=(do
   let ov <- holding [v] (eval o X.env)
   let iv <- holding [v,ov] (eval i X.env)
   standAt pos
   holding [v,ov,iv] (setItem ov iv v)
   release [v,ov,iv] []):=by intro _;rfl):PG X (.Subscript o i pos) (zV to ti t):=by
 intro pins s σ H v u Q I r h;rw[ha];refine wpAny_bind (wpAny_holding (thn (ho pins s σ H _ I h) fun ov s1 ⟨x,H1,I1,r1,q1⟩=>?_));refine wpAny_bind (wpAny_holding (thn (hi pins s1 σ H1 _ I1 q1) fun iv s2 ⟨y,H2,I2,r2,q2⟩=>?_));refine wpAny_bind (wpAny_standAt (wpAny_bind (wpAny_holding (thn (hs pins s2 σ H2 x y v ov iv u _ I2 r1 r2 r q2) fun _ s3 ⟨H3,I3,q3⟩=>?_))));exact wpAny_release ⟨σ,H3,I3,q3⟩
def xm(te:TE)(g:TG):TS:=fun D σ H=>te σ H fun x H1=>g x σ H1 D.nx
theorem xz{tg e:Expr}{te:TE}{g:TG}(he:PE X e te)(hg:PG X tg g)(hs:swapsWithSole [tg] e pos.line X.env=pure false:=by rfl)(hw:swappedStores [tg] e X.env=pure none:=by rfl)
  (h1:(assignEach [tg] X.env).map (·.2) = [assign tg X.env]:=by rfl):PS X (.Assign [tg] e pos) (xm te g):=by
 intro pins s σ H D I h;refine wpAny_Assign_stores (thn (he pins s σ H _ I h) fun v s1 ⟨x,H1,I1,r1,q1⟩=>?_) hs hw;rw[h1];exact thn (hg pins s1 σ H1 x v _ I1 r1 q1) fun _ s2 q=>q
theorem ap{i:Nat}{x:Str}{e:Expr}{te:TE}{pos':Pos}(hN:X.N.Nodup)(hi:X.N[i]? = some x)(hx:Loc X.env.scope x)(he:PE X e te)(hs:swapsWith e (some (.Name x pos')) pos.line X.env=pure false:=by rfl)(hf:X.fn x=true∨X.env.scope.names.lookup x=some .local:=by first|exact .inl rfl|exact .inr rfl|assumption) :
  PS X (.Assign [.Name x pos'] e pos) (xm te (qj i)):=by
 intro pins s σ H D I h;refine wpAny_Assign_Name (thn (he pins s σ H _ I h) fun v s1 ⟨y,H1,I1,r1,q1⟩=>?_) hs;exact gz I1 hN hi hx r1 (fun s2 I2=>⟨_,H1,I2,q1⟩) hf
def zK(i:Nat)(te:TE)(ti:TIp):TS:=fun D σ H=>∃x,σ[i]? = some (some x)∧te σ H fun y H1=>ti x y H1 fun z H2=>D.nx (σ.set i (some z)) H2
theorem xy{i:Nat}{x:Str}{e:Expr}{te:TE}{op:Operator}{ti:TIp}{pos':Pos}(hN:X.N.Nodup)(hi:X.N[i]? = some x)(hx:Loc X.env.scope x)(he:PE X e te)(ho:PIp X op ti)(hf:X.fn x=true∨X.env.scope.names.lookup x=some .local:=by first|exact .inl rfl|exact .inr rfl|assumption) :
  PS X (.AugAssign (.Name x pos') op e pos) (zK i te ti):=by
 intro pins s σ H D I h;obtain⟨v,e1,h⟩:=h;obtain⟨m,hn,hl⟩:=I.loc;have vis:Vis X.env.scope x:=by rcases hx with k|k;exact .inl k;exact .inr (.inl k)
 obtain⟨u,r,l⟩:=hl i x v hi e1 vis;refine wpAny_AugAssign_Name ?_;have go:wpAny (model X.prog X.w) X.A (eval e X.env) (fun w s₂=>wpAny (model X.prog X.w) X.A (inplaceOp op u w) (fun r s₃=>wpAny (model X.prog X.w) X.A (storeName X.env x r) (fun _=>SP X pins D .next) X.xe s₃) X.xe s₂) X.xe s:=by
  refine thn (he pins s σ H _ I h) fun w s1 ⟨y,H1,I1,r1,q1⟩=>?_;refine thn (ho pins s1 σ H1 v y u w _ I1 r r1 q1) fun z s2 ⟨zv,H2,I2,r2,q2⟩=>?_;exact gz I2 hN hi hx r2 (fun s3 I3=>⟨_,H2,I3,q2⟩) hf
 rcases l with⟨hk,hm⟩|⟨hk,c,hc,hcell⟩
 ·exact wpAny_loadName_local I.ok.kind hk hn hm go
 ·rcases hk with hk|hk
  ·exact wpAny_loadName_cell I.ok.kind hk hc hcell go
  ·rcases hx with k|k
   ·have:X.env.scope.names.lookup x=some .free:=hk
    rw[k]at this;cases this
   ·have:X.env.scope.names.lookup x=some .free:=hk
    rw[k]at this;cases this
def ipI(f:Int->Int->Int):TIp:=fun x y H Q=>∃i j,x = .int i∧y = .int j∧Q (.int (f i j)) H
theorem xU:PIp X .Add (ipI fun i j=>i+j):=by
 intro pins s σ H x y v u Q I r1 r2 h;obtain⟨i,j,e1,e2,q⟩:=h;subst e1;subst e2;obtain⟨t,rfl⟩:=r1;obtain⟨t',rfl⟩:=r2;exact iadd_int ⟨.int _,H,I.tok _,⟨_,rfl⟩,q⟩
end
section
variable {X:Cx} {pos:Pos}
def rZ(c:TT)(tb:TS):TS:=fun D σ H=>∃W:Nat->St->Hp->Prop,(∃m,W m σ H)∧∀m σ H,W m σ H ->
 c σ H fun b H1=>if b=true then ∃N:St->Hp->Prop,(∀σ' H',N σ' H'->∃m',m'<m∧W m' σ' H')∧tb { D with nx:=N,ct:=N,bk:=D.nx } σ H1 else D.nx σ H1
theorem dE{c:Expr}{body:List Stmt}{tc:TT}{tb:TS}(hp:PassesOwn (model X.prog X.w) X.A X.env X.xe)(hc:PT X c tc)(hb:PSs X body tb):PS X (.While c body [] pos) (rZ tc tb):=by
 intro pins s σ H D I h;obtain⟨W,⟨m0,w0⟩,turn⟩:=h;refine wpAny_While (codeAny_whileLoop (fun n s'=>∃σ' H',Aa X pins σ' H' s'∧W n σ' H') ?_ m0 ⟨σ,H,I,w0⟩);rintro n s1 ⟨σ1,H1,I1,w1⟩;refine wpAny_passesOwn hp (thn (hc pins s1 σ1 H1 _ I1 (turn n σ1 H1 w1)) fun b s2 ⟨H2,I2,q2⟩=>?_);cases b with
 | true =>
  obtain⟨N,hN,q2⟩:=q2;rw[if_pos rfl];refine wpAny_passesOwn hp (thn (hb pins s2 σ1 H2 _ I2 q2) fun f s3 q3=>?_);cases f with
  | next =>
   obtain⟨σ3,H3,I3,n3⟩:=q3;obtain⟨m',hm,w3⟩:=hN σ3 H3 n3;exact⟨m',hm,σ3,H3,I3,w3⟩
  | cont =>
   obtain⟨σ3,H3,I3,n3⟩:=q3;obtain⟨m',hm,w3⟩:=hN σ3 H3 n3;exact⟨m',hm,σ3,H3,I3,w3⟩
  | brk=>exact q3
  | ret v=>exact q3
 | false =>
  rw[if_neg Bool.false_ne_true];exact wpAny_execs_nil ⟨σ1,H2,I2,q2⟩
end
structure It where
 go:Nat->Hp->Prop
 yld:Nat->Hp->V->Hp->Prop
 stop:Nat->Hp->Prop
def eO(X:Cx)(pins:List (Addr×Obj))(H:Hp)(b:Addr):Prop :=
 H b=none∧b≠X.env.locals∧b∉X.fs∧(b∈X.ex∨X.s₀.heap.objs.size≤b)∧(∀x c,X.env.cells.lookup x=some c->c≠b)∧∀p∈X.pn++pins,p.1≠b
theorem Aa.fpOk{X:Cx}{pins:List (Addr×Obj)}{σ:St}{H H':Hp}{s:Shared}{b:Addr}(I:Aa X pins σ H s)(hb:s.heap.objs.size≤b)(hn:H' b=none):eO X pins H' b:=by
 refine⟨hn,Nat.ne_of_gt (Nat.lt_of_lt_of_le I.lt hb),I.nofs hb,.inr (Nat.le_trans I.sz hb),fun x c e z=>?_,fun p hp z=>?_⟩
 ·obtain⟨v,q⟩:=I.cell x c e
  exact absurd (Nat.lt_of_lt_of_le q.lt (by rw[z];exact hb)) (Nat.lt_irrefl _)
 ·exact absurd (Nat.lt_of_lt_of_le (Heap.lt_size (I.pin p hp).1) (by rw[z];exact hb)) (Nat.lt_irrefl _)
structure Em(P:Program)(w:World)(K:W.Frag)(tg:Expr)(J:It)(fp:List Addr)(it:Addr)(tn:Nat->Heap->Prop):Prop where
 mem:it∈fp
 obj:∀i h,tn i h->∀b∈fp,∃o,h.get? b=some o∧∀v,o.data≠.cell v
 keep:∀i h h',tn i h->(∀b∈fp,∀o,h.get? b=some o->h'.get? b=some o)->tn i h'
 item:∀(X:Cx),X.prog=P->X.w=w->X.K=K->X.calm=true->∀(i:Nat) (pins:List (Addr×Obj)) (s:Shared) (σ:St) (H:Hp) (E:Value->Shared->Prop),Aa X pins σ H s->(∀b∈fp,eO X pins H b)->tn i s.heap->J.go i H ->
  wpAny (model P w) X.A (pyNext (.ref it)) (fun r s1=>∃u,r=some u ∧
   wpAny (model P w) X.A (letOwnedTupleGo tg (.ref it) u) (fun _ s2=>∃x H',Aa X pins σ H' s2∧aU x u∧J.yld i H x H'∧tn (i+1) s2.heap∧∀b∈fp,H' b=none) E s1) E s
 done:∀(X:Cx),X.prog=P->X.w=w->X.K=K->X.calm=true->∀(i:Nat) (pins:List (Addr×Obj)) (s:Shared) (σ:St) (H:Hp) (E:Value->Shared->Prop),Aa X pins σ H s->(∀b∈fp,eO X pins H b)->tn i s.heap->J.stop i H ->
  wpAny (model P w) X.A (pyNext (.ref it)) (fun r s1=>r=none∧Aa X pins σ H s1) E s
 self:∀(A:Around) (i:Nat) (s:Shared) (Q:Value->Shared->Prop) (E:Value->Shared->Prop),tn i s.heap->Q (.ref it) s->wpAny (model P w) A (pyIter (.ref it)) Q E s
abbrev TI:=St->Hp->(It->Hp->Prop)->Prop
def PIE(X:Cx)(pins:List (Addr×Obj))(σ:St)(tg:Expr)(R:It->Hp->Prop)(itv:Value)(s2:Shared):Prop :=
 ∃(it:Addr) (fp:List Addr) (tn:Nat->Heap->Prop) (J:It) (H':Hp),itv = .ref it∧Aa X pins σ H' s2∧Em X.prog X.w X.K tg J fp it tn∧tn 0 s2.heap∧(∀b∈fp,eO X pins H' b)∧R J H'
def PI(X:Cx)(tg iter:Expr)(wi:TI):Prop :=
 ∀(pins:List (Addr×Obj)) (s:Shared) (σ:St) (H:Hp) (R:It->Hp->Prop),Aa X pins σ H s->wi σ H R ->
  wpAny (model X.prog X.w) X.A (eval iter X.env) (fun v s1=>wpAny (model X.prog X.w) X.A (pyIter v) (PIE X pins σ tg R) X.xe s1) X.xe s
theorem m9{M:Model}{A:Around}{E:Value->Shared->Prop}{s:Shared}{tg:Expr}{it:Addr}{u:Value}{o:Obj}{n:String}{vs:Array Value}{Q:Unit->Shared->Prop}(ho:s.heap.get? it=some o)(hc:o.cls = .type n)(hd:o.data = .fields vs)
    (hn:["enumerate","zip","dict_itemiterator","dict_reverseitemiterator","odict_iterator","itertools.zip_longest","itertools.pairwise"].contains n=false) (hQ:Q () s):wpAny M A (letOwnedTupleGo tg (.ref it) u) Q E s:=by
  unfold letOwnedTupleGo;cases tg <;> first
    | exact wpAny_pure hQ
    | (cases u <;> first
        | exact wpAny_pure hQ
        | (refine wpAny_bind (wpAny_load ho ?_)
           rw[hc,hd];show wpAny M A (if (["enumerate","zip","dict_itemiterator","dict_reverseitemiterator","odict_iterator","itertools.zip_longest","itertools.pairwise"].contains n && vs[0]? == some (rawInt _))=true then _ else _) Q E s
           rw[if_neg (by intro h;rw[hn,Bool.false_and]at h;cases h)];exact wpAny_pure hQ))
def Itl(K:W.Frag)(a:Addr):It :=
 ⟨fun i H=>∃xs x,SqL K H a xs∧xs[i]? = some x,fun i H x H'=>H'=H∧∀xs,SqL K H a xs->xs[i]? = some x,fun i H=>∃xs,SqL K H a xs∧xs.length≤i⟩
def Itt(K:W.Frag)(a:Addr):It :=
 ⟨fun i H=>∃xs x,SqT K H a xs∧xs[i]? = some x,fun i H x H'=>H'=H∧∀xs,SqT K H a xs->xs[i]? = some x,fun i H=>∃xs,SqT K H a xs∧xs.length≤i⟩
def Itr(lo:Int)(n:Nat):It:=⟨fun i _=>i<n,fun i H x H'=>H'=H∧x = .int (lo+i),fun i _=>n≤i⟩
theorem qy{P:Program}{w:World}{K:W.Frag}{tg:Expr}(a it:Addr):Em P w K tg (Itl K a) [it] it (fun i h=>h.IsListIter it a i) where
 mem:=by simp
 obj:=fun i h st b hb=>by
  have e:b=it:=by simpa using hb
  subst e;obtain⟨o,e,c,d⟩:=st;exact⟨o,e,fun v z=>by rw[d]at z;cases z⟩
 keep:=fun i h h' st k=>st.at fun o e=>k it (by simp) o e
 item:=by
  intro X hP hw hK hc i pins s σ H E I hf st hg;subst hP hw hK;obtain⟨xs,x,hq,hx⟩:=hg;obtain⟨its,rv,p,hz⟩:=I.list hq;obtain⟨u,hu,ru⟩:=rv.get hx;obtain⟨f0,f1,f2,f3,f4,f5⟩:=hf it (by simp);refine wpAny_pyNext_list_item st p.isList (x:=u) (by simpa using hu) fun h' st' sb=>?_;have I1:Aa X pins σ H { s with heap:=h' }:=I.turned (t':=s.toks) (fun b o hb e=>(sb.2 b hb).trans e) f0 f1 f3 f4 f5;obtain⟨o,e,c,d⟩:=id st';exact⟨u,rfl,m9 (s:={ s with heap:=h' }) e c d (by decide) ⟨x,H,I1,ru,⟨rfl,fun ys hy=>by rw[I.list_inj hy hq];exact hx⟩,st',fun b hb=>(hf b hb).1⟩⟩
 done:=by
  intro X hP hw hK hc i pins s σ H E I hf st hg;subst hP hw hK;obtain⟨xs,hq,hx⟩:=hg;obtain⟨its,rv,p,hz⟩:=I.list hq;obtain⟨f0,f1,f2,f3,f4,f5⟩:=hf it (by simp);have hl:=rv.length;exact wpAny_pyNext_list_end (I.ok.hd hc) st p.isList (by simp;omega) fun h' eb=>⟨rfl,I.turned (t':=s.toks) (fun b o hb e=>eb b o hb e) f0 f1 f3 f4 f5⟩
 self:=fun _ _ _ _ _ st h=>wpAny_pyIter_listiter st h
theorem oq{P:Program}{w:World}{K:W.Frag}{tg:Expr}(a it:Addr):Em P w K tg (Itt K a) [it] it (fun i h=>h.IsTupleIter it a i) where
 mem:=by simp
 obj:=fun i h st b hb=>by
  have e:b=it:=by simpa using hb
  subst e;obtain⟨o,e,c,d⟩:=st;exact⟨o,e,fun v z=>by rw[d]at z;cases z⟩
 keep:=fun i h h' st k=>st.at fun o e=>k it (by simp) o e
 item:=by
  intro X hP hw hK hc i pins s σ H E I hf st hg;subst hP hw hK;obtain⟨xs,x,hq,hx⟩:=hg;obtain⟨its,rv,p,hz⟩:=I.tuple hq;obtain⟨u,hu,ru⟩:=rv.get hx;obtain⟨f0,f1,f2,f3,f4,f5⟩:=hf it (by simp);refine wpAny_pyNext_tuple_item st (show s.heap.IsTuple a its.toArray from p) (x:=u) (by simpa using hu) fun h' st' sb=>?_;have I1:Aa X pins σ H { s with heap:=h' }:=I.turned (t':=s.toks) (fun b o hb e=>(sb.2 b hb).trans e) f0 f1 f3 f4 f5;obtain⟨o,e,c,d⟩:=id st';exact⟨u,rfl,m9 (s:={ s with heap:=h' }) e c d (by decide) ⟨x,H,I1,ru,⟨rfl,fun ys hy=>by rw[I.tuple_inj hy hq];exact hx⟩,st',fun b hb=>(hf b hb).1⟩⟩
 done:=by
  intro X hP hw hK hc i pins s σ H E I hf st hg;subst hP hw hK;obtain⟨xs,hq,hx⟩:=hg;obtain⟨its,rv,p,hz⟩:=I.tuple hq;obtain⟨f0,f1,f2,f3,f4,f5⟩:=hf it (by simp);have hl:=rv.length;exact wpAny_pyNext_tuple_end (I.ok.hd hc) st (show s.heap.IsTuple a its.toArray from p) (by simp;omega) fun h' eb=>⟨rfl,I.turned (t':=s.toks) (fun b o hb e=>eb b o hb e) f0 f1 f3 f4 f5⟩
 self:=fun _ _ _ _ _ st h=>wpAny_pyIter_tupleiter st h
theorem ow{P:Program}{w:World}{K:W.Frag}{tg:Expr}(it:Addr)(lo:Int)(n:Nat):Em P w K tg (Itr lo n) [it] it (fun i h=>IsRangeIter h it (lo+(i:Nat)*1) ((n:Int) - (i:Nat)) 1) where
 mem:=by simp
 obj:=fun i h st b hb=>by
  have e:b=it:=by simpa using hb
  subst e;exact⟨_,st,fun v z=>by
   have z':Data.fields _=Data.cell v:=z;cases z'⟩
 keep:=fun i h h' st k=>k it (by simp) _ st
 item:=by
  intro X hP hw hK hc i pins s σ H E I hf st hg;subst hP hw hK;obtain⟨f0,f1,f2,f3,f4,f5⟩:=hf it (by simp);have W:=Walks.range (prog:=X.prog) (w:=X.w) (I.ok.hd hc) it lo 1 n;refine W.item i s _ _ hg st fun v h' tk hv st' kk=>?_;obtain⟨t,rfl⟩:=hv;have I1:Aa X pins σ H { s with heap:=h',toks:=tk }:=I.turned (fun b o hb e=>kk b o (by simpa using hb) e) f0 f1 f3 f4 f5;refine⟨_,rfl,m9 (s:={ s with heap:=h',toks:=tk }) (n:="range_iterator") st' rfl rfl (by decide) ⟨.int (lo+i),H,I1,⟨t,?_⟩,⟨rfl,rfl⟩,st',fun b hb=>(hf b hb).1⟩⟩;rw[Int.mul_one]
 done:=by
  intro X hP hw hK hc i pins s σ H E I hf st hg;subst hP hw hK;obtain⟨f0,f1,f2,f3,f4,f5⟩:=hf it (by simp);exact wpAny_pyNext_range_end (I.ok.hd hc) st (by have:n≤i:=hg;omega) fun h' eb=>⟨rfl,I.turned (t':=s.toks) (fun b o hb e=>eb b o hb e) f0 f1 f3 f4 f5⟩
 self:=fun _ _ _ _ _ st h=>wpAny_pyIter_rangeiter st h
end L2
namespace L2
open PySem PySem.Spec PyProof.Rows
section
variable {X:Cx} {tg:Expr}
def zc(K:W.Frag)(tl:TE):TI:=fun σ H R=>tl σ H fun x H1=>∃a,x = .ref a∧(∃xs,SqL K H1 a xs)∧R (Itl K a) H1
def zQ(K:W.Frag)(tl:TE):TI:=fun σ H R=>tl σ H fun x H1=>∃a,x = .ref a∧(∃xs,SqT K H1 a xs)∧R (Itt K a) H1
theorem fH{l:Expr}{tl:TE}(hl:PE X l tl):PI X tg l (zc X.K tl):=by
 intro pins s σ H R I h;refine thn (hl pins s σ H _ I h) fun v s1 ⟨x,H1,I1,r1,q1⟩=>?_;obtain⟨a,e,⟨xs,hq⟩,q⟩:=q1;subst e;cases r1;obtain⟨its,rv,p,hz⟩:=I1.list hq;refine wpAny_pyIter_list p.isList ?_;refine⟨s1.heap.objs.size,[s1.heap.objs.size],_,_,H1,rfl,I1.kept (t':=s1.toks) fun b o e=>Heap.get?_push_of_some _ e,qy a _,⟨_,Heap.get?_push_size _ rfl,rfl,rfl⟩,fun b hb=>?_,q⟩;have e:b=s1.heap.objs.size:=by simpa using hb
 subst e;exact I1.fpOk (Nat.le_refl _) (I1.hok.fresh (Nat.le_refl _))
theorem xB{l:Expr}{tl:TE}(hl:PE X l tl):PI X tg l (zQ X.K tl):=by
 intro pins s σ H R I h;refine thn (hl pins s σ H _ I h) fun v s1 ⟨x,H1,I1,r1,q1⟩=>?_;obtain⟨a,e,⟨xs,hq⟩,q⟩:=q1;subst e;cases r1;obtain⟨its,rv,p,hz⟩:=I1.tuple hq;refine wpAny_pyIter_tuple (show s1.heap.IsTuple a its.toArray from p) ?_;refine⟨s1.heap.objs.size,[s1.heap.objs.size],_,_,H1,rfl,I1.kept (t':=s1.toks) fun b o e=>Heap.get?_push_of_some _ e,oq a _,⟨_,Heap.get?_push_size _ rfl,rfl,rfl⟩,fun b hb=>?_,q⟩;have e:b=s1.heap.objs.size:=by simpa using hb
 subst e;exact I1.fpOk (Nat.le_refl _) (I1.hok.fresh (Nat.le_refl _))
theorem mJ{pins:List (Addr×Obj)}{σ:St}{H:Hp}{s:Shared}{R:It->Hp->Prop}{E:Value->Shared->Prop}{lo hi:Int}{t u v:Tok}{tk:Nat}(I:Aa X pins σ H s)(h1:-(2^62)≤lo)(h2:lo<2^62)(h3:-(2^62)≤hi)(h4:hi<2^62)
  (q:R (Itr lo (hi - lo).toNat) H):wpAny (model X.prog X.w) X.A (pyIter (.ref s.heap.objs.size)) (PIE X pins σ tg R) E { s with heap:=s.heap.push { cls:=.type "range",data:=.fields #[.int lo t,.int hi u,.int 1 v] },toks:=tk }:=by
 refine wpAny_pyIter_range (IsRange.new ..) (small_one h1 h2 h3 h4) ?_;have I1:Aa X pins σ H { s with heap:=s.heap.push { cls:=.type "range",data:=.fields #[.int lo t,.int hi u,.int 1 v] },toks:=tk }:=I.kept fun b o e=>Heap.get?_push_of_some _ e;refine⟨(s.heap.push { cls:=.type "range",data:=.fields #[.int lo t,.int hi u,.int 1 v] }).objs.size,[(s.heap.push { cls:=.type "range",data:=.fields #[.int lo t,.int hi u,.int 1 v] }).objs.size],_,_,H,rfl,
  I1.kept (t':=tk) fun b o e=>Heap.get?_push_of_some _ e,ow _ lo (hi - lo).toNat,?_,fun b hb=>?_,q⟩
 ·have e1:lo+((0:Nat):Int)*1=lo:=by simp
  have e2:(((hi - lo).toNat:Nat):Int) - ((0:Nat):Int)=Builtin.Range.rangeSize lo hi 1:=by rw[rangeSize_one];split <;> omega
  show IsRangeIter _ _ (lo+((0:Nat):Int)*1) ((((hi - lo).toNat:Nat):Int) - ((0:Nat):Int)) 1;rw[e1,e2];exact Heap.get?_push_size _ rfl
 ·have e:b=(s.heap.push { cls:=.type "range",data:=.fields #[.int lo t,.int hi u,.int 1 v] }).objs.size:=by simpa using hb
  subst e;exact I1.fpOk (Nat.le_refl _) (I1.hok.fresh (Nat.le_refl _))
def zb(ta:TA):TI:=fun σ H R=>ta σ H fun vs H1=>∃j:Int,vs = [.int j]∧-(2^62)≤j∧j<2^62∧R (Itr 0 j.toNat) H1
def za(ta:TA):TI:=fun σ H R=>ta σ H fun vs H1=>∃i j:Int,vs = [.int i,.int j]∧(-(2^62)≤i∧i<2^62∧-(2^62)≤j∧j<2^62)∧R (Itr i (j - i).toNat) H1
theorem cf{a:Expr}{ta:TA}{p pos:Pos}(hg:Gl X "range")(hm:X.mg "range" = none)(ha:PA X [a] ta)(hs:starEach [a] X.env = [(false,eval a X.env)]:=by rfl):PI X tg (.Call (.Name "range" p) [a] [] pos) (zb ta):=by
 intro pins s σ H R I h;refine Call_ (fW I hg hm boot_range (PyProof.Rows.callWith_type1 (thn (ha pos pins s σ H _ I h) fun us s1 ⟨vs,H1,I1,r1,q1⟩=>?_) hs rfl));obtain⟨j,e,q1,q2,q⟩:=q1;subst e;cases r1 with
 | cons r rr =>
  cases rr;obtain⟨t,rfl⟩:=r;exact call_range_1 (mJ I1 (by omega) (by omega) q1 q2 (by simpa using q))
theorem qI{a b:Expr}{ta:TA}{p pos:Pos}(hg:Gl X "range")(hm:X.mg "range" = none)(ha:PA X [a,b] ta)(hs:starEach [a,b] X.env = [(false,eval a X.env),(false,eval b X.env)]:=by rfl)(hs2:starEach [b] X.env = [(false,eval b X.env)]:=by rfl) :
  PI X tg (.Call (.Name "range" p) [a,b] [] pos) (za ta):=by
 intro pins s σ H R I h;refine Call_ (fW I hg hm boot_range (PyProof.Rows.callWith_type1 (thn (ha pos pins s σ H _ I h) fun us s1 ⟨vs,H1,I1,r1,q1⟩=>?_) (by rw[hs,hs2]) (by rw[hs2];rfl)));obtain⟨i,j,e,⟨q1,q2,q3,q4⟩,q⟩:=q1;subst e;cases r1 with
 | cons r rr =>
  cases rr with
  | cons r' rr =>
   cases rr;obtain⟨t,rfl⟩:=r;obtain⟨t',rfl⟩:=r';exact call_range_2 (mJ I1 q1 q2 q3 q4 q)
def zH(wi:TI)(g:TG)(tb:TS):TS:=fun D σ H=>wi σ H fun J H1=>∃W:Nat->Nat->St->Hp->Prop,(∃m,W 0 m σ H1)∧∀i m σ H,W i m σ H ->
 (J.stop i H∧D.nx σ H)∨(J.go i H∧∃N:St->Hp->Prop,(∀σ' H',N σ' H'->∃m',m'<m∧W (i+1) m' σ' H')∧∀x H',J.yld i H x H'->g x σ H' fun σ2 H2=>tb { D with nx:=N,ct:=N,bk:=D.nx } σ2 H2)
def jB(fp:List Addr)(h:Heap):List (Addr×Obj):=fp.filterMap fun b=>(h.get? b).map fun o=>(b,o)
theorem de{fp:List Addr}{h:Heap}{b:Addr}{o:Obj}(hb:b∈fp)(e:h.get? b=some o):(b,o)∈jB fp h:=List.mem_filterMap.mpr ⟨b,hb,by rw[e];rfl⟩
theorem qO{fp:List Addr}{h:Heap}{p:Addr×Obj}(hp:p∈jB fp h):p.1∈fp∧h.get? p.1=some p.2:=by
 obtain⟨b,hb,e⟩:=List.mem_filterMap.mp hp;cases q:h.get? b with
 | none=>rw[q]at e;cases e
 | some o =>
  rw[q]at e;have e':(b,o)=p:=Option.some.inj e;subst e';exact⟨hb,q⟩
theorem Aa.pinned{pins:List (Addr×Obj)}{σ:St}{H:Hp}{s:Shared}{fp:List Addr}(I:Aa X pins σ H s)(hf:∀b∈fp,eO X pins H b)(ho:∀b∈fp,∃o,s.heap.get? b=some o∧∀v,o.data≠.cell v):Aa X (pins++jB fp s.heap) σ H s :=
 I.pins_of fun p hp=>(List.mem_append.mp hp).elim (fun z=>I.pin p (List.mem_append_right _ z)) fun z=>by
  obtain⟨hb,e⟩:=qO z;obtain⟨f0,f1,f2,_⟩:=hf p.1 hb;obtain⟨o,e',d⟩:=ho p.1 hb;rw[e]at e';cases e';exact⟨e,f0,f1,f2,d⟩
theorem Aa.unpinned{pins pl:List (Addr×Obj)}{σ:St}{H:Hp}{s:Shared}(I:Aa X (pins++pl) σ H s):Aa X pins σ H s:=I.pins_of fun p hp=>I.pin p (List.mem_append_right _ (List.mem_append_left _ hp))
theorem bW{iter:Expr}{body:List Stmt}{wi:TI}{g:TG}{tb:TS}{pos:Pos}(hp:PassesOwn (model X.prog X.w) X.A X.env X.xe)(hc:X.calm=true)(hi:PI X tg iter wi)(hg:PG X tg g)(hb:PSs X body tb)
  (hs:∀x,foldedSetIterable iter X.env x=pure x:=by intro _;rfl):PS X (.For tg iter body [] pos) (zH wi g tb):=by
 intro pins s σ H D I h;refine wpAny_For (thn (hi pins s σ H _ I h) fun v s1 h1=>thn h1 fun itv s2 h2=>?_) hs;obtain⟨it,fp,tn,J,H2,e,I2,T,st2,f2,W,⟨m0,w0⟩,turn⟩:=h2;subst e;have stat:∀{H':Hp},(∀b∈fp,H' b=none)->∀b∈fp,eO X pins H' b:=fun hn b hb=>⟨hn b hb,(f2 b hb).2⟩;refine codeAny_forLoop_any (fun n s'=>∃i σ' H',Aa X pins σ' H' s'∧tn i s'.heap∧(∀b∈fp,H' b=none)∧W i n σ' H') ?_ m0 ⟨0,σ,H2,I2,st2,fun b hb=>(f2 b hb).1,w0⟩;rintro n s3 ⟨i,σ3,H3,I3,st3,fr3,w3⟩;rcases turn i n σ3 H3 w3 with⟨stop,qn⟩|⟨go,N,hN,step⟩
 ·refine wpAny_passesOwn hp (thn (T.done X rfl rfl rfl hc i pins s3 σ3 H3 X.xe I3 (stat fr3) st3 stop) fun r s4 ⟨hr,I4⟩=>?_)
  subst hr;exact wpAny_execs_nil ⟨σ3,H3,I4,qn⟩
 ·refine wpAny_passesOwn hp (thn (T.item X rfl rfl rfl hc i pins s3 σ3 H3 X.xe I3 (stat fr3) st3 go) fun r s4 ⟨u,hr,h4⟩=>?_)
  subst hr;refine wpAny_passesOwn hp (thn h4 fun _ s5 ⟨x,H5,I5,r5,y5,st5,fr5⟩=>?_);have I5':=I5.pinned (stat fr5) (T.obj _ _ st5);refine wpAny_passesOwn hp (thn (hg _ s5 σ3 H5 x u _ I5' r5 (step x H5 y5)) fun _ s6 ⟨σ6,H6,I6,q6⟩=>?_);refine wpAny_passesOwn hp (thn (hb _ s6 σ6 H6 _ I6 q6) fun f s7 q7=>?_);have again:∀{σ7:St} {H7:Hp},Aa X (pins++jB fp s5.heap) σ7 H7 s7->N σ7 H7->∃m,m<n∧∃i σ' H',Aa X pins σ' H' s7∧tn i s7.heap∧(∀b∈fp,H' b=none)∧W i m σ' H':=fun {σ7 H7} I7 n7=>by
   obtain⟨m',hm,w7⟩:=hN σ7 H7 n7;refine⟨m',hm,i+1,σ7,H7,I7.unpinned,T.keep _ _ _ st5 fun b hb o e=>(I7.pin (b,o) (List.mem_append_right _ (List.mem_append_right _ (de hb e)))).1,fun b hb=>?_,w7⟩;obtain⟨o,e,d⟩:=T.obj _ _ st5 b hb;exact(I7.pin (b,o) (List.mem_append_right _ (List.mem_append_right _ (de hb e)))).2.1
  cases f with
  | next=>obtain⟨σ7,H7,I7,n7⟩:=q7;exact again I7 n7
  | cont=>obtain⟨σ7,H7,I7,n7⟩:=q7;exact again I7 n7
  | brk=>obtain⟨σ7,H7,I7,q7⟩:=q7;exact⟨σ7,H7,I7.unpinned,q7⟩
  | ret v=>obtain⟨x7,σ7,H7,I7,r7,q7⟩:=q7;exact⟨x7,σ7,H7,I7.unpinned,r7,q7⟩
end
theorem gL{K:W.Frag}{a:Addr}{xs:List V}{g:TG}{tb:TS}{D:CY}{σ:St}{H:Hp}(Pv:Nat->St->Hp->Prop)(h0:Pv 0 σ H)(hl:∀i σ H,i≤xs.length->Pv i σ H->SqL K H a xs)
  (hs:∀i x σ H,xs[i]? = some x->Pv i σ H->g x σ H fun σ2 H2=>tb { D with nx:=Pv (i+1),ct:=Pv (i+1),bk:=D.nx } σ2 H2) (hd:∀σ H,Pv xs.length σ H->D.nx σ H) :
  ∃W:Nat->Nat->St->Hp->Prop,(∃m,W 0 m σ H)∧∀i m σ H,W i m σ H ->
   ((Itl K a).stop i H∧D.nx σ H)∨((Itl K a).go i H∧∃N:St->Hp->Prop,(∀σ' H',N σ' H'->∃m',m'<m∧W (i+1) m' σ' H')∧∀x H',(Itl K a).yld i H x H'->g x σ H' fun σ2 H2=>tb { D with nx:=N,ct:=N,bk:=D.nx } σ2 H2):=by
 refine⟨fun i m σ H=>m=xs.length - i∧i≤xs.length∧Pv i σ H,⟨xs.length,by simp,Nat.zero_le _,h0⟩,?_⟩;rintro i m σ H ⟨rfl,hi,p⟩;have q:=hl i σ H hi p
 by_cases hlt:i<xs.length
 ·refine .inr ⟨⟨xs,xs[i],q,by simp[hlt]⟩,Pv (i+1),fun σ' H' p'=>⟨xs.length - (i+1),by omega,rfl,hlt,p'⟩,fun x H' y=>?_⟩
  obtain⟨e,y⟩:=y;subst e;exact hs i x σ _ (y xs q) p
 ·have e:i=xs.length:=by omega
  subst e;exact .inl ⟨⟨xs,q,Nat.le_refl _⟩,hd σ H p⟩
theorem vO{K:W.Frag}{a:Addr}{xs:List V}{g:TG}{tb:TS}{D:CY}{σ:St}{H:Hp}(Pv:Nat->St->Hp->Prop)(h0:Pv 0 σ H)(hl:∀i σ H,i≤xs.length->Pv i σ H->SqT K H a xs)
  (hs:∀i x σ H,xs[i]? = some x->Pv i σ H->g x σ H fun σ2 H2=>tb { D with nx:=Pv (i+1),ct:=Pv (i+1),bk:=D.nx } σ2 H2) (hd:∀σ H,Pv xs.length σ H->D.nx σ H) :
  ∃W:Nat->Nat->St->Hp->Prop,(∃m,W 0 m σ H)∧∀i m σ H,W i m σ H ->
   ((Itt K a).stop i H∧D.nx σ H)∨((Itt K a).go i H∧∃N:St->Hp->Prop,(∀σ' H',N σ' H'->∃m',m'<m∧W (i+1) m' σ' H')∧∀x H',(Itt K a).yld i H x H'->g x σ H' fun σ2 H2=>tb { D with nx:=N,ct:=N,bk:=D.nx } σ2 H2):=by
 refine⟨fun i m σ H=>m=xs.length - i∧i≤xs.length∧Pv i σ H,⟨xs.length,by simp,Nat.zero_le _,h0⟩,?_⟩;rintro i m σ H ⟨rfl,hi,p⟩;have q:=hl i σ H hi p
 by_cases hlt:i<xs.length
 ·refine .inr ⟨⟨xs,xs[i],q,by simp[hlt]⟩,Pv (i+1),fun σ' H' p'=>⟨xs.length - (i+1),by omega,rfl,hlt,p'⟩,fun x H' y=>?_⟩
  obtain⟨e,y⟩:=y;subst e;exact hs i x σ _ (y xs q) p
 ·have e:i=xs.length:=by omega
  subst e;exact .inl ⟨⟨xs,q,Nat.le_refl _⟩,hd σ H p⟩
theorem cw{lo:Int}{n:Nat}{g:TG}{tb:TS}{D:CY}{σ:St}{H:Hp}(Pv:Nat->St->Hp->Prop)(h0:Pv 0 σ H)
  (hs:∀i σ H,i<n->Pv i σ H->g (.int (lo+i)) σ H fun σ2 H2=>tb { D with nx:=Pv (i+1),ct:=Pv (i+1),bk:=D.nx } σ2 H2) (hd:∀σ H,Pv n σ H->D.nx σ H) :
  ∃W:Nat->Nat->St->Hp->Prop,(∃m,W 0 m σ H)∧∀i m σ H,W i m σ H ->
   ((Itr lo n).stop i H∧D.nx σ H)∨((Itr lo n).go i H∧∃N:St->Hp->Prop,(∀σ' H',N σ' H'->∃m',m'<m∧W (i+1) m' σ' H')∧∀x H',(Itr lo n).yld i H x H'->g x σ H' fun σ2 H2=>tb { D with nx:=N,ct:=N,bk:=D.nx } σ2 H2):=by
 refine⟨fun i m σ H=>m=n - i∧i≤n∧Pv i σ H,⟨n,by simp,Nat.zero_le _,h0⟩,?_⟩;rintro i m σ H ⟨rfl,hi,p⟩
 by_cases hlt:i<n
 ·refine .inr ⟨hlt,Pv (i+1),fun σ' H' p'=>⟨n - (i+1),by omega,rfl,hlt,p'⟩,fun x H' y=>?_⟩
  obtain⟨e,y⟩:=y;subst e y;exact hs i σ _ hlt p
 ·have e:i=n:=by omega
  subst e;exact .inl ⟨Nat.le_refl _,hd σ H p⟩
theorem dC{c:TT}{tb:TS}{D:CY}{σ:St}{H:Hp}(Pv:St->Hp->Prop)(μ:St->Hp->Nat)(h0:Pv σ H)
  (hs:∀σ H,Pv σ H->c σ H fun b H1=>if b=true then tb { D with nx:=fun σ' H'=>Pv σ' H'∧μ σ' H'<μ σ H,ct:=fun σ' H'=>Pv σ' H'∧μ σ' H'<μ σ H,bk:=D.nx } σ H1 else D.nx σ H1)
  (mono:∀σ H Q Q',(∀b H1,Q b H1->Q' b H1)->c σ H Q->c σ H Q'):rZ c tb D σ H:=by
 refine⟨fun m σ H=>m=μ σ H∧Pv σ H,⟨_,rfl,h0⟩,?_⟩;rintro m σ H ⟨rfl,p⟩;refine mono σ H _ _ (fun b H1 q=>?_) (hs σ H p);cases b with
 | true=>exact⟨_,fun σ' H' ⟨p',l⟩=>⟨_,l,rfl,p'⟩,q⟩
 | false=>exact q
end L2
namespace L2
open PySem PySem.Spec PyProof.Rows
abbrev R2:=V->V->Hp->VK->Prop
def OpR(X:Cx)(f:Value->Value->Sem Value)(r:R2):Prop :=
 ∀(pins:List (Addr×Obj)) (s:Shared) (σ:St) (H:Hp) (x y:V) (v u:Value) (Q:VK),Aa X pins σ H s->aU x v->aU y u->r x y H Q ->
  wpAny (model X.prog X.w) X.A (f v u) (EP X pins σ Q) X.xe s
def UnR(X:Cx)(f:Value->Sem Value)(r:V->Hp->VK->Prop):Prop :=
 ∀(pins:List (Addr×Obj)) (s:Shared) (σ:St) (H:Hp) (x:V) (v:Value) (Q:VK),Aa X pins σ H s->aU x v->r x H Q ->
  wpAny (model X.prog X.w) X.A (f v) (EP X pins σ Q) X.xe s
def eJ(X:Cx)(f:Value)(r:List V->Hp->VK->Prop):Prop :=
 ∀(pins:List (Addr×Obj)) (s:Shared) (σ:St) (H:Hp) (xs:List V) (us:List Value) (Q:VK),Aa X pins σ H s->aN xs us->r xs H Q ->
  wpAny (model X.prog X.w) X.A (call f us) (EP X pins σ Q) X.xe s
def tOp(r:R2)(ta tb:TE):TE:=fun σ H Q=>ta σ H fun x H1=>tb σ H1 fun y H2=>r x y H2 Q
def tUn(r:V->Hp->VK->Prop)(ta:TE):TE:=fun σ H Q=>ta σ H fun x H1=>r x H1 Q
inductive rI (C:Int->Int->Prop) (g:Int->Int->V) (x y:V) (H:Hp) (Q:VK):Prop
 | mk (i j:Int) (e:x = .int i) (f:y = .int j) (c:C i j) (q:Q (g i j) H):rI C g x y H Q
inductive FH (g:Int->Int->V) (x y:V) (H:Hp) (Q:VK):Prop
 | mk (i j:Int) (e:x = .int i) (f:y = .int j) (q:Q (g i j) H):FH g x y H Q
def rU(g:Int->V):V->Hp->VK->Prop:=fun x H Q=>∃i,x = .int i∧Q (g i) H
section
variable {X:Cx} {a b c:Expr} {ta tb tc:TE} {pos:Pos}
theorem yp(ha:PE X a ta)(hb:PE X b tb){pins:List (Addr×Obj)}{s:Shared}{σ:St}{H:Hp}{R:V->V->Hp->Prop}(I:Aa X pins σ H s)
  (h:ta σ H fun x H1=>tb σ H1 fun y H2=>R x y H2) {Q:Value->Shared->Prop} {f:Value->Value->Sem Value}
  (hf:∀v u s2 x y H2,Aa X pins σ H2 s2->aU x v->aU y u->R x y H2->wpAny (model X.prog X.w) X.A (f v u) Q X.xe s2) :
  wpAny (model X.prog X.w) X.A (eval a X.env) (fun v s₁=>wpAny (model X.prog X.w) X.A (eval b X.env) (fun u s₂=>wpAny (model X.prog X.w) X.A (f v u) Q X.xe s₂) X.xe s₁) X.xe s:=by
 refine thn (ha pins s σ H _ I h) fun v s1 ⟨x,H1,I1,r1,q1⟩=>?_;refine thn (hb pins s1 σ H1 _ I1 q1) fun u s2 ⟨y,H2,I2,r2,q2⟩=>?_;exact hf v u s2 x y H2 I2 r1 r2 q2
theorem ao{op:Operator}{r:R2}(ho:OpR X (binaryOp op) r)(ha:PE X a ta)(hb:PE X b tb):PE X (.BinOp a op b pos) (tOp r ta tb):=by
 intro pins s σ H Q I h;exact wpAny_BinOp (yp ha hb I h fun v u s2 x y H2 I2 rx ry q=>ho pins s2 σ H2 x y v u Q I2 rx ry q)
theorem dO{op:UnaryOp}{r:V->Hp->VK->Prop}(ho:UnR X (unaryOp op) r)(ha:PE X a ta):PE X (.UnaryOp op a pos) (tUn r ta):=by
 intro pins s σ H Q I h;exact UnaryOp_ (thn (ha pins s σ H _ I h) fun v s1 ⟨x,H1,I1,r1,q1⟩=>ho pins s1 σ H1 x v Q I1 r1 q1)
theorem opI{f:Value->Value->Sem Value}{C:Int->Int->Prop}{g:Int->Int->Int}
  (rule:∀(i j:Int) (t u:Tok) (s:Shared) (Q:Value->Shared->Prop) (E:Value->Shared->Prop),C i j->Q (.int (g i j) s.toks) { s with toks:=s.toks+1 }->wpAny (model X.prog X.w) X.A (f (.int i t) (.int j u)) Q E s) :
  OpR X f (rI C fun i j=>.int (g i j)):=by
 intro pins s σ H x y v u Q I rx ry h;obtain⟨i,j,rfl,rfl,hc,q⟩:=h;obtain⟨t,rfl⟩:=rx;obtain⟨t',rfl⟩:=ry;exact rule i j t t' s _ _ hc ⟨.int (g i j),H,I.tok _,⟨_,rfl⟩,q⟩
theorem yY{f:Value->Value->Sem Value}{g:Int->Int->Int}
  (rule:∀(i j:Int) (t u:Tok) (s:Shared) (Q:Value->Shared->Prop) (E:Value->Shared->Prop),Q (.int (g i j) s.toks) { s with toks:=s.toks+1 }->wpAny (model X.prog X.w) X.A (f (.int i t) (.int j u)) Q E s) :
  OpR X f (FH fun i j=>.int (g i j)):=by
 intro pins s σ H x y v u Q I rx ry h;obtain⟨i,j,rfl,rfl,q⟩:=h;obtain⟨t,rfl⟩:=rx;obtain⟨t',rfl⟩:=ry;exact rule i j t t' s _ _ ⟨.int (g i j),H,I.tok _,⟨_,rfl⟩,q⟩
theorem vy{f:Value->Value->Sem Value}{g:Int->Int->Bool}
  (rule:∀(i j:Int) (t u:Tok) (s:Shared) (Q:Value->Shared->Prop) (E:Value->Shared->Prop),Q (.bool (g i j)) s->wpAny (model X.prog X.w) X.A (f (.int i t) (.int j u)) Q E s) :
  OpR X f (FH fun i j=>.bl (g i j)):=by
 intro pins s σ H x y v u Q I rx ry h;obtain⟨i,j,rfl,rfl,q⟩:=h;obtain⟨t,rfl⟩:=rx;obtain⟨t',rfl⟩:=ry;exact rule i j t t' s _ _ ⟨.bl (g i j),H,I,rfl,q⟩
def zA(i j:Int):Prop:=0≤j∧j≤1000000∧i.natAbs<2^64
def wE(i j:Int):Prop:=(-(2^64)<i∧i<2^64)∨(-(2^64)<j∧j<2^64)
theorem wE.ok{i j:Int}(h:wE i j):IntMulOk i j:=by
 rcases h with⟨h1,h2⟩|⟨h1,h2⟩
 ·exact .of_left (intBits_le_64 h1 h2)
 ·exact .of_right (intBits_le_64 h1 h2)
theorem aP:OpR X (binaryOp .Add) (FH fun i j=>.int (i+j)):=yY fun _ _ _ _ _ _ _ q=>add_int q
theorem aO:OpR X (binaryOp .Sub) (FH fun i j=>.int (i - j)):=yY fun _ _ _ _ _ _ _ q=>sub_int q
theorem fT:OpR X (binaryOp .Mod) (rI (fun _ j=>0<j) fun i j=>.int (i % j)):=opI fun i j _ _ _ _ _ hc q=>by
 have h1:(0:Int)<j:=hc;exact mod_int' (by omega) (by rw[Int.fmod_eq_emod_of_nonneg i (by omega)];exact q)
theorem d8:OpR X (binaryOp .Pow) (rI zA fun i j=>.int (i^j.toNat)):=opI fun _ _ _ _ _ _ _ hc q=>pow_int_small hc.1 hc.2.1 hc.2.2 q
theorem sV:OpR X (binaryOp .LShift) (rI zA fun i j=>.int (i*2^j.toNat)):=opI fun _ _ _ _ _ _ _ hc q=>lshift_int_small hc.1 hc.2.1 hc.2.2 q
theorem unI{f:Value->Sem Value}{g:Int->Int}
  (rule:∀(i:Int) (t:Tok) (s:Shared) (Q:Value->Shared->Prop) (E:Value->Shared->Prop),Q (.int (g i) s.toks) { s with toks:=s.toks+1 }->wpAny (model X.prog X.w) X.A (f (.int i t)) Q E s) :
  UnR X f (rU fun i=>.int (g i)):=by
 intro pins s σ H x v Q I rx h;obtain⟨i,rfl,q⟩:=h;obtain⟨t,rfl⟩:=rx;exact rule i t s _ _ ⟨.int (g i),H,I.tok _,⟨_,rfl⟩,q⟩
theorem da:UnR X (unaryOp .USub) (rU fun i=>.int (-i)):=unI fun _ _ _ _ _ q=>neg_int q
end
def yR:V->V->Bool
 | .non,.non=>true | .non,.int _=>true | .int _,.non=>true | .non,.bl _=>true | .bl _,.non=>true | .non,.str _=>true | .str _,.non=>true
 | .int _,.int _=>true | .bl _,.bl _=>true | .str _,.str _=>true | .byt _,.byt _=>true
 | .int _,.str _=>true | .str _,.int _=>true | .bl _,.str _=>true | .str _,.bl _=>true
 | _,_=>false
inductive GJ (x y:V) (H:Hp) (Q:VK):Prop
 | mk (s:yR x y=true) (q:Q (.bl (decide (x=y))) H):GJ x y H Q
inductive GI (x y:V) (H:Hp) (Q:VK):Prop
 | mk (s:yR x y=true) (q:Q (.bl (!decide (x=y))) H):GI x y H Q
theorem qp{i j:Int}:decide (V.int i=V.int j)=(i == j):=by
 rw[Bool.eq_iff_iff];simp
theorem uz{i j:Bool}:decide (V.bl i=V.bl j)=(i == j):=by
 rw[Bool.eq_iff_iff];simp
theorem qo{i j:Str}:decide (V.str i=V.str j)=(i == j):=by
 rw[Bool.eq_iff_iff];simp
theorem qq{i j:Array UInt8}:decide (V.byt i=V.byt j)=(i.toList == j.toList):=by
 rw[Bool.eq_iff_iff];cases i;cases j;simp
section
variable {X:Cx} {a b c:Expr} {ta tb tc:TE} {pos:Pos}
theorem aV{pins:List (Addr×Obj)}{σ:St}{H:Hp}{s:Shared}{Q:VK}{k k':Bool}(I:Aa X pins σ H s)(q:Q (.bl k) H)(e:k=k'):EP X pins σ Q (.bool k') s:=by
 subst e;exact⟨.bl k,H,I,rfl,q⟩
theorem bS:OpR X (compareOp .Eq) GJ:=by
 intro pins s σ H x y v u Q I rx ry h;obtain⟨hs,q⟩:=h;cases x with
 | non =>
  cases rx;cases y with
  | non=>cases ry;exact PySem.EqNone.eq_none_none (aV I q (by simp))
  | bl j=>cases ry;exact PySem.EqNone.eq_none_bool (aV I q (by simp))
  | int j=>obtain⟨t',rfl⟩:=ry;exact PySem.EqNone.eq_none_int (aV I q (by simp))
  | str j=>obtain⟨t',rfl⟩:=ry;exact PySem.EqNone.eq_none_str (aV I q (by simp))
  | _=>exact absurd (show false=true from hs) Bool.false_ne_true
 | bl i =>
  cases rx;cases y with
  | non=>cases ry;exact PySem.EqNone.eq_bool_none (aV I q (by simp))
  | bl j=>cases ry;exact eq_bool (aV I q uz)
  | str j=>obtain⟨t',rfl⟩:=ry;exact PySem.EqMixed.eq_bool_str (aV I q (by simp))
  | _=>exact absurd (show false=true from hs) Bool.false_ne_true
 | int i =>
  obtain⟨t,rfl⟩:=rx;cases y with
  | non=>cases ry;exact PySem.EqNone.eq_int_none (aV I q (by simp))
  | int j=>obtain⟨t',rfl⟩:=ry;exact eq_int (aV I q qp)
  | str j=>obtain⟨t',rfl⟩:=ry;exact PySem.EqMixed.eq_int_str (aV I q (by simp))
  | _=>exact absurd (show false=true from hs) Bool.false_ne_true
 | str i =>
  obtain⟨t,rfl⟩:=rx;cases y with
  | non=>cases ry;exact PySem.EqNone.eq_str_none (aV I q (by simp))
  | bl j=>cases ry;exact PySem.EqMixed.eq_str_bool (aV I q (by simp))
  | int j=>obtain⟨t',rfl⟩:=ry;exact PySem.EqMixed.eq_str_int (aV I q (by simp))
  | str j=>obtain⟨t',rfl⟩:=ry;exact eq_str (aV I q qo)
  | _=>exact absurd (show false=true from hs) Bool.false_ne_true
 | byt i =>
  obtain⟨t,rfl⟩:=rx;cases y with
  | byt j=>obtain⟨t',rfl⟩:=ry;exact W.eq_bytes (aV I q qq)
  | _=>exact absurd (show false=true from hs) Bool.false_ne_true
 | _=>cases y <;> exact absurd (show false=true from hs) Bool.false_ne_true
theorem kW:OpR X (compareOp .NotEq) GI:=by
 intro pins s σ H x y v u Q I rx ry h;obtain⟨hs,q⟩:=h;cases x with
 | non =>
  cases rx;cases y with
  | non=>cases ry;exact PySem.EqNone.ne_none_none (aV I q (by simp))
  | bl j=>cases ry;exact PySem.EqNone.ne_none_bool (aV I q (by simp))
  | int j=>obtain⟨t',rfl⟩:=ry;exact PySem.EqNone.ne_none_int (aV I q (by simp))
  | str j=>obtain⟨t',rfl⟩:=ry;exact PySem.EqNone.ne_none_str (aV I q (by simp))
  | _=>exact absurd (show false=true from hs) Bool.false_ne_true
 | bl i =>
  cases rx;cases y with
  | non=>cases ry;exact PySem.EqNone.ne_bool_none (aV I q (by simp))
  | bl j=>cases ry;exact ne_bool (aV I q (congrArg not uz))
  | str j=>obtain⟨t',rfl⟩:=ry;exact PySem.EqMixed.ne_bool_str (aV I q (by simp))
  | _=>exact absurd (show false=true from hs) Bool.false_ne_true
 | int i =>
  obtain⟨t,rfl⟩:=rx;cases y with
  | non=>cases ry;exact PySem.EqNone.ne_int_none (aV I q (by simp))
  | int j=>obtain⟨t',rfl⟩:=ry;exact ne_int (aV I q (congrArg not qp))
  | str j=>obtain⟨t',rfl⟩:=ry;exact PySem.EqMixed.ne_int_str (aV I q (by simp))
  | _=>exact absurd (show false=true from hs) Bool.false_ne_true
 | str i =>
  obtain⟨t,rfl⟩:=rx;cases y with
  | non=>cases ry;exact PySem.EqNone.ne_str_none (aV I q (by simp))
  | bl j=>cases ry;exact PySem.EqMixed.ne_str_bool (aV I q (by simp))
  | int j=>obtain⟨t',rfl⟩:=ry;exact PySem.EqMixed.ne_str_int (aV I q (by simp))
  | str j=>obtain⟨t',rfl⟩:=ry;exact ne_str (aV I q (congrArg not qo))
  | _=>exact absurd (show false=true from hs) Bool.false_ne_true
 | byt i =>
  obtain⟨t,rfl⟩:=rx;cases y with
  | byt j=>obtain⟨t',rfl⟩:=ry;exact W.ne_bytes (aV I q (congrArg not qq))
  | _=>exact absurd (show false=true from hs) Bool.false_ne_true
 | _=>cases y <;> exact absurd (show false=true from hs) Bool.false_ne_true
theorem dn:OpR X (compareOp .Lt) (FH fun i j=>.bl (decide (i<j))):=vy fun _ _ _ _ _ _ _ q=>lt_int q
theorem mR:OpR X (compareOp .LtE) (FH fun i j=>.bl (decide (i≤j))):=vy fun _ _ _ _ _ _ _ q=>le_int q
theorem pW:OpR X (compareOp .Gt) (FH fun i j=>.bl (decide (j<i))):=vy fun _ _ _ _ _ _ _ q=>gt_int q
theorem kX:OpR X (compareOp .GtE) (FH fun i j=>.bl (decide (j≤i))):=vy fun _ _ _ _ _ _ _ q=>ge_int q
theorem fU:OpR X (compareOp .Is) (fun x y H Q=>y = .non∧Q (.bl (decide (x = .non))) H):=by
 intro pins s σ H x y v u Q I rx ry h;obtain⟨rfl,q⟩:=h;cases ry;refine is_none_gen (aV I q ?_);cases x <;> first
  | (cases rx;rfl)
  | (obtain⟨t,rfl⟩:=rx;rfl)
theorem fJ:OpR X (compareOp .IsNot) (fun x y H Q=>y = .non∧Q (.bl (!decide (x = .non))) H):=by
 intro pins s σ H x y v u Q I rx ry h;obtain⟨rfl,q⟩:=h;cases ry;refine isnot_none_gen (aV I q ?_);cases x <;> first
  | (cases rx;rfl)
  | (obtain⟨t,rfl⟩:=rx;rfl)
theorem aE(b:Expr){op:CmpOp}(h:op≠.In:=by decide)(h2:op≠.NotIn:=by decide):behindInMarks op b=false:=by
 have e1:(op == CmpOp.In)=false:=by cases op <;> first|rfl|exact absurd rfl h
 have e2:(op == CmpOp.NotIn)=false:=by cases op <;> first|rfl|exact absurd rfl h2
 cases b <;> simp[behindInMarks,e1,e2]
theorem cY{op:CmpOp}{r:R2}(ho:OpR X (compareOp op) r)(ha:PE X a ta)(hb:PE X b tb)(hm:behindInMarks op b=false):PE X (.Compare a [op] [b] pos) (tOp r ta tb):=by
 intro pins s σ H Q I h;exact wpAny_Compare1 (yp ha hb I h fun v u s2 x y H2 I2 rx ry q=>ho pins s2 σ H2 x y v u Q I2 rx ry q) hm
inductive GK (x:V) (H:Hp) (Q:Bool->Hp->Prop):Prop
 | mk (k:Bool) (e:x = .bl k) (q:Q k H):GK x H Q
def yC(t:TE):TT:=fun σ H Q=>t σ H fun x H'=>GK x H' Q
theorem az{op:CmpOp}{r:R2}(ho:OpR X (compareOp op) r)(ha:PE X a ta)(hb:PE X b tb)(hm:behindInMarks op b=false):PT X (.Compare a [op] [b] pos) (yC (tOp r ta tb)):=by
 intro pins s σ H Q I h;refine wpAny_isTrue_Compare1 (thn (ha pins s σ H _ I h) fun v s1 ⟨x,H1,I1,r1,q1⟩=>thn (hb pins s1 σ H1 _ I1 q1) fun u s2 ⟨y,H2,I2,r2,q2⟩ =>
  thn (ho pins s2 σ H2 x y v u _ I2 r1 r2 q2) fun c s3 ⟨z,H3,I3,r3,k,e,q3⟩=>?_) hm
 subst e;cases r3;exact wpAny_truthy_bool ⟨H3,I3,q3⟩
theorem lY:(sizeLine:Nat)<2^63:=by rw[sizeLine_eq];decide
theorem kJ{x:V}{us:List Value}(r:aN [x] us):∃u,us = [u]∧aU x u:=by
 cases r with
 | cons r1 r2=>cases r2;exact⟨_,rfl,r1⟩
theorem o8{x y:V}{us:List Value}(r:aN [x,y] us):∃u w',us = [u,w']∧aU x u∧aU y w':=by
 cases r with
 | cons r1 r2 =>
  cases r2 with
  | cons r3 r4=>cases r4;exact⟨_,_,rfl,r1,r3⟩
theorem fw:eJ X (.builtin "abs") (fun xs H Q=>∃i,xs = [.int i]∧Q (.int (if i<0 then -i else i)) H):=by
 intro pins s σ H xs us Q I r h;obtain⟨i,rfl,q⟩:=h;obtain⟨u,rfl,t,rfl⟩:=kJ r;exact call_abs_int fun u tk=>⟨.int (if i<0 then -i else i),H,I.tok _,⟨_,rfl⟩,q⟩
theorem rM(hc:X.calm=true):eJ X (.builtin "max") (fun xs H Q=>∃i j,xs = [.int i,.int j]∧Q (.int (if j>i then j else i)) H):=by
 intro pins s σ H xs us Q I r h;obtain⟨i,j,rfl,q⟩:=h;obtain⟨u,w',rfl,⟨t,rfl⟩,⟨t',rfl⟩⟩:=o8 r;refine max_two_ints (I.ok.hd hc) fun h' tk k=>⟨_,H,I.kept k,?_,q⟩
 by_cases hj:j>i
 ·rw[if_pos hj,if_pos hj];exact⟨_,rfl⟩
 ·rw[if_neg hj,if_neg hj];exact⟨_,rfl⟩
theorem lp(hc:X.calm=true):eJ X (.builtin "min") (fun xs H Q=>∃i j,xs = [.int i,.int j]∧Q (.int (if j<i then j else i)) H):=by
 intro pins s σ H xs us Q I r h;obtain⟨i,j,rfl,q⟩:=h;obtain⟨u,w',rfl,⟨t,rfl⟩,⟨t',rfl⟩⟩:=o8 r;refine min_two_ints (I.ok.hd hc) fun h' tk k=>⟨_,H,I.kept k,?_,q⟩
 by_cases hj:j<i
 ·rw[if_pos hj,if_pos hj];exact⟨_,rfl⟩
 ·rw[if_neg hj,if_neg hj];exact⟨_,rfl⟩
end
end L2
namespace L2
open PySem PySem.Spec PyProof.Rows
structure Fd(h:Heap)(x dx C:Addr)(mA:Str->Option Value):Prop where
 obj:h.get? x=some (W.instObj C dx)
 ns:h.Ns1 dx mA
 ne:dx≠x
theorem qU{h:Heap}{dx:Addr}{mA:Str->Option Value}(n:h.Ns1 dx mA):∃od,h.get? dx=some od∧∀name,W.lookIn name od=some (mA name):=by
 obtain⟨o,es,ep,ho,hd,hk,_,hm⟩:=n;refine⟨o,ho,fun name=>?_⟩;have e:=hm name;unfold nsFind findBy at e;rw[<- Array.find?_toList]at e;unfold W.lookIn;rw[hd];dsimp only
 split
 ·rename_i y q
  rw[q]at e;exact congrArg some e
 ·rename_i q
  rw[q]at e;have a:es.toList.any (·.refKey)=false:=by
   rw[List.any_eq_false];intro y hy;obtain⟨z,t,hkey⟩:=hk y (Array.mem_toList_iff.mp hy);simp[DictEntry.refKey,hkey]
  have a':¬es.toList.any (·.refKey)=true:=by rw[a];exact Bool.false_ne_true
  rw[if_neg a'];exact congrArg some e
theorem Fd.look{h:Heap}{x dx C:Addr}{mA:Str->Option Value}(I:Fd h x dx C mA):∃od,W.InstAt h x (W.instObj C dx) C (some od)∧∀name,W.lookIn name od=some (mA name) :=
 let ⟨od,ho,hl⟩:=qU I.ns
 ⟨od,⟨I.obj,rfl,rfl,ho⟩,hl⟩
section
variable {prog:Program} {w:World} {A:Around} {E:Value->Shared->Prop} {s:Shared} {K:W.Frag} {x dx C f:Addr} {mA:Str->Option Value} {name:Str} {v:Value}
theorem vN{expr:Bool}{Q:Value->Shared->Prop}(X:K.In s.heap)(I:Fd s.heap x dx C mA)(hg:W.plainGet K C name=true)(hh:W.hasDictIn K C=true)
  (ha:W.findIn K (.ref C) name=some none) (hv:mA name=some v) (hv':W.handedIn v=true) (h:Q v { s with toks:=s.toks+1 }) :
  wpAny (model prog w) A (getAttr (.ref x) name expr) Q E s:=by
 obtain⟨od,J,hl⟩:=I.look;exact W.get_value X J (W.plainGet_of hg).1 (W.findObj_own hh ha rfl (by rw[hl,hv])) hv' h
theorem vc{ns:List Str}{Q:Unit->Shared->Prop}(X:K.In s.heap)(I:Fd s.heap x dx C mA)
  (hs:W.findIn K (.ref C) "__setattr__" = some (some (.builtin "object.__setattr__"))) (hp:W.plainOver K C=true) (ht:W.takerIn K C name=some none) (hh:W.hasDictIn K C=true)
  (hw:PySem.Within mA ns) (hsz:ns.length≤sizeLine)
  (h:∀h',Fd h' x dx C (fun y=>if y=name then some v else mA y)->Heap.SameBut dx s.heap h'->Q () { s with heap:=h',toks:=s.toks+2 }) :
  wpAny (model prog w) A (setAttr (.ref x) name v) Q E s:=by
 obtain⟨od,J,hl⟩:=I.look;refine W.set_plain X J hs (W.osa_open (s:={ s with toks:=s.toks+1 }) (r:=none) X J hp ht fun b=>?_);obtain⟨cd,hc,hd'⟩:=W.any_some hh;have hx:s.heap.get? x=some ⟨.ref C,some dx,.plain,#[]⟩:=I.obj;refine wpAny_bind (wpAny_pure (wpAny_bind (wpAny_bind (wpAny_loadPart hx (wpAny_bind (W.Looks.here (s:={ s with toks:=s.toks+1 }) (W.looks_clsIn X hc) ?_))))));rw[hd'];refine wpAny_pure (a:=some dx) (wpAny_bind (wpAny_pure (wpAny_bind ?_)));refine wpAny_nsSet1 (s:={ s with toks:=s.toks+1 }) I.ns fun h' hn2 hs2=>?_;obtain⟨oD,esD,epD,hoD,hdD,hcD⟩:=hn2.count (PySem.Within.cons name v hw);refine wpAny_bind (wpAny_lookBehind hoD (by rw[hdD];exact pastItsLine_dict (Nat.le_trans hcD (by rw[List.length_cons];omega))) ?_);exact wpAny_pure (h _ ⟨(hs2.2 _ (Ne.symm I.ne)).trans I.obj,hn2,I.ne⟩ hs2)
theorem tG{R:Result->Shared->Prop}{vs:List Value}{kw:List (Str×Value)}(X:K.In s.heap)(hm:W.makesIn K C=true)
  (hi:W.findIn K (.ref C) "__init__" = some (some (.ref f))) (hf:W.typeIn K (.ref f)=some (.type "function"))
  (h:codeAny (model prog w) (A.under (.builtin "type.__call__" ⟨.ref C::vs,kw⟩)) (.call (.ref f) ⟨.ref (s.heap.objs.size+1)::vs,kw⟩) (W.InitBack (s.heap.objs.size+1) R)
   { s with heap:=(s.heap.push W.emptyDict).push (W.instObj C s.heap.objs.size) }) :
  codeAny (model prog w) A (.call (.ref C) ⟨vs,kw⟩) R s:=by
 obtain⟨hh,g,d,t,os⟩:=s;exact W.make_core (W.makes_of X hm) (W.looks_findIn X hi) (fun self=>W.bind_fn X self hf) (.inl rfl) h
end
def cV(f:Str)(v:V):List (Str×V)->List (Str×V)
 | []=>[(f,v)]
 | (g,x)::r=>if g=f then (g,v)::r else (g,x)::cV f v r
theorem iC(f g:Str)(v:V):∀fs:List (Str×V),(cV f v fs).lookup g=if g=f then some v else fs.lookup g
 | []=>by
  show List.lookup g [(f,v)]=_
  by_cases h:g=f
  ·have hb:(g == f)=true:=beq_iff_eq.mpr h
   simp only[List.lookup,hb,if_pos h]
  ·have hb:(g == f)=false:=beq_eq_false_iff_ne.mpr h
   simp only[List.lookup,hb,if_neg h]
 | (k,x)::r=>by
  have ih:=iC f g v r;rw[show cV f v ((k,x)::r)=(if k=f then (k,v)::r else (k,x)::cV f v r) from rfl]
  by_cases hk:k=f
  ·rw[if_pos hk]
   by_cases h:g=k
   ·have hb:(g == k)=true:=beq_iff_eq.mpr h
    simp only[List.lookup,hb,if_pos (h.trans hk)]
   ·have hb:(g == k)=false:=beq_eq_false_iff_ne.mpr h
    simp only[List.lookup,hb,if_neg (fun e:g=f=>h (e.trans hk.symm))]
  ·rw[if_neg hk]
   by_cases h:g=k
   ·have hb:(g == k)=true:=beq_iff_eq.mpr h
    simp only[List.lookup,hb,if_neg (fun e:g=f=>hk (h.symm.trans e))]
   ·have hb:(g == k)=false:=beq_eq_false_iff_ne.mpr h
    simp only[List.lookup,hb];exact ih
theorem ie(f:Str)(v:V):∀fs:List (Str×V),f∈(cV f v fs).map (·.1)∧∀g,g∈fs.map (·.1)->g∈(cV f v fs).map (·.1)
 | []=>⟨by simp[cV],fun g h=>by simp at h⟩
 | (k,x)::r=>by
  obtain⟨i1,i2⟩:=ie f v r;rw[show cV f v ((k,x)::r)=(if k=f then (k,v)::r else (k,x)::cV f v r) from rfl]
  by_cases hk:k=f
  ·rw[if_pos hk]
   subst hk;exact⟨by simp,fun g h=>by simpa using h⟩
  ·rw[if_neg hk]
   refine⟨?_,fun g h=>?_⟩
   ·rw[List.map_cons]
    exact List.mem_cons_of_mem _ i1
   ·rw[List.map_cons]at h ⊢
    rcases List.mem_cons.mp h with e|e
    ·exact List.mem_cons.mpr (.inl e)
    ·exact List.mem_cons_of_mem _ (i2 g e)
theorem iE(f:Str)(v:V):∀fs:List (Str×V),(cV f v fs).length≤fs.length+1
 | []=>by simp[cV]
 | (k,x)::r=>by
  have ih:=iE f v r;rw[show cV f v ((k,x)::r)=(if k=f then (k,v)::r else (k,x)::cV f v r) from rfl]
  by_cases hk:k=f
  ·rw[if_pos hk,List.length_cons,List.length_cons];omega
  ·rw[if_neg hk,List.length_cons,List.length_cons];omega
theorem ix.some_of{v:V}{o:Option Value}(r:ix (some v) o):∃u,o=some u∧aU v u:=by
 cases o with
 | none=>exact(show False from r).elim
 | some u=>exact⟨u,rfl,r⟩
theorem rj{v:V}{u:Value}(r:aU v u):W.handedIn u=true:=by
 cases v with
 | non=>cases (show u=Value.none from r);rfl
 | bl b=>cases (show u=Value.bool b from r);rfl
 | int i=>obtain⟨t,e⟩:=(show ∃t,u=Value.int i t from r);cases e;rfl
 | str x=>obtain⟨t,e⟩:=(show ∃t,u=Value.str x t from r);cases e;rfl
 | byt b=>obtain⟨t,e⟩:=(show ∃t,u=Value.bytes b t from r);cases e;rfl
 | flt b=>obtain⟨t,e⟩:=(show ∃t,u=Value.float b t from r);cases e;rfl
 | ref a=>cases (show u=Value.ref a from r);rfl
 | ty n=>cases (show u=Value.type n from r);rfl
section
variable {P:Program} {w:World} {H H':Hp} {h h':Heap} {a C dx:Addr} {fs fs':List (Str×V)}
theorem l6(hok:HOk P w H h)(e:H a=some (.ins C dx fs)):∃mA,Fd h a dx C mA∧(∀f,ix (fs.lookup f) (mA f))∧PySem.Within mA (fs.map (·.1))∧fs.length≤1000∧H dx=some (.own a):=by
 obtain⟨d,z,ne,ob,mA,n,r,q⟩:=(show a7 P w H h a (.ins C dx fs) from hok a _ e);exact⟨mA,⟨ob,n,ne⟩,r,q,z,d⟩
end
structure FZ(K:W.Frag)(C:Addr):Prop where
 pg:W.plainGet K C Str.empty=true
 hd:W.hasDictIn K C=true
 po:W.plainOver K C=true
 sa:W.findIn K (.ref C) "__setattr__" = some (some (.builtin "object.__setattr__"))
theorem FZ.get{K:W.Frag}{C:Addr}(c:FZ K C)(f:Str):W.plainGet K C f=true:=c.pg
def aI(K:W.Frag)(C:Addr)(f:Str):Prop:=W.findIn K (.ref C) f=some none
theorem aI.taker{K:W.Frag}{C:Addr}{f:Str}(n:aI K C f):W.takerIn K C f=some none:=by
 unfold W.takerIn;rw[show W.findIn K (.ref C) f=some none from n];rfl
structure GC(K:W.Frag)(C:Addr)(m:Str)(f:Addr):Prop where
 at_:W.findIn K (.ref C) m=some (some (.ref f))
 fn:W.isFn K (.ref f)=true
 kp:W.keepIn K (.ref f)=true
section
variable {X:Cx} {pins:List (Addr×Obj)} {σ:St} {H:Hp} {s:Shared} {a C dx:Addr} {fs:List (Str×V)} {f:Str} {v:V} {A:Around} {E:Value->Shared->Prop}
theorem oP{b:Bool}{Q:Value->Shared->Prop}(I:Aa X pins σ H s)(e:H a=some (.ins C dx fs))(c:FZ X.K C)(n:aI X.K C f)(l:fs.lookup f=some v)
  (h:∀u s',Aa X pins σ H s'->aU v u->Q u s'):wpAny (model X.prog X.w) A (getAttr (.ref a) f b) Q E s:=by
 obtain⟨mA,O,r,_,_,_⟩:=l6 I.hok e;obtain⟨u,hu,ru⟩:=ix.some_of (v:=v) (o:=mA f) (by rw[<- l];exact r f);exact vN I.kIn O (c.get f) c.hd n hu (rj ru) (h u _ (I.tok _) ru)
theorem oz{y:V}{u:Value}{Q:Unit->Shared->Prop}(I:Aa X pins σ H s)(e:H a=some (.ins C dx fs))(c:FZ X.K C)(n:aI X.K C f)(hl:fs.length<1000)(ry:aU y u)
  (h:∀s',Aa X pins σ (upd H a (.ins C dx (cV f y fs))) s'->Q () s'):wpAny (model X.prog X.w) A (setAttr (.ref a) f u) Q E s:=by
 obtain⟨mA,O,r,wi,_,ho⟩:=l6 I.hok e;have hz:(fs.map (·.1)).length≤sizeLine:=by rw[List.length_map,sizeLine_eq];omega
 refine vc I.kIn O c.sa c.po n.taker c.hd wi hz fun h' O' sb=>h _ ?_;have hd:∃o,h'.get? dx=some o:=let ⟨o,_,_,e',_⟩:=O'.ns;⟨o,e'⟩;refine I.write (x:=a) (e:=dx) (by rw[e];exact True.intro) (.inr ho) (fun b q hb z=>(sb.2 b hb).trans z) hd ?_;refine⟨by rw[aH O.ne];exact ho,?_,O.ne,O'.obj,_,O'.ns,fun g=>?_,fun g hg=>?_⟩
 ·have:=iE f y fs;omega
 ·show ix ((cV f y fs).lookup g) (if g=f then some u else mA g)
  rw[iC]
  by_cases q:g=f
  ·rw[if_pos q,if_pos q];exact ry
  ·rw[if_neg q,if_neg q];exact r g
 ·by_cases q:g=f
  ·rw[q];exact(ie f y fs).1
  ·refine(ie f y fs).2 g (wi g fun z=>hg ?_)
   show(if g=f then some u else mA g)=none
   rw[if_neg q];exact z
theorem Aa.made(I:Aa X pins σ H s):Aa X pins σ (upd (upd H s.heap.objs.size (.own (s.heap.objs.size+1))) (s.heap.objs.size+1) (.ins C s.heap.objs.size []))
  { s with heap:=(s.heap.push W.emptyDict).push (W.instObj C s.heap.objs.size) }:=by
 have e1:(s.heap.push W.emptyDict).get? s.heap.objs.size=some W.emptyDict:=Heap.get?_push_size s.heap rfl;have e2:((s.heap.push W.emptyDict).push (W.instObj C s.heap.objs.size)).get? (s.heap.objs.size+1)=some (W.instObj C s.heap.objs.size):=by
  have:=Heap.get?_push_size (s.heap.push W.emptyDict) (o:=W.instObj C s.heap.objs.size) rfl
  rwa [Heap.size_push]at this
 have e3:(s.heap.push W.emptyDict).Ns s.heap.objs.size (fun _=>none):=⟨W.emptyDict,#[],_,e1,rfl,(fun e he=>absurd he (by simp)),fun _=>rfl⟩;have I1:=I.laid (a:=s.heap.objs.size) (o:=.own (s.heap.objs.size+1)) (h':=s.heap.push W.emptyDict) (t':=s.toks) (fun b u q=>Heap.get?_push_of_some _ q) (Nat.le_refl _) ⟨_,e1⟩;refine I1.laid (a:=s.heap.objs.size+1) (o:=.ins C s.heap.objs.size []) (t':=s.toks) (fun b u q=>Heap.get?_push_of_some _ q) (Nat.le_of_eq (Heap.size_push _ _)) ?_;have ne:s.heap.objs.size≠s.heap.objs.size+1:=Nat.ne_of_lt (Nat.lt_succ_self _);refine⟨by rw[aH ne,upd_same],Nat.zero_le _,ne,e2,fun _=>none,(Heap.Ns1.of_empty e3).at fun o q=>Heap.get?_push_of_some _ q,fun _=>True.intro,fun y hy=>absurd rfl hy⟩
theorem wo{prog:Program}{w:World}{env:Env}{e:Expr}{f:Str}{pos:Pos}{s:Shared}{Q:Value->Shared->Prop}(hb:attributeBase e f env (eval e env)=eval e env)
  (h:wpAny (model prog w) A (eval e env) (fun o s₁=>wpAny (model prog w) A (getAttr o f true) Q E s₁) E s):wpAny (model prog w) A (eval (.Attribute e f pos) env) Q E s :=
 Attribute_any_ h (by rw[arm_eval_Attribute,hb])
end
def yK(K:W.Frag)(ta:TE)(f:Str):TE:=fun σ H Q=>ta σ H fun x H1=>∃a C dx fs v,x = .ref a∧H1 a=some (.ins C dx fs)∧FZ K C∧aI K C f∧fs.lookup f=some v∧Q v H1
def zM(K:W.Frag)(ta tv:TE)(f:Str):TS:=fun D σ H=>tv σ H fun y H1=>ta σ H1 fun x H2=>∃a C dx fs,x = .ref a∧H2 a=some (.ins C dx fs)∧FZ K C∧aI K C f∧fs.length<1000 ∧
 D.nx σ (upd H2 a (.ins C dx (cV f y fs)))
section
variable {X:Cx} {o e value:Expr} {f:Str} {pos pos' tpos:Pos} {ta tv:TE}
theorem bR(he:PE X e ta)(hb:attributeBase e f X.env (eval e X.env)=eval e X.env):PE X (.Attribute e f pos) (yK X.K ta f):=by
 intro pins s σ H Q I h;refine wo hb (thn (he pins s σ H _ I h) fun u s1 ⟨x,H1,I1,rx,a,C,dx,fs,v,ex,ea,c,n,l,q⟩=>?_);subst ex;obtain rfl:u=Value.ref a:=rx;exact oP I1 ea c n l fun u' s2 I2 ru=>⟨v,H1,I2,ru,q⟩
theorem lL(ha:PE X o ta)(hv:PE X value tv)(hs:swapsWith value (some (.Attribute o f pos')) pos.line X.env=pure false):PS X (.Assign [.Attribute o f pos'] value pos) (zM X.K ta tv f):=by
 intro pins s σ H D I h;refine plainObj_wpAny_Assign_Attribute (thn (hv pins s σ H _ I h) fun u s1 ⟨y,H1,I1,ry,q⟩=>thn (ha pins s1 σ H1 _ I1 q) fun ov s2 ⟨x,H2,I2,rx,a,C,dx,fs,ex,ea,c,n,l,q2⟩=>?_) hs;subst ex;obtain rfl:ov=Value.ref a:=rx;exact oz I2 ea c n l ry fun s3 I3=>⟨σ,_,I3,q2⟩
end
section
variable {X:Cx} {pins:List (Addr×Obj)} {σ:St} {H:Hp} {s:Shared} {A:Around} {E:Value->Shared->Prop} {Q:Value->Shared->Prop} {c:Value} {b:Bool}
inductive DA (K:W.Frag) (H:Hp):V->Value->Prop where
 | non:DA K H .non (.type "NoneType")
 | bl (x:Bool):DA K H (.bl x) (.type "bool")
 | int (i:Int):DA K H (.int i) (.type "int")
 | str (x:Str):DA K H (.str x) (.type "str")
 | flt (x:UInt64):DA K H (.flt x) (.type "float")
 | lst {a:Addr} {xs:List V} (e:H a=some (.lst xs)):DA K H (.ref a) (.type "list")
 | frz {a:Addr} {o:Obj} {xs:List V} (e:H a=some (.frz o (.lst xs))):DA K H (.ref a) (.type "list")
 | tup {a:Addr} {xs:List V} (e:H a=some (.tup xs)):DA K H (.ref a) (.type "tuple")
 | dK {a:Addr} {kvs:List (Key×V)} (e:H a=some (.dK kvs)):DA K H (.ref a) (.type "dict")
 | dT {a:Addr} {kvs:List (List Key×V)} (e:H a=some (.dT kvs)):DA K H (.ref a) (.type "dict")
 | ins {a C dx:Addr} {fs:List (Str×V)} (e:H a=some (.ins C dx fs)) (cl:FZ K C) (ha:W.findIn K (.ref C) "__class__" = some (some (.builtin "object.__class__")))
   (hn:W.specialIn K (.builtin "object.__class__") "__get__" = some (some (.builtin "getset_descriptor.__get__"))) (htk:W.takesIn K (.builtin "object.__class__")=some true)
   (hm:W.mroIn K C (.type "object")=some true):DA K H (.ref a) (.ref C)
theorem qZ{x:V}{u t:Value}(I:Aa X pins σ H s)(rx:aU x u)(ty:DA X.K H x t)(e:W.kitOne X.K t c=some b)(h:∀tk,Q (.bool b) { s with toks:=tk }) :
  wpAny (model X.prog X.w) A (call (.builtin "isinstance") [u,c]) Q E s:=by
 cases ty with
 | non=>cases (show u=Value.none from rx);exact W.kia_one W.kitx_none I.kIn True.intro e (fun z=>nomatch z) h
 | bl y=>cases (show u=Value.bool y from rx);exact W.kia_one W.kitx_bool I.kIn True.intro e (fun z=>nomatch z) h
 | int i=>obtain⟨t,q⟩:=(show ∃t,u=Value.int i t from rx);cases q;exact W.kia_one W.kitx_int I.kIn True.intro e (fun z=>nomatch z) h
 | str y=>obtain⟨t,q⟩:=(show ∃t,u=Value.str y t from rx);cases q;exact W.kia_one W.kitx_str I.kIn True.intro e (fun z=>nomatch z) h
 | flt y=>obtain⟨t,q⟩:=(show ∃t,u=Value.float y t from rx);cases q;exact W.kia_one W.kitx_float I.kIn True.intro e (fun z=>nomatch z) h
 | @lst a xs ea =>
  cases (show u=Value.ref a from rx);obtain⟨_,_,n,_,h1⟩:=(show a7 X.prog X.w H s.heap a (.lst xs) from I.hok a _ ea);exact W.kia_one W.kitx_list I.kIn ⟨_,h1,rfl⟩ e (fun z=>nomatch z) h
 | @frz a ob xs ea =>
  cases (show u=Value.ref a from rx);obtain⟨_,_,_,n,_,h1⟩:=(show a7 X.prog X.w H s.heap a (.frz ob (.lst xs)) from I.hok a _ ea);exact W.kia_one W.kitx_list I.kIn ⟨_,h1,rfl⟩ e (fun z=>nomatch z) h
 | @tup a xs ea =>
  cases (show u=Value.ref a from rx);obtain⟨_,_,_,p⟩:=(show a7 X.prog X.w H s.heap a (.tup xs) from I.hok a _ ea);obtain⟨o,h1,h2,_⟩:=p;exact W.kia_one W.kitx_tuple I.kIn ⟨o,h1,h2⟩ e (fun z=>nomatch z) h
 | @dK a kvs ea =>
  cases (show u=Value.ref a from rx);obtain⟨_,_,vs,_,p⟩:=(show a7 X.prog X.w H s.heap a (.dK kvs) from I.hok a _ ea);obtain⟨o,es,ep,h1,h2,_⟩:=p;exact W.kia_one W.kitx_dict I.kIn ⟨o,h1,h2.1⟩ e (fun z=>nomatch z) h
 | @dT a kvs ea =>
  cases (show u=Value.ref a from rx);obtain⟨_,_,xs,_,o,es,ep,h1,h2,_⟩:=(show a7 X.prog X.w H s.heap a (.dT kvs) from I.hok a _ ea);exact W.kia_one W.kitx_dict I.kIn ⟨o,h1,h2.1⟩ e (fun z=>nomatch z) h
 | @ins a C dx fs ea cl ha hn htk hm =>
  cases (show u=Value.ref a from rx);obtain⟨mA,O,_⟩:=l6 I.hok ea;obtain⟨od,J,_⟩:=O.look;exact W.kia_one (W.kitx_own (cl.get _) cl.hd ha hn htk hm) I.kIn J e (fun z=>nomatch z) h
end
end L2
namespace L2
open PySem PySem.Spec PyProof.Rows
structure Ar(k:Nat)(A:Around):Prop where
 hd:A.handled=none
 dp:A.depth+3*k+5<recursionLimit
 un:A.units+16*k+200<cLine
 gd:A.guards=some []
theorem Ar.mono{j k:Nat}{A:Around}(r:Ar k A)(h:j≤k):Ar j A:=⟨r.hd,by have:=r.dp;omega,by have:=r.un;omega,r.gd⟩
theorem Ar.deeper{k:Nat}{A:Around}(r:Ar (k+1) A)(env:Env):Ar k (A.deeper env) :=
 ⟨r.hd,by have:=r.dp;show A.depth+1+3*k+5<_;omega,by have:=r.un;show A.units+3+16*k+200<_;omega,r.gd⟩
theorem oO{A:Around}{C:Addr}{us:List Value}{kw:List (Str×Value)}:(A.under (.builtin "type.__call__" ⟨.ref C::us,kw⟩)).depth=A.depth+1:=by
 first|rfl|simp[Around.under,Code.weight,Code.isCreation,Code.isGuard,Code.isCaller,Code.frames,Code.isFrame,guardIds]
theorem oN{A:Around}{C:Addr}{us:List Value}{kw:List (Str×Value)}:(A.under (.builtin "type.__call__" ⟨.ref C::us,kw⟩)).units=A.units+1:=by
 first|rfl|simp[Around.under,Code.cUnits,Code.frames,Code.isFrame]
theorem mX{A:Around}{C:Addr}{us:List Value}{kw:List (Str×Value)}(h:A.guards=some []):(A.under (.builtin "type.__call__" ⟨.ref C::us,kw⟩)).guards=some []:=by
 first|exact h|(unfold Around.under;simp[h,Code.guards,Code.isGuard,guardIds,pushGuards])
theorem Ar.make{k:Nat}{A:Around}(r:Ar (k+1) A)(C:Addr)(us:List Value)(kw:List (Str×Value)):Ar k (A.under (.builtin "type.__call__" ⟨.ref C::us,kw⟩)) :=
 ⟨r.hd,by have:=r.dp;rw[oO];omega,by have:=r.un;rw[oN];omega,mX r.gd⟩
theorem Ar.depth{k:Nat}{A:Around}(r:Ar k A):A.depth<recursionLimit:=by have:=r.dp;omega
theorem Ar.units{k:Nat}{A:Around}(r:Ar k A):A.units+64<cLine:=by have:=r.un;omega
theorem Ar.units0{k:Nat}{A:Around}(r:Ar k A):A.units<cLine:=by have:=r.un;omega
def xh:TA:=fun _ H Q=>Q [] H
def pF(ta:TE)(tr:TA):TA:=fun σ H Q=>ta σ H fun x H1=>tr σ H1 fun xs H2=>Q (x::xs) H2
section
variable {X:Cx} {e:Expr} {es:List Expr} {te:TE} {t:TA} {pos:Pos}
theorem ag:PA X [] xh:=fun _ _ _ _ H Q I h=>Calls.spliced_nil ⟨[],H,I,.nil,h⟩
theorem ad(ha:PE X e te)(hr:PA X es t)(hs:starEach (e::es) X.env=(false,eval e X.env)::starEach es X.env:=by rfl):PA X (e::es) (pF te t):=by
 intro pos pins s σ H Q I h;rw[hs];show wpAny _ _ (spliced ((false,eval e X.env)::backTo pos (starEach es X.env))) _ _ s;refine Calls.spliced_cons (thn (ha pins s σ H _ I h) fun u s1 ⟨x,H1,I1,r1,q1⟩=>?_);exact thn (hr pos pins s1 σ H1 _ I1 q1) fun us s2 ⟨xs,H2,I2,r2,q2⟩=>⟨x::xs,H2,I2,.cons r1 r2,q2⟩
def yB(t:TA):TE:=fun σ H Q=>t σ H fun xs H1=>xs.length≤sizeLine∧∀p,H1 p=none->Q (.ref p) (upd H1 p (.tup xs))
theorem hZ{x1}(h:PA X es t):PE X (.Tuple es x1 pos) (yB t):=by
 intro pins s σ H Q I hq;refine wpAny_Tuple_spliced (thn (h pos pins s σ H _ I hq) fun us s1 ⟨xs,H1,I1,r,z,q⟩=>⟨by rw[<- r.length];exact z,?_⟩);have hf:H1 s1.heap.objs.size=none:=I1.hok.fresh (Nat.le_refl _);refine⟨.ref s1.heap.objs.size,upd H1 s1.heap.objs.size (.tup xs),I1.laid (t':=s1.toks) (fun b u e=>Heap.get?_push_of_some _ e) (Nat.le_refl _) ?_,rfl,q _ hf⟩;exact⟨z,us,r,⟨_,Heap.get?_push_size _ rfl,rfl,_,rfl⟩⟩
end
abbrev Sp:=List V->Hp->VK->XK->Prop
abbrev CXT:=List Env->Hp->Shared->XK->Value->Shared->Prop
structure Ew(P:Program)(w:World)(K:W.Frag)(mg:Str->Option Value)(base:Heap)(A:Around)(outer:List Env)(s:Shared)(H:Hp):Prop where
 frames:A.frames=some outer
 mod:Mod K mg base
 bs:∀b o,base.get? b=some o->s.heap.get? b=some o∧H b=none
 bsz:base.objs.size≤s.heap.objs.size
 funs:s.heap.FunFrames base outer
 frf:∀b∈frs outer,H b=none
 hok:HOk P w H s.heap
 bare:AllBare s.gens
def CE(outer:List Env)(P:Program)(w:World)(H:Hp)(s:Shared)(Q:VK)(u:Value)(s':Shared):Prop :=
 ∃v H',s'.os=s.os∧AllBare s'.gens∧Un (frs outer) [] H H' s.heap s'.heap∧HOk P w H' s'.heap∧aU v u∧Q v H'
def CR(CX:CXT)(outer:List Env)(P:Program)(w:World)(H:Hp)(s:Shared)(Q:VK)(E:XK)(r:Result)(s':Shared):Prop :=
 match r with
 | .ok (.ret u)=>CE outer P w H s Q u s'
 | .ok _=>False
 | .error e=>CX outer H s E e s'
structure CO(P:Program)(w:World)(K:W.Frag)(mg:Str->Option Value)(base:Heap)(CX:CXT)(k:Nat)(f:Addr)(fd:FuncData)(ps:List Str)(sp:Sp):Prop where
 len:∀vs H Q E,sp vs H Q E->vs.length=ps.length
 run:∀(A:Around) (outer:List Env) (s:Shared) (H:Hp) (args:Args) (us:List Value) (vs:List V) (Q:VK) (E:XK),Ar k A->Ew P w K mg base A outer s H->BindsTo s fd args (ps.zip us)->aN vs us->sp vs H Q E ->
  codeAny (model P w) A (.call (.ref f) args) (CR CX outer P w H s Q E) s
theorem CO.imp{P:Program}{w:World}{K:W.Frag}{mg:Str->Option Value}{base:Heap}{CX:CXT}{k:Nat}{f:Addr}{fd:FuncData}{ps:List Str}{sp sp':Sp}(F:CO P w K mg base CX k f fd ps sp)
  (h:∀vs H Q E,sp' vs H Q E->sp vs H Q E):CO P w K mg base CX k f fd ps sp' :=
 ⟨fun vs H Q E q=>F.len vs H Q E (h _ _ _ _ q),fun A outer s H args us vs Q E hr he hb hv hs=>F.run A outer s H args us vs Q E hr he hb hv (h _ _ _ _ hs)⟩
theorem Ew.make{P:Program}{w:World}{K:W.Frag}{mg:Str->Option Value}{base:Heap}{A:Around}{outer:List Env}{s:Shared}{H:Hp}(e:Ew P w K mg base A outer s H)(C:Addr)(us:List Value)(kw:List (Str×Value)) :
  Ew P w K mg base (A.under (.builtin "type.__call__" ⟨.ref C::us,kw⟩)) outer s H:=⟨by first|exact e.frames|(simpa[Around.under,Code.envs,Code.isFrame,pushEnvs]using e.frames),e.mod,e.bs,e.bsz,e.funs,e.frf,e.hok,e.bare⟩
section
variable {X:Cx} {pins:List (Addr×Obj)} {σ:St} {H:Hp} {s s':Shared}
theorem Aa.env0(I:Aa X pins σ H s):Ew X.prog X.w X.K X.mg X.base X.A X.stack s H :=
 ⟨I.ok.frames,I.ok.mod,I.bs,Nat.le_trans I.ok.bsz I.sz,I.stack,I.stkFree,I.hok,I.bare⟩
theorem Aa.after{Q:VK}{u:Value}(I:Aa X pins σ H s)(h:CE X.stack X.prog X.w H s Q u s'):EP X pins σ Q u s':=by
 obtain⟨v,H',os,bare,un,hok,r,q⟩:=h;obtain⟨hh,g,d,t,os'⟩:=s';obtain rfl:os'=s.os:=os;exact⟨v,H',I.call (h':=hh) (g':=g) (d':=d) (t':=t) (ch:=[]) un hok bare (fun b z=>absurd z (by simp)),r,q⟩
end
def pG(sp:Sp)(dvs:List V)(E:XK)(t:TA):TE:=fun σ H Q=>t σ H fun vs H1=>sp (vs++dvs) H1 Q E
def wH(C:Addr)(sp:Sp)(dvs:List V)(E:XK)(t:TA):TE:=fun σ H Q=>t σ H fun vs H1=>∀x dx,H1 x=none->H1 dx=none->dx≠x ->
 sp (.ref x::(vs++dvs)) (upd (upd H1 dx (.own x)) x (.ins C dx [])) (fun v H2=>v = .non∧Q (.ref x) H2) E
def eM(K:W.Frag)(fd:FuncData)(ps:List Str)(ds:List Value):Prop :=
 ∀(s:Shared) (us:List Value),K.In s.heap->(us++ds).length=ps.length->BindsTo s fd ⟨us,[]⟩ (ps.zip (us++ds))
theorem eM.all{K:W.Frag}{fd:FuncData}{ps:List Str}(h:∀us:List Value,us.length=ps.length->bindArgs fd ⟨us,[]⟩=pure (ps.zip us)):eM K fd ps []:=fun s us _ hl=>by
 rw[List.append_nil]at hl ⊢;exact .of_eq (h us hl)
def gj(CX:CXT)(X:Cx)(E:XK):Prop:=∀(pins:List (Addr×Obj)) (σ:St) (H:Hp) (s:Shared) (e:Value) (s':Shared),Aa X pins σ H s->CX X.stack H s E e s'->X.xe e s'
section
variable {X:Cx} {CX:CXT} {k:Nat} {f C:Addr} {fd:FuncData} {ps:List Str} {sp:Sp} {dvs:List V} {ds:List Value} {E:XK} {x m:Str} {p pos apos:Pos} {e o:Expr} {es:List Expr} {ta:TE} {t:TA}
theorem sG{pins:List (Addr×Obj)}{σ:St}{H:Hp}{s:Shared}{Q:VK}{us:List Value}{vs:List V}(F:CO X.prog X.w X.K X.mg X.base CX k f fd ps sp)(hr:Ar k X.A)(hb:eM X.K fd ps ds)(hd:aN dvs ds)(hx:gj CX X E)
  (I:Aa X pins σ H s) (r:aN vs us) (h:sp (vs++dvs) H Q E):wpAny (model X.prog X.w) X.A (call (.ref f) us) (EP X pins σ Q) X.xe s:=by
 have r2:aN (vs++dvs) (us++ds):=r.append hd;have hl:(us++ds).length=ps.length:=by rw[<- r2.length];exact F.len _ _ _ _ h
 refine wpAny_call (codeAny_mono (F.run X.A X.stack s H ⟨us,[]⟩ (us++ds) (vs++dvs) Q E hr I.env0 (hb s us I.kIn hl) r2 h) fun r s' hq=>?_);cases r with
 | error e=>exact hx pins σ H s e s' I hq
 | ok fl =>
  cases fl with
  | ret u=>exact I.after hq
  | next=>exact False.elim hq
  | brk=>exact False.elim hq
  | cont=>exact False.elim hq
theorem lP(F:CO X.prog X.w X.K X.mg X.base CX k f fd ps sp)(hr:Ar k X.A)(hg:Gl X x)(hm:X.mg x=some (.ref f))(hk:W.keepIn X.K (.ref f)=true)(hb:eM X.K fd ps ds)(hd:aN dvs ds)(hx:gj CX X E)
  (ha:PA X (e::es) t) (hdb:(x == ("__debug__" : Str))=false:=by decide) (he:starEach (e::es) X.env=(false,eval e X.env)::starEach es X.env:=by rfl) (hpl:(backTo pos (starEach es X.env)).any (·.1)=false:=by rfl) :
  PE X (.Call (.Name x p) (e::es) [] pos) (pG sp dvs E t):=by
 intro pins s σ H Q I h;refine wpAny_Call_Name_kw (eA I hg hm ?_ hdb);refine W.callWith_K (h₀:=X.base) I.ok.mod.kin hk (thn (ha pos pins s σ H _ I h) fun us s1 ⟨vs,H1,I1,r,q⟩=>⟨I1.kIn,?_⟩) he hpl;exact sG F hr hb hd hx I1 r q
structure Mk(K:W.Frag)(C f:Addr):Prop where
 makes:W.makesIn K C=true
 init:W.findIn K (.ref C) "__init__" = some (some (.ref f))
 fn:W.isFn K (.ref f)=true
 kp:W.keepIn K (.ref C)=true
theorem sF{pins:List (Addr×Obj)}{σ:St}{H:Hp}{s:Shared}{Q:VK}{us:List Value}{vs:List V}(M:Mk X.K C f)(F:CO X.prog X.w X.K X.mg X.base CX k f fd ps sp)(hr:Ar (k+1) X.A)(hb:eM X.K fd ps ds)(hd:aN dvs ds)
  (hx:gj CX X E) (I:Aa X pins σ H s) (r:aN vs us)
  (h:∀x dx,H x=none->H dx=none->dx≠x->sp (.ref x::(vs++dvs)) (upd (upd H dx (.own x)) x (.ins C dx [])) (fun v H2=>v = .non∧Q (.ref x) H2) E) :
  wpAny (model X.prog X.w) X.A (call (.ref C) us) (EP X pins σ Q) X.xe s:=by
 have hq:=h (s.heap.objs.size+1) s.heap.objs.size (I.hok.fresh (Nat.le_succ _)) (I.hok.fresh (Nat.le_refl _)) (Nat.ne_of_lt (Nat.lt_succ_self _));have I2:=Aa.made (C:=C) I;have r2:aN (V.ref (s.heap.objs.size+1)::(vs++dvs)) (Value.ref (s.heap.objs.size+1)::(us++ds)):=.cons rfl (r.append hd);have hl:(Value.ref (s.heap.objs.size+1)::us++ds).length=ps.length:=by
  have e:=r2.length;rw[F.len _ _ _ _ hq]at e;exact e.symm
 refine wpAny_call (tG (f:=f) I.kIn M.makes M.init (beq_iff_eq.mp M.fn) (codeAny_mono (F.run _ X.stack _ _ ⟨Value.ref (s.heap.objs.size+1)::us,[]⟩ (Value.ref (s.heap.objs.size+1)::(us++ds)) _ _ E (hr.make C us [])
  (I2.env0.make C us []) (hb _ (Value.ref (s.heap.objs.size+1)::us) I2.kIn hl) r2 hq) fun r s' hq'=>?_))
 cases r with
 | error e=>exact hx pins σ _ _ e s' I2 hq'
 | ok fl =>
  cases fl with
  | ret u =>
   obtain⟨v,H',I3,rv,ev,q3⟩:=I2.after hq';subst ev;exact⟨rv,⟨V.ref (s.heap.objs.size+1),H',I3,rfl,q3⟩⟩
  | next=>exact False.elim hq'
  | brk=>exact False.elim hq'
  | cont=>exact False.elim hq'
theorem vp(M:Mk X.K C f)(F:CO X.prog X.w X.K X.mg X.base CX k f fd ps sp)(hr:Ar (k+1) X.A)(hg:Gl X x)(hm:X.mg x=some (.ref C))(hb:eM X.K fd ps ds)(hd:aN dvs ds)(hx:gj CX X E)
  (ha:PA X (e::es) t) (hdb:(x == ("__debug__" : Str))=false:=by decide) (he:starEach (e::es) X.env=(false,eval e X.env)::starEach es X.env:=by rfl) (hpl:(backTo pos (starEach es X.env)).any (·.1)=false:=by rfl) :
  PE X (.Call (.Name x p) (e::es) [] pos) (wH C sp dvs E t):=by
 intro pins s σ H Q I h;refine wpAny_Call_Name_kw (eA I hg hm ?_ hdb);refine W.callWith_K (h₀:=X.base) I.ok.mod.kin M.kp (thn (ha pos pins s σ H _ I h) fun us s1 ⟨vs,H1,I1,r,q⟩=>⟨I1.kIn,?_⟩) he hpl;exact sF M F hr hb hd hx I1 r q
end
section
variable {X:Cx} {CX:CXT} {k:Nat} {f C:Addr} {fd:FuncData} {ps ks:List Str} {sp:Sp} {E:XK} {x m:Str} {p pos apos kpos:Pos} {e o:Expr} {es:List Expr} {kws:List Keyword} {te ta:TE} {t tk:TA} {nm:Option Str}
variable {g:List Value->List Value->List Value} {gV:List V->List V->List V}
end
structure zZ(N P:List Str)(sc:Scope):Prop where
 kind:sc.kind = .function
 co:sc.isCoroutine=false
 gen:sc.isGenerator=false
 nd:N.Nodup
 pre:N.take P.length=P
 par:∀x∈P,sc.names.lookup x=some .local∨sc.names.lookup x=some .cell
 nofree:∀y∈sc.names,y.2≠.free
theorem lq{kindOf:Str->Option NameKind}{x:Str}:∀{binds:List (Str×Value)} {m:Str->Option Value},(∀v,(x,v)∉binds)->bindL kindOf binds m x=m x
 | [],_,_=>rfl
 | (n,v)::r,m,h=>by
  unfold bindL;rw[lq fun w hw=>h w (List.mem_cons_of_mem _ hw)]
  split
  ·have:x≠n:=by rintro rfl;exact h v List.mem_cons_self
   simp[this]
  ·rfl
theorem lz{kindOf:Str->Option NameKind}{x:Str}:∀{binds:List (Str×Value)} {m:Str->Option Value},(∀v,(x,v)∉binds)->bindC kindOf binds m x=m x
 | [],_,_=>rfl
 | (n,v)::r,m,h=>by
  unfold bindC;rw[lz fun w hw=>h w (List.mem_cons_of_mem _ hw)]
  split
  ·rfl
  ·have:x≠n:=by rintro rfl;exact h v List.mem_cons_self
   simp[this]
theorem lu{kindOf:Str->Option NameKind}{x:Str}{v:Value}:∀{P:List Str} {vs:List Value} {i:Nat} {m:Str->Option Value},P.Nodup->P[i]? = some x->vs[i]? = some v->kindOf x=some .local ->
  bindL kindOf (P.zip vs) m x=some v
 | [],_,_,_,_,h,_,_=>by simp at h
 | _::_,[],_,_,_,_,h,_=>by simp at h
 | p::P,w::vs,0,m,nd,h1,h2,hk=>by
  simp at h1 h2;subst h1;subst h2;show bindL kindOf ((p,w)::P.zip vs) m p=_;unfold bindL;rw[lq fun v hv=>(List.nodup_cons.mp nd).1 (List.of_mem_zip hv).1,if_pos hk];simp
 | p::P,w::vs,i+1,m,nd,h1,h2,hk=>by
  show bindL kindOf ((p,w)::P.zip vs) m x=_;unfold bindL;exact lu (i:=i) (List.nodup_cons.mp nd).2 (by simpa using h1) (by simpa using h2) hk
theorem lA{kindOf:Str->Option NameKind}{x:Str}{v:Value}:∀{P:List Str} {vs:List Value} {i:Nat} {m:Str->Option Value},P.Nodup->P[i]? = some x->vs[i]? = some v->kindOf x≠some .local ->
  bindC kindOf (P.zip vs) m x=some v
 | [],_,_,_,_,h,_,_=>by simp at h
 | _::_,[],_,_,_,_,h,_=>by simp at h
 | p::P,w::vs,0,m,nd,h1,h2,hk=>by
  simp at h1 h2;subst h1;subst h2;show bindC kindOf ((p,w)::P.zip vs) m p=_;unfold bindC;rw[lz fun v hv=>(List.nodup_cons.mp nd).1 (List.of_mem_zip hv).1,if_neg hk];simp
 | p::P,w::vs,i+1,m,nd,h1,h2,hk=>by
  show bindC kindOf ((p,w)::P.zip vs) m x=_;unfold bindC;exact lA (i:=i) (List.nodup_cons.mp nd).2 (by simpa using h1) (by simpa using h2) hk
def eE(N:List Str)(vs:List V):St:=vs.map some++List.replicate (N.length - vs.length) none
def bE(CX:CXT)(P:Program)(w:World)(K:W.Frag)(mg:Str->Option Value)(base:Heap)(N:List Str)(qual:Str)(scope:Scope)(f:Addr)(cd:Value)(A:Around)(outer:List Env)(s:Shared)(H:Hp)(E:XK):Cx where
 prog:=P
 w:=w
 K:=K
 mg:=mg
 base:=base
 A:=A.deeper (envOfC qual scope s.heap.objs.size f cd)
 N:=N
 s₀:=s
 H₀:=H
 env:=envOfC qual scope s.heap.objs.size f cd
 outer:=outer
 stack:=envOfC qual scope s.heap.objs.size f cd::outer
 ex:=[]
 calm:=true
 fn:=fun _=>true
 pn:=[]
 xe:=fun e s'=>wpAny (model P w) (A.deeper (envOfC qual scope s.heap.objs.size f cd)) (leaving (envOfC qual scope s.heap.objs.size f cd) e) (fun _ s''=>CX outer H s E e s'') (fun e' s''=>CX outer H s E e' s'') s'
theorem oa{sc:Scope}{n:Nat}{x:Str}(h:sc.names.lookup x=some .cell):∃c,(cellsFrom n sc.names []).lookup x=some c:=by
 have q:=W.cellsFrom_some sc.names n [] (.inl h);exact Option.isSome_iff_exists.mp q
theorem rf{CX:CXT}{P:Program}{w:World}{K:W.Frag}{mg:Str->Option Value}{base:Heap}{N ps:List Str}{qual:Str}{scope:Scope}{f:Addr}{cd:Value}{A:Around}{outer:List Env}{s s1:Shared}{H:Hp}{E:XK}{us:List Value}{vs:List V}
  (S:zZ N ps scope) (hd:A.handled=none) (e0:Ew P w K mg base A outer s H) (hl:vs.length=ps.length) (r:aN vs us)
  (x:InCallC s s.heap.objs.size (bindL (envOfC qual scope s.heap.objs.size f cd).kindOf (ps.zip us) fun _=>none) (cellsFrom (s.heap.objs.size+1) scope.names []) (bindC (envOfC qual scope s.heap.objs.size f cd).kindOf (ps.zip us) fun _=>none) s1) :
  Aa (bE CX P w K mg base N qual scope f cd A outer s H E) [] (eE N vs) H s1:=by
 have hpl:ps.length≤N.length:=by have:=congrArg List.length S.pre;rw[List.length_take]at this;omega
 obtain⟨h1,tk,rfl,hk⟩:=x.done;have noA:∀b:Addr,b∉(bE CX P w K mg base N qual scope f cd A outer s H E).ex:=fun b z=>absurd (show b∈([]:List Addr) from z) (by simp);refine⟨⟨e0.mod,S.kind,rfl,rfl,Nat.le_refl _,fun y z c h1 h2=>?_,fun y hy=>?_,fun y c _ h=>?_,fun _=>hd,Around.frames_deeper e0.frames,.inr ⟨rfl,rfl⟩,fun b z=>absurd z (noA b),e0.bs,e0.bsz,fun b _ _=>noA b,fun b z=>absurd z (noA b),e0.funs,e0.frf⟩,
  rfl,e0.bare,Un.kept hk,⟨_,x.toInCall.ns,fun i y v h1 h2 h3=>?_⟩,fun y c h=>⟨_,x.cell y c h⟩,e0.hok.fresh (Nat.le_refl _),fun y c h=>?_,fun p hp=>absurd (show p∈([]:List (Addr×Obj)) from hp) (by simp),e0.hok.kept hk,?_⟩
 ·exact name_of_addr x.apart (PySem.mem_of_lookup h1) (PySem.mem_of_lookup h2)
 ·have hy:scope.names.lookup y=some .cell∨scope.names.lookup y=some .free:=hy
  rcases hy with hy|hy
  ·exact oa hy
  ·exact absurd rfl (S.nofree _ (PySem.mem_of_lookup hy))
 ·exact Nat.le_of_lt (x.above y c (PySem.mem_of_lookup h))
 ·have hi:i<vs.length:=by
   unfold eE at h2
   by_cases hi:i<vs.length
   ·exact hi
   ·rw[List.getElem?_append_right (by simpa using hi)]at h2
    rw[List.getElem?_replicate]at h2
    split at h2 <;> cases h2
  have ha:vs[i]? = some v:=by
   unfold eE at h2;rw[List.getElem?_append_left (by simpa using hi),List.getElem?_map]at h2;cases e:vs[i]? with
   | none=>rw[e]at h2;cases h2
   | some a=>rw[e]at h2;cases h2;rfl
  obtain⟨u,hu,rv⟩:=r.get ha;have hp:ps[i]? = some y:=by
   rw[<- S.pre,List.getElem?_take_of_lt (by omega)];exact h1
  have ndP:ps.Nodup:=by rw[<- S.pre];exact S.nd.sublist (List.take_sublist _ _)
  refine⟨u,rv,?_⟩;rcases S.par y (List.mem_of_getElem? hp) with k|k
  ·exact .inl ⟨k,lu ndP hp hu k⟩
  ·obtain⟨c,e⟩:=oa (n:=s.heap.objs.size+1) k
   refine .inr ⟨.inl k,c,e,?_⟩;have q:=x.cell y c e;rw[lA ndP hp hu (by show scope.names.lookup y≠_;rw[k];decide)]at q;exact q
 ·exact e0.hok.fresh (Nat.le_of_lt (x.above y c (PySem.mem_of_lookup h)))
 ·unfold eE
  show _=N.length;rw[List.length_append,List.length_map,List.length_replicate];omega
theorem nF{CX:CXT}{P:Program}{w:World}{K:W.Frag}{mg:Str->Option Value}{base:Heap}{k:Nat}{f:Addr}{name qual:Str}{params:Arguments}{body:List Stmt}{scope:Scope}{dV kV doc pm cdv ct oc:Value}{an od:Option Addr}
  {osl:Array (Option Value)} {N ps:List Str} {sp:Sp} (lk:K.lookup f=some ⟨oc,od,.func (W.fnOf name qual params body scope dV kV doc pm an cdv ct),osl⟩) (hcd:W.codeIn K cdv qual=true) (S:zZ N ps scope)
  (len:∀vs H Q E,sp vs H Q E->vs.length=ps.length)
  (hbody:∀(A:Around) (outer:List Env) (s:Shared) (H:Hp) (vs:List V) (Q:VK) (E:XK),Ar k (A.deeper (envOfC qual scope s.heap.objs.size f cdv))->sp vs H Q E ->
   ∃t,PSs (bE CX P w K mg base N qual scope f cdv A outer s H E) body t∧t { nx:=fun _ H'=>Q .non H',rt:=Q } (eE N vs) H) :
  CO P w K mg base CX (k+1) f (W.fnOf name qual params body scope dV kV doc pm an cdv ct) ps sp:=by
 refine⟨len,fun A outer s H args us vs Q E hr e0 hb r hsp=>?_⟩;have hl:=len _ _ _ _ hsp;have KX:K.In s.heap:=e0.mod.kin.keeps fun b o e=>(e0.bs b o e).1;have lim:s.heap.NoLimit:=e0.mod.nolimit.keeps fun b o e=>(e0.bs b o e).1;have hkind:∀y∈ps.zip us,scope.names.lookup y.1=some .local∨(scope.names.lookup y.1=some .cell∧((cellsFrom (s.heap.objs.size+1) scope.names []).lookup y.1).isSome=true):=fun ⟨n,v⟩ hy=>by
  rcases S.par n (List.of_mem_zip hy).1 with q|q
  ·exact .inl q
  ·exact .inr ⟨q,W.cellsFrom_some _ _ _ (.inl q)⟩
 refine codeAny_call_function hr.depth (KX _ _ lk) rfl S.co S.gen rfl (W.codeRec_of KX hcd) (hb _ _ _ _ ?_);refine wpAny_newFunctionEnv_cells S.kind hkind fun env he s1 x=>?_;subst he;refine⟨lim.keeps x.toInCall.keep,codeAny_func ?_⟩;obtain⟨t,ht,hq⟩:=hbody A outer s H vs Q E (hr.deeper _) hsp;have I:Aa (bE CX P w K mg base N qual scope f cdv A outer s H E) [] (eE N vs) H s1:=rf S hr.hd e0 hl r x;refine wpAny_mono (ht [] s1 (eE N vs) H _ I hq) (fun fl s' hs=>?_) fun e s' hs=>hs;have fin:∀{σ':St} {H':Hp} {v:V} {u:Value},Aa (bE CX P w K mg base N qual scope f cdv A outer s H E) [] σ' H' s'->aU v u->Q v H'->CE outer P w H s Q u s' :=
  fun {σ' H' v u} J rv q=>⟨v,H',J.os,J.bare,J.base,J.hok,rv,q⟩
 cases fl with
 | ret u =>
  obtain⟨v,σ',H',J,rv,q⟩:=hs;exact fin J rv q
 | next =>
  obtain⟨σ',H',J,q⟩:=hs;exact fin (v:=V.non) (u:=Value.none) J rfl q
 | brk =>
  obtain⟨_,_,_,q⟩:=hs;exact False.elim q
 | cont =>
  obtain⟨_,_,_,q⟩:=hs;exact False.elim q
end L2
namespace L2
open PySem PySem.Spec PyProof.Rows
section
variable {X:Cx} {x:Str} {p pos:Pos} {e:Expr} {es:List Expr} {t:TA} {id T:String} {r:List V->Hp->VK->Prop}
def tCB(r:List V->Hp->VK->Prop)(t:TA):TE:=fun σ H Q=>t σ H fun vs H1=>r vs H1 Q
theorem aT(hc:eJ X (.builtin id) r)(hg:Gl X x)(hm:X.mg x=none)(hv:bootBuiltins x=some (.builtin id))(ha:PA X (e::es) t)(hn:x≠"__name__":=by decide)(hdb:(x == ("__debug__" : Str))=false:=by decide)
  (he:starEach (e::es) X.env=(false,eval e X.env)::starEach es X.env:=by rfl) (hpl:(backTo pos (starEach es X.env)).any (·.1)=false:=by rfl):PE X (.Call (.Name x p) (e::es) [] pos) (tCB r t):=by
 intro pins s σ H Q I h;refine wpAny_Call_Name_kw (fW I hg hm hv ?_ hn hdb);exact PyProof.Rows.callWith_builtin1 (thn (ha pos pins s σ H _ I h) fun us s1 ⟨vs,H1,I1,r1,q1⟩=>hc pins s1 σ H1 vs us Q I1 r1 q1) he hpl
theorem qK(hc:eJ X (.type T) r)(hg:Gl X x)(hm:X.mg x=none)(hv:bootBuiltins x=some (.type T))(ha:PA X (e::es) t)(hn:x≠"__name__":=by decide)(hdb:(x == ("__debug__" : Str))=false:=by decide)
  (he:starEach (e::es) X.env=(false,eval e X.env)::starEach es X.env:=by rfl) (hpl:(backTo pos (starEach es X.env)).any (·.1)=false:=by rfl):PE X (.Call (.Name x p) (e::es) [] pos) (tCB r t):=by
 intro pins s σ H Q I h;refine wpAny_Call_Name_kw (fW I hg hm hv ?_ hn hdb);exact PyProof.Rows.callWith_type1 (thn (ha pos pins s σ H _ I h) fun us s1 ⟨vs,H1,I1,r1,q1⟩=>hc pins s1 σ H1 vs us Q I1 r1 q1) he hpl
end
end L2
namespace HT
open PySem PyProof.Rows
section
open PySem.SeqAt
open PySem.AutoSeq1 (wpAny_loadPart')
open PySem.MeetsSeq PySem.MeetsSeq2 PySem.MeetsSeq3
end
section
variable {prog:Program} {w:World} {A:Around} {E:Value->Shared->Prop} {s:Shared}
def sIx(n d:Nat):Option Int->Nat
 | none=>d
 | some v=>if v<0 then (v+(n:Int)).toNat else min v.toNat n
theorem sIx_none(n d:Nat):sIx n d none=d:=rfl
theorem sIx_nat(n d k:Nat):sIx n d (some (k:Int))=min k n:=by
 show(if (k:Int)<0 then ((k:Int)+(n:Int)).toNat else min (k:Int).toNat n)=min k n
 rw[if_neg (by omega),Int.toNat_natCast]
end
end HT
namespace L2
open PySem PySem.Spec PyProof.Rows
abbrev TO:=St->Hp->(Option Int->Hp->Prop)->Prop
def PO(X:Cx)(e:Option Expr)(t:TO):Prop :=
 ∀(pins:List (Addr×Obj)) (s:Shared) (σ:St) (H:Hp) (Q:Option Int->Hp->Prop),Aa X pins σ H s->t σ H Q ->
  wpAny (model X.prog X.w) X.A (evalPart e X.env) (fun u s'=>∃o H',Aa X pins σ H' s'∧IsPart u o∧Q o H') X.xe s
def uV:TO:=fun _ H Q=>Q none H
def yG(t:TE):TO:=fun σ H Q=>t σ H fun x H1=>∃i,x = .int i∧Q (some i) H1
section
variable {X:Cx} {e:Expr} {te:TE} {lo hi:Option Expr} {tl th:TO} {pos p2:Pos}
theorem pS:PO X none uV:=by
 intro pins s σ H Q I h;rw[evalPart_none];exact wpAny_pure ⟨none,H,I,.none,h⟩
theorem lO(h:PE X e te):PO X (some e) (yG te):=by
 intro pins s σ H Q I hw;rw[evalPart_some];refine thn (h pins s σ H _ I hw) fun u s1 ⟨x,H1,I1,r1,q1⟩=>?_;obtain⟨i,rfl,q⟩:=q1;obtain⟨t,rfl⟩:=r1;exact⟨some i,H1,I1,.int i t,q⟩
def SlR(X:Cx)(r:V->Option Int->Option Int->Hp->VK->Prop):Prop :=
 ∀(pins:List (Addr×Obj)) (s:Shared) (σ:St) (H:Hp) (x:V) (v vl vu:Value) (lo hi:Option Int) (sl:Addr) (Q:VK),Aa X pins σ H s->aU x v->s.heap.IsSliceOf sl vl vu .none->IsPart vl lo->IsPart vu hi->r x lo hi H Q ->
  ∃T id,typeLookup (.type T) "__getitem__" = pure (some (.builtin id))∧s.TypeIs v T∧wpAny (model X.prog X.w) X.A (getItem v (.ref sl)) (EP X pins σ Q) X.xe s
def tSl(r:V->Option Int->Option Int->Hp->VK->Prop)(te:TE)(tl th:TO):TE:=fun σ H Q=>te σ H fun x H1=>tl σ H1 fun l H2=>th σ H2 fun u H3=>r x l u H3 Q
theorem mL{r:V->Option Int->Option Int->Hp->VK->Prop}(hr:SlR X r)(he:PE X e te)(hl:PO X lo tl)(hu:PO X hi th):PE X (.Subscript e (.Slice lo hi none p2) pos) (tSl r te tl th):=by
 intro pins s σ H Q I h;refine Subscript_ (thn (he pins s σ H _ I h) fun v s1 ⟨x,H1,I1,r1,q1⟩=>?_);refine wpAny_Slice (thn (hl pins s1 σ H1 _ I1 q1) fun vl s2 ⟨l,H2,I2,pl,q2⟩=>thn (hu pins s2 σ H2 _ I2 q2) fun vu s3 ⟨u,H3,I3,pu,q3⟩=>?_);rw[evalPart_none];refine wpAny_pure ?_;have I4:Aa X pins σ H3 { s3 with heap:=s3.heap.push { cls:=.type "slice",data:=.fields #[vl,vu,.none] } }:=I3.kept (t':=s3.toks) fun b ob q=>Heap.get?_push_of_some _ q;obtain⟨T,id,hT,ht,hg⟩:=hr pins { s3 with heap:=s3.heap.push { cls:=.type "slice",data:=.fields #[vl,vu,.none] } } σ H3 x v vl vu l u s3.heap.objs.size Q I4 r1 (Heap.IsSliceOf.new ..) pl pu q3;show wpAny (model X.prog X.w) X.A (subscriptTail e (.Slice lo hi none p2) v (.ref s3.heap.objs.size)) (EP X pins σ Q) X.xe { s3 with heap:=s3.heap.push { cls:=.type "slice",data:=.fields #[vl,vu,.none] } };exact tail_any (ops:=[.ref s3.heap.objs.size,v]) ht hT hg (by with_unfolding_all rfl)
def kA(xs:List V)(lo hi:Option Int):List V:=(xs.drop (HT.sIx xs.length 0 lo)).take (HT.sIx xs.length xs.length hi - HT.sIx xs.length 0 lo)
theorem nW(xs:List V)(lo hi:Option Int):(kA xs lo hi).length≤xs.length:=by
 unfold kA;rw[List.length_take,List.length_drop];omega
end
end L2
namespace L2
open PySem PySem.Spec PyProof.Rows
def ixN(n:Nat)(i:Int):Option Nat:=if 0≤i then (if i<n then some i.toNat else none) else if -(n:Int)≤i then some (i+n).toNat else none
def atI{α:Type}(xs:List α)(i:Int):Option α:=(ixN xs.length i).bind fun j=>xs[j]?
theorem qg{n:Nat}{i:Int}{j:Nat}(h:ixN n i=some j):seqIndex? i n=some j∧j<n∧-(n:Int)≤i∧i<n:=by
 unfold ixN at h
 by_cases h0:0≤i
 ·rw[if_pos h0]at h
  by_cases h1:i<n
  ·rw[if_pos h1]at h
   have e:i.toNat=j:=Option.some.inj h;exact⟨by rw[seqIndex_of h0 h1,e],by omega,by omega,h1⟩
  ·rw[if_neg h1]at h;cases h
 ·rw[if_neg h0]at h
  by_cases h1:-(n:Int)≤i
  ·rw[if_pos h1]at h
   have e:(i+n).toNat=j:=Option.some.inj h;exact⟨by rw[seqIndex_neg (by omega) h1,e],by omega,h1,by omega⟩
  ·rw[if_neg h1]at h;cases h
theorem qu{α:Type}{xs:List α}{i:Int}{v:α}(h:atI xs i=some v):∃j,seqIndex? i xs.length=some j∧xs[j]? = some v∧j<xs.length∧-(xs.length:Int)≤i∧i<xs.length:=by
 unfold atI at h;cases e:ixN xs.length i with
 | none=>rw[e]at h;cases h
 | some j =>
  rw[e]at h;obtain⟨h1,h2,h3,h4⟩:=qg e;exact⟨j,h1,h,h2,h3,h4⟩
theorem eD{α:Type}{xs:List α}{j:Nat}{v:α}(h:xs[j]? = some v):atI xs (j:Int)=some v:=by
 have hj:j<xs.length:=(List.getElem?_eq_some_iff.mp h).1;have e:ixN xs.length (j:Int)=some j:=by
  unfold ixN;rw[if_pos (by omega),if_pos (by omega)];simp
 unfold atI;rw[e];exact h
theorem uM{α:Type}(xs:List α)(v:α):atI (xs++[v]) (-1)=some v:=by
 have hl:(xs++[v]).length=xs.length+1:=by simp
 have e:ixN (xs++[v]).length (-1)=some xs.length:=by
  unfold ixN;rw[hl,if_neg (by decide),if_pos (by omega)]
  congr 1
  omega
 unfold atI;rw[e];show(xs++[v])[xs.length]? = some v;simp
def wC(b:Expr):Prop:=∀o i,subscripted b false o i=operate [o,i] (getItem o i)
def IxR(X:Cx)(r:R2):Prop :=
 ∀(value slice:Expr) (pins:List (Addr×Obj)) (s:Shared) (σ:St) (H:Hp) (x y:V) (v u:Value) (Q:VK),Aa X pins σ H s->aU x v->aU y u->r x y H Q ->
  subscripted slice false v u=operate [v,u] (getItem v u)->wpAny (model X.prog X.w) X.A (subscriptTail value slice v u) (EP X pins σ Q) X.xe s
def MtR(X:Cx)(id:String)(r:V->List V->Hp->VK->Prop):Prop :=
 ∀(pins:List (Addr×Obj)) (s:Shared) (σ:St) (H:Hp) (x:V) (xs:List V) (v:Value) (us:List Value) (Q:VK),Aa X pins σ H s->aU x v->aN xs us->r x xs H Q ->
  wpAny (model X.prog X.w) X.A (call (.builtin id) (v::us)) (EP X pins σ Q) X.xe s
section
variable {X:Cx} {a b:Expr} {ta tb:TE} {pos:Pos}
theorem aw{r:R2}(hr:IxR X r)(ha:PE X a ta)(hb:PE X b tb)(hs:wC b):PE X (.Subscript a b pos) (tOp r ta tb):=by
 intro pins s σ H Q I h;exact Subscript_ (yp ha hb I h fun v u s2 x y H2 I2 rx ry q=>hr a b pins s2 σ H2 x y v u Q I2 rx ry q (hs _ _))
inductive FG (K:W.Frag) (x y:V) (H:Hp) (Q:VK):Prop
 | mk (p:Addr) (xs:List V) (i:Int) (v:V) (e:x = .ref p) (f:y = .int i) (s:SqL K H p xs) (a:atI xs i=some v) (q:Q v H):FG K x y H Q
inductive Gj (K:W.Frag) (x y:V) (H:Hp) (Q:VK):Prop
 | mk (p:Addr) (xs:List V) (i:Int) (v:V) (e:x = .ref p) (f:y = .int i) (s:SqT K H p xs) (a:atI xs i=some v) (q:Q v H):Gj K x y H Q
theorem cr:IxR X (FG X.K):=by
 intro value slice pins s σ H x y v u Q I rx ry h hs;obtain⟨p,xs,i,z,rfl,rfl,hq,he,q⟩:=h;cases rx;obtain⟨t,rfl⟩:=ry;obtain⟨its,r,pl,hz⟩:=I.list hq;obtain⟨j,h1,h2,h3,h4,h5⟩:=qu he;obtain⟨w,ew,rw'⟩:=r.get h2;have hl:=r.length;have hn:=lY;have fin:EP X pins σ Q w s:=⟨z,H,I,rw',q⟩
 by_cases h0:0≤i
 ·have hj:i.toNat=j:=by
   rw[seqIndex_of h0 h5]at h1;exact Option.some.inj h1
  exact item_listR pl.isList h0 (by omega) (by rw[hj];simpa using ew) fin hs
 ·have hj:(i+(its.toArray.size:Int)).toNat=j:=by
   rw[seqIndex_neg (by omega) h4]at h1;rw[List.size_toArray,<- hl];exact Option.some.inj h1
  exact subscriptTail_builtinR (x:=w) pl.isList.typeIs slot_list_getitem.lookup
   (wpAny_getItem_list_neg (Q:=fun r s'=>r=w∧EP X pins σ Q r s') pl.isList (by omega) (by rw[List.size_toArray] <;> omega) (by omega) (by rw[hj];simpa using ew) ⟨rfl,fin⟩) hs
theorem au:IxR X (Gj X.K):=by
 intro value slice pins s σ H x y v u Q I rx ry h hs;obtain⟨p,xs,i,z,rfl,rfl,hq,he,q⟩:=h;cases rx;obtain⟨t,rfl⟩:=ry;obtain⟨its,r,pl,hz⟩:=I.tuple hq;obtain⟨j,h1,h2,h3,h4,h5⟩:=qu he;obtain⟨w,ew,rw'⟩:=r.get h2;have hl:=r.length;have hn:=lY;have fin:EP X pins σ Q w s:=⟨z,H,I,rw',q⟩;exact subscriptTail_builtinR (x:=w) pl.typeIs slot_tuple_getitem.lookup
  (getItem_tuple (j:=j) (Q:=fun r s'=>r=w∧EP X pins σ Q r s') pl (by omega) (by omega) (by rw[List.size_toArray,<- hl];exact h1) (by simpa using ew) ⟨rfl,fin⟩) hs
theorem oM(its:List Value)(n j:Nat)(u:Value):Obj.mapSeq (·.setIfInBounds j u) { cls:=.type "list",data:=.seq its.toArray n }={ cls:=.type "list",data:=.seq (its.set j u).toArray n }:=by
 simp[Obj.mapSeq]
theorem Aa.lst{pins:List (Addr×Obj)}{σ:St}{H:Hp}{s:Shared}{p:Addr}{xs:List V}(I:Aa X pins σ H s)(h:H p=some (.lst xs)) :
  ∃(its:List Value) (n:Nat),aN xs its∧s.heap.get? p=some { cls:=.type "list",data:=.seq its.toArray n }∧xs.length≤sizeLine:=by
 obtain⟨z,its,n,r,e⟩:=I.hok p _ h;exact⟨its,n,r,e,z⟩
theorem Aa.lstUpd{pins:List (Addr×Obj)}{σ:St}{H:Hp}{s:Shared}{p:Addr}{xs ys:List V}{its its':List Value}{n n':Nat}{f:Obj->Obj}(I:Aa X pins σ H s)(h:H p=some (.lst xs))
  (ho:s.heap.get? p=some { cls:=.type "list",data:=.seq its.toArray n }) (hf:f { cls:=.type "list",data:=.seq its.toArray n }={ cls:=.type "list",data:=.seq its'.toArray n' }) (r:aN ys its') (hz:ys.length≤sizeLine) (t:Nat) :
  Aa X pins σ (upd H p (.lst ys)) { s with heap:=s.heap.update p f,toks:=t }:=by
 have e:(s.heap.update p f).get? p=some { cls:=.type "list",data:=.seq its'.toArray n' }:=by
  rw[Heap.get?_update_self f ho (by rw[hf] <;> rfl),hf]
 refine I.write (x:=p) (e:=p) (by rw[h];trivial) (.inl rfl) (fun b u hb q=>(Heap.get?_update_other _ _ (Ne.symm hb)).trans q) ⟨_,e⟩ ?_;exact⟨hz,its',n',r,e⟩
def yU:V->V->V->Hp->(Hp->Prop)->Prop:=fun o i v H Q=>∃p xs k j,o = .ref p∧i = .int k∧H p=some (.lst xs)∧ixN xs.length k=some j∧Q (upd H p (.lst (xs.set j v)))
theorem sx:yu X yU:=by
 intro pins s σ H o i v ov iv u Q I ro ri rv h;obtain⟨p,xs,k,j,rfl,rfl,hp,hj,q⟩:=h;cases ro;obtain⟨t,rfl⟩:=ri;obtain⟨its,n,r,ho,hz⟩:=I.lst hp;obtain⟨h1,h2,h3,h4⟩:=qg hj;have hl:=r.length;have hn:=lY;have I':Aa X pins σ (upd H p (.lst (xs.set j v))) { s with heap:=s.heap.update p (Obj.mapSeq (·.setIfInBounds j u)) } :=
  I.lstUpd hp ho (oM its n j u) (r.set rv j) (by rw[List.length_set];exact hz) s.toks
 by_cases h0:0≤k
 ·have hk:k.toNat=j:=by
   rw[seqIndex_of h0 h4]at h1;exact Option.some.inj h1
  exact W.ki_setAt ho h0 (by omega) (by rw[List.size_toArray,<- hl];exact h4) (by rw[hk];exact⟨_,I',q⟩)
 ·have hk:(k+(its.toArray.size:Int)).toNat=j:=by
   rw[seqIndex_neg (by omega) h3]at h1;rw[List.size_toArray,<- hl];exact Option.some.inj h1
  exact W.ki_setBack ho (by omega) (by rw[List.size_toArray,<- hl];exact h3) (by omega) (by rw[hk];exact⟨_,I',q⟩)
theorem lH(lo hi:Option Int)(n:Nat):(sliceBounds lo hi none n).1=((HT.sIx n 0 lo:Nat):Int)∧(sliceBounds lo hi none n).2.1=((HT.sIx n n hi:Nat):Int)∧(sliceBounds lo hi none n).2.2=1:=by
 refine⟨?_,?_,rfl⟩
 ·cases lo with
  | none=>simp[sliceBounds,HT.sIx]
  | some i =>
   simp only[sliceBounds,HT.sIx,Option.getD_none,show(1:Int)>0 by decide,if_true]
   by_cases h:i<0
   ·simp only[h,if_true] <;> omega
   ·simp only[h,if_false] <;> omega
 ·cases hi with
  | none=>simp[sliceBounds,HT.sIx]
  | some i =>
   simp only[sliceBounds,HT.sIx,Option.getD_none,show(1:Int)>0 by decide,if_true]
   by_cases h:i<0
   ·simp only[h,if_true] <;> omega
   ·simp only[h,if_false] <;> omega
theorem j9(its:List Value)(lo hi:Option Int):slicePick its.toArray lo hi none=((its.drop (HT.sIx its.length 0 lo)).take (HT.sIx its.length its.length hi - HT.sIx its.length 0 lo)).toArray:=by
 obtain⟨h1,h2,h3⟩:=lH lo hi its.toArray.size;unfold slicePick;rw[h1,h2,h3];simp only[sliceRange_one,pick_run,List.size_toArray] <;> rfl
def zN(K:W.Frag):V->Option Int->Option Int->Hp->VK->Prop:=fun x lo hi H Q=>∃a xs,x = .ref a∧SqL K H a xs∧∀p,H p=none->Q (.ref p) (upd H p (.lst (kA xs lo hi)))
theorem u9:SlR X (zN X.K):=by
 intro pins s σ H x v vl vu lo hi sl Q I rx hs pl pu h;obtain⟨a,xs,rfl,hx,q⟩:=h;cases rx;obtain⟨its,r,ht,hz⟩:=I.list hx;have hlen:=r.length;refine⟨"list",_,slot_list_getitem.lookup,ht.isList.typeIs,?_⟩;refine wpAny_getItem_list_slice ht.isList hs pl pu .none (by simp) ?_ (by rw[List.size_toArray] <;> omega);rw[j9,<- hlen];refine⟨.ref s.heap.objs.size,_,I.laid (t':=s.toks) (o:=.lst (kA xs lo hi)) (fun b ob q=>Heap.get?_push_of_some _ q) (Nat.le_refl _) ?_,rfl,q _ (I.hok.fresh (Nat.le_refl _))⟩;exact⟨Nat.le_trans (nW xs lo hi) hz,_,0,(r.drop (HT.sIx xs.length 0 lo)).take (HT.sIx xs.length xs.length hi - HT.sIx xs.length 0 lo),Heap.get?_push_size _ rfl⟩
def w6:V->Bool
 | .non=>true
 | .bl _=>true
 | .int _=>true
 | .str _=>true
 | _=>false
def eqV:V->V->Bool
 | .non,.non=>true
 | .bl a,.bl b=>a == b
 | .bl a,.int b=>(if a then 1 else 0) == b
 | .int a,.bl b=>a == (if b then 1 else 0)
 | .int a,.int b=>a == b
 | .str a,.str b=>a == b
 | _,_=>false
theorem yb{A:Around}{s:Shared}{y x:V}{u v:Value}(ry:aU y u)(rx:aU x v)(fy:w6 y=true)(fx:w6 x=true):SeqAt.EqAt A s u v (eqV y x):=by
 cases y with
 | non =>
  cases ry;cases x with
  | non=>cases rx;exact SeqAt.EqAt.same _
  | bl b=>cases rx;exact SeqAt.EqAt.none_bool b
  | int b=>obtain⟨t,rfl⟩:=rx;exact SeqAt.EqAt.none_int b t
  | str b=>obtain⟨t,rfl⟩:=rx;exact SeqAt.EqAt.none_str b t
  | _=>exact absurd (show false=true from fx) Bool.false_ne_true
 | bl a =>
  cases ry;cases x with
  | non=>cases rx;exact SeqAt.EqAt.bool_none a
  | bl b=>cases rx;exact SeqAt.EqAt.bool_bool a b
  | int b=>obtain⟨t,rfl⟩:=rx;exact SeqAt.EqAt.bool_int a b t
  | str b=>obtain⟨t,rfl⟩:=rx;exact SeqAt.EqAt.bool_str a b t
  | _=>exact absurd (show false=true from fx) Bool.false_ne_true
 | int a =>
  obtain⟨t',rfl⟩:=ry;cases x with
  | non=>cases rx;exact SeqAt.EqAt.int_none a t'
  | bl b=>cases rx;exact SeqAt.EqAt.int_bool a t' b
  | int b=>obtain⟨t,rfl⟩:=rx;exact SeqAt.EqAt.int_int a t' b t
  | str b=>obtain⟨t,rfl⟩:=rx;exact SeqAt.EqAt.int_str a t' b t
  | _=>exact absurd (show false=true from fx) Bool.false_ne_true
 | str a =>
  obtain⟨t',rfl⟩:=ry;cases x with
  | non=>cases rx;exact SeqAt.EqAt.str_none a t'
  | bl b=>cases rx;exact SeqAt.EqAt.str_bool a t' b
  | int b=>obtain⟨t,rfl⟩:=rx;exact SeqAt.EqAt.str_int a t' b t
  | str b=>obtain⟨t,rfl⟩:=rx;exact SeqAt.EqAt.str_str a t' b t
  | _=>exact absurd (show false=true from fx) Bool.false_ne_true
 | _=>exact absurd (show false=true from fy) Bool.false_ne_true
inductive FT (K:W.Frag) (xs:List V) (H:Hp) (Q:VK):Prop
 | mk (p:Addr) (ys:List V) (e:xs = [.ref p]) (s:SqL K H p ys∨SqT K H p ys) (q:Q (.int ys.length) H):FT K xs H Q
theorem a6:eJ X (.builtin "len") (FT X.K):=by
 intro pins s σ H xs us Q I r h;obtain⟨p,ys,rfl,hq,q⟩:=h;obtain⟨u,rfl,rx⟩:=kJ r;cases rx;have hn:=lY;rcases hq with hq|hq
 ·obtain⟨its,r',pl,hz⟩:=I.list hq
  have hlen:=r'.length;exact Calls.call_len_list pl.isList (by simp only[List.size_toArray] <;> omega) ⟨.int ys.length,H,I.tok _,⟨s.toks+1,by rw[List.size_toArray,hlen]⟩,q⟩
 ·obtain⟨its,r',pl,hz⟩:=I.tuple hq
  have hlen:=r'.length;exact len_tuple pl (by simp only[List.size_toArray] <;> omega) ⟨.int ys.length,H,I.tok _,⟨s.toks+1,by rw[List.size_toArray,hlen]⟩,q⟩
theorem mi:eJ X (.type "list") (fun xs H Q=>∃p ys,xs = [.ref p]∧(SqL X.K H p ys∨SqT X.K H p ys)∧∀l,H l=none->Q (.ref l) (upd H l (.lst ys))):=by
 intro pins s σ H xs us Q I r h;obtain⟨p,ys,rfl,hq,q⟩:=h;obtain⟨u,rfl,rx⟩:=kJ r;cases rx;have fin:∀(its:List Value),aN ys its->ys.length≤sizeLine->∀(h':Heap) (c':Nat),(∀b o',s.heap.get? b=some o'->h'.get? b=some o') ->
   h'.get? s.heap.objs.size=some { cls:=.type "list",dict:=none,data:=.seq its.toArray c',slots:=#[] }->EP X pins σ Q (.ref s.heap.objs.size) { s with heap:=h' }:=fun its r' hz h' c' kp e =>
  ⟨.ref s.heap.objs.size,_,I.laid (t':=s.toks) kp (Nat.le_refl _) (show a7 X.prog X.w _ h' _ (.lst ys) from⟨hz,its,c',r',e⟩),rfl,q _ (I.hok.fresh (Nat.le_refl _))⟩
 rcases hq with hq|hq
 ·obtain⟨its,r',pl,hz⟩:=I.list hq
  have hlen:=r'.length;obtain⟨o,ho,hc,n,hd⟩:=pl.isList;exact call_list_seq p (.inl rfl) ho hc hd (fun h' c' kp e=>fin its r' hz h' c' kp e) (by simp only[List.size_toArray] <;> omega)
 ·obtain⟨its,r',pl,hz⟩:=I.tuple hq
  have hlen:=r'.length;obtain⟨o,ho,hc,n,hd⟩:=pl;exact call_list_seq p (.inr rfl) ho hc hd (fun h' c' kp e=>fin its r' hz h' c' kp e) (by simp only[List.size_toArray] <;> omega)
def tyV(K:W.Frag)(T:String)(x:V)(H:Hp):Prop:=match x with
 | .str _=>T = "str"
 | .int _=>T = "int"
 | .ref p=>(T = "list"∧∃xs,SqL K H p xs)∨(T = "tuple"∧∃o,K.lookup p=some o∧o.cls = .type "tuple"∧o.dict=none) ∨
   (T = "dict"∧((∃kvs,H p=some (.dK kvs))∨∃kvs,H p=some (.dT kvs)))∨(T = "set"∧∃S n,H p=some (.set S n))
 | _=>False
theorem rV{pins:List (Addr×Obj)}{σ:St}{H:Hp}{s:Shared}{T:String}{x:V}{v:Value}(I:Aa X pins σ H s)(r:aU x v)(ty:tyV X.K T x H) :
  s.TypeIs v T∧∀a,v = .ref a->∃ob,s.heap.get? a=some ob∧ob.dict=none:=by
 cases x with
 | str z =>
  obtain⟨t,rfl⟩:=r;cases (show T = "str" from ty);exact⟨typeIs_str s z t,fun _ e=>nomatch e⟩
 | int i =>
  obtain⟨t,rfl⟩:=r;cases (show T = "int" from ty);exact⟨typeIs_int s i t,fun _ e=>nomatch e⟩
 | ref p =>
  cases r;rcases ty with⟨rfl,xs,hq⟩|⟨rfl,o,hk,hc,hd⟩|⟨rfl,hk⟩|⟨rfl,S,n,hk⟩
  ·obtain⟨its,_,pl,_⟩:=I.list hq
   refine⟨pl.isList.typeIs,fun a e=>?_⟩;cases e;obtain⟨o,n,e,c,hd,_⟩:=pl;exact⟨o,e,hd⟩
  ·refine⟨⟨o,I.kIn p o hk,hc⟩,fun a e=>?_⟩
   cases e;exact⟨o,I.kIn _ o hk,hd⟩
  ·have z:∃o,s.heap.get? p=some o∧o.ExactDict:=by
    rcases hk with⟨kvs,hk⟩|⟨kvs,hk⟩
    ·obtain⟨_,_,_,_,o,_,_,e,ex,_⟩:=I.hok p _ hk
     exact⟨o,e,ex⟩
    ·obtain⟨_,_,_,_,o,_,_,e,ex,_⟩:=I.hok p _ hk
     exact⟨o,e,ex⟩
   obtain⟨o,e,ex⟩:=z;refine⟨⟨o,e,ex.1⟩,fun a e2=>?_⟩;cases e2;exact⟨o,e,ex.2.1⟩
  ·obtain⟨o,_,_,_,e,ex,_⟩:=I.hok p _ hk
   refine⟨⟨o,e,ex.1⟩,fun a e2=>?_⟩;cases e2;exact⟨o,e,ex.2.1⟩
 | _=>exact False.elim ty
def zJ(K:W.Frag)(T:String)(r:V->List V->Hp->VK->Prop)(to:TE):TE:=fun σ H Q=>to σ H fun x H1=>tyV K T x H1∧r x [] H1 Q
def tBM(K:W.Frag)(T:String)(r:V->List V->Hp->VK->Prop)(to:TE)(t:TA):TE:=fun σ H Q=>to σ H fun x H1=>tyV K T x H1∧t σ H1 fun xs H2=>r x xs H2 Q
variable {o e:Expr} {es:List Expr} {to:TE} {t:TA} {name:Str} {apos cpos:Pos} {T id:String} {r:V->List V->Hp->VK->Prop}
theorem oG(pa:PlainAttrs T)(slot:Slot T name id)(hty:typeOf (.builtin id)=pure (.type "method_descriptor"))(hm:MtR X id r)(ho:PE X o to)
  (hbase:attributeBase o name X.env (eval o X.env)=eval o X.env:=by rfl) (hline:(apos.endLine == cpos.line)=true:=by rfl):PE X (.Call (.Attribute o name apos) [] [] cpos) (zJ X.K T r to):=by
 intro pins s σ H Q I h;refine wpAny_Call_method0_late hbase hline (thn (ho pins s σ H _ I h) fun v s1 ⟨x,H1,I1,r1,ty,q1⟩=>?_);obtain⟨h1,h2⟩:=rV I1 r1 ty;exact⟨T,id,pa,slot,hty,h1,h2,Calls.callWith_builtin rfl (PySem.evalArgs_none (hm pins s1 σ H1 x [] v [] Q I1 r1 .nil q1))⟩
theorem dG(pa:PlainAttrs T)(slot:Slot T name id)(hty:typeOf (.builtin id)=pure (.type "method_descriptor"))(hm:MtR X id r)(ho:PE X o to)(ha:PA X (e::es) t)
  (hbase:attributeBase o name X.env (eval o X.env)=eval o X.env:=by rfl)
  (hfew:((backTo cpos (starEach (e::es) X.env)).all (fun x=>!x.1) && (backToKw cpos (keywordEach [] X.env)).all (fun x=>x.1.isSome)
   && decide ((e::es).length+([]:List Keyword).length+(if ([]:List Keyword).isEmpty then 0 else 1)<30))=true:=by rfl)
  (hline:(apos.endLine == cpos.line)=true:=by rfl) (hs:starEach (e::es) X.env=(false,eval e X.env)::starEach es X.env:=by rfl) (hplain:(backTo cpos (starEach es X.env)).any (·.1)=false:=by rfl) :
  PE X (.Call (.Attribute o name apos) (e::es) [] cpos) (tBM X.K T r to t):=by
 intro pins s σ H Q I h;refine wpAny_Call_method_late hbase hfew hline rfl (thn (ho pins s σ H _ I h) fun v s1 ⟨x,H1,I1,r1,ty,q1⟩=>?_);obtain⟨h1,h2⟩:=rV I1 r1 ty;refine⟨T,id,pa,slot,hty,h1,h2,?_⟩;have hA:=ha cpos pins s1 σ H1 _ I1 q1;rw[hs]at hA ⊢;refine Calls.callWith_builtin (by show(false || (backTo cpos (starEach es X.env)).any (·.1))=false;rw[hplain] <;> rfl) (Calls.evalArgs_plain ?_);exact thn hA fun us s2 ⟨vs,H2,I2,r2,q2⟩=>hm pins s2 σ H2 x vs v us Q I2 r1 r2 q2
end
end L2
namespace L2
open PySem PySem.Spec PyProof.Rows
def MtM(X:Cx)(id:String)(r:V->List V->Hp->VK->Prop):Prop :=
 ∀(pins:List (Addr×Obj)) (s:Shared) (σ:St) (H:Hp) (x:V) (xs:List V) (v:Value) (us:List Value) (Q:VK),Aa X pins σ H s->aU x v->aN xs us->r x xs H Q ->
  wpAny (model X.prog X.w) X.A (call (.builtin id) (v::us)) (EP X pins σ Q) X.xe s
theorem aN.one:∀{x:V} {us:List Value},aN [x] us->∃u,us = [u]∧aU x u
 | _,_,.cons r .nil=>⟨_,rfl,r⟩
theorem aN.zero:∀{us:List Value},aN [] us->us = []
 | _,.nil=>rfl
theorem aN.reverse{xs:List V}{us:List Value}(h:aN xs us):aN xs.reverse us.reverse:=by
 induction h with
 | nil=>exact .nil
 | cons r t ih=>rw[List.reverse_cons,List.reverse_cons];exact aN.append ih (.cons r .nil)
section
variable {X:Cx} {pins:List (Addr×Obj)} {σ:St} {H:Hp} {s:Shared} {l b:Addr} {xs ys zs:List V}
theorem Aa.lset{its its':List Value}{n:Nat}{f:Array Value->Array Value}{t':Nat}(I:Aa X pins σ H s)(hH:H l=some (.lst xs))
  (e:s.heap.get? l=some { cls:=.type "list",data:=.seq its.toArray n }) (hf:f its.toArray=its'.toArray) (hv:aN ys its') (hz:ys.length≤sizeLine) :
  Aa X pins σ (upd H l (.lst ys)) { s with heap:=s.heap.update l (Obj.mapSeq f),toks:=t' }:=by
 have q:=PySem.IsL.update e f;rw[hf]at q;refine I.write (x:=l) (e:=l) (by rw[hH];exact trivial) (.inl rfl) (fun b' u hb hu=>(Heap.get?_update_other s.heap (Obj.mapSeq f) (Ne.symm hb)).trans hu) ⟨_,q⟩ ?_;exact⟨hz,its',_,hv,q⟩
theorem Aa.lnew{its:List Value}{t':Nat}(I:Aa X pins σ H s)(hv:aN ys its)(hz:ys.length≤sizeLine) :
  Aa X pins σ (upd H s.heap.objs.size (.lst ys)) { s with heap:=s.heap.push { cls:=.type "list",data:=.seq its.toArray },toks:=t' } :=
 I.laid (fun _ _ q=>Heap.get?_push_of_some _ q) (Nat.le_refl _) ⟨hz,its,0,hv,Heap.get?_push_size _ rfl⟩
theorem Aa.fresh(I:Aa X pins σ H s):H s.heap.objs.size=none:=I.hok.fresh (Nat.le_refl _)
theorem Aa.lstM(I:Aa X pins σ H s)(hH:H l=some (.lst xs)):xs.length≤sizeLine∧∃(its:List Value) (n:Nat),aN xs its∧xs.length=its.length∧s.heap.get? l=some { cls:=.type "list",data:=.seq its.toArray n }:=by
 obtain⟨z,its,n,r,e⟩:=I.hok l _ hH;exact⟨z,its,n,r,r.length,e⟩
theorem sZ{n:Nat}(h:n≤sizeLine):Builtin.List.listTooLong n=false:=by
 unfold Builtin.List.listTooLong;exact decide_eq_false (by omega)
end
section
variable {X:Cx}
def vo:V->List V->Hp->VK->Prop:=fun x vs H Q=>∃l xs y,x = .ref l∧vs = [y]∧H l=some (.lst xs)∧xs.length<sizeLine∧Q .non (upd H l (.lst (xs++[y])))
theorem ia:MtM X "list.append" vo:=by
 intro pins s σ H x vs v us Q I rx rv h;obtain⟨l,xs,y,rfl,rfl,hH,hz,q⟩:=h;cases rx;obtain⟨u,rfl,ru⟩:=rv.one;obtain⟨z,its,n,r,hl,e⟩:=I.lstM hH;refine call_meets F.slot_list_append ⟨_,e,rfl⟩ F.entry_list_append (F.args_list_append_2 _ _) (PySem.list_append l its.toArray n u (by rw[List.size_toArray];omega)) ⟨e,?_⟩;refine⟨.non,_,I.lset (its':=its++[u]) hH e (by simp) (r.append (.cons ru .nil)) ?_,rfl,q⟩;rw[List.length_append,List.length_singleton];omega
def vn:V->List V->Hp->VK->Prop:=fun x vs H Q=>∃l b xs zs,x = .ref l∧vs = [.ref b]∧H l=some (.lst xs)∧H b=some (.lst zs)∧xs.length+zs.length≤sizeLine∧Q .non (upd H l (.lst (xs++zs)))
theorem qS:MtM X "list.extend" vn:=by
 intro pins s σ H x vs v us Q I rx rv h;obtain⟨l,b,xs,zs,rfl,rfl,hH,hB,hz,q⟩:=h;cases rx;obtain⟨u,rfl,ru⟩:=rv.one;cases ru;obtain⟨z,its,n,r,hl,e⟩:=I.lstM hH;obtain⟨z2,its2,n2,r2,hl2,e2⟩:=I.lstM hB;have hsz:its.toArray.size+its2.toArray.size≤sizeLine:=by rw[List.size_toArray,List.size_toArray];omega
 have hlong:¬(!its.toArray.isEmpty && Builtin.List.listTooLong (its.toArray.size+its2.toArray.size))=true:=by
  rw[sZ hsz,Bool.and_false];exact Bool.false_ne_true
 refine call_meets F.slot_list_extend ⟨_,e,rfl⟩ F.entry_list_extend (F.args_list_extend_2 _ _)
  (AutoSeq1.list_extend_list_list_0 l its.toArray n b its2.toArray n2 hlong (by rw[List.size_toArray];omega) (by omega)) ⟨e,e2,?_⟩
 refine⟨.non,_,I.lset (its':=its++its2) hH e (by simp) (r.append r2) ?_,rfl,q⟩;rw[List.length_append];omega
def sM:V->List V->Hp->VK->Prop:=fun x vs H Q=>∃l xs,x = .ref l∧vs = []∧H l=some (.lst xs)∧Q .non (upd H l (.lst xs.reverse))
theorem oJ:MtM X "list.reverse" sM:=by
 intro pins s σ H x vs v us Q I rx rv h;obtain⟨l,xs,rfl,rfl,hH,q⟩:=h;cases rx;have hus:=rv.zero;subst hus;obtain⟨z,its,n,r,hl,e⟩:=I.lstM hH;refine call_meets F.slot_list_reverse ⟨_,e,rfl⟩ F.entry_list_reverse (F.args_list_reverse_1 _) (AutoSeq1.list_reverse_list_0 l its.toArray n (by rw[List.size_toArray];omega)) ⟨e,?_⟩;refine⟨.non,_,I.lset (its':=its.reverse) hH e (by simp) r.reverse ?_,rfl,q⟩;rw[List.length_reverse];omega
def zO:R2:=fun x y H Q=>∃l b xs zs,x = .ref l∧y = .ref b∧H l=some (.lst xs)∧H b=some (.lst zs)∧xs.length+zs.length≤sizeLine∧∀p,H p=none->Q (.ref p) (upd H p (.lst (xs++zs)))
theorem xH:OpR X (binaryOp .Add) zO:=by
 intro pins s σ H x y v u Q I rx ry h;obtain⟨l,b,xs,zs,rfl,rfl,hH,hB,hz,q⟩:=h;cases rx;cases ry;obtain⟨z,its,n,r,hl,e⟩:=I.lstM hH;obtain⟨z2,its2,n2,r2,hl2,e2⟩:=I.lstM hB;refine PySem.P.add_list e e2 ?_ (by rw[List.size_toArray,List.size_toArray];omega);have ea:its.toArray++its2.toArray=(its++its2).toArray:=by simp
 rw[ea];exact⟨.ref _,_,I.lnew (t':=s.toks) (r.append r2) (by rw[List.length_append];omega),rfl,q _ I.fresh⟩
end
section
variable {prog:Program} {w:World} {A:Around} {E:Value->Shared->Prop} {s:Shared}
set_option maxRecDepth 100000 in
end
section
variable {X:Cx}
end
end L2
namespace Att
open PySem PySem.W PySem.Calls PyProof.Rows
theorem iM{P:Params}{h:Heap}:∀(ns:List Int) (vs:List Value),WellAll P h vs (ns.map WData.int)->IntsAre vs ns:=by
 intro ns
 induction ns with
 | nil =>
  intro vs w;rw[List.map_nil]at w;cases w;exact .nil
 | cons n ns ih =>
  intro vs w;rw[List.map_cons]at w;cases w with
  | cons a b =>
   cases a;exact .cons _ _ (ih _ b)
theorem qF{l:OpenLaw}{n:Nat}(hn:l.most=some n){P:Params}{h:Heap}{args:List WData}{vals:List Value}
  (hpre:l.row.toRowW.claim.pre args=true) (hwl:WellAll P h vals args) :
  ∃a vs ns,vals = [Value.ref a]∧args = [WData.list (ns.map WData.int)]∧h.get? a=some { cls:=.type "list",data:=.seq vs.toArray }∧IntsAre vs ns∧ns.length≤n:=by
 have hsh:WShape.hasAll [] args [.list .int]=true:=(pre_splitW hpre).1;have hc:l.pre.holds [] { args:=args }=true:=(pre_splitW hpre).2;obtain⟨d,r,rfl,h1,h2⟩:=hasAllW_cons hsh;obtain rfl:=hasAllW_nil h2;obtain⟨xs,rfl,h3⟩:=hasW_list h1;obtain⟨ns,rfl⟩:=items_int h3;have hlen:ns.length≤n:=by
  unfold OpenLaw.pre at hc;have h4:(WTm.not (.lt (.lit (.int (n:Int))) (.len (.arg 0)))).holds [] { args:=[.list (ns.map .int)] }=true:=by
   have h4:=(holds_andW hc).1;rw[hn]at h4;exact h4
  have h5:=condW_of h4 (w_not (w_lt w_lit (w_len_list (w_arg rfl))));rw[List.length_map]at h5;refine Nat.le_of_not_lt fun q=>?_;have q':(n:Int)<((ns.length:Nat):Int):=by omega
  first
   | (rw[decide_eq_true q']at h5;exact absurd h5 (by decide))
   | (simp at h5;omega)
 cases hwl with
 | cons w1 w2 =>
  cases w2;cases w1 with
  | list ho hall=>exact⟨_,_,ns,rfl,rfl,ho,iM ns _ hall,hlen⟩
theorem qH(l:OpenLaw)(args:List WData):l.row.toRowW.claim.post args (.bool true) args=true :=
 postW_of (r:=l.row.toRowW) (X:=(true == true))
  (show WShape.has [] (.bool true) .bool=true by first|rfl|decide|simp[WShape.has,WShape.arms,WShape.armsAll])
  (show(WTm.eq .res (.lit (.bool true))).value [] { args:=args,res:=some (.bool true),after:=args }=some (.bool (true == true)) from w_eq_bool (w_res rfl) w_lit) rfl
theorem attach_call{l:OpenLaw}{n:Nat}{q:Program}{loose:List Str}{XP:(Str->Option Value)->Heap->Prop}{YP:World->Heap->Prop}{d:DefRec}
  (hn:l.most=some n) (hdf:d.params.defaults = [])
  (call:∀(w:World) (s₀ s₁:Shared) (mg mb:Str->Option Value) (fa:Addr) (o:Obj) (pm cd doc:Value) (a:Addr) (vs:List Value) (ns:List Int),
   Ground q loose [] XP w s₀ mg mb s₁.heap->YP w s₁.heap ->
   s₁.heap.get? fa=some o->o.data = .func (docDef d.name d.params d.body d.scope pm cd doc)->s₁.heap.CodeRec cd d.name->mg d.name=some (.ref fa) ->
   s₁.heap.get? a=some { cls:=.type "list",data:=.seq vs.toArray }->IntsAre vs ns->ns.length≤n->s₁.gens = #[] ->
   codeAny (model l.prog w) callerA (.call (.ref fa) ⟨[.ref a],[]⟩) (fun r s'=>r = .ok (.ret (.bool true))∧OldK s₁.heap s'.heap∧s'.os=s₁.os∧AllBare s'.gens) s₁) :
  WalkO q loose XP YP l.row.toRowW d [] (fun f vs=>PySem.call f vs):=by
 intro w s₀ s₁ mg mb G Y fa o pm cd doc dV kV ho hd hcd hD hmg hg args vals as hpre hlay hrd hwl hlo;obtain rfl:dV = .none:=Dflts.none hD hdf;obtain rfl:kV = .none:=Dflts.noKw hD;obtain⟨a,vs,ns,rfl,rfl,hobj,hints,hlen⟩:=qF hn hpre hwl;refine enter_call (codeAny_mono (call w s₀ s₁ mg mb fa o pm cd doc a vs ns G Y ho (fd_plain hd) hcd hmg hobj hints hlen hg) fun r s' hq=>?_);obtain⟨rfl,h2,h3,h4⟩:=hq;exact⟨.inl ⟨.bool true,.bool true,[],rfl,fun _=>rfl,.bool true,qH l _,fun _=>⟨List.Pairwise.nil,fun _ hm=>(nomatch hm)⟩⟩,h2,h3,h4⟩
section
variable {prog:Program} {w:World} {A:Around} {E:Value->Shared->Prop} {s:Shared} {K:Frag}
end
end Att
namespace L2
open PySem PySem.Spec PyProof.Rows
theorem kI:∀{vs:List Value} {ns:List Int},IntsAre vs ns->aN (ns.map V.int) vs
 | _,_,.nil=>.nil
 | _,_,.cons n t h=>.cons ⟨t,rfl⟩ (kI h)
end L2
namespace L2
open PySem PySem.Spec PyProof.Rows
end L2
namespace L2
open PySem PySem.Spec PyProof.Rows
def aY(s:Stmt):Arguments:=match s with
 | .FunctionDef _ a _ _ _ _ _ _ _ _=>a
 | _=>{ posonlyargs:=[],args:=[],vararg:=none,kwonlyargs:=[],kw_defaults:=[],kwarg:=none,defaults:=[] }
def aK(s:Stmt):List Stmt:=match s with
 | .FunctionDef _ _ b _ _ _ _ _ _ _=>b
 | _=>[]
def am(s:Stmt):Scope:=match s with
 | .FunctionDef _ _ _ _ _ _ sc _ _ _=>sc
 | _=>{ kind:=.function,names:=[],isGenerator:=false,isCoroutine:=false }
abbrev CX0:CXT:=fun _ _ _ _ _ _=>False
abbrev E0:XK:=fun _ _ _=>False
theorem wO{X:Cx}:gj CX0 X E0:=fun _ _ _ _ _ _ _ h=>h.elim
section
variable {P:Program} {w:World} {K:W.Frag} {mg:Str->Option Value} {base:Heap}
end
theorem bT{A:Around}{k:Nat}(hr:Ar k A):A.units+1<cLine:=Nat.lt_of_le_of_lt (Nat.add_le_add_left (by decide:1≤64) _) hr.units
theorem aM{n:Nat}(h:n≤1000):n<sizeLine:=Nat.lt_of_le_of_lt h (by decide)
section
variable {X:Cx}
theorem pv(i:Nat){x:Str}{pos:Pos}(hN:X.N[i]? = some x:=by rfl)(hv:Vis X.env.scope x:=by first|exact Or.inl rfl|exact Or.inr (Or.inl rfl)|exact Or.inr (Or.inr rfl))(hd:(x == ("__debug__" : Str))=false:=by decide)
  (hcd:(x == ("__classdict__" : Str))=false:=by decide):PE X (.Name x pos) (Fi i):=sP hN hv hd hcd
end
theorem ig{A B:Prop}(h:B):if false=true then A else B:=by
 rw[if_neg Bool.false_ne_true];exact h
theorem qY{A B:Prop}(h:A):if true=true then A else B:=by
 rw[if_pos rfl];exact h
def Same(H H':Hp):Prop:=∀b o,H b=some o->H' b=some o
theorem Same.refl(H:Hp):Same H H:=fun _ _ h=>h
theorem Same.trans{H H1 H2:Hp}(a:Same H H1)(b:Same H1 H2):Same H H2:=fun c o h=>b c o (a c o h)
theorem Same.free{H H':Hp}(e:Same H H'){l:Addr}(h:H' l=Option.none):H l=Option.none:=by
 cases q:H l with
 | none=>rfl
 | some o =>
  rw[e l o q]at h;cases h
theorem Same.seq{K:W.Frag}{H H':Hp}{a:Addr}{xs:List V}(e:Same H H')(h:SqL K H a xs):SqL K H' a xs:=by
 rcases h with(h|⟨o,h⟩)|h
 ·exact .inl (.inl (e _ _ h))
 ·exact .inl (.inr ⟨o,e _ _ h⟩)
 ·exact .inr h
end L2
end
section
set_option Elab.async false
set_option linter.all false
set_option maxRecDepth 100000
set_option maxHeartbeats 4000000
namespace Mth
theorem tZ{a b:Int}(ha:0≤a)(hb:0<b):Int.gcd b (a % b)=Int.gcd a b:=by
 obtain⟨m,rfl⟩:=Int.eq_ofNat_of_zero_le ha;obtain⟨n,rfl⟩:=Int.eq_ofNat_of_zero_le (Int.le_of_lt hb);rw[<- Int.natCast_emod];show Nat.gcd (n:Int).natAbs ((m % n:Nat):Int).natAbs=Nat.gcd (m:Int).natAbs (n:Int).natAbs;simp only[Int.natAbs_natCast];rw[Nat.gcd_comm m n,Nat.gcd_comm n (m % n)];exact(Nat.gcd_rec n m).symm
theorem qh(a b:Int):Int.gcd (if a<0 then -a else a) b=Int.gcd a b:=by
 split
 ·exact Int.neg_gcd
 ·rfl
theorem ue(a b:Int):Int.gcd a (if b<0 then -b else b)=Int.gcd a b:=by
 rw[Int.gcd_comm,qh,Int.gcd_comm]
theorem gcd_zero{a:Int}(ha:0≤a):(Int.gcd a 0:Int)=a:=by
 rw[Int.gcd_zero];omega
structure EB(t b:Int):Prop where
 pos:1≤b
 one:Int.gcd t b=1
theorem l8{a b:Int}(h:b≠0):0<(Int.gcd a b:Int):=by
 have:=Int.gcd_pos_of_ne_zero_right a h;omega
theorem yd(a b:Int):a=a / (Int.gcd a b:Int)*(Int.gcd a b:Int):=(Int.ediv_mul_cancel (Int.gcd_dvd_left a b)).symm
theorem ql(a b:Int):b=b / (Int.gcd a b:Int)*(Int.gcd a b:Int):=(Int.ediv_mul_cancel (Int.gcd_dvd_right a b)).symm
theorem vW{a b:Int}(hb:0<b):EB (a / (Int.gcd a b:Int)) (b / (Int.gcd a b:Int)):=by
 have hg:=l8 (a:=a) (b:=b) (by omega);refine⟨?_,?_⟩
 ·have h1:=ql a b
  have h2:0<b / (Int.gcd a b:Int):=Int.ediv_pos_of_pos_of_dvd hb (by omega) (Int.gcd_dvd_right a b);omega
 ·rw[Int.gcd_ediv (Int.gcd_dvd_left a b) (Int.gcd_dvd_right a b)]
  simp only[Int.natAbs_natCast];exact Nat.div_self (by omega)
theorem p9{t b t' b':Int}(h:EB t b)(e:t*b'=t'*b):b∣b':=by
 have h1:b.natAbs∣t.natAbs*b'.natAbs:=by
  rw[<- Int.natAbs_mul,e,Int.natAbs_mul];exact Nat.dvd_mul_left _ _
 have h2:Nat.Coprime b.natAbs t.natAbs:=by
  have:=h.one;unfold Nat.Coprime;rw[Nat.gcd_comm];exact this
 exact Int.natAbs_dvd_natAbs.mp (h2.dvd_of_dvd_mul_left h1)
theorem fV{t b t' b':Int}(h:EB t b)(h':EB t' b')(e:t*b'=t'*b):t=t'∧b=b':=by
 have d1:=p9 h e;have d2:=p9 h' e.symm;have p1:=h.pos;have p2:=h'.pos;have eb:b=b':=Int.le_antisymm (Int.le_of_dvd (by omega) d1) (Int.le_of_dvd (by omega) d2);subst eb;exact⟨Int.eq_of_mul_eq_mul_right (by omega) e,rfl⟩
structure DP(top bottom t b:Int):Prop where
 low:EB t b
 eq:top*b=t*bottom
theorem ng{a b:Int}(hb:0<b):DP a b (a / (Int.gcd a b:Int)) (b / (Int.gcd a b:Int)):=by
 refine⟨vW hb,?_⟩;have h1:=yd a b;have h2:=ql a b;generalize a / (Int.gcd a b:Int)=x at *;generalize b / (Int.gcd a b:Int)=y at *;generalize (Int.gcd a b:Int)=g at *;subst h1 h2
 grind
theorem k9{a b:Int}(hb:b≠0)(d:Int)(hd:d=if b<0 then -(Int.gcd a b:Int) else (Int.gcd a b:Int)):DP a b (a.fdiv d) (b.fdiv d):=by
 have hg:=l8 (a:=a) (b:=b) hb
 by_cases h:b<0
 ·rw[if_pos h]at hd
  have f:=ng (a:=-a) (b:=-b) (by omega);rw[Int.gcd_neg,Int.neg_gcd]at f;subst hd;have e1:a.fdiv (-(Int.gcd a b:Int)) = -a / (Int.gcd a b:Int):=by
   rw[<- Int.neg_fdiv_neg,Int.neg_neg];exact Int.fdiv_eq_ediv_of_nonneg _ (by omega)
  have e2:b.fdiv (-(Int.gcd a b:Int)) = -b / (Int.gcd a b:Int):=by
   rw[<- Int.neg_fdiv_neg,Int.neg_neg];exact Int.fdiv_eq_ediv_of_nonneg _ (by omega)
  rw[e1,e2];exact⟨f.low,by have:=f.eq;grind⟩
 ·rw[if_neg h]at hd
  subst hd;rw[Int.fdiv_eq_ediv_of_nonneg _ (by omega),Int.fdiv_eq_ediv_of_nonneg _ (by omega)];exact ng (by omega)
end Mth
namespace L2
open PySem PySem.Spec PyProof.Rows
abbrev aq(i:Int):Nat:=Builtin.Int.intBits i
theorem cB{i:Int}{n:Nat}(h:i.natAbs<2^n):aq i≤n:=intBits_le h
theorem cp{i:Int}{n:Nat}(h:aq i≤n):i.natAbs<2^n:=by
 unfold aq Builtin.Int.intBits at h
 by_cases h0:i=0
 ·subst h0
  exact Nat.pos_of_ne_zero (by simp)
 ·rw[if_neg (by simpa using h0)]at h
  have h1:i.natAbs≠0:=by omega
  exact(Nat.log2_lt h1).mp (by omega)
theorem fL{i j:Int}{n:Nat}(h:i.natAbs≤j.natAbs)(hj:aq j≤n):aq i≤n:=cB (Nat.lt_of_le_of_lt h (cp hj))
theorem bits_mul{i j:Int}{m n:Nat}(hi:aq i≤m)(hj:aq j≤n):aq (i*j)≤m+n:=by
 refine cB ?_;rw[Int.natAbs_mul,Nat.pow_add];exact Nat.mul_lt_mul'' (cp hi) (cp hj)
theorem cM{i j:Int}{n:Nat}(hi:aq i≤n)(hj:aq j≤n):aq (i+j)≤n+1:=by
 refine cB ?_;have h1:=cp hi;have h2:=cp hj;have h3:(2:Nat)^(n+1)=2*2^n:=by rw[Nat.pow_succ,Nat.mul_comm]
 omega
theorem ce{i j:Int}{n:Nat}(hi:aq i≤n)(hj:aq j≤n):aq (i - j)≤n+1:=by
 refine cB ?_;have h1:=cp hi;have h2:=cp hj;have h3:(2:Nat)^(n+1)=2*2^n:=by rw[Nat.pow_succ,Nat.mul_comm]
 omega
theorem bits_neg{i:Int}{n:Nat}(hi:aq i≤n):aq (-i)≤n:=fL (by omega) hi
theorem bits_abs{i:Int}{n:Nat}(hi:aq i≤n):aq (if i<0 then -i else i)≤n:=fL (by split <;> omega) hi
theorem fM{i j:Int}{n:Nat}(hi:aq i≤n):aq (i.fdiv j)≤n:=PySem.intBits_fdiv_le hi
theorem gh{i b:Int}{n:Nat}(h0:0≤i)(h1:i≤b)(hb:aq b≤n):aq i≤n:=fL (by omega) hb
theorem ar{i:Int}{m n:Nat}(h:aq i≤m)(hm:m≤n):aq i≤n:=Nat.le_trans h hm
section
variable {X:Cx} {pos:Pos}
def CM(i j:Int):Prop:=IntMulOk i j
theorem CM.b{i j:Int}{m n:Nat}(hi:aq i≤m)(hj:aq j≤n)(hm:m≤2^20)(hn:n≤2^20):CM i j:=IntMulOk.of_bits (Nat.le_trans hi hm) (Nat.le_trans hj hn)
theorem CM.l{i j:Int}(h:-(2^64)<i∧i<2^64):CM i j:=wE.ok (.inl h)
theorem CM.r{i j:Int}(h:-(2^64)<j∧j<2^64):CM i j:=wE.ok (.inr h)
theorem aB:OpR X (binaryOp .Mult) (rI CM fun i j=>.int (i*j)):=opI fun _ _ _ _ _ _ _ hc q=>mul_int q hc
def CD(_ j:Int):Prop:=0<j∧aq j≤8000
theorem gK{j:Int}{n:Nat}(hj:j≠0)(h:aq j≤n)(hn:n≤9000):j.natAbs.log2<9000:=by
 have h1:j.natAbs≠0:=by omega
 have h2:=(Nat.log2_lt h1).mpr (cp h);omega
theorem dP:OpR X (binaryOp .FloorDiv) (rI CD fun i j=>.int (i / j)):=opI fun i j _ _ _ _ _ hc q=>by
 have h1:(0:Int)<j:=hc.1;exact floordiv_int (by omega) (by rw[Int.fdiv_eq_ediv_of_nonneg i (by omega)];exact q) (.inl (PyProof.noPylong_of_log2 (gK (by omega) hc.2 (by decide))))
def CDZ(_ j:Int):Prop:=j≠0∧aq j≤8000
theorem mS:OpR X (binaryOp .FloorDiv) (rI CDZ fun i j=>.int (i.fdiv j)):=opI fun i j _ _ _ _ _ hc q =>
 floordiv_int hc.1 q (.inl (PyProof.noPylong_of_log2 (gK hc.1 hc.2 (by decide))))
theorem qT:MtR X "int.bit_length" (fun x xs H Q=>∃i,x = .int i∧xs = []∧Q (.int ((aq i:Nat):Int)) H):=by
 intro pins s σ H x xs v us Q I rx rs h;obtain⟨i,rfl,rfl,q⟩:=h;obtain⟨t,rfl⟩:=rx;cases rs;exact call_int_bit_length ⟨.int _,H,I.tok _,⟨_,rfl⟩,q⟩
end
theorem yj:bootBuiltins "int" = some (.type "int"):=by decide +kernel
theorem v9:bootBuiltins "bool" = some (.type "bool"):=by decide +kernel
theorem uG:bootBuiltins "tuple" = some (.type "tuple"):=by decide +kernel
theorem v7:bootBuiltins "list" = some (.type "list"):=by decide +kernel
theorem cj:bootBuiltins "isinstance" = some (.builtin "isinstance"):=by decide +kernel
theorem jZ:bootBuiltins "abs" = some (.builtin "abs"):=by decide +kernel
theorem dL:bootBuiltins "len" = some (.builtin "len"):=by decide +kernel
theorem uH:bootBuiltins "min" = some (.builtin "min"):=by decide +kernel
theorem yi:bootBuiltins "max" = some (.builtin "max"):=by decide +kernel
theorem pU{X:Cx}{x:Str}{T:String}{pos:Pos}(hm:X.mg x=none)(hv:bootBuiltins x=some (.type T))(hg:Gl X x:=by rfl)(hn:x≠"__name__":=by decide)(hd:(x == ("__debug__" : Str))=false:=by decide) :
  PE X (.Name x pos) (tC (.ty T)):=vw hg hm hv rfl hn hd
inductive Kn (H:Hp):V->String->Prop where
 | non:Kn H .non "NoneType"
 | bl (b:Bool):Kn H (.bl b) "bool"
 | int (i:Int):Kn H (.int i) "int"
 | str (x:Str):Kn H (.str x) "str"
 | lst {a:Addr} {xs:List V} (e:H a=some (.lst xs)):Kn H (.ref a) "list"
 | tup {a:Addr} {xs:List V} (e:H a=some (.tup xs)):Kn H (.ref a) "tuple"
 | dict {a:Addr} {kvs:List (Key×V)} (e:H a=some (.dK kvs)):Kn H (.ref a) "dict"
theorem Kn.ty{K:W.Frag}{H:Hp}{x:V}{t:String}(k:Kn H x t):DA K H x (.type t):=by
 cases k with
 | non=>exact .non
 | bl b=>exact .bl b
 | int i=>exact .int i
 | str x=>exact .str x
 | lst e=>exact .lst e
 | tup e=>exact .tup e
 | dict e=>exact .dK e
theorem Kn.mono{H H':Hp}{x:V}{t:String}(k:Kn H x t)(s:Same H H'):Kn H' x t:=by
 cases k with
 | non=>exact .non
 | bl b=>exact .bl b
 | int i=>exact .int i
 | str x=>exact .str x
 | lst e=>exact .lst (s _ _ e)
 | tup e=>exact .tup (s _ _ e)
 | dict e=>exact .dict (s _ _ e)
def iF(t T:String):Bool:=t == T || (t == "bool" && T == "int")
def zx(T:String):Prop:=T = "int"∨T = "bool"∨T = "tuple"∨T = "list"∨T = "str"
theorem xO(K:W.Frag){H:Hp}{x:V}{t T:String}(k:Kn H x t)(n:zx T):W.kitOne K (.type t) (.type T)=some (iF t T):=by
 rcases n with rfl|rfl|rfl|rfl|rfl <;> cases k <;> kernel_rfl
inductive Gu (xs:List V) (H:Hp) (Q:VK):Prop
 | mk (x:V) (t T:String) (e:xs = [x,.ty T]) (k:Kn H x t) (n:zx T) (q:Q (.bl (iF t T)) H):Gu xs H Q
theorem fu{X:Cx}:eJ X (.builtin "isinstance") Gu:=by
 intro pins s σ H xs us Q I rs h;obtain⟨x,t,T,rfl,k,n,q⟩:=h;obtain⟨u,v,rfl,ru,rv⟩:=o8 rs;cases (show v=Value.type T from rv);exact qZ I ru k.ty (xO X.K k n) fun tk=>⟨.bl _,H,I.tok _,rfl,q⟩
structure Fn(P:Program)(w:World)(K:W.Frag)(mg:Str->Option Value)(base:Heap)(x:Str)(ps:List Str)(k:Nat)(sp:Sp):Prop where
 ex:∃(f:Addr) (fd:FuncData) (o:Obj),mg x=some (.ref f)∧W.keepIn K (.ref f)=true∧(∀us:List Value,us.length=ps.length->bindArgs fd ⟨us,[]⟩=pure (ps.zip us))∧(K.lookup f=some o∧o.data = .func fd)∧CO P w K mg base CX0 k f fd ps sp
theorem aA{X:Cx}{x:Str}{ps:List Str}{k:Nat}{sp:Sp}{p pos:Pos}{e:Expr}{es:List Expr}{t:TA}(F:Fn X.prog X.w X.K X.mg X.base x ps k sp)(hr:Ar k X.A)(hg:Gl X x)(ha:PA X (e::es) t)
  (hdb:(x == ("__debug__" : Str))=false:=by decide) (he:starEach (e::es) X.env=(false,eval e X.env)::starEach es X.env:=by rfl) (hpl:(backTo pos (starEach es X.env)).any (·.1)=false:=by rfl) :
  PE X (.Call (.Name x p) (e::es) [] pos) (pG sp [] E0 t):=by
 obtain⟨f,fd,o,hm,hk,hb,_,G⟩:=F.ex;exact lP G hr hg hm hk (.all hb) .nil wO ha hdb he hpl
structure Df(K:W.Frag)(mg:Str->Option Value)(x:Str)(st:Stmt):Prop where
 ex:∃(f:Addr) (oc:Value) (od:Option Addr) (kV doc pm:Value) (an:Option Addr) (cdv ct:Value) (osl:Array (Option Value)),
  mg x=some (.ref f)∧K.lookup f=some ⟨oc,od,.func (W.fnOf x x (aY st) (aK st) (am st) .none kV doc pm an cdv ct),osl⟩∧W.codeIn K cdv x=true∧W.keepIn K (.ref f)=true
theorem zq{K:W.Frag}{mg:Str->Option Value}{h:Heap}{x:Str}{st:Stmt}{f:Addr}{oc:Value}{od an:Option Addr}{osl:Array (Option Value)}{kV doc pm cdv ct:Value}(X:K.In h)(G:h.Ns mainGlobals mg)
  (a:W.nsIn K mainGlobals x=some (some (.ref f))) (l:K.lookup f=some ⟨oc,od,.func (W.fnOf x x (aY st) (aK st) (am st) .none kV doc pm an cdv ct),osl⟩) (c:W.codeIn K cdv x=true) (k:W.keepIn K (.ref f)=true) :
  Df K mg x st:=⟨⟨f,oc,od,kV,doc,pm,an,cdv,ct,osl,W.mg_of X G a,l,c,k⟩⟩
theorem Df.fn{P:Program}{w:World}{K:W.Frag}{mg:Str->Option Value}{base:Heap}{x:Str}{st:Stmt}{N ps:List Str}{k:Nat}{sp:Sp}(D:Df K mg x st)(S:zZ N ps (am st))
  (hbind:∀(kV doc pm:Value) (an:Option Addr) (cdv ct:Value) (us:List Value),us.length=ps.length->bindArgs (W.fnOf x x (aY st) (aK st) (am st) .none kV doc pm an cdv ct) ⟨us,[]⟩=pure (ps.zip us))
  (len:∀vs H Q E,sp vs H Q E->vs.length=ps.length)
  (hbody:∀(f:Addr) (cdv:Value) (A:Around) (outer:List Env) (s:Shared) (H:Hp) (vs:List V) (Q:VK) (E:XK),Ar k (A.deeper (envOfC x (am st) s.heap.objs.size f cdv))->sp vs H Q E ->
   ∃t,PSs (bE CX0 P w K mg base N x (am st) f cdv A outer s H E).nox (aK st) t∧t { nx:=fun _ H'=>Q .non H',rt:=Q } (eE N vs) H):Fn P w K mg base x ps (k+1) sp:=by
 obtain⟨f,oc,od,kV,doc,pm,an,cdv,ct,osl,hm,lk,hcd,hk⟩:=D.ex;refine⟨⟨f,_,_,hm,hk,hbind kV doc pm an cdv ct,⟨lk,rfl⟩,nF lk hcd S len fun A outer s H vs Q E hr hsp=>?_⟩⟩;obtain⟨t,h,q⟩:=hbody f cdv A outer s H vs Q E hr hsp;exact⟨t,h.nox,q⟩
theorem xN{P:Program}{w:World}{K:W.Frag}{mg:Str->Option Value}{fa:Addr}{k:Nat}{sp:Sp}(h:Heap)(hfa:mg "law" = some (.ref fa))(F:∀base:Heap,Fn P w K mg base "law" ["script"] k sp) :
  ∃fd:FuncData,(∀(s:Shared) (v:Value),BindsTo s fd ⟨[v],[]⟩ [("script",v)])∧∀base:Heap,K.In base->base.Ns mainGlobals mg->CO P w K mg base CX0 k fa fd ["script"] sp:=by
 obtain⟨f,fd,o,hm,_,hb,⟨hl,hd⟩,_⟩:=(F h).ex;rw[hfa]at hm;cases hm;refine⟨fd,fun s v=>.of_eq (hb [v] rfl),fun base _ _=>?_⟩;obtain⟨f',fd',o',hm',_,_,⟨hl',hd'⟩,G⟩:=(F base).ex;rw[hfa]at hm';cases hm';rw[hl]at hl';cases hl';rw[hd]at hd';cases hd';exact G
theorem Same.new{H:Hp}{p:Addr}{o:HO}(h:H p=none):Same H (upd H p o):=fun b o' e=>by
 rw[aH (aQ e h)];exact e
theorem aR{c:Bool}{A B:Prop}(h1:c=true->A)(h2:c=false->B):if c=true then A else B:=by
 cases c with
 | true=>exact qY (h1 rfl)
 | false=>exact ig (h2 rfl)
theorem bw{b:Bool}{A B:Prop}(hb:b=false)(h:B):if b=true then A else B:=by
 subst hb;exact ig h
theorem bL{b:Bool}{A B:Prop}(hb:b=true)(h:A):if b=true then A else B:=by
 subst hb;exact qY h
def l5:V->Bool
 | .int _=>true
 | _=>false
end L2
namespace Sp1
open PySem PySem.Spec L2 Mth
inductive DR (vs:List V) (H:Hp) (Q:VK) (x_3:XK):Prop
 | mk:∀x t,(vs = [x])->(Kn H x t)->(Q (.bl (l5 x)) H)->DR vs H Q x_3
inductive E5 (vs:List V) (H:Hp) (Q:VK) (x_3:XK):Prop
 | mk:∀a b:Int,(vs = [.int a,.int b])->(Q (.int (Int.gcd a b:Int)) H)->E5 vs H Q x_3
def lowB(a b:Int):Bool:=decide (1≤b) && decide (Int.gcd a b=1)
def ka:List V->Bool
 | [.int a,.int b]=>lowB a b
 | _=>false
def iK(H:Hp):V->Bool
 | .ref p=>match H p with
  | some (.tup xs)=>ka xs
  | _=>false
 | _=>false
structure Bp(H:Hp)(x:V):Prop where
 kn:∃t,Kn H x t
 parts:∀p xs,x = .ref p->H p=some (.tup xs)->∀y∈xs,∃t,Kn H y t
inductive Fs (vs:List V) (H:Hp) (Q:VK) (x_3:XK):Prop
 | mk:∀x,(vs = [x])->(Bp H x)->(Q (.bl (iK H x)) H)->Fs vs H Q x_3
theorem kG{H:Hp}{x:V}{t:String}(k:Kn H x t):(iF t "int" = true->(!iF t "bool")=l5 x)∧(iF t "int" = false->l5 x=false):=by
 cases k with
 | non=>exact⟨fun h=>absurd h (by decide),fun _=>rfl⟩
 | bl b=>exact⟨fun _=>(show(!iF "bool" "bool")=false by decide),fun h=>absurd h (by decide)⟩
 | int i=>exact⟨fun _=>(show(!iF "int" "bool")=true by decide),fun h=>absurd h (by decide)⟩
 | str x=>exact⟨fun h=>absurd h (by decide),fun _=>rfl⟩
 | lst e=>exact⟨fun h=>absurd h (by decide),fun _=>rfl⟩
 | tup e=>exact⟨fun h=>absurd h (by decide),fun _=>rfl⟩
 | dict e=>exact⟨fun h=>absurd h (by decide),fun _=>rfl⟩
theorem j4(a:Int):0≤(if a<0 then -a else a):=by split <;> omega
theorem Kn.cases_int{H:Hp}{y:V}{t:String}(k:Kn H y t):(∃a,y = .int a∧t = "int")∨((∀a,y≠.int a)∧l5 y=false):=by
 cases k with
 | int a=>exact .inl ⟨a,rfl,rfl⟩
 | non=>exact .inr ⟨fun a e=>(nomatch e),rfl⟩
 | bl b=>exact .inr ⟨fun a e=>(nomatch e),rfl⟩
 | str x=>exact .inr ⟨fun a e=>(nomatch e),rfl⟩
 | lst e=>exact .inr ⟨fun a e=>(nomatch e),rfl⟩
 | tup e=>exact .inr ⟨fun a e=>(nomatch e),rfl⟩
 | dict e=>exact .inr ⟨fun a e=>(nomatch e),rfl⟩
theorem Kn.cases_tup{H:Hp}{y:V}{t:String}(k:Kn H y t):(∃p xs,y = .ref p∧H p=some (.tup xs)∧t = "tuple")∨(iK H y=false∧iF t "tuple" = false):=by
 cases k with
 | tup e=>exact .inl ⟨_,_,rfl,e,rfl⟩
 | non=>exact .inr ⟨rfl,by decide⟩
 | bl b=>exact .inr ⟨rfl,by decide⟩
 | str x=>exact .inr ⟨rfl,by decide⟩
 | int a=>exact .inr ⟨rfl,by decide⟩
 | lst e=>exact .inr ⟨by simp only[iK,e],by decide⟩
 | dict e=>exact .inr ⟨by simp only[iK,e],by decide⟩
theorem tJ{H:Hp}{p:Addr}{xs:List V}(e:H p=some (.tup xs)):iK H (.ref p)=ka xs:=by simp only[iK,e]
theorem tN{xs:List V}(h:xs.length≠2):ka xs=false:=by
 unfold ka
 split
 ·exact absurd rfl h
 ·rfl
theorem tO{y z:V}(h:∀a,y≠.int a):ka [y,z]=false:=by
 unfold ka
 split
 ·rename_i a b e
  cases e;exact absurd rfl (h a)
 ·rfl
theorem tM{y z:V}(h:∀a,z≠.int a):ka [y,z]=false:=by
 unfold ka
 split
 ·rename_i a b e
  cases e;exact absurd rfl (h b)
 ·rfl
theorem sz{n:Nat}(h:n≤1000):n≤sizeLine:=Nat.le_of_lt (aM h)
theorem zU{H:Hp}{p:Addr}{o:HO}(h:H p=none):∃H1,upd H p o=H1∧Same H H1∧H1 p=some o:=⟨_,rfl,Same.new h,upd_same⟩
theorem atI_mem{α:Type}{xs:List α}{k:Int}(h0:0≤k)(h1:k<(xs.length:Int)):∃v,atI xs k=some v∧v∈xs:=by
 have hk:k.toNat<xs.length:=by omega
 have ek:k=((k.toNat:Nat):Int):=by omega
 have q:=eD (xs:=xs) (j:=k.toNat) (List.getElem?_eq_getElem hk);rw[<- ek]at q;exact⟨xs[k.toNat],q,List.getElem_mem hk⟩
theorem th_flat{H:Hp}{x:V}{t:String}(k:Kn H x t)(h:∀p,x≠.ref p):Bp H x:=⟨⟨t,k⟩,fun p xs e=>absurd e (h p)⟩
theorem th_lst{H:Hp}{p:Addr}{xs:List V}(e:H p=some (.lst xs)):Bp H (.ref p):=⟨⟨_,.lst e⟩,fun p' ys e1 e2=>by
 cases e1;rw[e]at e2;cases e2⟩
theorem th_tup{H:Hp}{p:Addr}{xs:List V}(e:H p=some (.tup xs))(h:∀y∈xs,∃t,Kn H y t):Bp H (.ref p):=⟨⟨_,.tup e⟩,fun p' ys e1 e2=>by
 cases e1;rw[e]at e2;cases e2;exact h⟩
theorem rm{a b:Int}{n:Nat}(hb:b≠0)(h:aq b≤n):aq (Int.gcd a b:Int)≤n:=by
 refine fL ?_ h;have h1:(Int.gcd a b)∣b.natAbs:=Int.gcd_dvd_natAbs_right a b;have h2:=Nat.le_of_dvd (by omega) h1;omega
end Sp1
namespace L2
open PySem PySem.Spec PyProof.Rows
theorem uN(ns ms:List Int):((List.range (min ns.length ms.length)).all (fun j=>decide (ns[j]? = ms[j]?)) && ns.length == ms.length)=decide (ns=ms):=by
 rw[Bool.eq_iff_iff];simp only[Bool.and_eq_true,List.all_eq_true,List.mem_range,decide_eq_true_eq,beq_iff_eq];constructor
 ·rintro⟨h1,h2⟩
  refine List.ext_getElem? fun j=>?_
  by_cases hj:j<ns.length
  ·exact h1 j (by omega)
  ·rw[List.getElem?_eq_none (by omega),List.getElem?_eq_none (by omega)]
 ·rintro rfl
  exact⟨fun _ _=>rfl,rfl⟩
theorem rR{ns:List Int}{us:List Value}{j:Nat}(r:aN (ns.map V.int) us)(h:j<us.length):∃a,ns[j]? = some a∧aU (.int a) us[j]:=by
 have hl:=r.length;rw[List.length_map]at hl;have hj:j<ns.length:=by omega
 obtain⟨u,e,q⟩:=r.get (i:=j) (x:=.int ns[j]) (by rw[List.getElem?_map,List.getElem?_eq_getElem hj];rfl);rw[List.getElem?_eq_getElem h]at e;cases e;exact⟨ns[j],List.getElem?_eq_getElem hj,q⟩
section
variable {X:Cx}
inductive Gw (K:W.Frag) (neg:Bool) (x:V) (y:V) (H:Hp) (Q:VK):Prop
 | mk:∀(p q:Addr) (ns ms:List Int),(x = .ref p)->(y = .ref q)->(SqT K H p (ns.map V.int))->(SqT K H q (ms.map V.int))->(Q (.bl (if neg then !decide (ns=ms) else decide (ns=ms))) H)->Gw K neg x y H Q
theorem tT{A:Around}{s:Shared}{ns ms:List Int}{us vs:List Value}(r:aN (ns.map V.int) us)(r':aN (ms.map V.int) vs)(j:Nat)(h1:j<us.toArray.size)(h2:j<vs.toArray.size) :
  SeqAt.EqAt A s us.toArray[j] vs.toArray[j] (decide (ns[j]? = ms[j]?)):=by
 rw[List.size_toArray]at h1 h2;obtain⟨a,ea,ra⟩:=rR r h1;obtain⟨b,eb,rb⟩:=rR r' h2;have q:=yb (A:=A) (s:=s) ra rb rfl rfl;have e:eqV (.int a) (.int b)=decide (ns[j]? = ms[j]?):=by
  rw[ea,eb];show(a == b)=decide (some a=some b);rw[Bool.eq_iff_iff];simp
 rw[e]at q;exact q
theorem xG(hu:X.A.units<cLine):OpR X (compareOp .Eq) (Gw X.K false):=by
 intro pins s σ H x y v u Q I rx ry h;obtain⟨p,q,ns,ms,rfl,rfl,hp,hq,k⟩:=h;cases rx;cases ry;obtain⟨its,r,pl,_⟩:=I.tuple hp;obtain⟨jts,r',pl',_⟩:=I.tuple hq;refine SeqAt.eq_tupleAt pl pl' hu (tT r r') ⟨.bl _,H,I,rfl,?_⟩;have e1:=r.length;have e2:=r'.length;rw[List.length_map]at e1 e2;rw[List.size_toArray,List.size_toArray,<- e1,<- e2,uN];exact k
end
end L2
namespace L2
open PySem PySem.Spec PyProof.Rows
section
variable {prog:Program} {w:World} {A:Around} {E:Value->Shared->Prop}
end
end L2
namespace L2
open PySem PySem.Spec PyProof.Rows
theorem a7.has{P:Program}{w:World}{H:Hp}{h:Heap}{a:Addr}{o:HO}(x:a7 P w H h a o):∃ob,h.get? a=some ob:=by
 cases o with
 | lst xs=>obtain⟨_,_,_,_,e⟩:=x;exact⟨_,e⟩
 | tup xs=>obtain⟨_,_,_,ob,e,_⟩:=x;exact⟨_,e⟩
 | dK kvs=>obtain⟨_,_,_,_,ob,_,_,e,_⟩:=x;exact⟨_,e⟩
 | dT kvs=>obtain⟨_,_,_,_,ob,_,_,e,_⟩:=x;exact⟨_,e⟩
 | set S n=>obtain⟨ob,_,_,_,e,_⟩:=x;exact⟨_,e⟩
 | ins C dx fs=>obtain⟨_,_,_,e,_⟩:=x;exact⟨_,e⟩
 | own y=>obtain⟨ob,e⟩:=x;exact⟨_,e⟩
 | xd fs=>obtain⟨_,⟨od,_,_,e,_⟩,_⟩:=x;exact⟨_,e⟩
 | rng lo hi=>obtain⟨_,_,_,e⟩:=x;exact⟨_,e⟩
 | frz ob u=>obtain⟨e,_⟩:=x;exact⟨_,e⟩
 | tbl ps=>exact⟨_,(show h.get? a=some _ from x)⟩
 | met f y=>exact⟨_,(show h.get? a=some _ from x)⟩
 | ext φ=>obtain⟨_,⟨ob,e⟩,_⟩:=x;exact⟨_,e⟩
structure GG(B:Heap)(fs:List Addr)(H':Hp)(h:Heap):Prop where
 tr:∀b o,H' b=some o->∃ob,B.get? b=some ob
 old:∀b o,h.get? b=some o->b∉fs->∃ob,B.get? b=some ob
section
variable {P:Program} {w:World} {fs fs':List Addr} {H H1 H':Hp} {h h1 h2 B:Heap}
theorem Un.fly(un:Un fs [] H H' h h1)(big:GG B fs H' h)(st1:B.StaysIn h1)(st2:B.StaysIn h2)(sl:h1.UpToSlots h2)
  (fr:∀b∈fs,H b=none∧∀o,h1.get? b=some o->∀vs,o.data≠.fields vs):Un fs [] H H' h h2 where
 keep:=fun b o e n hb hx=>by
  have e1:=un.keep b o e n hb hx;obtain⟨ob,eb⟩:=big.old b o e hb;have e2:=st1 b ob eb;rw[e1]at e2;cases e2;exact st2 b _ eb
 slot:=fun b o e n hb hx=>by
  obtain⟨s1,e1⟩:=un.slot b o e n hb hx;obtain⟨s2,e2⟩:=sl b _ e1 ((fr b hb).2 _ e1);exact⟨s2,e2⟩
 free:=un.free
 there:=fun b o e hx=>by
  by_cases hb:b∈fs
  ·obtain⟨s1,e1⟩:=un.slot b o e (fr b hb).1 hb hx
   obtain⟨s2,e2⟩:=sl b _ e1 ((fr b hb).2 _ e1);exact⟨_,e2⟩
  ·obtain⟨ob,eb⟩:=big.old b o e hb
   exact⟨_,st2 b ob eb⟩
 tups:=un.tups
 frzs:=un.frzs
 tbls:=un.tbls
theorem HOk.fly(hok:HOk P w H' h1)(big:GG B fs H' h)(st1:B.StaysIn h1)(st2:B.StaysIn h2):HOk P w H' h2:=fun a o e=>by
 refine(hok a o e).stay (fun b u hb q=>?_) (fun _ q=>q) fun _ _ q=>q;have hb':∃ob,B.get? b=some ob:=by
  rcases hb with z|z
  ·rw[z]
   exact big.tr a o e
  ·exact big.tr b _ z
 obtain⟨ob,eb⟩:=hb';have e2:=st1 b ob eb;rw[q]at e2;cases e2;exact st2 b _ eb
theorem Un.shed(a:Un fs [] H H1 h h1)(b:Un fs' [] H1 H' h1 h2)(sub:∀x∈fs,x∈fs')(out:∀x o,h.get? x=some o->x∈fs'->x∈fs):Un fs [] H H' h h2 where
 keep:=fun x o e n hx hn=>b.keep x o (a.keep x o e n hx hn) (a.free x o e n hn) (fun z=>hx (out x o e z)) hn
 slot:=fun x o e n hx hn=>by
  obtain⟨s1,e1⟩:=a.slot x o e n hx hn;obtain⟨s2,e2⟩:=b.slot x _ e1 (a.free x o e n hn) (sub x hx) hn;exact⟨s2,e2⟩
 free:=fun x o e n hn=>by
  obtain⟨o1,e1⟩:=a.there x o e hn;exact b.free x o1 e1 (a.free x o e n hn) hn
 there:=fun x o e hn=>by
  obtain⟨o1,e1⟩:=a.there x o e hn;exact b.there x o1 e1 hn
 tups:=fun x xs e=>b.tups x xs (a.tups x xs e)
 frzs:=fun x o xs e=>b.frzs x o xs (a.frzs x o xs e)
 tbls:=fun x ps e=>by
  obtain⟨m1,e1⟩:=a.tbls x ps e;obtain⟨m2,e2⟩:=b.tbls x _ e1;exact⟨m1++m2,by rw[e2,Array.append_assoc]⟩
end
def CXE(P:Program)(w:World):CXT:=fun outer H s E e s'=>∃(ea t:Addr) (cls:Value) (H':Hp) (B:Heap),
 e = .ref ea∧s'.os=s.os∧AllBare s'.gens∧Un (frs outer) [] H H' s.heap s'.heap∧HOk P w H' s'.heap∧Heap.FlyingW B outer ea cls (.ref t) s'.heap∧GG B (frs outer) H' s.heap∧E cls none H'
section
variable {P:Program} {w:World} {K:W.Frag} {mg:Str->Option Value} {base:Heap} {N:List Str} {qual:Str} {scope:Scope} {f:Addr} {cdv:Value} {A:Around} {outer:List Env} {s₀:Shared} {H₀:Hp} {E:XK}
theorem uk{env:Env}{L:Addr}(hf:env.frame=some L)(l:List Env):frs (env::l)=L::frs l:=by
 unfold frs;rw[List.filterMap_cons,hf]
theorem xw{pins:List (Addr×Obj)}{σ:St}{H:Hp}{s:Shared}{h':Heap}{e:Addr}{cls:Value}{vs:List Value}(I:Aa (bE (CXE P w) P w K mg base N qual scope f cdv A outer s₀ H₀ E) pins σ H s)
  (hx:Heap.MadeExcOf s.heap h' e cls vs) (q:E cls none H):(bE (CXE P w) P w K mg base N qual scope f cdv A outer s₀ H₀ E).xe (.ref e) { s with heap:=h' }:=by
 have hin:∀env∈(bE (CXE P w) P w K mg base N qual scope f cdv A outer s₀ H₀ E).stack,∀a,env.frame=some a->a∈frs (bE (CXE P w) P w K mg base N qual scope f cdv A outer s₀ H₀ E).stack :=
  fun env he a ha=>List.mem_filterMap.mpr ⟨env,he,ha⟩
 have neL:∀b o,s₀.heap.get? b=some o->b∉frs outer->b∉frs (bE (CXE P w) P w K mg base N qual scope f cdv A outer s₀ H₀ E).stack:=fun b o eb hb hm=>by
  rcases List.mem_cons.mp (I.stkSub b hm) with z|z
  ·exact absurd z (Nat.ne_of_lt (Nat.lt_of_lt_of_le (Heap.lt_size eb) I.ok.above))
  ·exact hb z
 refine wpAny_leaves_madeW (base:=W.hideAll s.heap (frs (bE (CXE P w) P w K mg base N qual scope f cdv A outer s₀ H₀ E).stack)) (h:=s.heap) (L:=s₀.heap.objs.size) I.ok.frames rfl (fun b o z=>W.of_hideAll _ z) (W.funFrames_hide I.stack hin) hx fun h'' t fl _ _ up=>?_;have big:GG (W.hideAll s.heap (frs (bE (CXE P w) P w K mg base N qual scope f cdv A outer s₀ H₀ E).stack)) (frs outer) H s₀.heap:=by
  refine⟨fun b o eb=>?_,fun b o eb hb=>?_⟩
  ·obtain⟨ob,z⟩:=(I.hok b o eb).has
   refine⟨ob,W.hideAll_get _ z fun hm=>?_⟩;rw[I.stkFree b hm]at eb;cases eb
  ·obtain⟨ob,z⟩:=I.base.there b o eb (by intro z;cases z)
   exact⟨ob,W.hideAll_get _ z (neL b o eb hb)⟩
 have st1:(W.hideAll s.heap (frs (bE (CXE P w) P w K mg base N qual scope f cdv A outer s₀ H₀ E).stack)).StaysIn s.heap:=fun b o z=>W.of_hideAll _ z;have sl:s.heap.UpToSlots h'':=(Heap.UpToSlots.of_keeps hx.keeps).trans up;exact⟨e,t,cls,H,_,rfl,I.os,I.bare,Un.fly I.base big st1 fl.1 sl fun b hb=>⟨I.ok.frf b hb,fun o eo=>by
   obtain⟨_,o',eo',nf⟩:=I.funs.mem hb;rw[eo]at eo';cases eo';exact nf⟩,HOk.fly I.hok big st1 fl.1,fl,big,q⟩
theorem vx{E1:XK}(hE:∀c o H',E1 c o H'->E c o H'):gj (CXE P w) (bE (CXE P w) P w K mg base N qual scope f cdv A outer s₀ H₀ E) E1:=by
 intro pins σ H s e s' I h;obtain⟨ea,t,cls,H',B,rfl,os,bare,un,hok,fl,big,q⟩:=h;refine wpAny_leaves_onW (L:=s₀.heap.objs.size) I.ok.frames rfl fl fun h'' fl' up=>?_;have out:∀x o,s₀.heap.get? x=some o->x∈frs (bE (CXE P w) P w K mg base N qual scope f cdv A outer s₀ H₀ E).stack->x∈frs outer:=fun x o ex hm=>by
  rcases List.mem_cons.mp (I.stkSub x hm) with z|z
  ·exact absurd z (Nat.ne_of_lt (Nat.lt_of_lt_of_le (Heap.lt_size ex) I.ok.above))
  ·exact z
 have sub:∀x∈frs outer,x∈frs (bE (CXE P w) P w K mg base N qual scope f cdv A outer s₀ H₀ E).stack:=fun x hx=>by
  show x∈frs (_::outer);rw[uk (L:=s₀.heap.objs.size) rfl];exact List.mem_cons_of_mem _ hx
 have un1:Un (frs outer) [] H₀ H' s₀.heap s'.heap:=Un.shed I.base un sub out;have big1:GG B (frs outer) H' s₀.heap:=by
  refine⟨big.tr,fun b o eb hb=>?_⟩;obtain⟨ob,z⟩:=I.base.there b o eb (by intro z;cases z);exact big.old b ob z fun hm=>hb (out b o eb hm)
 refine⟨ea,t,cls,H',B,rfl,os.trans I.os,bare,Un.fly un1 big1 fl.1 fl'.1 up fun b hb=>⟨I.ok.frf b hb,fun o eo=>?_⟩,HOk.fly hok big1 fl.1 fl'.1,fl',big1,hE _ _ _ q⟩;obtain⟨_,o',eo',nf⟩:=fl'.2.2.1.mem hb;obtain⟨_,o2,eo2,nf2⟩:=fl.2.2.1.mem (sub b hb);rw[eo]at eo2;cases eo2;exact nf2
end
structure Bq(K:W.Frag)(mg:Str->Option Value)(x:Str)(C:Addr):Prop where
 bound:mg x=some (.ref C)
 obj:∀h:Heap,K.In h->∃bm N nm qn bs hd sn sub ab col dd k0 k1 k2 k3 k5 mN,h.get? C=some (excClassObj nm qn C N bs bm hd sn sub ab col dd k0 k1 k2 k3 k5 "ValueError.__new__")∧h.Ns N mN∧mN "__init__" = none ∧
  OwnTail h [.type "ValueError",.type "Exception",.type "BaseException",.type "object"] bm
theorem vU{K:W.Frag}{h:Heap}{C:Addr}{bmB:List Value}{newId:String}(X:K.In h)(q:W.excIn K C bmB newId=true) :
  ∃bm N nm qn bs hd sn sub ab col dd k0 k1 k2 k3 k5 mN,h.get? C=some (excClassObj nm qn C N bs bm hd sn sub ab col dd k0 k1 k2 k3 k5 newId)∧h.Ns N mN∧mN "__init__" = none∧OwnTail h bmB bm:=by
 unfold W.excIn at q
 split at q
 next dct cl sls look =>
  split at q
  next C2 bms a0 a1 a2 a3 nid a5 hmro hsls =>
   simp only[Bool.not_eq_true',beq_iff_eq,Bool.and_eq_true]at q;obtain⟨⟨⟨⟨⟨q1,q2⟩,q3⟩,q4⟩,q5⟩,q6⟩:=q;subst q1 q2;obtain⟨c1,c2,c3,c4,c5,c6,c7,c8,c9,c10,c11⟩:=cl;dsimp only at hmro q3 q5 q6;subst hmro q3;obtain⟨lst⟩:=sls;simp only at hsls;subst hsls;exact⟨bms,c4,c1,c5,c2,c6,c7,c8,c9,c10,dct,a0,a1,a2,a3,a5,_,X _ _ look,.of_isNs (W.isNs_of_in X q5),W.nsMap_none_of_in X q5 q6,W.tail_of_in X q4⟩
  next=>cases q
 next=>cases q
theorem x9{K:W.Frag}{mg:Str->Option Value}{h:Heap}{x:Str}{C:Addr}(X:K.In h)(G:h.Ns mainGlobals mg)(a:W.nsIn K mainGlobals x=some (some (.ref C)))
  (q:W.excIn K C [.type "ValueError",.type "Exception",.type "BaseException",.type "object"] "ValueError.__new__" = true):Bq K mg x C:=⟨W.mg_of X G a,fun _ Y=>vU Y q⟩
section
variable {P:Program} {w:World} {K:W.Frag} {mg:Str->Option Value} {base:Heap} {N:List Str} {qual:Str} {scope:Scope} {f:Addr} {cdv:Value} {A:Around} {outer:List Env} {s₀:Shared} {H₀:Hp} {E:XK}
theorem gG{x:Str}{C:Addr}{np cpos pos:Pos}(O:Bq K mg x C)(hg:Gl (bE (CXE P w) P w K mg base N qual scope f cdv A outer s₀ H₀ E) x)(hdb:(x == ("__debug__" : Str))=false:=by decide) :
  PS (bE (CXE P w) P w K mg base N qual scope f cdv A outer s₀ H₀ E) (.Raise (some (.Call (.Name x np) [] [] cpos)) none pos) (fun _ _ H=>E (.ref C) none H):=by
 intro pins s σ H D I h;obtain⟨bm,N',nm,qn,bs,hd,sn,sub,ab,col,dd,k0,k1,k2,k3,k5,mN,hC,hN,hni,T⟩:=O.obj s.heap I.kIn;refine wpAny_Raise_call_subT (C:=C) (nm:=nm) (q:=qn) (N:=N') (bs:=bs) (bm:=bm) (hdct:=hd) (sn:=sn) (sub:=sub) (ab:=ab) (col:=col) (dd:=dd) (k0:=k0) (k1:=k1) (k2:=k2) (k3:=k3) (k5:=k5) PySem.F.excBase_ValueError (mN:=mN) (T.hasType (by decide +kernel)) (I.ok.hd rfl) rfl hni (eA I hg O.bound ⟨rfl,?_⟩ hdb);exact evalArgs_empty ⟨rfl,Nat.zero_le _,hC,hN,T,fun h' e hx=>xw I hx h⟩
end
abbrev Cx.inH(X:Cx)(e:Addr):Cx:={ X with A:=X.A.mark (some (.ref e)),calm:=false,xe:=fun _ _=>False }
theorem Aa.inH{X:Cx}{pins:List (Addr×Obj)}{σ:St}{H:Hp}{s:Shared}(I:Aa X pins σ H s)(e:Addr):Aa (X.inH e) pins σ H s :=
 ⟨⟨I.ok.mod,I.ok.kind,I.ok.glob,I.ok.blt,I.ok.above,I.ok.inj,I.ok.has,I.ok.cab,(fun z=>by cases z),I.ok.frames,I.ok.stk,I.ok.exf,I.ok.bs,I.ok.bsz,I.ok.noex,I.ok.exfs,I.ok.funs,I.ok.frf⟩,
  I.os,I.bare,I.base,I.loc,I.cell,I.free,I.freeC,I.pin,I.hok,I.len⟩
theorem Aa.outH{X:Cx}{e:Addr}{pins:List (Addr×Obj)}{σ:St}{H:Hp}{s:Shared}(ok:X.Ok)(I:Aa (X.inH e) pins σ H s):Aa X pins σ H s :=
 ⟨ok,I.os,I.bare,I.base,I.loc,I.cell,I.free,I.freeC,I.pin,I.hok,I.len⟩
section
variable {X:Cx}
end
abbrev TX:=(Value->St->Hp->Prop)->TS
def XP(X:Cx)(pins:List (Addr×Obj))(R:Value->St->Hp->Prop)(ev:Value)(s':Shared):Prop :=
 ∃(s₁:Shared) (σ₁:St) (H₁:Hp) (E1:XK),Aa X pins σ₁ H₁ s₁∧CXE X.prog X.w X.stack H₁ s₁ E1 ev s'∧∀c o H',E1 c o H'->R c σ₁ H'
def PX(X:Cx)(st:Stmt)(t:TX):Prop :=
 ∀(pins:List (Addr×Obj)) (s:Shared) (σ:St) (H:Hp) (D:CY) (R:Value->St->Hp->Prop),Aa X pins σ H s->t R D σ H->wpAny (model X.prog X.w) X.A (exec st X.env) (SP X pins D) (XP X pins R) s
def PXs(X:Cx)(st:List Stmt)(t:TX):Prop :=
 ∀(pins:List (Addr×Obj)) (s:Shared) (σ:St) (H:Hp) (D:CY) (R:Value->St->Hp->Prop),Aa X pins σ H s->t R D σ H->wpAny (model X.prog X.w) X.A (execs st X.env) (SP X pins D) (XP X pins R) s
structure Fx(P:Program)(w:World)(K:W.Frag)(mg:Str->Option Value)(base:Heap)(x:Str)(ps:List Str)(k:Nat)(ds:List V)(sp:Sp):Prop where
 ex:∃(f:Addr) (fd:FuncData) (its:List Value),mg x=some (.ref f)∧W.keepIn K (.ref f)=true∧eM K fd ps []∧eM K fd ps its∧aN ds its∧CO P w K mg base (CXE P w) k f fd ps sp
structure Gs(K:W.Frag)(mg:Str->Option Value)(x:Str)(st:Stmt)(ds:List V):Prop where
 ex:∃(f T:Addr) (oT:Obj) (n:Nat) (its:List Value) (oc:Value) (od:Option Addr) (kV doc pm:Value) (an:Option Addr) (cdv ct:Value) (osl:Array (Option Value)),
  mg x=some (.ref f)∧K.lookup f=some ⟨oc,od,.func (W.fnOf x x (aY st) (aK st) (am st) (.ref T) kV doc pm an cdv ct),osl⟩∧W.codeIn K cdv x=true∧W.keepIn K (.ref f)=true∧K.lookup T=some oT∧oT.data = .seq its.toArray n∧aN ds its
theorem yf{K:W.Frag}{mg:Str->Option Value}{h:Heap}{x:Str}{st:Stmt}{ds:List V}{its:List Value}{f T:Addr}{oT:Obj}{n:Nat}{oc:Value}{od an:Option Addr}{osl:Array (Option Value)}{kV doc pm cdv ct:Value}(X:K.In h)(G:h.Ns mainGlobals mg)
  (a:W.nsIn K mainGlobals x=some (some (.ref f))) (l:K.lookup f=some ⟨oc,od,.func (W.fnOf x x (aY st) (aK st) (am st) (.ref T) kV doc pm an cdv ct),osl⟩) (c:W.codeIn K cdv x=true) (k:W.keepIn K (.ref f)=true)
  (t:K.lookup T=some oT) (d:oT.data = .seq its.toArray n) (v:aN ds its):Gs K mg x st ds:=⟨⟨f,T,oT,n,its,oc,od,kV,doc,pm,an,cdv,ct,osl,W.mg_of X G a,l,c,k,t,d,v⟩⟩
theorem Gs.fx{P:Program}{w:World}{K:W.Frag}{mg:Str->Option Value}{base:Heap}{x:Str}{st:Stmt}{ds:List V}{N ps:List Str}{k:Nat}{sp:Sp}(D:Gs K mg x st ds)(S:zZ N ps (am st))
  (hb:∀(T:Addr) (kV doc pm:Value) (an:Option Addr) (cdv ct:Value) (us its:List Value) (oT:Obj) (n:Nat) (s:Shared),aN ds its->us.length=ps.length->s.heap.get? T=some oT->oT.data = .seq its.toArray n ->
   BindsTo s (W.fnOf x x (aY st) (aK st) (am st) (.ref T) kV doc pm an cdv ct) ⟨us,[]⟩ (ps.zip us))
  (hd:∀(T:Addr) (kV doc pm:Value) (an:Option Addr) (cdv ct:Value) (us its:List Value) (oT:Obj) (n:Nat) (s:Shared),aN ds its->(us++its).length=ps.length->s.heap.get? T=some oT->oT.data = .seq its.toArray n ->
   BindsTo s (W.fnOf x x (aY st) (aK st) (am st) (.ref T) kV doc pm an cdv ct) ⟨us,[]⟩ (ps.zip (us++its)))
  (len:∀vs H Q E,sp vs H Q E->vs.length=ps.length)
  (hbody:∀(f:Addr) (cdv:Value) (A:Around) (outer:List Env) (s:Shared) (H:Hp) (vs:List V) (Q:VK) (E:XK),Ar k (A.deeper (envOfC x (am st) s.heap.objs.size f cdv))->sp vs H Q E ->
   ∃t,PSs (bE (CXE P w) P w K mg base N x (am st) f cdv A outer s H E) (aK st) t∧t { nx:=fun _ H'=>Q .non H',rt:=Q } (eE N vs) H):Fx P w K mg base x ps (k+1) ds sp:=by
 obtain⟨f,T,oT,n,its,oc,od,kV,doc,pm,an,cdv,ct,osl,hm,lk,hcd,hk,hT,hs,hv⟩:=D.ex;refine⟨⟨f,_,its,hm,hk,fun s us KX hl=>?_,fun s us KX hl=>hd T kV doc pm an cdv ct us its oT n s hv hl (KX _ _ hT) hs,hv,nF lk hcd S len fun A outer s H vs Q E hr hsp=>hbody f cdv A outer s H vs Q E hr hsp⟩⟩;rw[List.append_nil]at hl ⊢;exact hb T kV doc pm an cdv ct us its oT n s hv hl (KX _ _ hT) hs
theorem Df.fx{P:Program}{w:World}{K:W.Frag}{mg:Str->Option Value}{base:Heap}{x:Str}{st:Stmt}{N ps:List Str}{k:Nat}{sp:Sp}(D:Df K mg x st)(S:zZ N ps (am st))
  (hbind:∀(kV doc pm:Value) (an:Option Addr) (cdv ct:Value) (us:List Value),us.length=ps.length->bindArgs (W.fnOf x x (aY st) (aK st) (am st) .none kV doc pm an cdv ct) ⟨us,[]⟩=pure (ps.zip us))
  (len:∀vs H Q E,sp vs H Q E->vs.length=ps.length)
  (hbody:∀(f:Addr) (cdv:Value) (A:Around) (outer:List Env) (s:Shared) (H:Hp) (vs:List V) (Q:VK) (E:XK),Ar k (A.deeper (envOfC x (am st) s.heap.objs.size f cdv))->sp vs H Q E ->
   ∃t,PSs (bE (CXE P w) P w K mg base N x (am st) f cdv A outer s H E) (aK st) t∧t { nx:=fun _ H'=>Q .non H',rt:=Q } (eE N vs) H):Fx P w K mg base x ps (k+1) [] sp:=by
 obtain⟨f,oc,od,kV,doc,pm,an,cdv,ct,osl,hm,lk,hcd,hk⟩:=D.ex;have hb:eM K (W.fnOf x x (aY st) (aK st) (am st) .none kV doc pm an cdv ct) ps []:=.all (hbind kV doc pm an cdv ct);exact⟨⟨f,_,[],hm,hk,hb,hb,.nil,nF lk hcd S len fun A outer s H vs Q E hr hsp=>hbody f cdv A outer s H vs Q E hr hsp⟩⟩
theorem mM{P:Program}{w:World}{K:W.Frag}{mg:Str->Option Value}{base:Heap}{N:List Str}{qual:Str}{scope:Scope}{f:Addr}{cdv:Value}{A:Around}{outer:List Env}{s₀:Shared}{H₀:Hp}{E:XK}
  {x:Str} {ps:List Str} {k:Nat} {ds:List V} {sp:Sp} {p pos:Pos} {e:Expr} {es:List Expr} {t:TA} (F:Fx P w K mg base x ps k ds sp) (hr:Ar k (bE (CXE P w) P w K mg base N qual scope f cdv A outer s₀ H₀ E).A) (hg:Gl (bE (CXE P w) P w K mg base N qual scope f cdv A outer s₀ H₀ E) x)
  (ha:PA (bE (CXE P w) P w K mg base N qual scope f cdv A outer s₀ H₀ E) (e::es) t)
  (hdb:(x == ("__debug__" : Str))=false:=by decide) (he:starEach (e::es) (bE (CXE P w) P w K mg base N qual scope f cdv A outer s₀ H₀ E).env=(false,eval e (bE (CXE P w) P w K mg base N qual scope f cdv A outer s₀ H₀ E).env)::starEach es (bE (CXE P w) P w K mg base N qual scope f cdv A outer s₀ H₀ E).env:=by rfl)
  (hpl:(backTo pos (starEach es (bE (CXE P w) P w K mg base N qual scope f cdv A outer s₀ H₀ E).env)).any (·.1)=false:=by rfl) :
  PE (bE (CXE P w) P w K mg base N qual scope f cdv A outer s₀ H₀ E) (.Call (.Name x p) (e::es) [] pos) (pG sp [] E t):=by
 obtain⟨g,fd,its,hm,hk,hb,_,_,G⟩:=F.ex;exact lP G hr hg hm hk hb .nil (vx fun _ _ _ z=>z) ha hdb he hpl
theorem kS{P:Program}{w:World}{X:Cx}:gj (CXE P w) X E0:=fun _ _ _ _ _ _ _ h=>by
 obtain⟨_,_,_,_,_,_,_,_,_,_,_,_,q⟩:=h;exact q.elim
theorem eW{X:Cx}{x:Str}{ps:List Str}{k:Nat}{ds:List V}{sp:Sp}{p pos:Pos}{e:Expr}{es:List Expr}{t:TA}(F:Fx X.prog X.w X.K X.mg X.base x ps k ds sp)(hr:Ar k X.A)(hg:Gl X x)(ha:PA X (e::es) t)
  (hdb:(x == ("__debug__" : Str))=false:=by decide) (he:starEach (e::es) X.env=(false,eval e X.env)::starEach es X.env:=by rfl) (hpl:(backTo pos (starEach es X.env)).any (·.1)=false:=by rfl) :
  PE X (.Call (.Name x p) (e::es) [] pos) (pG sp [] E0 t):=by
 obtain⟨g,fd,its,hm,hk,hb,_,_,G⟩:=F.ex;exact lP G hr hg hm hk hb .nil kS ha hdb he hpl
section
variable {X:Cx}
theorem xv{pins:List (Addr×Obj)}{s:Shared}{σ:St}{H:Hp}{Q:VK}{R:Value->St->Hp->Prop}{x:Str}{ps:List Str}{k:Nat}{ds:List V}{sp:Sp}{p pos:Pos}{e:Expr}{es:List Expr}{t:TA}(I:Aa X pins σ H s)
  (F:Fx X.prog X.w X.K X.mg X.base x ps k ds sp) (hr:Ar k X.A) (hg:Gl X x) (ha:PA X.nox (e::es) t) (q:t σ H fun vs H1=>sp vs H1 Q fun c _ H2=>R c σ H2)
  (hdb:(x == ("__debug__" : Str))=false) (he:starEach (e::es) X.env=(false,eval e X.env)::starEach es X.env) (hpl:(backTo pos (starEach es X.env)).any (·.1)=false) :
  wpAny (model X.prog X.w) X.A (eval (.Call (.Name x p) (e::es) [] pos) X.env) (EP X pins σ Q) (XP X pins R) s:=by
 obtain⟨f,fd,its,hm,hk,hb,_,_,G⟩:=F.ex;refine wpAny_Call_Name_kw (eA I hg hm ?_ hdb);refine W.callWith_K (h₀:=X.base) I.ok.mod.kin hk (wpAny_mono (ha pos pins s σ H _ (I.wish _) q) (fun us s1 ⟨vs,H1,J1,r,q1⟩=>?_) fun _ _ z=>False.elim z) he hpl;have I1:Aa X pins σ H1 s1:=J1.unwish;refine⟨I1.kIn,?_⟩;have hl:(us++[]).length=ps.length:=by rw[List.append_nil,<- r.length];exact G.len _ _ _ _ q1
 have hbb:=hb s1 us I1.kIn hl;rw[List.append_nil]at hbb;refine wpAny_call (codeAny_mono (G.run X.A X.stack s1 H1 ⟨us,[]⟩ us vs Q _ hr I1.env0 hbb r q1) fun rr s' hq=>?_);cases rr with
 | error ev=>exact⟨s1,σ,H1,(fun c _ H2=>R c σ H2),I1,hq,fun c o H' z=>z⟩
 | ok flw =>
  cases flw with
  | ret u=>exact I1.after hq
  | next=>exact False.elim hq
  | brk=>exact False.elim hq
  | cont=>exact False.elim hq
variable {x fn:Str} {i:Nat} {ps:List Str} {k:Nat} {ds:List V} {sp:Sp} {e:Expr} {es:List Expr} {ta:TA} {px pf cpos pos:Pos}
theorem pO(F:Fx X.prog X.w X.K X.mg X.base fn ps k ds sp)(hr:Ar k X.A)(hg:Gl X fn)(ha:PA X.nox (e::es) ta)(hs:swapsWith (.Call (.Name fn pf) (e::es) [] cpos) none pos.line X.env=pure false:=by rfl)
  (hdb:(fn == ("__debug__" : Str))=false:=by decide) (he:starEach (e::es) X.env=(false,eval e X.env)::starEach es X.env:=by rfl) (hpl:(backTo cpos (starEach es X.env)).any (·.1)=false:=by rfl) :
  PX X (.Expr (.Call (.Name fn pf) (e::es) [] cpos) pos) (fun R D σ H=>ta σ H fun vs H1=>sp vs H1 (fun _ H2=>D.nx σ H2) fun c _ H2=>R c σ H2):=by
 intro pins s σ H D R I h;exact wpAny_Expr_any (thn (xv I F hr hg ha h hdb he hpl) fun v s1 ⟨y,H1,I1,r1,q1⟩=>⟨σ,H1,I1,q1⟩) I.quiet hs
theorem lI{st:Stmt}{t:TX}(h1:PX X st t):PXs X [st] t:=by
 intro pins s σ H D R I h;refine wpAny_execs_cons (thn (h1 pins s σ H D R I h) fun f s1 q=>?_);cases f with
 | next=>exact wpAny_execs_nil q
 | ret v=>exact q
 | brk=>exact q
 | cont=>exact q
end
end L2
namespace Sp2
open PySem PySem.Spec L2 Mth Sp1
theorem tK{H:Hp}{x:V}(h:iK H x=true):∃p a b,x = .ref p∧H p=some (.tup [.int a,.int b])∧EB a b:=by
 unfold iK at h
 split at h
 ·split at h
  ·rename_i p _ xs e
   unfold ka at h
   split at h
   ·rename_i a b
    unfold lowB at h;rw[Bool.and_eq_true,decide_eq_true_eq,decide_eq_true_eq]at h;exact⟨p,a,b,rfl,e,h.1,h.2⟩
   ·cases h
  ·cases h
 ·cases h
theorem tI{H:Hp}{p:Addr}{a b:Int}(e:H p=some (.tup [.int a,.int b])):iK H (.ref p)=lowB a b:=by
 simp only[iK,e,ka]
theorem y7{a b:Int}(h:EB a b):lowB a b=true:=by
 unfold lowB;rw[decide_eq_true h.pos,decide_eq_true h.one];rfl
inductive Ek (vs:List V) (H:Hp) (Q:VK) (x_3:XK):Prop
 | mk:∀(p:Addr) (xs:List V),(vs = [.ref p])->(H p=some (.lst xs))->(Q (.int ((xs.length:Int) - 1)) H)->Ek vs H Q x_3
theorem wR{n:Int}(h0:-1000≤n)(h1:n≤1000):-(2^64)<n∧n<2^64:=by
 have e:(2:Int)^64=18446744073709551616:=by decide
 rw[e];omega
theorem yq{ns:List Int}{k:Int}(j:Nat)(e:k=(j:Int))(h:j<ns.length):atI (ns.map V.int) k=some (.int ns[j]):=by
 subst e;exact eD (by rw[List.getElem?_map,List.getElem?_eq_getElem h];rfl)
theorem eC{n:Int}(h0:-1000≤n)(h1:n≤1000):aq n≤10:=by
 refine cB (n:=10) ?_;show _<1024;omega
end Sp2
namespace L2
open PySem PySem.Spec PyProof.Rows
end L2
namespace L2
open PySem PySem.Spec PyProof.Rows
abbrev Cx.blk(X:Cx)(N':List Str)(scope:Scope)(cl:List (Str×Addr))(fp:List Addr)(s₀:Shared)(H₀:Hp):Cx :=
 { X with N:=N',s₀:=s₀,H₀:=H₀,env:=compEnvC scope cl s₀.heap.objs.size X.env,outer:=X.stack,ex:=fp,fn:=fun _=>false,pn:=[],xe:=fun _ _=>False }
theorem bY{α:Type}{y:Str}{c:α}:∀{l:List (Str×α)},l.lookup y=some c->(y,c)∈l
 | [],h=>by simp at h
 | (n,d)::r,h=>by
  rw[List.lookup_cons]at h;cases e:y == n with
  | true =>
   rw[e]at h;cases h;rw[beq_iff_eq.mp e];exact List.mem_cons_self
  | false =>
   rw[e]at h;exact List.mem_cons_of_mem _ (bY h)
structure DM(X:Cx)(scope:Scope)(cl:List (Str×Addr))(x:Str)(fv:List (Str×Nat)):Prop where
 clos:closureFor scope X.env=pure cl
 kind:scope.kind = .function
 cell:∀y∈scope.names,y.2≠.cell
 names:∀y∈scope.names,y.2 = .local->scope.names.lookup y.1=some .local
 own:scope.names.lookup x=some .local
 cells:∀p∈cl,X.env.cells.lookup p.1=some p.2
 has:((relabel scope X.env).names.all fun q=>!(q.2 == .cell || q.2 == .free) || (cl.lookup q.1).isSome)=true
 nd:(x::fv.map (·.1)).Nodup
 slot:∀p∈fv,X.N[p.2]? = some p.1∧X.env.kindOf p.1=some .cell∧Vis X.env.scope p.1∧(cl.lookup p.1).isSome=true∧((relabel scope X.env).names.lookup p.1=some .cell)
 stk:X.stack=X.env::X.outer∧X.env.frame=some X.env.locals
 noex:X.ex = []
def fvs(fv:List (Str×Nat))(σ:St):St:=fv.map fun p=>(σ[p.2]?).join
def yN(wi:TI)(fv:List (Str×Nat))(te:TE):TE:=fun σ H Q=>wi σ H fun J H1=>∀p,H1 p=none->∃W:Nat->Nat->List V->Hp->Prop,(∃m,W 0 m [] (upd H1 p (.lst [])))∧∀i m acc H2,W i m acc H2 ->
 H2 p=some (.lst acc)∧acc.length<sizeLine∧((J.stop i H2∧Q (.ref p) H2)∨(J.go i H2∧∀x H3,J.yld i H2 x H3->te (some x::fvs fv σ) H3 fun y H4=>H4 p=some (.lst acc)∧∃m',m'<m∧W (i+1) m' (acc++[y]) (upd H4 p (.lst (acc++[y])))))
section
variable {X:Cx} {scope:Scope} {cl:List (Str×Addr)} {x:Str} {fv:List (Str×Nat)} {elt iter:Expr} {px pos:Pos} {te:TE}
theorem ym{pins:List (Addr×Obj)}{σ:St}{H:Hp}{s:Shared}{fp:List Addr}(C:DM X scope cl x fv)(I:Aa X pins σ H s)(hf:∀b∈fp,eO X pins H b)(ho:∀b∈fp,b<s.heap.objs.size):(X.blk (x::fv.map (·.1)) scope cl fp s H).Ok:=by
 have hcl:∀y c,cl.lookup y=some c->X.env.cells.lookup y=some c:=fun y c h=>C.cells _ (bY h);have old:∀b∈fp,X.s₀.heap.objs.size≤b:=fun b hb=>by
  rcases(hf b hb).2.2.2.1 with z|z
  ·rw[C.noex]at z
   cases z
  ·exact z
 refine⟨I.ok.mod,by show(relabel scope X.env).kind=_;exact C.kind,I.ok.glob,I.ok.blt,Nat.le_refl _,fun y z c h1 h2=>I.ok.inj y z c (hcl y c h1) (hcl z c h2),fun y hy=>?_,(fun y c h=>by cases h),I.ok.hd,I.ok.frames,.inl rfl,fun b hb=>?_,fun b o e=>I.bs b o e,Nat.le_trans I.ok.bsz I.sz,fun b o e hb=>?_,fun b hb hm=>?_,I.stack,I.stkFree⟩
 ·have q:=C.has
  rw[List.all_eq_true]at q;have hm:∃k,(y,k)∈(relabel scope X.env).names∧(k = .cell∨k = .free):=by
   rcases hy with hy|hy
   ·exact⟨_,bY hy,.inl rfl⟩
   ·exact⟨_,bY hy,.inr rfl⟩
  obtain⟨k,hk,hk2⟩:=hm;have q2:=q _ hk;have q3:(cl.lookup y).isSome=true:=by
   rcases hk2 with rfl|rfl
   ·simpa using q2
   ·simpa using q2
  exact Option.isSome_iff_exists.mp q3
 ·obtain⟨f0,f1,f2,f3,f4,f5⟩:=hf b hb
  refine⟨?_,fun y c h=>f4 y c (hcl y c h)⟩;exact Nat.ne_of_lt (ho b hb)
 ·have z:=Heap.lt_size e
  have z2:=old b hb;exact absurd (Nat.lt_of_lt_of_le z (Nat.le_trans I.ok.bsz z2)) (Nat.lt_irrefl _)
 ·obtain⟨f0,f1,f2,f3,f4,f5⟩:=hf b hb
  rcases List.mem_cons.mp (I.stkSub b hm) with z|z
  ·exact f1 z
  ·exact f2 z
theorem wj{pins:List (Addr×Obj)}{σ:St}{H:Hp}{s s4:Shared}{fp:List Addr}(C:DM X scope cl x fv)(I:Aa X pins σ H s)(hf:∀b∈fp,eO X pins H b)(ho:∀b∈fp,b<s.heap.objs.size)
  (hs:s4.os=s.os∧s4.gens=s.gens) (ns:s4.heap.Ns s.heap.objs.size fun _=>none) (kp:∀b o,s.heap.get? b=some o->s4.heap.get? b=some o) :
  Aa (X.blk (x::fv.map (·.1)) scope cl fp s H) [] (none::fvs fv σ) H s4:=by
 have hcl:∀y c,cl.lookup y=some c->X.env.cells.lookup y=some c:=fun y c h=>C.cells _ (bY h);refine⟨ym C I hf ho,hs.1,by rw[hs.2];exact I.bare,Un.kept kp,⟨_,ns,fun i y v e1 e2 e3=>?_⟩,fun y c h=>?_,I.hok.fresh (Nat.le_refl _),fun y c h=>I.freeC y c (hcl y c h),fun p hp=>by simp at hp,I.hok.kept kp,by simp[fvs]⟩
 ·cases i with
  | zero=>simp at e2
  | succ j =>
   have e1':(fv.map (·.1))[j]? = some y:=by simpa using e1
   have e2':(fvs fv σ)[j]? = some (some v):=by simpa using e2
   rw[List.getElem?_map]at e1';unfold fvs at e2';rw[List.getElem?_map]at e2';cases hq:fv[j]? with
   | none =>
    rw[hq]at e1';cases e1'
   | some q =>
    rw[hq]at e1' e2';have ey:q.1=y:=Option.some.inj e1';have ev:(σ[q.2]?).join=some v:=Option.some.inj e2';have hm:q∈fv:=List.mem_of_getElem? hq;obtain⟨s1,s2,s3,s4',s5⟩:=C.slot q hm;have ev2:σ[q.2]? = some (some v):=by
     cases hz:σ[q.2]? with
     | none =>
      rw[hz]at ev;cases ev
     | some z =>
      rw[hz]at ev;have ev':z=some v:=ev;rw[ev']
    obtain⟨m,hn,hl⟩:=I.loc;obtain⟨u,r,lk⟩:=hl q.2 q.1 v s1 ev2 s3;obtain⟨c,hc⟩:=Option.isSome_iff_exists.mp s4';refine⟨u,r,.inr ⟨.inl (by rw[<- ey];exact s5),c,by rw[<- ey];exact hc,?_⟩⟩;rcases lk with⟨k,_⟩|⟨_,c',hc',z⟩
    ·rw[s2]at k
     cases k
    ·rw[hcl _ _ hc]at hc'
     cases hc';obtain⟨o,ho',hd⟩:=z;exact⟨o,kp _ _ ho',hd⟩
 ·obtain⟨v,o,ho',hd⟩:=I.cell y c (hcl y c h)
  exact⟨v,o,kp _ _ ho',hd⟩
theorem we{pins:List (Addr×Obj)}{σ:St}{H2:Hp}{s2:Shared}{it:Addr}{fp:List Addr}{tn:Nat->Heap->Prop}{J:It}{RR:Value->Addr->Result->Shared->Prop}{E:Value->Shared->Prop}{Qf:V->Hp->Prop}
  (hcalm:X.calm=true) (C:DM X scope cl x fv) (I2:Aa X pins σ H2 s2) (T:Em X.prog X.w X.K (.Name x px) J fp it tn) (st:tn 0 s2.heap) (f2:∀b∈fp,eO X pins H2 b)
  (rd:∀p,H2 p=none->∃W:Nat->Nat->List V->Hp->Prop,(∃m,W 0 m [] (upd H2 p (.lst [])))∧∀i m acc H2,W i m acc H2 ->
   H2 p=some (.lst acc)∧acc.length<sizeLine∧((J.stop i H2∧Qf (.ref p) H2)∨(J.go i H2∧∀x H3,J.yld i H2 x H3->te (some x::fvs fv σ) H3 fun y H4=>H4 p=some (.lst acc)∧∃m',m'<m∧W (i+1) m' (acc++[y]) (upd H4 p (.lst (acc++[y]))))))
  (he:∀(s₀:Shared) (H₀:Hp),PE (X.blk (x::fv.map (·.1)) scope cl fp s₀ H₀) elt te)
  (hRR:∀(p C:Addr) (H':Hp) (s':Shared),(∃m,s'.heap.Ns C m)->C≠X.env.locals->H' C=none->X.s₀.heap.objs.size≤C->(∀y c,X.env.cells.lookup y=some c->c≠C)->(∀q∈X.pn++pins,q.1≠C)->Aa X pins σ H' s'->Qf (.ref p) H'->RR (.ref p) C (.ok .next) s') :
  wpAny (model X.prog X.w) X.A (newList []) (fun acc s₃=>wpAny (model X.prog X.w) X.A (newFunctionEnv scope X.env.globals cl [] X.env.qual none .none (some X.env)) (fun cenv s₄ =>
   codeAny (model X.prog X.w) X.A (.compStart (.ListComp elt [⟨.Name x px,iter,[],0⟩] scope pos) 0 (.ref it) acc { cenv with scope:=relabel scope X.env }) (RR acc cenv.locals) s₄) E s₃) E s2:=by
 refine wpAny_newObj_type ?_;have hfresh:=I2.fresh;have I3:Aa X pins σ (upd H2 s2.heap.objs.size (.lst [])) { s2 with heap:=s2.heap.push { cls:=.type "list",data:=.seq ([]:List Value).toArray } } :=
  I2.laid (t':=s2.toks) (fun b u q=>Heap.get?_push_of_some _ q) (Nat.le_refl _) ⟨Nat.zero_le _,[],0,.nil,Heap.get?_push_size _ rfl⟩
 generalize hs3:({ s2 with heap:=s2.heap.push { cls:=.type "list",data:=.seq ([]:List Value).toArray } }:Shared)=s3 at I3 ⊢;have hp3:s2.heap.objs.size<s3.heap.objs.size:=by rw[<- hs3];exact Nat.lt_of_lt_of_le (Nat.lt_succ_self _) (Nat.le_of_eq (Heap.size_push _ _).symm)
 have k23:∀b o,s2.heap.get? b=some o->s3.heap.get? b=some o:=fun b o e=>by rw[<- hs3];exact Heap.get?_push_of_some _ e
 have fpo:∀b∈fp,b<s2.heap.objs.size:=fun b hb=>by
  obtain⟨o,e,_⟩:=T.obj 0 _ st b hb;exact Heap.lt_size e
 have f3:∀b∈fp,eO X pins (upd H2 s2.heap.objs.size (.lst [])) b:=fun b hb=>⟨by rw[aH (Nat.ne_of_lt (fpo b hb))];exact(f2 b hb).1,(f2 b hb).2⟩;refine wpAny_newFunctionEnv C.cell (by intro y hy;simp at hy) (fun h1 hns1 hsb1=>?_) C.kind;have kp:∀b o,s3.heap.get? b=some o->h1.get? b=some o:=fun b o e=>(hsb1.2 b (Nat.ne_of_lt (Heap.lt_size e))).trans (Heap.get?_push_of_some _ e);have I4:=wj (s4:={ s3 with heap:=h1,toks:=s3.toks+([]:List (Str×Value)).length }) C I3 f3 (fun b hb=>Nat.lt_trans (fpo b hb) hp3) ⟨rfl,rfl⟩ hns1 kp;have st4:tn 0 h1:=T.keep 0 _ _ st fun b _ o e=>kp b o (k23 b o e);obtain⟨W,⟨m0,w0⟩,step⟩:=rd _ hfresh;have loop:codeAny (model X.prog X.w) X.A (.compLoop (.ListComp elt [⟨.Name x px,iter,[],0⟩] scope pos) 0 (.ref it) (.ref s2.heap.objs.size) (compEnvC scope cl s3.heap.objs.size X.env)) (RR (.ref s2.heap.objs.size) s3.heap.objs.size)
   { s3 with heap:=h1,toks:=s3.toks+([]:List (Str×Value)).length }:=by
  refine codeAny_compLoop_list (fun n s=>∃i acc σv H',Aa (X.blk (x::fv.map (·.1)) scope cl fp s3 (upd H2 s2.heap.objs.size (.lst []))) [] (σv::fvs fv σ) H' s∧tn i s.heap∧(∀b∈fp,H' b=none)∧W i n acc H') ?_ m0 ⟨0,[],none,_,I4,st4,fun b hb=>(f3 b hb).1,w0⟩;rintro n s ⟨i,acc,σv,H',I',st',fr',w'⟩;obtain⟨hp,hlen,alt⟩:=step i n acc H' w';have fpk:∀{H5:Hp},(∀b∈fp,H5 b=none)->∀b∈fp,eO (X.blk (x::fv.map (·.1)) scope cl fp s3 (upd H2 s2.heap.objs.size (.lst []))) [] H5 b:=fun h5 b hb =>
   ⟨h5 b hb,(I'.ok.exf b hb).1,I'.ok.exfs b hb,.inl hb,fun y c e=>(I'.ok.exf b hb).2 y c e,fun q hq=>by simp at hq⟩
  rcases alt with⟨stop,qf⟩|⟨go,turn⟩
  ·refine wpAny_mono (T.done (X.blk (x::fv.map (·.1)) scope cl fp s3 (upd H2 s2.heap.objs.size (.lst []))) rfl rfl rfl hcalm i [] s _ H' (fun _ _=>False) I' (fpk fr') st' stop) (fun r s5 ⟨hr,I5⟩=>?_) fun _ _ z=>False.elim z
   subst hr;refine hRR _ _ H' s5 (let ⟨m,hn,_⟩:=I5.loc;⟨m,hn⟩) (Nat.ne_of_gt I3.lt) I5.free I3.sz (fun y c e=>?_) (fun q hq=>?_) ?_ qf
   ·obtain⟨v,z⟩:=I3.cell y c e
    exact Nat.ne_of_lt z.lt
   ·exact Nat.ne_of_lt (Heap.lt_size (I3.pin q hq).1)
   ·exact I3.call' (s':=s5) (ch:=fp) I5.os I5.base I5.hok I5.bare fun b hb=>⟨(f2 b hb).2.2.2.1,(f2 b hb).2.1,(f2 b hb).2.2.2.2.1,(f2 b hb).2.2.2.2.2⟩
  ·refine wpAny_mono (T.item (X.blk (x::fv.map (·.1)) scope cl fp s3 (upd H2 s2.heap.objs.size (.lst []))) rfl rfl rfl hcalm i [] s _ H' (fun _ _=>False) I' (fpk fr') st' go) (fun r s5 ⟨u,hr,h5⟩=>?_) fun _ _ z=>False.elim z
   subst hr;have e5:assign (.Name x px) (compEnvC scope cl s3.heap.objs.size X.env) u=(letOwnedTupleGo (.Name x px) (.ref it) u >>= fun _=>assign (.Name x px) (compEnvC scope cl s3.heap.objs.size X.env) u):=by
    rw[show letOwnedTupleGo (.Name x px) (.ref it) u=pure () from rfl];rfl
   show wpAny _ _ (assign (.Name x px) (compEnvC scope cl s3.heap.objs.size X.env) u) _ _ _;rw[e5];refine wpAny_bind (wpAny_mono h5 (fun _ s6 ⟨y,H6,I6,r6,y6,st6,fr6⟩=>?_) fun _ _ z=>False.elim z);have I6':=I6.pinned (fpk fr6) (T.obj _ _ st6);have lx:(relabel scope X.env).names.lookup x=some .local:=lookup_relabel_local C.own;refine wpAny_mono (aS (X:=X.blk (x::fv.map (·.1)) scope cl fp s3 (upd H2 s2.heap.objs.size (.lst []))) (i:=0) C.nd rfl (.inl lx) (.inr lx) _ s6 _ H6 y u (fun σ7 H7=>σ7=some y::fvs fv σ∧H7=H6) I6' r6 ⟨rfl,rfl⟩) (fun _ s7 ⟨σ7,H7,I7,e7,e7'⟩=>?_) fun _ _ z=>False.elim z;subst e7 e7';refine wpAny_mono (he s3 _ _ s7 _ _ _ I7 (turn y _ y6)) (fun v8 s8 ⟨y8,H8,I8,r8,q8,m',hm',w8⟩=>?_) fun _ _ z=>False.elim z;refine wpAny_mono (ia (X:=X.blk (x::fv.map (·.1)) scope cl fp s3 (upd H2 s2.heap.objs.size (.lst []))) _ s8 _ H8 (.ref s2.heap.objs.size) [y8] (.ref s2.heap.objs.size) [v8] (fun _ H9=>H9=upd H8 s2.heap.objs.size (.lst (acc++[y8]))) I8 rfl (.cons r8 .nil) ⟨_,acc,y8,rfl,rfl,q8,hlen,rfl⟩) (fun _ s9 ⟨_,H9,I9,_,e9⟩=>?_) fun _ _ z=>False.elim z;subst e9;refine⟨m',hm',i+1,acc++[y8],some y,_,I9.unpinned,T.keep _ _ _ st6 fun b hb o e=>(I9.pin (b,o) (List.mem_append_right _ (List.mem_append_right _ (de hb e)))).1,fun b hb=>?_,w8⟩;obtain⟨o,e,d⟩:=T.obj _ _ st6 b hb;exact(I9.pin (b,o) (List.mem_append_right _ (List.mem_append_right _ (de hb e)))).2.1
 exact codeAny_compStart_list loop (T.self _ 0 _ _ _ st4 loop)
theorem vq{wi:TI}(hcalm:X.calm=true)(C:DM X scope cl x fv)(hi:PI X (.Name x px) iter wi)(he:∀(fp:List Addr) (s₀:Shared) (H₀:Hp),PE (X.blk (x::fv.map (·.1)) scope cl fp s₀ H₀) elt te)
  (hs:∀v,foldedSetIterable iter X.env v=pure v:=by intro _;rfl):PE X (.ListComp elt [⟨.Name x px,iter,[],0⟩] scope pos) (yN wi fv te):=by
 intro pins s σ H Q I h;rw[eval_ListComp];refine wpAny_comprehension_free (use:=none) rfl hs C.clos C.kind C.names (wpAny_mono (hi pins s σ H _ I h) (fun v s1 h1=>wpAny_mono h1 (fun itv s2 h2=>?_) fun _ _ z=>z) fun _ _ z=>z);obtain⟨it,fp,tn,J,H2,rfl,I2,T,st2,f2,rd⟩:=h2;refine we (Qf:=Q) hcalm C I2 T st2 f2 rd (he fp) fun p D H' s' ns nL nH n0 nC nP I8 q=>?_;obtain⟨m,hn⟩:=ns;exact⟨m,hn,fun h'' sb=>⟨.ref p,H',I8.turned (t':=s'.toks) (fun b o hb e=>(sb.2 b hb).trans e) nH nL (.inr n0) nC nP,rfl,q⟩⟩
end
end L2
namespace L2
open PySem PySem.Spec PyProof.Rows
theorem jW{n:Nat}{lo:Int}{fv:List (Str×Nat)}{te:TE}{σ:St}{H1:Hp}{Qp:Hp->Prop}{l:Addr}(Pv:Nat->List V->Hp->Prop)(h0:Pv 0 [] (upd H1 l (.lst [])))(hp:∀i acc H2,i≤n->Pv i acc H2->H2 l=some (.lst acc)∧acc.length<sizeLine)
  (hs:∀i acc H2 (K:VK),i<n->Pv i acc H2->(∀y H4,H4 l=some (.lst acc)->Pv (i+1) (acc++[y]) (upd H4 l (.lst (acc++[y])))->K y H4)->te (some (.int (lo+i))::fvs fv σ) H2 K) (hd:∀acc H2,Pv n acc H2->Qp H2) :
  ∃W:Nat->Nat->List V->Hp->Prop,(∃m,W 0 m [] (upd H1 l (.lst [])))∧∀i m acc H2,W i m acc H2 ->
   H2 l=some (.lst acc)∧acc.length<sizeLine∧(((Itr lo n).stop i H2∧Qp H2)∨((Itr lo n).go i H2∧∀x H3,(Itr lo n).yld i H2 x H3->te (some x::fvs fv σ) H3 fun y H4=>H4 l=some (.lst acc)∧∃m',m'<m∧W (i+1) m' (acc++[y]) (upd H4 l (.lst (acc++[y]))))):=by
 refine⟨fun i m acc H2=>m=n - i∧i≤n∧Pv i acc H2,⟨n,by simp,Nat.zero_le _,h0⟩,?_⟩;rintro i m acc H2 ⟨rfl,hi,p⟩;refine⟨(hp i acc H2 hi p).1,(hp i acc H2 hi p).2,?_⟩
 by_cases hlt:i<n
 ·refine .inr ⟨hlt,fun x H3 y=>?_⟩
  obtain⟨e1,e2⟩:=y;subst e1 e2;exact hs i acc _ _ hlt p fun y H4 z1 z2=>⟨z1,n - (i+1),by omega,rfl,hlt,z2⟩
 ·have e:i=n:=by omega
  subst e;exact .inl ⟨Nat.le_refl _,hd acc H2 p⟩
def sy(s:Stmt):Scope:=match s with
 | .Assign _ (.ListComp _ _ sc _) _=>sc
 | _=>{ kind:=.function,names:=[],isGenerator:=false,isCoroutine:=false }
end L2
namespace L2
open PySem PySem.Spec PyProof.Rows
theorem eB{X:Cx}{K:W.Frag}(h:X.K=K):IxR X (Gj K):=h▸au
end L2
namespace L2
open PySem PySem.Spec PyProof.Rows
theorem rJ{K:W.Frag}{a:Addr}{xs:List V}{fv:List (Str×Nat)}{te:TE}{σ:St}{H1:Hp}{Qp:Hp->Prop}{l:Addr}(Pv:Nat->List V->Hp->Prop)(h0:Pv 0 [] (upd H1 l (.lst [])))(hp:∀i acc H2,i≤xs.length->Pv i acc H2->SqL K H2 a xs∧H2 l=some (.lst acc)∧acc.length<sizeLine)
  (hs:∀i x acc H2 (Kc:VK),xs[i]? = some x->Pv i acc H2->(∀y H4,H4 l=some (.lst acc)->Pv (i+1) (acc++[y]) (upd H4 l (.lst (acc++[y])))->Kc y H4)->te (some x::fvs fv σ) H2 Kc) (hd:∀acc H2,Pv xs.length acc H2->Qp H2) :
  ∃W:Nat->Nat->List V->Hp->Prop,(∃m,W 0 m [] (upd H1 l (.lst [])))∧∀i m acc H2,W i m acc H2 ->
   H2 l=some (.lst acc)∧acc.length<sizeLine∧(((Itl K a).stop i H2∧Qp H2)∨((Itl K a).go i H2∧∀x H3,(Itl K a).yld i H2 x H3->te (some x::fvs fv σ) H3 fun y H4=>H4 l=some (.lst acc)∧∃m',m'<m∧W (i+1) m' (acc++[y]) (upd H4 l (.lst (acc++[y]))))):=by
 refine⟨fun i m acc H2=>m=xs.length - i∧i≤xs.length∧Pv i acc H2,⟨xs.length,by simp,Nat.zero_le _,h0⟩,?_⟩;rintro i m acc H2 ⟨rfl,hi,p⟩;obtain⟨q1,q2,q3⟩:=hp i acc H2 hi p;refine⟨q2,q3,?_⟩
 by_cases hlt:i<xs.length
 ·refine .inr ⟨⟨xs,xs[i],q1,List.getElem?_eq_getElem hlt⟩,fun x H3 y=>?_⟩
  obtain⟨e1,e2⟩:=y;subst e1;exact hs i x acc _ _ (e2 xs q1) p fun y H4 z1 z2=>⟨z1,xs.length - (i+1),by omega,rfl,hlt,z2⟩
 ·have e:i=xs.length:=by omega
  subst e;exact .inl ⟨⟨xs,q1,Nat.le_refl _⟩,hd acc H2 p⟩
end L2
namespace L2
open PySem PySem.Spec PyProof.Rows
theorem pd{xs:List V}{us:List Value}{j:Nat}(r:aN xs us)(h:j<us.length):∃a,xs[j]? = some a∧aU a us[j]:=by
 have hl:=r.length;have hj:j<xs.length:=by omega
 obtain⟨u,e,q⟩:=r.get (i:=j) (x:=xs[j]) (List.getElem?_eq_getElem hj);rw[List.getElem?_eq_getElem h]at e;cases e;exact⟨xs[j],List.getElem?_eq_getElem hj,q⟩
section
variable {X:Cx} {pins:List (Addr×Obj)} {σ:St} {H:Hp} {s:Shared}
end
end L2
namespace L2
open PySem
theorem Ar.units10{k:Nat}{A:Around}(r:Ar k A):A.units+10<cLine:=by have:=r.un;omega
end L2
namespace L2
open PySem PySem.Spec PyProof.Rows
end L2
namespace Sp3
open PySem PySem.Spec L2 Mth Sp1 Sp2
end Sp3
namespace Sp3
open PySem PySem.Spec L2 Mth Sp1 Sp2
abbrev Crn:=List (Addr×Int×Int)
end Sp3
namespace PySem
open Sem (wp)
abbrev Lk{α:Type}(M:Model)(h:Heap)(t:Sem α)(r:α):Prop:=∀(A:Around) (Q:α->Shared->Prop) (E:Value->Shared->Prop) (g:Array GenState) (d:Drawn) (tk:Nat) (os:OsState),Q r ⟨h,g,d,tk,os⟩->wpAny M A t Q E ⟨h,g,d,tk,os⟩
section
variable {prog:Program} {w:World} {A:Around} {E:Value->Shared->Prop} {h:Heap} {g:Array GenState} {d:Drawn} {t:Nat} {os:OsState} {a:Addr} {o:Obj}
 {nm q:Str} {C N:Addr} {bs bm:List Value} {hdct:Bool} {sn:List Str} {sub:List Value} {ab:Bool} {col:Option Bool} {dd:Option Addr} {k0 k1 k2 k3 k5:Option Value} {newId:String}
theorem kB{R:Result->Shared->Prop}(atC:h.get? C=some (excClassObj nm q C N bs bm hdct sn sub ab col dd k0 k1 k2 k3 k5 newId))(hO:bm.contains (.type "object")=true)
  (atE:h.get? a=some o) (clE:o.cls = .ref C) (fin:R (.ok (.ret (.ref C))) ⟨h,g,d,t,os⟩) :
  codeAny (model prog w) A (.call (.builtin "getset_descriptor.__get__") ⟨[.builtin "object.__class__",.ref a,.ref C],[]⟩) R ⟨h,g,d,t,os⟩:=by
 have tg:(⟨h,g,d,t,os⟩:Shared).TypeIs (.builtin "object.__class__") "getset_descriptor":=F.typeOf_object_class;have e0:(".".intercalate ("object.__class__".cutAt '.').dropLast) = "object":=by
  have e0:"object.__class__".cutAt '.' = ["object","__class__"]:=by first|rfl|decide +kernel
  rw[e0];decide +kernel
 have cont:(Value.ref C::bm).contains (.type (".".intercalate ("object.__class__".cutAt '.').dropLast))=true:=by
  rw[e0,List.contains_cons,hO,Bool.or_true]
 refine codeAny_call_builtin F.slot_gs_get.plain F.entry_gs_get (F.slot_gs_get.check _ _ _ _ _ _ _ _ tg (F.args_gs_get _ _ _) ?_)
 repeat (any_goals (first|assumption|(with_reducible refine wpAny_loadPart_at atE ?_;rw[clE])|(with_reducible refine wpAny_isSubtype_exc atC ?_;rw[cont])|wp_step))
 refine⟨Code.quiet_builtin _ (by decide +kernel),codeAny_builtin F.entry_object_class ?_⟩
 repeat (any_goals (first|assumption|(with_reducible refine wpAny_loadPart_at atE ?_;rw[clE])|wp_step))
theorem mh{M:Model}{nameV:Value}{Q:Unit->Shared->Prop}(atC:h.get? C=some (excClassObj nm q C N bs bm hdct sn sub ab col dd k0 k1 k2 k3 k5 newId))(hB:bm.contains (.type "BaseException")=true)
  (atE:h.get? a=some o) (clE:o.cls = .ref C) (fin:Q () ⟨h,g,d,t,os⟩):wpAny M A (checkBuiltinCall "BaseException.__getattribute__" ⟨[.ref a,nameV],[]⟩) Q E ⟨h,g,d,t,os⟩:=by
 have kd:builtinKind "BaseException.__getattribute__" = some .slot:=by decide +kernel
 have spl:splitId "BaseException.__getattribute__" = some ("BaseException","__getattribute__"):=by decide +kernel
 have cont:(Value.ref C::bm).contains (.type "BaseException")=true:=by rw[List.contains_cons,hB,Bool.or_true]
 have okA:=F.args_bexc_ga (.ref a) nameV;simp only[checkBuiltinCall,kd,spl];refine wpAny_bind ?_
 ·unfold isInstance
  repeat (first|(with_reducible refine wpAny_loadPart_at atE ?_;rw[clE])|(with_reducible refine wpAny_isSubtype_exc atC ?_;rw[cont])|wp_step)
  exact fin
theorem iX{tk:Tok}{Q:Fin->Shared->Prop}(atC:h.get? C=some (excClassObj nm q C N bs bm hdct sn sub ab col dd k0 k1 k2 k3 k5 newId))(hO:bm.contains (.type "object")=true)
  (lc:Lk (model prog w) h (typeLookup (.ref C) "__class__") (some (.builtin "object.__class__"))) (atE:h.get? a=some o) (clE:o.cls = .ref C) (fin:Q (.done (.ret (.ref C))) ⟨h,g,d,t,os⟩) :
  wpAny (model prog w) A (Builtin.«object.__getattribute__» ⟨[.ref a,.str "__class__" tk],[]⟩) Q E ⟨h,g,d,t,os⟩:=by
 have tg:(⟨h,g,d,t,os⟩:Shared).TypeIs (.builtin "object.__class__") "getset_descriptor":=F.typeOf_object_class;have tyC:=F.typeOf_object_class;have getL:=F.slot_gs_get.lookup;have setL:=F.slot_gs_set.lookup
 repeat (any_goals (first|assumption|(with_reducible refine wpAny_loadPart_at atE ?_;rw[clE])|with_reducible refine lc _ _ _ _ _ _ _ ?_|wp_step))
 refine kB atC hO atE clE ?_
 repeat (any_goals (first|assumption|wp_step))
theorem mf{tk:Tok}{Q:Value->Shared->Prop}(atC:h.get? C=some (excClassObj nm q C N bs bm hdct sn sub ab col dd k0 k1 k2 k3 k5 newId))(hO:bm.contains (.type "object")=true)(hB:bm.contains (.type "BaseException")=true)
  (lc:Lk (model prog w) h (typeLookup (.ref C) "__class__") (some (.builtin "object.__class__"))) (lg:Lk (model prog w) h (typeLookup (.ref C) "__getattribute__") (some (.builtin "BaseException.__getattribute__"))) (ln:Lk (model prog w) h (typeLookup (.ref C) "__getattr__") none)
  (atE:h.get? a=some o) (clE:o.cls = .ref C) (fin:Q (.ref C) ⟨h,g,d,t,os⟩) :
  wpAny (model prog w) A (getAttrBy (.ref a) (.str "__class__" tk) false) Q E ⟨h,g,d,t,os⟩:=by
 have bnd:=F.excAttr_ValueError.ga.bind (.ref a);have nh2:(Value.builtin "BaseException.__getattribute__" == Value.builtin "object.__getattribute__")=false:=by decide +kernel
 have nh1:(onTheHeap (Value.ref C) && Value.builtin "BaseException.__getattribute__" == Value.builtin "object.__getattribute__")=false:=by rw[nh2];rfl
 repeat (any_goals (first|assumption|(with_reducible refine wpAny_loadPart_at atE ?_;rw[clE])|with_reducible refine lg _ _ _ _ _ _ _ ?_|with_reducible refine ln _ _ _ _ _ _ _ ?_|wp_step))
 refine codeAny_call_builtin F.excAttr_ValueError.ga.plain F.entry_bexc_ga (mh atC hB atE clE (iX atC hO lc atE clE ?_))
 repeat (any_goals (first|assumption|wp_step))
theorem jY{Q:Option Value->Shared->Prop}(atC:h.get? C=some (excClassObj nm q C N bs bm hdct sn sub ab col dd k0 k1 k2 k3 k5 newId))(hO:bm.contains (.type "object")=true)(hB:bm.contains (.type "BaseException")=true)
  (lc:Lk (model prog w) h (typeLookup (.ref C) "__class__") (some (.builtin "object.__class__"))) (lg:Lk (model prog w) h (typeLookup (.ref C) "__getattribute__") (some (.builtin "BaseException.__getattribute__"))) (ln:Lk (model prog w) h (typeLookup (.ref C) "__getattr__") none)
  (atE:h.get? a=some o) (clE:o.cls = .ref C) (fin:Q (some (.ref C)) ⟨h,g,d,t+1,os⟩) :
  wpAny (model prog w) A (getAttr? (.ref a) "__class__") Q E ⟨h,g,d,t,os⟩:=by
 unfold getAttr?
 repeat (any_goals (first|assumption|with_reducible refine mf atC hO hB lc lg ln atE clE ?_|wp_step))
end
end PySem
namespace L2
open PySem PySem.Spec PyProof.Rows
def gT(C a:Addr):HO:=.ext fun h=>∃o,h.get? a=some o∧o.cls = .ref C
theorem vV{P:Program}{w:World}{H:Hp}{h:Heap}{a C:Addr}(e:∃o,h.get? a=some o∧o.cls = .ref C):a7 P w H h a (gT C a) :=
 ⟨e,let ⟨o,e1,_⟩:=e;⟨o,e1⟩,fun _ _ ⟨o,e1,e2⟩ k=>⟨o,k o e1,e2⟩⟩
structure FP(K:W.Frag)(C:Addr):Prop where
 ga:W.findIn K (.ref C) "__getattribute__" = some (some (.builtin "BaseException.__getattribute__"))
 gn:W.findIn K (.ref C) "__getattr__" = some none
 cl:W.findIn K (.ref C) "__class__" = some (some (.builtin "object.__class__"))
theorem tP{K:W.Frag}{M:Model}{h:Heap}{C:Addr}{n:Str}{r:Option Value}(X:K.In h)(e:W.findIn K (.ref C) n=some r):Lk M h (typeLookup (.ref C) n) r :=
 fun _ _ _ _ _ _ _ q=>(W.looks_findIn X e).here q
theorem jI{K:W.Frag}{mg:Str->Option Value}{n:Str}{C a:Addr}(O:Bq K mg n C)(f:FP K C):W.KitX K (.ref a) (.ref C) (fun h=>∃o,h.get? a=some o∧o.cls = .ref C) where
 ty:=fun M h _ p=>by
  obtain⟨o,e1,e2⟩:=p;exact e2▸(W.Looks.ld e1).andThen .now
 it:=fun M h X _=>by
  obtain⟨bm,N',nm,qn,bs,hd,sn,sub,ab,col,dd,k0,k1,k2,k3,k5,mN,atC,_⟩:=O.obj h X;intro A' Q' E' s' k q;unfold isType loadHead;exact wpAny_bind (wpAny_loadPart (k _ _ atC) (wpAny_pure q))
 ne:=fun h tp dd' its n' sl X htp=>by
  obtain⟨bm,N',nm,qn,bs,hd,sn,sub,ab,col,dd,k0,k1,k2,k3,k5,mN,atC,_⟩:=O.obj h X;refine Bool.eq_false_iff.mpr fun q=>?_;cases Value.ref.inj (beq_iff_eq.mp q);rw[atC]at htp;have z:=congrArg Obj.cls (Option.some.inj htp);exact absurd (Value.type.inj z) (by decide)
 ca:=fun {prog w A E Q s} X p k=>by
  obtain⟨h,g,d,t,os⟩:=s;obtain⟨o,e1,e2⟩:=p;obtain⟨bm,N',nm,qn,bs,hd,sn,sub,ab,col,dd,k0,k1,k2,k3,k5,mN,atC,_,_,T⟩:=O.obj h X;exact jY atC (T.hasType (by decide +kernel)) (T.hasType (by decide +kernel)) (tP X f.cl) (tP X f.ga) (tP X f.gn) e1 e2 k
section
variable {X:Cx}
inductive Gk (K:W.Frag) (C:Addr) (xs:List V) (H:Hp) (Q:VK):Prop
 | mk:∀(a:Addr) (v:V) (b:Bool),(xs = [.ref a,v])->(H a=some (gT C a))->(((∃D,v = .ref D∧W.kitOne K (.ref C) (.ref D)=some b)∨(∃T,v = .ty T∧W.kitOne K (.ref C) (.type T)=some b)∨(∃(p:Addr) (ds:List Addr),v = .ref p∧H p=some (.tup (ds.map V.ref))∧W.kitAny K (.ref C) (ds.map Value.ref)=some b)))->(Q (.bl b) H)->Gk K C xs H Q
theorem kH:∀{ds:List Addr} {us:List Value},aN (ds.map V.ref) us->us=ds.map Value.ref
 | [],us,r=>by cases r;rfl
 | d::ds,us,r=>by
  cases r with
  | cons h t =>
   rw[kH t];cases h;rfl
theorem oX{n:Str}{C:Addr}(O:Bq X.K X.mg n C)(f:FP X.K C):eJ X (.builtin "isinstance") (Gk X.K C):=by
 intro pins s σ H xs us Q I rs h;obtain⟨a,v,b,rfl,ea,hv,q⟩:=h;obtain⟨u,u',rfl,ru,rv⟩:=o8 rs;cases ru;have p:∃o,s.heap.get? a=some o∧o.cls = .ref C:=(show a7 X.prog X.w H s.heap a (gT C a) from I.hok a _ ea).1;rcases hv with⟨D,rfl,e⟩|⟨T,rfl,e⟩|⟨p',ds,rfl,et,e⟩
 ·cases rv
  exact W.kia_one (jI O f) I.kIn p e (by intro z;cases z) fun tk=>⟨.bl _,H,I.tok _,rfl,q⟩
 ·cases (show u'=Value.type T from rv)
  exact W.kia_one (jI O f) I.kIn p e (by intro z;cases z) fun tk=>⟨.bl _,H,I.tok _,rfl,q⟩
 ·cases rv
  obtain⟨_,its,rv',⟨oc,odi,oda,osl⟩,eo,ec,nn,ed⟩:=I.hok _ _ et;dsimp only at ec ed;subst ec ed;cases kH rv';exact W.kia_tup (jI O f) I.kIn p eo e (by intro z;cases z) fun tk=>⟨.bl _,H,I.tok _,rfl,q⟩
end
section
variable {X:Cx} {pins:List (Addr×Obj)} {σ:St} {H:Hp} {s:Shared}
theorem Aa.track{a:Addr}{o:HO}(I:Aa X pins σ H s)(hn:H a=none)(h0:X.s₀.heap.get? a=none)(hl:a≠X.env.locals)(hc:∀x c,X.env.cells.lookup x=some c->c≠a)(hp:∀p∈X.pn++pins,p.1≠a)
  (ho:a7 X.prog X.w (upd H a o) s.heap a o):Aa X pins σ (upd H a o) s where
 ok:=I.ok
 os:=I.os
 bare:=I.bare
 base:={
  keep:=I.base.keep
  slot:=I.base.slot
  free:=fun b ob e n hx=>by
   rw[aH (fun z=>by subst z;rw[h0]at e;cases e)];exact I.base.free b ob e n hx
  there:=I.base.there
  tups:=fun b xs q=>by
   have z:=I.base.tups b xs q;rw[aH (aQ z hn)];exact z
  frzs:=fun b ob u q=>by
   have z:=I.base.frzs b ob u q;rw[aH (aQ z hn)];exact z
  tbls:=fun b ps q=>by
   obtain⟨m,z⟩:=I.base.tbls b ps q;exact⟨m,by rw[aH (aQ z hn)];exact z⟩ }
 loc:=I.loc
 cell:=I.cell
 free:=by rw[aH (Ne.symm hl)];exact I.free
 freeC:=fun x c e=>by rw[aH (hc x c e)];exact I.freeC x c e
 pin:=fun p m=>by
  obtain⟨p1,p2,p3⟩:=I.pin p m;exact⟨p1,by rw[aH (hp p m)];exact p2,p3⟩
 hok:=fun b u q=>by
  by_cases hb:b=a
  ·subst hb
   rw[upd_same]at q;cases q;exact ho
  ·rw[aH hb]at q
   exact(I.hok b u q).stay (fun _ _ _ r=>r) (fun c r=>by rw[aH (aQ r hn)];exact r) fun c xs r=>by rw[aH (aQ r hn)];exact r
 len:=I.len
theorem jg{M:Model}{A:Around}{E:Value->Shared->Prop}{i:Nat}{x:Str}{pos:Pos}{Q:Unit->Shared->Prop}(I:Aa X pins σ H s)(hN:X.N.Nodup)(hi:X.N[i]? = some x)(hk:X.env.kindOf x=some .local)
  (h:∀s',Aa X pins (σ.set i none) H s'->Q () s'):wpAny M A (do bindName X.env x .none;unbindBehindTheSuite X.env x pos) Q E s:=by
 obtain⟨m,hn,hl⟩:=id I.loc;have plain:(X.env.scope.kind == .class || (X.env.scope.kind == .module && X.env.locals != X.env.globals))=false:=by rw[I.ok.kind];rfl
 have iσ:i<σ.length:=by rw[I.len];exact(List.getElem?_eq_some_iff.mp hi).1
 have cne:=I.cne;refine wpAny_nameGoes_keeps hk hn plain (fun h' v hn' sb=>?_);have far:∀{b:Addr} {o:Obj},X.s₀.heap.get? b=some o->b≠X.env.locals:=fun e=>Nat.ne_of_lt (Nat.lt_of_lt_of_le (Heap.lt_size e) I.ok.above);refine h _ ⟨I.ok,I.os,I.bare,⟨fun b o e n hb hx=>(sb.2 b (far e)).trans (I.base.keep b o e n hb hx),fun b o e n hb hx=>?_,I.base.free,fun b o e hx=>?_,I.base.tups,I.base.frzs,I.base.tbls⟩,⟨_,hn',fun j y v' e1 e2 e3=>?_⟩,fun y c e=>?_,I.free,I.freeC,fun p hp=>?_,fun b ob e=>?_,by simpa using I.len⟩
 ·obtain⟨sl,z⟩:=I.base.slot b o e n hb hx
  exact⟨sl,(sb.2 b (far e)).trans z⟩
 ·obtain⟨o',z⟩:=I.base.there b o e hx
  exact⟨o',(sb.2 b (far e)).trans z⟩
 ·by_cases hj:j=i
  ·subst hj
   rw[List.getElem?_set_self iσ]at e2;cases e2
  ·rw[List.getElem?_set_ne (Ne.symm hj)]at e2
   obtain⟨u',r',q⟩:=hl j y v' e1 e2 e3;refine⟨u',r',?_⟩;rcases q with⟨k,e⟩|⟨k,c,e,z⟩
   ·have ny:y≠x:=fun e=>hj (jE hN e1 (e▸hi))
    exact .inl ⟨k,by simp[ny,e]⟩
   ·exact .inr ⟨k,c,e,z.sameBut sb (cne y c e)⟩
 ·obtain⟨w',z⟩:=I.cell y c e
  exact⟨w',z.sameBut sb (cne y c e)⟩
 ·obtain⟨e,n,ne,nf,d⟩:=I.pin p hp
  exact⟨(sb.2 p.1 ne).trans e,n,ne,nf,d⟩
 ·refine(I.hok b ob e).stay (fun c w' hc q=>(sb.2 c ?_).trans q) (fun _ q=>q) fun _ _ q=>q
  rintro rfl;rcases hc with rfl|hc
  ·rw[I.free]at e
   cases e
  ·rw[I.free]at hc
   cases hc
end
def CY.drop(D:CY)(i:Nat):CY:={ nx:=fun σ H=>D.nx (σ.set i none) H,rt:=D.rt,bk:=fun σ H=>D.bk (σ.set i none) H,ct:=fun σ H=>D.ct (σ.set i none) H }
section
variable {X:Cx}
theorem rL{pins:List (Addr×Obj)}{σ:St}{H:Hp}{s s':Shared}{E1:XK}{ev:Value}{x en:Str}{B C:Addr}{np pos:Pos}{b₀:Stmt}{suite:List Stmt}{rest:List ExceptHandler}{D:CY}{th:TS}{Ex:Value->Shared->Prop}{i:Nat}
  (I:Aa X pins σ H s) (stk:X.stack=X.env::X.outer) (hf:X.env.frame=some X.env.locals) (O:Bq X.K X.mg x B) (hg:Gl X x) (hm:W.exmOne X.K (.ref C) (.ref B)=some true) (hex:X.ex = []) (hN:X.N.Nodup) (hi:X.N[i]? = some en) (hk:X.env.kindOf en=some .local) (h:CXE X.prog X.w X.stack H s E1 ev s')
  (hE:∀c o H',E1 c o H'->c = .ref C∧∀e:Addr,H' e=none->th (D.drop i) (σ.set i (some (.ref e))) (upd H' e (gT C e))) (hb:∀e:Addr,PSs (X.inH e) (b₀::suite) th) (hdb:(x == ("__debug__" : Str))=false:=by decide) :
  wpAny (model X.prog X.w) X.A (noteFrame ev X.env) (fun _ s₂=>wpAny (model X.prog X.w) X.A (setFlight ev none) (fun _ s₃ =>
   wpAny (model X.prog X.w) X.A (handleBy ev X.env (.ExceptHandler (some (.Name x np)) (some en) (b₀::suite) pos::rest)) (SP X pins D) Ex s₃) Ex s₂) Ex s':=by
 obtain⟨ea,t,cls,H',B',rfl,os,bare,un,hok,fl,big,q⟩:=h;obtain⟨rfl,rd⟩:=hE _ _ _ q;have hfr:=I.ok.frames;rw[stk]at hfr;have fr:∀b∈frs X.stack,H b=none∧∀o,s'.heap.get? b=some o->∀vs,o.data≠.fields vs:=fun b hb=>⟨I.stkFree b hb,fun o eo=>by
  obtain⟨_,o',eo',nf⟩:=fl.2.2.1.mem hb;rw[eo]at eo';cases eo';exact nf⟩
 have J:∀h2:Heap,B'.StaysIn h2->s'.heap.UpToSlots h2->Aa X pins σ H' { s' with heap:=h2 }:=fun h2 st2 sl =>
  I.call' (s':={ s' with heap:=h2 }) (ch:=[]) os (Un.fly un big fl.1 st2 sl fr) (HOk.fly hok big fl.1 st2) bare fun b z=>absurd z (by simp)
 have hn:H' ea=none:=by
  cases hz:H' ea with
  | none=>rfl
  | some o =>
   obtain⟨ob,e⟩:=big.tr ea o hz;rw[fl.2.1]at e;cases e
 have new:∀b o,s.heap.get? b=some o->b≠ea:=fun b o e z=>by
  subst z
  by_cases hb:b∈frs X.stack
  ·obtain⟨_,o',eo',nf⟩:=fl.2.2.1.mem hb
   obtain⟨oe',vs,e1,_,e2,_⟩:=fl.first
   rw[eo']at e1;cases e1;exact nf vs e2
  ·obtain⟨ob,e1⟩:=big.old b o e hb
   rw[fl.2.1]at e1;cases e1
 have fl0:=fl;rw[stk]at fl0;refine wpAny_looks_onW (L:=X.env.locals) hfr hf fl0 fun h4 hheld up4=>?_;refine wpAny_landsW hheld fun h5 fl5 up5=>?_;have up45:=up4.trans up5;have I5:=(J h5 fl5.1 up45).inH ea;obtain⟨oe,he,hc⟩:=fl5.there;refine wpAny_handleBy_cons (codeAny_handlers_test (eA I5 hg O.bound ?_ hdb)) (by intro z;cases z);have LT:W.Looks (model X.prog X.w) h5 (typeOf (.ref ea)) (.ref C):=hc▸(W.Looks.ld he).andThen .now;refine(W.exm_one I5.kIn LT hm).here (codeAny_handlers_suite_as ?_);refine lands_againW fl5 fun h6 fl6 up6=>?_;have I6:=(J h6 fl6.1 (up45.trans up6)).inH ea;have I7:=I6.track (a:=ea) (o:=gT C ea) hn (by
  cases hz:X.s₀.heap.get? ea with
  | none=>rfl
  | some o =>
   obtain⟨o',e⟩:=I.base.there ea o hz (by rw[hex];exact List.not_mem_nil);exact absurd rfl (new ea o' e)) (fun z=>by
  obtain⟨m,⟨o',_,_,e,_⟩,_⟩:=I.loc;exact new _ o' e z.symm) (fun y c e z=>by
  obtain⟨v,o',e',_⟩:=I.cell y c e;exact new _ o' e' z) (fun p hp z=>new _ _ (I.pin p hp).1 z) (vV fl6.there)
 refine gz (X:=X.inH ea) I7 hN hi (.inl hk) (show aU (.ref ea) (.ref ea) from rfl) (fun s8 I8=>?_) (.inr hk);refine wpAny_mono (hb ea pins _ _ _ (D.drop i) I8 (rd ea hn)) (fun f s9 z=>?_) fun _ _ z=>False.elim z;cases f with
 | next =>
  obtain⟨σ',H2,I9,q9⟩:=z;exact jg (I9.outH I.ok) hN hi hk fun s10 I10=>⟨_,_,I10,q9⟩
 | brk =>
  obtain⟨σ',H2,I9,q9⟩:=z;exact jg (I9.outH I.ok) hN hi hk fun s10 I10=>⟨_,_,I10,q9⟩
 | cont =>
  obtain⟨σ',H2,I9,q9⟩:=z;exact jg (I9.outH I.ok) hN hi hk fun s10 I10=>⟨_,_,I10,q9⟩
 | ret u =>
  obtain⟨v,σ',H2,I9,r,q9⟩:=z;exact jg (I9.outH I.ok) hN hi hk fun s10 I10=>⟨v,_,_,I10,r,q9⟩
end
end L2
namespace Sp8
open PySem PySem.Spec L2 Mth Sp1 Sp2 Sp3
end Sp8
namespace L2
open PySem PySem.Spec PyProof.Rows
theorem yV{X:Cx}{c:Expr}{a b:List Stmt}{tc:TT}{ta tb:TX}{pos:Pos}(hc:PT X.nox c tc)(ha:PXs X a ta)(hb:PXs X b tb):PX X (.If c a b pos) (fun R D σ H=>tc σ H fun d H1=>if d=true then ta R D σ H1 else tb R D σ H1):=by
 intro pins s σ H D R I h;refine wpAny_If (wpAny_mono (hc pins s σ H _ (I.wish _) h) (fun d s1 ⟨H1,I1,q1⟩=>?_) fun _ _ z=>False.elim z);cases d with
 | true=>exact ha pins s1 σ H1 D R I1.unwish q1
 | false=>exact hb pins s1 σ H1 D R I1.unwish q1
theorem kD:bootBuiltins "ValueError" = some (.type "ValueError"):=by decide +kernel
theorem SqT.mod{K:W.Frag}{H:Hp}{a:Addr}{oc:Value}{od:Option Addr}{its:Array Value}{n:Nat}{sl:Array (Option Value)}{xs:List V}(hk:K.lookup a=some ⟨oc,od,.seq its n,sl⟩)(hc:oc = .type "tuple")(hz:its.size≤100)(r:aN xs its.toList):SqT K H a xs :=
 .inr ⟨_,its,n,hk,hc,rfl,Nat.le_of_lt (aM (by omega)),r⟩
end L2
namespace Sp24
open PySem PySem.Spec L2 Mth Sp1 Sp2 Sp3 Sp8
def sg(n:Int):Int:=if n>0 then 1 else if n<0 then -1 else 0
def ssq(n:Int):Int:=n*(if n<0 then -n else n)
def swr(w p u:Int):Int:=sg (ssq w+ssq p*u)
def bV(w p u s b:Int):Int:=if sg w*sg (ssq p*u+ssq s*b)≥0 then sg (sg w+sg (ssq p*u+ssq s*b)) else sg w*swr (w*w - p*p*u - s*s*b) (-2*p*s) (u*b)
def ro(a0 a1 a2 a3 b0 b1 b2 b3:Int):Int:=bV (a0*b3 - b0*a3) (a1*b3) a2 (-b1*a3) b2
theorem jx(n:Int):-1≤sg n∧sg n≤1:=by
 unfold sg
 split
 ·omega
 ·split <;> omega
theorem i8(n:Int):aq (sg n)≤10:=eC (by have:=jx n;omega) (by have:=jx n;omega)
theorem jt{n:Int}{k:Nat}(h:aq n≤k):aq (ssq n)≤k+k:=bits_mul h (bits_abs h)
inductive C8 (vs:List V) (H:Hp) (Q:VK) (x_3:XK):Prop
 | mk:∀n:Int,(vs = [.int n])->(Q (.int (sg n)) H)->C8 vs H Q x_3
structure Rt(K:W.Frag)(H:Hp)(p:Addr)(a0 a1 a2 a3:Int):Prop where
 at_:SqT K H p [.int a0,.int a1,.int a2,.int a3]
 b0:aq a0≤450
 b1:aq a1≤450
 b2:aq a2≤1000
 b3:aq a3≤450
inductive EJ (K:W.Frag) (vs:List V) (H:Hp) (Q:VK) (x_3:XK):Prop
 | mk:∀(p q:Addr) (a0 a1 a2 a3 b0 b1 b2 b3:Int),(vs = [.ref p,.ref q])->(Rt K H p a0 a1 a2 a3)->(Rt K H q b0 b1 b2 b3)->(Q (.int (ro a0 a1 a2 a3 b0 b1 b2 b3)) H)->EJ K vs H Q x_3
structure Cn(H:Hp)(p:Addr)(x y:Int):Prop where
 at_:H p=some (.tup [.int x,.int y])
 bx:aq x≤50
 by_:aq y≤50
theorem Cn.mono{H H':Hp}{p:Addr}{x y:Int}(c:Cn H p x y)(s:Same H H'):Cn H' p x y:=⟨s _ _ c.at_,c.bx,c.by_⟩
structure Sq(H:Hp)(p:Addr)(a b:Int):Prop where
 at_:H p=some (.tup [.int a,.int b])
 ba:aq a≤230
 bb:aq b≤130
theorem Sq.mono{H H':Hp}{p:Addr}{x y:Int}(c:Sq H p x y)(s:Same H H'):Sq H' p x y:=⟨s _ _ c.at_,c.ba,c.bb⟩
def lo(x y x' y' a b:Int):Int:=sg (a - ((x' - x)*(x' - x)+(y' - y)*(y' - y))*b)
inductive FF (vs:List V) (H:Hp) (Q:VK) (x_3:XK):Prop
 | mk:∀(p q r:Addr) (x y x' y' a b:Int),(vs = [.ref p,.ref q,.ref r])->(Cn H p x y)->(Cn H q x' y')->(Sq H r a b)->(Q (.int (lo x y x' y' a b)) H)->FF vs H Q x_3
def cI(bx by_ ex ey:Int):Int:=(ex - bx)*(ex - bx)+(ey - by_)*(ey - by_)
def rAl(cx cy bx by_ ex ey:Int):Int:=(cx - bx)*(ex - bx)+(cy - by_)*(ey - by_)
def rBe(cx cy bx by_ ex ey:Int):Int:=(cx - bx)*(ey - by_) - (cy - by_)*(ex - bx)
def rUn(cx cy bx by_ ex ey a b:Int):Int:=b*(a*cI bx by_ ex ey - b*rBe cx cy bx by_ ex ey*rBe cx cy bx by_ ex ey)
inductive Eh (vs:List V) (H:Hp) (Q:VK) (x_3:XK):Prop
 | mk:∀(pc pb pe ps:Addr) (cx cy bx by_ ex ey a b:Int),(vs = [.ref pc,.ref pb,.ref pe,.ref ps])->(Cn H pc cx cy)->(Cn H pb bx by_)->(Cn H pe ex ey)->(Sq H ps a b)->(∀r H',Same H H'->H' r=some (.tup [.int (rAl cx cy bx by_ ex ey*b),.int (rUn cx cy bx by_ ex ey a b),.int (cI bx by_ ex ey*b)])->Q (.ref r) H')->Eh vs H Q x_3
def pwN(cx cy bx by_ ex ey a b room:Int):Bool :=
 if [bx,by_] = [ex,ey] then !decide (lo cx cy bx by_ a b≥room)
 else decide (sg (rUn cx cy bx by_ ex ey a b)<room) || (decide (ro 1 0 0 1 (rAl cx cy bx by_ ex ey*b) (-1) (rUn cx cy bx by_ ex ey a b) (cI bx by_ ex ey*b)<room) ||
  decide (ro (rAl cx cy bx by_ ex ey*b) 1 (rUn cx cy bx by_ ex ey a b) (cI bx by_ ex ey*b) 0 0 0 1<room))
def sqV(H:Hp):V->Bool
 | .ref p=>match H p with
  | some (.tup [.int a,.int b])=>lowB a b && !decide (a<0)
  | _=>false
 | _=>false
inductive Ej (C:Addr) (vs:List V) (H:Hp) (Q:VK) (E:XK):Prop
 | mk:∀x,(vs = [x])->(Bp H x)->((sqV H x=false->E (.ref C) none H))->((sqV H x=true->Q .non H))->Ej C vs H Q E
theorem u8{H:Hp}{x:V}(h:iK H x=false):sqV H x=false:=by
 unfold sqV
 split
 ·split
  ·rename_i p _ a b e
   rw[tI e]at h;rw[h,Bool.false_and]
  ·rfl
 ·rfl
theorem u5{H:Hp}{p:Addr}{a b:Int}(e:H p=some (.tup [.int a,.int b])):sqV H (.ref p)=(lowB a b && !decide (a<0)):=by
 simp only[sqV,e]
end Sp24
namespace L2
open PySem PySem.Spec PyProof.Rows
end L2
namespace Sp7
open PySem PySem.Spec L2 Mth Sp1 Sp2 Sp3
def ic:Int:=999999999999
def Sm(x:Int):Prop:=-ic≤x∧x≤ic
structure LineM(H:Hp)(l:Addr)(qs:Crn):Prop where
 lst:H l=some (.lst (qs.map fun q=>V.ref q.1))
 crn:∀q∈qs,H q.1=some (.tup [.int q.2.1,.int q.2.2])∧Sm q.2.1∧Sm q.2.2
theorem LineM.mono{H H':Hp}{l:Addr}{qs:Crn}(L:LineM H l qs)(s:Same H H'):LineM H' l qs:=⟨s _ _ L.lst,fun q h=>⟨s _ _ (L.crn q h).1,(L.crn q h).2⟩⟩
def retScope(s:Stmt):Scope:=match s with
 | .Return (some (.Call _ [.ListComp _ _ sc _] _ _)) _=>sc
 | .Return (some (.ListComp _ _ sc _)) _=>sc
 | _=>{ kind:=.function,names:=[],isGenerator:=false,isCoroutine:=false }
end Sp7
namespace L2
open PySem PySem.Spec PyProof.Rows
theorem Same.at{H H':Hp}{b:Addr}{o:HO}(s:Same H H')(e:H b=some o):H' b=some o:=s b o e
theorem Same.rfl'{H:Hp}:Same H H:=fun _ _ e=>e
theorem alloc{H:Hp}{o:HO}{Q:Addr->Hp->Prop}(h:∀p H1,Same H H1->H1 p=some o->Q p H1):∀p,H p=none->Q p (upd H p o):=fun p hp=>h p _ (Same.new hp) upd_same
theorem bits_add2{i j:Int}{m n:Nat}(hi:aq i≤m)(hj:aq j≤n):aq (i+j)≤max m n+1:=cM (ar hi (Nat.le_max_left _ _)) (ar hj (Nat.le_max_right _ _))
theorem bz{p:Prop}[Decidable p](h:decide p=true):p:=of_decide_eq_true h
theorem bU{p:Prop}[Decidable p](h:decide p=false):¬p:=of_decide_eq_false h
theorem CM.of{i j:Int}{m n:Nat}(hi:aq i≤m)(hj:aq j≤n)(h:m≤1000000∧n≤1000000):CM i j:=CM.b hi hj (by have:(2:Nat)^20=1048576:=(by decide);omega) (by have:(2:Nat)^20=1048576:=(by decide);omega)
theorem bits_of_le{i:Int}{m n:Nat}(h:aq i≤m)(hm:m≤n):aq i≤n:=Nat.le_trans h hm
end L2
namespace L2
open PySem PySem.Spec PyProof.Rows
def SameT(H H':Hp):Prop:=∀b xs,H b=some (.tup xs)->H' b=some (.tup xs)
theorem Same.t{H H':Hp}(s:Same H H'):SameT H H':=fun b xs e=>s b _ e
theorem SameT.refl{H:Hp}:SameT H H:=fun _ _ e=>e
theorem SameT.trans{H H1 H2:Hp}(a:SameT H H1)(b:SameT H1 H2):SameT H H2:=fun c xs e=>b c xs (a c xs e)
theorem SameT.upd{H:Hp}{l:Addr}{xs ys:List V}(hl:H l=some (.lst xs)):SameT H (upd H l (.lst ys)):=fun b zs e=>by
 rw[aH (tm e hl (by intro z;cases z))];exact e
theorem Same.upd{H0 H:Hp}{l:Addr}{o:HO}(s:Same H0 H)(hl:H0 l=none):Same H0 (upd H l o):=fun b u e=>by
 rw[aH (aQ e hl)];exact s b u e
def mw(J:It)(fv:List (Str×Nat))(te:TE)(σ:St)(H1:Hp)(Q:VK):Prop:=∀p,H1 p=none->∃W:Nat->Nat->List V->Hp->Prop,(∃m,W 0 m [] (upd H1 p (.lst [])))∧∀i m acc H2,W i m acc H2 ->
 H2 p=some (.lst acc)∧acc.length<sizeLine∧((J.stop i H2∧Q (.ref p) H2)∨(J.go i H2∧∀x H3,J.yld i H2 x H3->te (some x::fvs fv σ) H3 fun y H4=>H4 p=some (.lst acc)∧∃m',m'<m∧W (i+1) m' (acc++[y]) (upd H4 p (.lst (acc++[y])))))
def xj(wi:TI)(fv:List (Str×Nat))(te:TE):TE:=fun σ H Q=>wi σ H fun J H1=>mw J fv te σ H1 Q
section
variable {X:Cx} {scope:Scope} {cl:List (Str×Addr)} {x:Str} {fv:List (Str×Nat)} {elt iter:Expr} {px pos:Pos} {te:TE}
theorem jC{wi:TI}(hcalm:X.calm=true)(C:DM X scope cl x fv)(hi:PI X (.Name x px) iter wi)(he:∀(fp:List Addr) (s₀:Shared) (H₀:Hp),PE (X.blk (x::fv.map (·.1)) scope cl fp s₀ H₀) elt te)
  (hs:∀v,foldedSetIterable iter X.env v=pure v:=by intro _;rfl):PE X (.ListComp elt [⟨.Name x px,iter,[],0⟩] scope pos) (xj wi fv te):=vq hcalm C hi he hs
end
theorem yh{K:W.Frag}{a:Addr}{xs:List V}{fv:List (Str×Nat)}{te:TE}{σ:St}{H1:Hp}{Q:VK}(hL:SqL K H1 a xs)(hlen:xs.length<1000)(R:Nat->V->Hp->Prop)(hR:∀i v H H',SameT H H'->R i v H->R i v H')
  (hs:∀i x H2 (Kc:VK),xs[i]? = some x->Same H1 H2->(∀y H4,Same H2 H4->R i y H4->Kc y H4)->te (some x::fvs fv σ) H2 Kc)
  (hd:∀l ys H',H1 l=none->Same H1 H'->H' l=some (.lst ys)->ys.length=xs.length->(∀i y,ys[i]? = some y->R i y H')->Q (.ref l) H') :
  mw (Itl K a) fv te σ H1 Q:=by
 intro l hl;refine rJ (K:=K) (a:=a) (xs:=xs) (l:=l) (fv:=fv) (Qp:=fun H2=>Q (.ref l) H2) (fun i acc H2=>acc.length=i∧Same H1 H2∧H2 l=some (.lst acc)∧∀j y,acc[j]? = some y->R j y H2)
  ⟨rfl,Same.new hl,upd_same,fun j y h=>by simp at h⟩ ?_ ?_ ?_
 ·rintro i acc H2 hi ⟨e1,sm,e3,_⟩
  exact⟨sm.seq hL,e3,aM (by omega)⟩
 ·rintro i x acc H2 Kc hx ⟨e1,sm,e3,hr⟩ kk
  refine hs i x H2 Kc hx sm fun y H4 s4 ry=>kk y H4 (s4 _ _ e3) ⟨by simp[e1],(sm.trans s4).upd hl,upd_same,fun j z hz=>?_⟩;have t4:=SameT.upd (ys:=acc++[y]) (s4 _ _ e3);rcases Nat.lt_trichotomy j acc.length with h|h|h
  ·rw[List.getElem?_append_left h]at hz
   exact hR _ _ _ _ (s4.t.trans t4) (hr j z hz)
  ·subst h
   rw[List.getElem?_append_right (Nat.le_refl _),Nat.sub_self]at hz;cases hz;rw[e1];exact hR _ _ _ _ t4 ry
  ·rw[List.getElem?_eq_none (by simp;omega)]at hz
   cases hz
 ·rintro acc H2 ⟨e1,sm,e3,hr⟩
  exact hd l acc H2 hl sm e3 e1 hr
theorem vY{n:Nat}{lo:Int}{fv:List (Str×Nat)}{te:TE}{σ:St}{H1:Hp}{Q:VK}(hlen:n<1000)(R:Nat->V->Hp->Prop)(hR:∀i v H H',SameT H H'->R i v H->R i v H')
  (hs:∀i H2 (Kc:VK),i<n->Same H1 H2->(∀y H4,Same H2 H4->R i y H4->Kc y H4)->te (some (.int (lo+i))::fvs fv σ) H2 Kc)
  (hd:∀l ys H',H1 l=none->Same H1 H'->H' l=some (.lst ys)->ys.length=n->(∀i y,ys[i]? = some y->R i y H')->Q (.ref l) H') :
  mw (Itr lo n) fv te σ H1 Q:=by
 intro l hl;refine jW (n:=n) (lo:=lo) (l:=l) (fv:=fv) (Qp:=fun H2=>Q (.ref l) H2) (fun i acc H2=>acc.length=i∧Same H1 H2∧H2 l=some (.lst acc)∧∀j y,acc[j]? = some y->R j y H2)
  ⟨rfl,Same.new hl,upd_same,fun j y h=>by simp at h⟩ ?_ ?_ ?_
 ·rintro i acc H2 hi ⟨e1,sm,e3,_⟩
  exact⟨e3,aM (by omega)⟩
 ·rintro i acc H2 Kc hx ⟨e1,sm,e3,hr⟩ kk
  refine hs i H2 Kc hx sm fun y H4 s4 ry=>kk y H4 (s4 _ _ e3) ⟨by simp[e1],(sm.trans s4).upd hl,upd_same,fun j z hz=>?_⟩;have t4:=SameT.upd (ys:=acc++[y]) (s4 _ _ e3);rcases Nat.lt_trichotomy j acc.length with h|h|h
  ·rw[List.getElem?_append_left h]at hz
   exact hR _ _ _ _ (s4.t.trans t4) (hr j z hz)
  ·subst h
   rw[List.getElem?_append_right (Nat.le_refl _),Nat.sub_self]at hz;cases hz;rw[e1];exact hR _ _ _ _ t4 ry
  ·rw[List.getElem?_eq_none (by simp;omega)]at hz
   cases hz
 ·rintro acc H2 ⟨e1,sm,e3,hr⟩
  exact hd l acc H2 hl sm e3 e1 hr
end L2
namespace L2
open PySem PySem.Spec PyProof.Rows
section
variable {X:Cx} {pos:Pos} {es:List Expr} {ta:TA}
inductive Gn (f:List V->HO) (xs:List V) (H1:Hp) (Q:VK):Prop
 | mk (z:xs.length≤sizeLine) (q:∀p H2,Same H1 H2->H2 p=some (f xs)->H1 p=none->Q (.ref p) H2):Gn f xs H1 Q
def yA(t:TA):TE:=fun σ H Q=>t σ H fun xs H1=>Gn .tup xs H1 Q
def yJ(t:TA):TE:=fun σ H Q=>t σ H fun xs H1=>Gn .lst xs H1 Q
theorem ax{x1}(h:PA X es ta):PE X (.Tuple es x1 pos) (yA ta):=by
 intro pins s σ H Q I hq;refine wpAny_Tuple_spliced (thn (h pos pins s σ H _ I hq) fun us s1 ⟨xs,H1,I1,r,z,q⟩=>⟨by rw[<- r.length];exact z,?_⟩);have hf:H1 s1.heap.objs.size=none:=I1.hok.fresh (Nat.le_refl _);refine⟨.ref s1.heap.objs.size,upd H1 s1.heap.objs.size (.tup xs),I1.laid (t':=s1.toks) (fun b u e=>Heap.get?_push_of_some _ e) (Nat.le_refl _) ?_,rfl,q _ _ (Same.new hf) upd_same hf⟩;exact⟨z,us,r,⟨_,Heap.get?_push_size _ rfl,rfl,_,rfl⟩⟩
theorem aX(h:PA X es ta):PE X (.List es pos) (yJ ta):=by
 intro pins s σ H Q I hq;refine wpAny_List_spliced (thn (h pos pins s σ H _ I hq) fun us s1 ⟨xs,H1,I1,r,z,q⟩=>⟨by rw[<- r.length];exact z,?_⟩);have hf:H1 s1.heap.objs.size=none:=I1.hok.fresh (Nat.le_refl _);refine⟨.ref s1.heap.objs.size,upd H1 s1.heap.objs.size (.lst xs),I1.laid (t':=s1.toks) (fun b u e=>Heap.get?_push_of_some _ e) (Nat.le_refl _) ?_,rfl,q _ _ (Same.new hf) upd_same hf⟩;exact⟨z,us,0,r,Heap.get?_push_size _ rfl⟩
inductive FS (K:W.Frag) (x:V) (lo:Option Int) (hi:Option Int) (H:Hp) (Q:VK):Prop
 | mk:∀a xs,(x = .ref a)->(SqL K H a xs)->(∀p H2,Same H H2->H2 p=some (.lst (kA xs lo hi))->H p=none->Q (.ref p) H2)->FS K x lo hi H Q
theorem mF:SlR X (FS X.K):=fun pins s σ H x v vl vu lo hi sl Q I rx hs pl pu ⟨a,xs,e,hx,q⟩ =>
 u9 pins s σ H x v vl vu lo hi sl Q I rx hs pl pu ⟨a,xs,e,hx,fun p hp=>q p _ (Same.new hp) upd_same hp⟩
inductive FU (x:V) (y:V) (H:Hp) (Q:VK):Prop
 | mk:∀l b xs zs,(x = .ref l)->(y = .ref b)->(H l=some (.lst xs))->(H b=some (.lst zs))->(xs.length+zs.length≤sizeLine)->(∀p H2,Same H H2->H2 p=some (.lst (xs++zs))->H p=none->Q (.ref p) H2)->FU x y H Q
theorem jc:OpR X (binaryOp .Add) FU:=fun pins s σ H x y v u Q I rx ry ⟨l,b,xs,zs,e1,e2,h1,h2,hz,q⟩ =>
 xH pins s σ H x y v u Q I rx ry ⟨l,b,xs,zs,e1,e2,h1,h2,hz,fun p hp=>q p _ (Same.new hp) upd_same hp⟩
theorem kC:eJ X (.type "list") (fun xs H Q=>∃p ys,xs = [.ref p]∧(SqL X.K H p ys∨SqT X.K H p ys)∧∀l H2,Same H H2->H2 l=some (.lst ys)->H l=none->Q (.ref l) H2):=fun pins s σ H xs us Q I r ⟨p,ys,e,hq,q⟩ =>
 mi pins s σ H xs us Q I r ⟨p,ys,e,hq,fun l hl=>q l _ (Same.new hl) upd_same hl⟩
structure EH(H H':Hp)(l:Addr)(xs ys:List V):Prop where
 was:H l=some (.lst xs)
 now:H' l=some (.lst ys)
 oth:∀b,b≠l->H' b=H b
theorem EH.mk'{H:Hp}{l:Addr}{xs ys:List V}(h:H l=some (.lst xs)):EH H (L2.upd H l (.lst ys)) l xs ys:=⟨h,upd_same,fun _ n=>aH n⟩
theorem EH.t{H H':Hp}{l:Addr}{xs ys:List V}(u:EH H H' l xs ys):SameT H H':=fun b zs e=>by
 rw[u.oth b (tm e u.was (by intro z;cases z))];exact e
theorem EH.same{H0 H H':Hp}{l:Addr}{xs ys:List V}(u:EH H H' l xs ys)(s:Same H0 H)(h:H0 l=none):Same H0 H':=fun b o e=>by
 rw[u.oth b (aQ e h)];exact s b o e
theorem EH.at{H H':Hp}{l b:Addr}{xs ys:List V}{o:HO}(u:EH H H' l xs ys)(n:b≠l)(e:H b=some o):H' b=some o:=by
 rw[u.oth b n];exact e
inductive DV (x:V) (vs:List V) (H:Hp) (Q:VK):Prop
 | mk:∀l xs y,(x = .ref l)->(vs = [y])->(H l=some (.lst xs))->(xs.length<sizeLine)->(∀H',EH H H' l xs (xs++[y])->Q .non H')->DV x vs H Q
theorem aZ:MtM X "list.append" DV:=fun pins s σ H x xs v us Q I rx rs ⟨l,ys,y,e1,e2,h,hz,q⟩ =>
 ia pins s σ H x xs v us Q I rx rs ⟨l,ys,y,e1,e2,h,hz,q _ (.mk' h)⟩
inductive FA (o:V) (i:V) (v:V) (H:Hp) (Q:(Hp->Prop)):Prop
 | mk:∀p xs k j,(o = .ref p)->(i = .int k)->(H p=some (.lst xs))->(ixN xs.length k=some j)->(∀H',EH H H' p xs (xs.set j v)->Q H')->FA o i v H Q
theorem qE:yu X FA:=fun pins s σ H o i v uo ui uv Q I ro ri rv ⟨p,xs,k,j,e1,e2,h,hj,q⟩ =>
 sx pins s σ H o i v uo ui uv Q I ro ri rv ⟨p,xs,k,j,e1,e2,h,hj,q _ (.mk' h)⟩
inductive D5 (x:V) (vs:List V) (H:Hp) (Q:VK):Prop
 | mk:∀l xs,(x = .ref l)->(vs = [])->(H l=some (.lst xs))->(∀H',EH H H' l xs xs.reverse->Q .non H')->D5 x vs H Q
theorem iB:MtM X "list.reverse" D5:=fun pins s σ H x xs v us Q I rx rs ⟨l,ys,e1,e2,h,q⟩ =>
 oJ pins s σ H x xs v us Q I rx rs ⟨l,ys,e1,e2,h,q _ (.mk' h)⟩
end
end L2
namespace L2
open PySem PySem.Spec PyProof.Rows
theorem yZ{K:W.Frag}{H:Hp}{l:Addr}{xs:List V}{i:Int}{Q:VK}(e:H l=some (.lst xs))(h0:0≤i)(h1:i<(xs.length:Int))(h:∀v∈xs,Q v H):FG K (.ref l) (.int i) H Q:=by
 obtain⟨v,hv,mv⟩:=Sp1.atI_mem h0 h1;exact⟨l,xs,i,v,rfl,rfl,SqL.of e,hv,h v mv⟩
theorem iL{α:Type}{xs:List α}(h:xs.length=3):∃a b c,xs = [a,b,c]:=match xs,h with | [a,b,c],_=>⟨a,b,c,rfl⟩
theorem dw{α:Type}{xs:List α}(h:xs.length=2):∃a b,xs = [a,b]:=match xs,h with | [a,b],_=>⟨a,b,rfl⟩
theorem tQ{α:Type}{xs:List α}(h:xs.length=4):∃a b c d,xs = [a,b,c,d]:=match xs,h with | [a,b,c,d],_=>⟨a,b,c,d,rfl⟩
theorem vF{α:Type}{xs:List α}(h:xs.length=5):∃a b c d e,xs = [a,b,c,d,e]:=match xs,h with | [a,b,c,d,e],_=>⟨a,b,c,d,e,rfl⟩
theorem len6{α:Type}{xs:List α}(h:xs.length=6):∃a b c d e f,xs = [a,b,c,d,e,f]:=match xs,h with | [a,b,c,d,e,f],_=>⟨a,b,c,d,e,f,rfl⟩
end L2
namespace L2
open PySem PySem.Spec PyProof.Rows
section
variable {X:Cx} {pins:List (Addr×Obj)} {σ:St} {H:Hp} {s:Shared}
theorem Aa.turnedL{h':Heap}{t':Nat}{ch:List Addr}(I:Aa X pins σ H s)(k:∀b o,b∉ch->s.heap.get? b=some o->h'.get? b=some o)(hf:∀b∈ch,eO X pins H b):Aa X pins σ H { s with heap:=h',toks:=t' }:=by
 have nit:∀b u,H b=some u->b∉ch:=fun b u e z=>by
  have n:=(hf b z).1;rw[n]at e;cases e
 refine I.step (g':=s.gens) (d':=s.drawn) (ch:=ch) (fun b hb=>?_) (fun b o _ _ hc e _=>k b o hc e) (fun b o _ _ hc e _=>⟨o.slots,k b o hc e⟩) (fun _ _ _ _ n=>n)
  (fun b o hc e=>⟨o,k b o hc e⟩) (fun _ _ e=>e) (fun _ _ _ e=>e) (fun b ps e=>⟨#[],by rw[e];simp⟩) (fun m hm=>?_) (fun b u e=>?_) I.bare
 ·obtain⟨f0,f1,f2,f3,f4,f5⟩:=hf b hb
  exact⟨f3,f1,f4,f5⟩
 ·obtain⟨o,es,ep,ho,r⟩:=hm
  exact⟨o,es,ep,k _ o (fun z=>(hf _ z).2.1 rfl) ho,r⟩
 ·refine(I.hok b u e).stay (fun c v hc q=>k c v ?_ q) (fun _ q=>q) fun _ _ q=>q
  rcases hc with z|z
  ·rw[z];exact nit b u e
  ·exact nit c _ z
theorem qz{E:Value->Shared->Prop}{elts:List Expr}{kt:Nat}{pos:Pos}{i n:Nat}{z:Addr}{fpw wr:List Addr}{Pt:Nat->Array Value->Prop}{Stt:Nat->Heap->Prop}{Mid:Nat->Addr->Heap->Prop}{R:Value->Shared->Prop}
  (W:WalksT X.prog X.w X.A z fpw wr n Pt Stt Mid) (I:Aa X pins σ H s) (hwr:∀b∈wr,eO X pins H b) (hi:i<n) (st:Stt i s.heap)
  (k:∀T vals s2,Pt i vals->s.heap.objs.size≤T->s2.heap.IsTuple T vals->Stt (i+1) s2.heap->Aa X pins σ H s2->(∀b o,b∉wr->s.heap.get? b=some o->s2.heap.get? b=some o)->R (.ref T) s2) :
  wpAny (model X.prog X.w) X.A (pyNext (.ref z)) (fun r s1=>∃u,r=some u∧wpAny (model X.prog X.w) X.A (letOwnedTupleGo (.Tuple elts kt pos) (.ref z) u) (fun _ s2=>R u s2) E s1) E s:=by
 refine W.item i s _ E hi st fun T vals h' tk hp hT tup mid kk=>⟨.ref T,rfl,?_⟩;refine W.go elts kt pos i T _ _ E mid fun h2 st2 k2=>?_;have kall:∀b o,b∉wr->s.heap.get? b=some o->h2.get? b=some o:=fun b o hb e=>k2 b o hb (kk b o hb e);obtain⟨o,eo,ro⟩:=tup;exact k T vals _ hp hT ⟨o,k2 T o (W.apart i T _ mid) eo,ro⟩ st2 (I.turnedL (t':=tk) kall hwr) kall
theorem qC{T:Addr}{s2:Shared}{xs:List V}{us:List Value}(I:Aa X pins σ H s)(J:Aa X pins σ H s2)(hT:s.heap.objs.size≤T)(ht:s2.heap.IsTuple T us.toArray)(r:aN xs us)(hz:xs.length≤sizeLine):Aa X pins σ (upd H T (.tup xs)) s2∧H T=none:=by
 have hn:H T=none:=I.hok.fresh hT;obtain⟨f0,f1,f2,f3,f4,f5⟩:=I.fpOk hT hn;refine⟨J.track hn ?_ f1 f4 f5 ⟨hz,us,r,ht⟩,hn⟩;cases e:X.s₀.heap.get? T with
 | none=>rfl
 | some o =>
  have h1:=Heap.lt_size e;have h2:=I.sz;exact absurd (Nat.lt_of_lt_of_le h1 (Nat.le_trans h2 hT)) (Nat.lt_irrefl _)
end
def Ite(K:W.Frag)(l:Addr):It :=
  ⟨fun i H=>∃xs x,SqL K H l xs∧xs[i]? = some x,
   fun i H v H'=>∃p x,v = .ref p∧H p=none∧H'=upd H p (.tup [.int (i:Int),x])∧∀xs,SqL K H l xs->xs[i]? = some x,
   fun i H=>∃xs,SqL K H l xs∧i=xs.length⟩
theorem qA{P:Program}{w:World}{K:W.Frag}{elts:List Expr}{kt:Nat}{pos:Pos}(e it l:Addr)(hei:e≠it)(hle:l≠e)(hli:l≠it) :
  Em P w K (.Tuple elts kt pos) (Ite K l) [e,it] e (fun i h=>(∃old,IsEnum h e it i old)∧h.IsListIter it l i) where
 mem:=by simp
 obj:=fun i h st b hb=>by
  obtain⟨⟨old,he⟩,⟨o1,e1,c1,d1⟩⟩:=st;simp only[List.mem_cons,List.not_mem_nil,or_false]at hb;rcases hb with rfl|rfl
  ·exact⟨_,he,fun v y=>by cases y⟩
  ·exact⟨o1,e1,fun v y=>by rw[d1]at y;cases y⟩
 keep:=fun i h h' st k=>by
  obtain⟨⟨old,he⟩,h1⟩:=st;exact⟨⟨old,k e (by simp) _ he⟩,h1.at fun o x=>k it (by simp) o x⟩
 item:=by
  intro X hP hw hK hc i pins s σ H E I hf st hg;subst hP hw hK;obtain⟨xs,x,q1,hx⟩:=hg;obtain⟨its,r1,p1,_⟩:=I.list q1;obtain⟨u1,hu1,ru1⟩:=r1.get hx;have W:=WalksT.enumerate (prog:=X.prog) (w:=X.w) (I.ok.hd hc) e it l hei hle hli its.toArray;have hn:i<its.toArray.size:=by
   have g1:=(List.getElem?_eq_some_iff.mp hu1).1;simp only[List.size_toArray];omega
  obtain⟨he,h1⟩:=st;refine qz W I (fun b hb=>hf b (by simpa using hb)) hn ⟨he,h1,p1.isList⟩ fun T vals s2 hp hT tup st2 J2 kall=>?_;obtain⟨tk,v1,e1,rfl⟩:=hp;have e1':its[i]? = some v1:=by simpa using e1
  rw[hu1]at e1';cases e1';obtain⟨J3,nT⟩:=qC (xs:=[.int (i:Int),x]) (us:=[.int i tk,u1]) I J2 hT tup (.cons ⟨_,rfl⟩ (.cons ru1 .nil)) (Sp1.sz (by simp));obtain⟨he2,h12,_⟩:=st2;refine⟨.ref T,upd H T (.tup [.int (i:Int),x]),J3,rfl,⟨T,x,rfl,nT,rfl,fun as qa=>?_⟩,⟨he2,h12⟩,fun b hb=>?_⟩
  ·rw[I.list_inj qa q1]
   exact hx
  ·have hb':∃o,s.heap.get? b=some o:=by
    obtain⟨old,he⟩:=he;obtain⟨o1,e1,_⟩:=h1;simp only[List.mem_cons,List.not_mem_nil,or_false]at hb;rcases hb with rfl|rfl
    ·exact⟨_,he⟩
    ·exact⟨_,e1⟩
   obtain⟨o,eo⟩:=hb';rw[aH (Nat.ne_of_lt (Nat.lt_of_lt_of_le (Heap.lt_size eo) hT))];exact(hf b hb).1
 done:=by
  intro X hP hw hK hc i pins s σ H E I hf st hg;subst hP hw hK;obtain⟨xs,q1,rfl⟩:=hg;obtain⟨its,r1,p1,_⟩:=I.list q1;have W:=WalksT.enumerate (prog:=X.prog) (w:=X.w) (I.ok.hd hc) e it l hei hle hli its.toArray;obtain⟨he,h1⟩:=st;refine W.done s _ E ?_ fun h' tk kk=>⟨rfl,I.turnedL (t':=tk) kk fun b hb=>hf b (by simpa using hb)⟩;rw[List.size_toArray,<- r1.length];exact⟨he,h1,p1.isList⟩
 self:=fun _ _ _ _ _ st h=>by
  obtain⟨⟨old,he⟩,_⟩:=st;exact wpAny_pyIter_enum he h
section
variable {X:Cx} {elts:List Expr} {kt:Nat} {tpos:Pos}
def zd(K:W.Frag)(ta:TA):TI:=fun σ H R=>ta σ H fun vs H1=>∃a,vs = [.ref a]∧(∃xs,SqL K H1 a xs)∧R (Ite K a) H1
theorem mj:bootBuiltins "enumerate" = some (.type "enumerate"):=by decide +kernel
theorem jb{a:Expr}{ta:TA}{p pos:Pos}(hg:Gl X "enumerate")(hm:X.mg "enumerate" = none)(ha:PA X [a] ta)(hs:starEach [a] X.env = [(false,eval a X.env)]:=by rfl) :
  PI X (.Tuple elts kt tpos) (.Call (.Name "enumerate" p) [a] [] pos) (zd X.K ta):=by
 intro pins s σ H R I h;refine Call_ (fW I hg hm mj (PyProof.Rows.callWith_type1 (thn (ha pos pins s σ H _ I h) fun us s1 ⟨vs,H1,I1,r1,q1⟩=>?_) hs rfl));obtain⟨l,e,⟨xs,hx⟩,q⟩:=q1;subst e;cases r1 with
 | cons r rr =>
  cases rr;cases r;obtain⟨its,_,p1,_⟩:=I1.list hx;refine call_enumerate_list p1.isList fun h' he hi hsz hk=>?_;refine wpAny_pyIter_enum he ?_;have a1:l<s1.heap.objs.size:=by obtain⟨_,e,_⟩:=p1.isList;exact Heap.lt_size e
  refine⟨s1.heap.objs.size+1,[s1.heap.objs.size+1,s1.heap.objs.size],_,_,H1,rfl,I1.kept (t':=s1.toks) hk,qA _ _ l (Nat.succ_ne_self _) (Nat.ne_of_lt (Nat.lt_succ_of_lt a1)) (Nat.ne_of_lt a1),⟨⟨_,he⟩,hi⟩,fun b hb=>?_,q⟩;have hb':s1.heap.objs.size≤b:=by
   simp only[List.mem_cons,List.not_mem_nil,or_false]at hb;rcases hb with rfl|rfl <;> omega
  exact I1.fpOk hb' (I1.hok.fresh hb')
end
theorem gM{K:W.Frag}{a:Addr}{xs:List V}{g:TG}{tb:TS}{D:CY}{σ:St}{H:Hp}(Pv:Nat->St->Hp->Prop)(h0:Pv 0 σ H)(hl:∀i σ H,i≤xs.length->Pv i σ H->SqL K H a xs)
  (hs:∀i x p σ H H1,xs[i]? = some x->Pv i σ H->Same H H1->H1 p=some (.tup [.int (i:Int),x])->g (.ref p) σ H1 fun σ2 H2=>tb { D with nx:=Pv (i+1),ct:=Pv (i+1),bk:=D.nx } σ2 H2) (hd:∀σ H,Pv xs.length σ H->D.nx σ H) :
  ∃W:Nat->Nat->St->Hp->Prop,(∃m,W 0 m σ H)∧∀i m σ H,W i m σ H ->
   ((Ite K a).stop i H∧D.nx σ H)∨((Ite K a).go i H∧∃N:St->Hp->Prop,(∀σ' H',N σ' H'->∃m',m'<m∧W (i+1) m' σ' H')∧∀x H',(Ite K a).yld i H x H'->g x σ H' fun σ2 H2=>tb { D with nx:=N,ct:=N,bk:=D.nx } σ2 H2):=by
 refine⟨fun i m σ H=>m=xs.length - i∧i≤xs.length∧Pv i σ H,⟨_,rfl,Nat.zero_le _,h0⟩,?_⟩;rintro i m σ H ⟨rfl,hi,p⟩;have q1:=hl i σ H hi p
 by_cases hlt:i<xs.length
 ·refine .inr ⟨⟨xs,xs[i],q1,by simp[hlt]⟩,Pv (i+1),fun σ' H' p'=>⟨_,by omega,rfl,hlt,p'⟩,fun v H' y=>?_⟩
  obtain⟨t,x,rfl,nt,rfl,e⟩:=y;exact hs i x t σ H _ (e xs q1) p (Same.new nt) upd_same
 ·have e:i=xs.length:=by omega
  subst e;exact .inl ⟨⟨xs,q1,rfl⟩,hd σ H p⟩
end L2
namespace L2
open PySem PySem.Spec PyProof.Rows
inductive D where
 | non|bl (b:Bool)|int (i:Int)|str (x:Str)|tup (ds:List D)|lst (ds:List D)
inductive Rp (H:Hp):Nat->V->D->Prop where
 | non {n:Nat}:Rp H n .non .non
 | bl {n:Nat} {b:Bool}:Rp H n (.bl b) (.bl b)
 | int {n:Nat} {i:Int}:Rp H n (.int i) (.int i)
 | str {n:Nat} {x:Str}:Rp H n (.str x) (.str x)
 | tup {n:Nat} {p:Addr} {xs:List V} {ds:List D} (e:H p=some (.tup xs)) (hl:xs.length=ds.length) (h:∀(j:Nat) x d,xs[j]? = some x->ds[j]? = some d->Rp H n x d):Rp H (n+1) (.ref p) (.tup ds)
 | lst {n:Nat} {p:Addr} {xs:List V} {ds:List D} (e:H p=some (.lst xs)) (hl:xs.length=ds.length) (h:∀(j:Nat) x d,xs[j]? = some x->ds[j]? = some d->Rp H n x d):Rp H (n+1) (.ref p) (.lst ds)
mutual
def deq:D->D->Bool
 | .non,.non=>true
 | .bl a,.bl b=>a == b
 | .bl a,.int b=>(if a then 1 else 0) == b
 | .int a,.bl b=>a == (if b then 1 else 0)
 | .int a,.int b=>a == b
 | .str a,.str b=>a == b
 | .tup xs,.tup ys=>gU xs ys
 | .lst xs,.lst ys=>gU xs ys
 | _,_=>false
def gU:List D->List D->Bool
 | [],[]=>true
 | x::xs,y::ys=>deq x y && gU xs ys
 | _,_=>false
end
theorem fj:∀(ds es:List D),((List.range (min ds.length es.length)).all (fun j=>deq (ds.getD j .non) (es.getD j .non)) && ds.length == es.length)=gU ds es
 | [],[]=>by simp[gU]
 | [],e::es=>by simp[gU]
 | d::ds,[]=>by simp[gU]
 | d::ds,e::es=>by
  have ih:=fj ds es;have hm:min (d::ds).length (e::es).length=min ds.length es.length+1:=by simp only[List.length_cons];omega
  rw[hm,List.range_succ_eq_map,List.all_cons,List.all_map];simp only[gU,List.getD_cons_zero,List.length_cons];rw[<- ih,Bool.and_assoc]
  congr 1
  simp[Function.comp_def]
theorem nV{ds es:List D}(h:ds.length≠es.length):gU ds es=false:=by
 rw[<- fj];simp[h]
theorem iw{ds es:List D}(h:ds.length=es.length):(List.range ds.length).all (fun j=>deq (ds.getD j .non) (es.getD j .non))=gU ds es:=by
 rw[<- fj,h];simp
theorem qm{ds es:List D}(hl:ds.length=es.length)(h:∀(j:Nat) d e,ds[j]? = some d->es[j]? = some e->deq d e=true):gU ds es=true:=by
 rw[<- iw hl,List.all_eq_true];intro j hj;have hj':j<ds.length:=List.mem_range.mp hj;have hj2:j<es.length:=by omega
 have e1:ds[j]? = some ds[j]:=List.getElem?_eq_getElem hj';have e2:es[j]? = some es[j]:=List.getElem?_eq_getElem hj2;rw[List.getD_eq_getElem?_getD,List.getD_eq_getElem?_getD,e1,e2];exact h j _ _ e1 e2
theorem jL{α β:Type}{xs:List α}{ds:List β}{j:Nat}{d:β}(hl:xs.length=ds.length)(h:ds[j]? = some d):∃x,xs[j]? = some x:=by
 have:=(List.getElem?_eq_some_iff.mp h).1;exact⟨xs[j],List.getElem?_eq_getElem (by omega)⟩
theorem Rp.self{H:Hp}{n m:Nat}{v:V}{d e:D}(r:Rp H n v d)(q:Rp H m v e):deq d e=true:=by
 induction r generalizing m e with
 | non=>cases q;rfl
 | bl=>cases q;simp[deq]
 | int=>cases q;simp[deq]
 | str=>cases q;simp[deq]
 | tup e1 hl h ih =>
  cases q with
  | tup e2 hl2 h2 =>
   rw[e1]at e2;cases e2;refine qm (by omega) fun j a b ea eb=>?_;obtain⟨x,hx⟩:=jL hl ea;exact ih j x a hx ea (h2 j x b hx eb)
  | lst e2 hl2 h2=>rw[e1]at e2;cases e2
 | lst e1 hl h ih =>
  cases q with
  | tup e2 hl2 h2=>rw[e1]at e2;cases e2
  | lst e2 hl2 h2 =>
   rw[e1]at e2;cases e2;refine qm (by omega) fun j a b ea eb=>?_;obtain⟨x,hx⟩:=jL hl ea;exact ih j x a hx ea (h2 j x b hx eb)
section
variable {X:Cx} {pins:List (Addr×Obj)} {σ:St} {H:Hp} {s:Shared}
theorem ji{A:Around}{xs ys:List V}{us ws:List Value}{ds es:List D}(r:aN xs us)(r':aN ys ws)(hl:xs.length=ds.length)(hl':ys.length=es.length)
  (h:∀(j:Nat) x y d e u w,xs[j]? = some x->ys[j]? = some y->ds[j]? = some d->es[j]? = some e->aU x u->aU y w->SeqAt.EqAt A s u w (deq d e))
  (j:Nat) (h1:j<us.toArray.size) (h2:j<ws.toArray.size):SeqAt.EqAt A s us.toArray[j] ws.toArray[j] (deq (ds.getD j .non) (es.getD j .non)):=by
 rw[List.size_toArray]at h1 h2;obtain⟨a,ea,ra⟩:=pd r h1;obtain⟨c,ec,rc⟩:=pd r' h2;have g1:=(List.getElem?_eq_some_iff.mp ea).1;have g2:=(List.getElem?_eq_some_iff.mp ec).1;have e1:ds[j]? = some ds[j]:=List.getElem?_eq_getElem (by omega);have e2:es[j]? = some es[j]:=List.getElem?_eq_getElem (by omega);rw[List.getD_eq_getElem?_getD,List.getD_eq_getElem?_getD,e1,e2];exact h j a c _ _ _ _ ea ec e1 e2 ra rc
theorem Rp.eqAt{n:Nat}{x:V}{d:D}(r:Rp H n x d):∀{m:Nat} {y:V} {e:D} {A:Around} {u v:Value},Rp H m y e->Aa X pins σ H s->aU x u->aU y v->A.units+n<cLine->SeqAt.EqAt A s u v (deq d e):=by
 induction r with
 | non =>
  intro m y e A u v q I ru rv hu;cases ru;cases q with
  | non=>cases rv;exact SeqAt.EqAt.same _
  | bl=>cases rv;exact SeqAt.EqAt.none_bool _
  | int=>obtain⟨_,rfl⟩:=rv;exact SeqAt.EqAt.none_int _ _
  | str=>obtain⟨_,rfl⟩:=rv;exact SeqAt.EqAt.none_str _ _
  | tup e1 hl h=>cases rv;obtain⟨its,_,pl,_⟩:=I.tuple (SqT.of e1);exact SeqAt.EqAt.none_tuple pl (by omega)
  | lst e1 hl h=>cases rv;obtain⟨its,_,pl,_⟩:=I.list (SqL.of e1);exact SeqAt.EqAt.none_list pl.isList (by omega)
 | bl =>
  intro m y e A u v q I ru rv hu;cases ru;cases q with
  | non=>cases rv;exact SeqAt.EqAt.bool_none _
  | bl=>cases rv;exact SeqAt.EqAt.bool_bool _ _
  | int=>obtain⟨_,rfl⟩:=rv;exact SeqAt.EqAt.bool_int _ _ _
  | str=>obtain⟨_,rfl⟩:=rv;exact SeqAt.EqAt.bool_str _ _ _
  | tup e1 hl h=>cases rv;obtain⟨its,_,pl,_⟩:=I.tuple (SqT.of e1);exact SeqAt.EqAt.bool_tuple _ pl (by omega)
  | lst e1 hl h=>cases rv;obtain⟨its,_,pl,_⟩:=I.list (SqL.of e1);exact SeqAt.EqAt.bool_list _ pl.isList (by omega)
 | int =>
  intro m y e A u v q I ru rv hu;obtain⟨_,rfl⟩:=ru;cases q with
  | non=>cases rv;exact SeqAt.EqAt.int_none _ _
  | bl=>cases rv;exact SeqAt.EqAt.int_bool _ _ _
  | int=>obtain⟨_,rfl⟩:=rv;exact SeqAt.EqAt.int_int _ _ _ _
  | str=>obtain⟨_,rfl⟩:=rv;exact SeqAt.EqAt.int_str _ _ _ _
  | tup e1 hl h=>cases rv;obtain⟨its,_,pl,_⟩:=I.tuple (SqT.of e1);exact SeqAt.EqAt.int_tuple _ _ pl (by omega)
  | lst e1 hl h=>cases rv;obtain⟨its,_,pl,_⟩:=I.list (SqL.of e1);exact SeqAt.EqAt.int_list _ _ pl.isList (by omega)
 | str =>
  intro m y e A u v q I ru rv hu;obtain⟨_,rfl⟩:=ru;cases q with
  | non=>cases rv;exact SeqAt.EqAt.str_none _ _
  | bl=>cases rv;exact SeqAt.EqAt.str_bool _ _ _
  | int=>obtain⟨_,rfl⟩:=rv;exact SeqAt.EqAt.str_int _ _ _ _
  | str=>obtain⟨_,rfl⟩:=rv;exact SeqAt.EqAt.str_str _ _ _ _
  | tup e1 hl h=>cases rv;obtain⟨its,_,pl,_⟩:=I.tuple (SqT.of e1);exact SeqAt.EqAt.str_tuple _ _ pl (by omega)
  | lst e1 hl h=>cases rv;obtain⟨its,_,pl,_⟩:=I.list (SqL.of e1);exact SeqAt.EqAt.str_list _ _ pl.isList (by omega)
 | @tup n p xs ds e0 hl h ih =>
  intro m y e A u v q I ru rv hu;cases ru;obtain⟨its,r1,pl,_⟩:=I.tuple (SqT.of e0);cases q with
  | non=>cases rv;exact SeqAt.EqAt.tuple_none pl (by omega)
  | bl=>cases rv;exact SeqAt.EqAt.tuple_bool _ pl (by omega)
  | int=>obtain⟨_,rfl⟩:=rv;exact SeqAt.EqAt.tuple_int _ _ pl (by omega)
  | str=>obtain⟨_,rfl⟩:=rv;exact SeqAt.EqAt.tuple_str _ _ pl (by omega)
  | lst e1 hl1 h1=>cases rv;obtain⟨jts,_,pl',_⟩:=I.list (SqL.of e1);exact SeqAt.EqAt.tuple_list pl pl'.isList (by omega)
  | @tup m p' ys es e1 hl1 h1 =>
   cases rv
   by_cases hne:p=p'
   ·subst hne
    have z:deq (.tup ds) (.tup es)=true:=Rp.self (Rp.tup e0 hl h) (Rp.tup e1 hl1 h1);rw[z];exact SeqAt.EqAt.same _
   ·obtain⟨jts,r2,pl',_⟩:=I.tuple (SqT.of e1)
    have y:=SeqAt.RcAt.tuples (A:=A) (e:=fun j=>deq (ds.getD j .non) (es.getD j .non)) pl pl' (by omega) (ji r1 r2 hl hl1 fun j x y d e u w a b c k ra rb=>ih j x d a c (h1 j y e b k) I ra rb (by show A.units+1+n<cLine;omega));rw[List.size_toArray,List.size_toArray,<- r1.length,<- r2.length,hl,hl1,fj]at y;exact SeqAt.EqAt.of_refs hne y
 | @lst n p xs ds e0 hl h ih =>
  intro m y e A u v q I ru rv hu;cases ru;obtain⟨its,r1,pl,_⟩:=I.list (SqL.of e0);cases q with
  | non=>cases rv;exact SeqAt.EqAt.list_none pl.isList (by omega)
  | bl=>cases rv;exact SeqAt.EqAt.list_bool _ pl.isList (by omega)
  | int=>obtain⟨_,rfl⟩:=rv;exact SeqAt.EqAt.list_int _ _ pl.isList (by omega)
  | str=>obtain⟨_,rfl⟩:=rv;exact SeqAt.EqAt.list_str _ _ pl.isList (by omega)
  | tup e1 hl1 h1=>cases rv;obtain⟨jts,_,pl',_⟩:=I.tuple (SqT.of e1);exact SeqAt.EqAt.list_tuple pl.isList pl' (by omega)
  | @lst m p' ys es e1 hl1 h1 =>
   cases rv
   by_cases hne:p=p'
   ·subst hne
    have z:deq (.lst ds) (.lst es)=true:=Rp.self (Rp.lst e0 hl h) (Rp.lst e1 hl1 h1);rw[z];exact SeqAt.EqAt.same _
   ·obtain⟨jts,r2,pl',_⟩:=I.list (SqL.of e1)
    have g1:=r1.length;have g2:=r2.length
    by_cases hz:ds.length=es.length
    ·have y:=SeqAt.RcAt.lists (A:=A) (e:=fun j=>deq (ds.getD j .non) (es.getD j .non)) pl.isList pl'.isList (by rw[List.size_toArray,List.size_toArray];omega) (by omega) (ji r1 r2 hl hl1 fun j x y d e u w a b c k ra rb=>ih j x d a c (h1 j y e b k) I ra rb (by show A.units+1+n<cLine;omega))
     rw[List.size_toArray,<- r1.length,hl,iw hz]at y;exact SeqAt.EqAt.of_refs hne y
    ·rw[show deq (.lst ds) (.lst es)=false from nV hz]
     exact SeqAt.EqAt.of_refs hne (SeqAt.RcAt.lists_lengths pl.isList pl'.isList (by rw[List.size_toArray,List.size_toArray];simp;omega) (by omega))
end
end L2
namespace L2
open PySem PySem.Spec PyProof.Rows
section
variable {X:Cx} {pins:List (Addr×Obj)} {σ:St} {H:Hp} {s:Shared}
theorem Rp.rcAt{A:Around}{n m:Nat}{x y:V}{d e:D}{u v:Value}(r:Rp H n x d)(q:Rp H m y e)(I:Aa X pins σ H s)(ru:aU x u)(rv:aU y v)(hu:A.units+n+1<cLine):SeqAt.RcAt A s u v (deq d e):=by
 cases r with
 | non =>
  cases q with
  | non =>
   cases ru;cases rv;exact SeqAt.RcAt.none_none
  | bl =>
   cases ru;cases rv;exact SeqAt.RcAt.none_bool _
  | int =>
   cases ru;obtain⟨_,rfl⟩:=rv;exact SeqAt.RcAt.none_int _ _
  | str =>
   cases ru;obtain⟨_,rfl⟩:=rv;exact SeqAt.RcAt.none_str _ _
  | @tup m p' ys es e1 hl1 h1 =>
   cases ru;cases rv;obtain⟨jts,r2,pl',_⟩:=I.tuple (SqT.of e1);exact SeqAt.RcAt.none_tuple pl' (by omega)
  | @lst m p' ys es e1 hl1 h1 =>
   cases ru;cases rv;obtain⟨jts,r2,pl',_⟩:=I.list (SqL.of e1);exact SeqAt.RcAt.none_list pl'.isList (by omega)
 | bl =>
  cases q with
  | non =>
   cases ru;cases rv;exact SeqAt.RcAt.bool_none _
  | bl =>
   cases ru;cases rv;exact SeqAt.RcAt.bool_bool _ _
  | int =>
   cases ru;obtain⟨_,rfl⟩:=rv;exact SeqAt.RcAt.bool_int _ _ _
  | str =>
   cases ru;obtain⟨_,rfl⟩:=rv;exact SeqAt.RcAt.bool_str _ _ _
  | @tup m p' ys es e1 hl1 h1 =>
   cases ru;cases rv;obtain⟨jts,r2,pl',_⟩:=I.tuple (SqT.of e1);exact SeqAt.RcAt.bool_tuple _ pl' (by omega)
  | @lst m p' ys es e1 hl1 h1 =>
   cases ru;cases rv;obtain⟨jts,r2,pl',_⟩:=I.list (SqL.of e1);exact SeqAt.RcAt.bool_list _ pl'.isList (by omega)
 | int =>
  cases q with
  | non =>
   obtain⟨_,rfl⟩:=ru;cases rv;exact SeqAt.RcAt.int_none _ _
  | bl =>
   obtain⟨_,rfl⟩:=ru;cases rv;exact SeqAt.RcAt.int_bool _ _ _
  | int =>
   obtain⟨_,rfl⟩:=ru;obtain⟨_,rfl⟩:=rv;exact SeqAt.RcAt.int_int _ _ _ _
  | str =>
   obtain⟨_,rfl⟩:=ru;obtain⟨_,rfl⟩:=rv;exact SeqAt.RcAt.int_str _ _ _ _
  | @tup m p' ys es e1 hl1 h1 =>
   obtain⟨_,rfl⟩:=ru;cases rv;obtain⟨jts,r2,pl',_⟩:=I.tuple (SqT.of e1);exact SeqAt.RcAt.int_tuple _ _ pl' (by omega)
  | @lst m p' ys es e1 hl1 h1 =>
   obtain⟨_,rfl⟩:=ru;cases rv;obtain⟨jts,r2,pl',_⟩:=I.list (SqL.of e1);exact SeqAt.RcAt.int_list _ _ pl'.isList (by omega)
 | str =>
  cases q with
  | non =>
   obtain⟨_,rfl⟩:=ru;cases rv;exact SeqAt.RcAt.str_none _ _
  | bl =>
   obtain⟨_,rfl⟩:=ru;cases rv;exact SeqAt.RcAt.str_bool _ _ _
  | int =>
   obtain⟨_,rfl⟩:=ru;obtain⟨_,rfl⟩:=rv;exact SeqAt.RcAt.str_int _ _ _ _
  | str =>
   obtain⟨_,rfl⟩:=ru;obtain⟨_,rfl⟩:=rv;exact SeqAt.RcAt.str_str _ _ _ _
  | @tup m p' ys es e1 hl1 h1 =>
   obtain⟨_,rfl⟩:=ru;cases rv;obtain⟨jts,r2,pl',_⟩:=I.tuple (SqT.of e1);exact SeqAt.RcAt.str_tuple _ _ pl' (by omega)
  | @lst m p' ys es e1 hl1 h1 =>
   obtain⟨_,rfl⟩:=ru;cases rv;obtain⟨jts,r2,pl',_⟩:=I.list (SqL.of e1);exact SeqAt.RcAt.str_list _ _ pl'.isList (by omega)
 | @tup n p xs ds e0 hl h =>
  cases q with
  | non =>
   cases ru;cases rv;obtain⟨its,r1,pl,_⟩:=I.tuple (SqT.of e0);exact SeqAt.RcAt.tuple_none pl (by omega)
  | bl =>
   cases ru;cases rv;obtain⟨its,r1,pl,_⟩:=I.tuple (SqT.of e0);exact SeqAt.RcAt.tuple_bool _ pl (by omega)
  | int =>
   cases ru;obtain⟨_,rfl⟩:=rv;obtain⟨its,r1,pl,_⟩:=I.tuple (SqT.of e0);exact SeqAt.RcAt.tuple_int _ _ pl (by omega)
  | str =>
   cases ru;obtain⟨_,rfl⟩:=rv;obtain⟨its,r1,pl,_⟩:=I.tuple (SqT.of e0);exact SeqAt.RcAt.tuple_str _ _ pl (by omega)
  | @tup m p' ys es e1 hl1 h1 =>
   cases ru;cases rv;obtain⟨its,r1,pl,_⟩:=I.tuple (SqT.of e0);obtain⟨jts,r2,pl',_⟩:=I.tuple (SqT.of e1);have y:=SeqAt.RcAt.tuples (A:=A) (e:=fun j=>deq (ds.getD j .non) (es.getD j .non)) pl pl' (by omega) (ji r1 r2 hl hl1 fun j x y d e u w a b c k ra rb=>(h j x d a c).eqAt (h1 j y e b k) I ra rb (by show A.units+1+_<cLine;omega));rw[List.size_toArray,List.size_toArray,<- r1.length,<- r2.length,hl,hl1,fj]at y;exact y
  | @lst m p' ys es e1 hl1 h1 =>
   cases ru;cases rv;obtain⟨its,r1,pl,_⟩:=I.tuple (SqT.of e0);obtain⟨jts,r2,pl',_⟩:=I.list (SqL.of e1);exact SeqAt.RcAt.tuple_list pl pl'.isList (by omega)
 | @lst n p xs ds e0 hl h =>
  cases q with
  | non =>
   cases ru;cases rv;obtain⟨its,r1,pl,_⟩:=I.list (SqL.of e0);exact SeqAt.RcAt.list_none pl.isList (by omega)
  | bl =>
   cases ru;cases rv;obtain⟨its,r1,pl,_⟩:=I.list (SqL.of e0);exact SeqAt.RcAt.list_bool _ pl.isList (by omega)
  | int =>
   cases ru;obtain⟨_,rfl⟩:=rv;obtain⟨its,r1,pl,_⟩:=I.list (SqL.of e0);exact SeqAt.RcAt.list_int _ _ pl.isList (by omega)
  | str =>
   cases ru;obtain⟨_,rfl⟩:=rv;obtain⟨its,r1,pl,_⟩:=I.list (SqL.of e0);exact SeqAt.RcAt.list_str _ _ pl.isList (by omega)
  | @tup m p' ys es e1 hl1 h1 =>
   cases ru;cases rv;obtain⟨its,r1,pl,_⟩:=I.list (SqL.of e0);obtain⟨jts,r2,pl',_⟩:=I.tuple (SqT.of e1);exact SeqAt.RcAt.list_tuple pl.isList pl' (by omega)
  | @lst m p' ys es e1 hl1 h1 =>
   cases ru;cases rv;obtain⟨its,r1,pl,_⟩:=I.list (SqL.of e0);obtain⟨jts,r2,pl',_⟩:=I.list (SqL.of e1);have g1:=r1.length;have g2:=r2.length
   by_cases hz:ds.length=es.length
   ·have y:=SeqAt.RcAt.lists (A:=A) (e:=fun j=>deq (ds.getD j .non) (es.getD j .non)) pl.isList pl'.isList (by rw[List.size_toArray,List.size_toArray];omega) (by omega) (ji r1 r2 hl hl1 fun j x y d e u w a b c k ra rb=>(h j x d a c).eqAt (h1 j y e b k) I ra rb (by show A.units+1+_<cLine;omega))
    rw[List.size_toArray,<- r1.length,hl,iw hz]at y;exact y
   ·rw[show deq (.lst ds) (.lst es)=false from nV hz]
    exact SeqAt.RcAt.lists_lengths pl.isList pl'.isList (by rw[List.size_toArray,List.size_toArray];simp;omega) (by omega)
end
section
variable {X:Cx}
inductive Gx (neg:Bool) (x:V) (y:V) (H:Hp) (Q:VK):Prop
 | mk:∀d e,(Rp H 9 x d)->(Rp H 9 y e)->(Q (.bl (if neg then !(deq d e) else deq d e)) H)->Gx neg x y H Q
theorem sW(hu:X.A.units+10<cLine):OpR X (compareOp .Eq) (Gx false):=by
 intro pins s σ H x y v u Q I rx ry h;obtain⟨d,e,rd,re,k⟩:=h;exact rd.rcAt re I rx ry (by omega) _ _ _ _ ⟨.bl _,H,I,rfl,k⟩
end
section
variable {H:Hp} {n:Nat} {p:Addr} {x y z w:V} {a b c d:D}
theorem Rp.t2(e:H p=some (.tup [x,y]))(ha:Rp H n x a)(hb:Rp H n y b):Rp H (n+1) (.ref p) (.tup [a,b]):=.tup e rfl fun j x d h k=>by
 match j with
 | 0=>cases h;cases k;exact ha
 | 1=>cases h;cases k;exact hb
 | j+2=>simp at h
mutual
theorem gW:∀d:D,deq d d=true
 | .non=>rfl
 | .bl b=>by simp[deq]
 | .int i=>by simp[deq]
 | .str x=>by simp[deq]
 | .tup ds=>by simp only[deq];exact ir ds
 | .lst ds=>by simp only[deq];exact ir ds
theorem ir:∀ds:List D,gU ds ds=true
 | []=>by simp[gU]
 | d::ds=>by simp only[gU,Bool.and_eq_true];exact⟨gW d,ir ds⟩
end
end
end L2
namespace L2
open PySem PySem.Spec PyProof.Rows
structure DN(X:Cx)(scope:Scope)(cl:List (Str×Addr))(xs:List Str)(fv:List (Str×Nat)):Prop where
 clos:closureFor scope X.env=pure cl
 kind:scope.kind = .function
 cell:∀y∈scope.names,y.2≠.cell
 names:∀y∈scope.names,y.2 = .local->scope.names.lookup y.1=some .local
 own:∀x∈xs,scope.names.lookup x=some .local
 cells:∀p∈cl,X.env.cells.lookup p.1=some p.2
 has:((relabel scope X.env).names.all fun q=>!(q.2 == .cell || q.2 == .free) || (cl.lookup q.1).isSome)=true
 nd:(xs++fv.map (·.1)).Nodup
 slot:∀p∈fv,X.N[p.2]? = some p.1∧X.env.kindOf p.1=some .cell∧Vis X.env.scope p.1∧(cl.lookup p.1).isSome=true∧((relabel scope X.env).names.lookup p.1=some .cell)
 stk:X.stack=X.env::X.outer∧X.env.frame=some X.env.locals
 noex:X.ex = []
def PTs(X:Cx)(ifs:List Expr)(tc:TT):Prop :=
 ∀(pins:List (Addr×Obj)) (s:Shared) (σ:St) (H:Hp) (Q:Bool->Hp->Prop),Aa X pins σ H s->tc σ H Q ->
  wpAny (model X.prog X.w) X.A (forIn ifs true fun c r=>if r=true then do let ok <- isTrue c X.env (eval c X.env);pure (ForInStep.yield ok) else pure (ForInStep.yield r)) (fun b s'=>∃H',Aa X pins σ H' s'∧Q b H') X.xe s
theorem lK{X:Cx}{c:Expr}{tc:TT}(h:PT X c tc):PTs X [c] tc:=fun pins s σ H Q I q=>wpAny_tests_one (h pins s σ H Q I q)
theorem nY{prog:Program}{w:World}{A:Around}{R:Result->Shared->Prop}{s:Shared}{elt target iter:Expr}{ifs:List Expr}{scope:Scope}{pos:Pos}{it acc:Value}{env:Env}(I:Nat->Shared->Prop)
  (turn:∀n s,I n s->wpAny (model prog w) A (pyNext it) (fun r s₁=>match r with
   | none=>R (.ok .next) s₁
   | some v=>wpAny (model prog w) A (letOwnedTupleGo target it v) (fun _ s₀=>wpAny (model prog w) A (assign target env v) (fun _ s₂ =>
     wpAny (model prog w) A (forIn ifs true fun c r=>if r=true then do let ok <- isTrue c env (eval c env);pure (ForInStep.yield ok) else pure (ForInStep.yield r)) (fun ok s₃ =>
      if ok=true then wpAny (model prog w) A (eval elt env) (fun x s₄ =>
       wpAny (model prog w) A (call (.builtin "list.append") [acc,x]) (fun _ s₅=>∃m,m<n∧I m s₅) (notedBy (model prog w) A env fun e s'=>R (.error e) s') s₄) (notedBy (model prog w) A env fun e s'=>R (.error e) s') s₃
      else ∃m,m<n∧I m s₃) (notedBy (model prog w) A env fun e s'=>R (.error e) s') s₂) (notedBy (model prog w) A env fun e s'=>R (.error e) s') s₀) (notedBy (model prog w) A env fun e s'=>R (.error e) s') s₁) (notedBy (model prog w) A env fun e s'=>R (.error e) s') s)
  (n:Nat) (h:I n s):codeAny (model prog w) A (.compLoop (.ListComp elt [⟨target,iter,ifs,0⟩] scope pos) 0 it acc env) R s:=by
 refine codeAny_loop rfl I (fun n s hI=>?_) n h;show wpAny _ A ((compTurn (.ListComp elt [⟨target,iter,ifs,0⟩] scope pos) 0 it acc env).onRaise (fun x=>do noteFrame x env;theTreesLotGoes x)) _ _ s
 refine wpAny_noted ?_;rw[compTurn_list];refine wpAny_bind (wpAny_standAt (wpAny_bind (wpAny_mono (turn n s hI) (fun r s₁ h₁=>?_) fun _ _ h'=>h')));cases r with
 | none=>exact wpAny_pure h₁
 | some v =>
  refine wpAny_bind (wpAny_mono h₁ (fun _ s₀ h₀=>?_) fun _ _ h'=>h');refine wpAny_bind (wpAny_mono h₀ (fun _ s₂ h₂=>wpAny_bind (wpAny_mono h₂ (fun ok s₃ h₃=>?_) fun _ _ h'=>h')) fun _ _ h'=>h');cases ok with
  | false=>exact wpAny_pure ⟨rfl,h₃⟩
  | true=>exact wpAny_bind (wpAny_bind (wpAny_mono h₃ (fun x s₄ h₄=>wpAny_bind (wpAny_mono h₄ (fun _ s₅ h₅=>wpAny_pure (wpAny_pure ⟨rfl,h₅⟩)) fun _ _ h'=>h')) fun _ _ h'=>h'))
def jo(J:It)(n:Nat)(fv:List (Str×Nat))(g:TG)(tc:TT)(te:TE)(σ:St)(H1:Hp)(Q:VK):Prop:=∀p,H1 p=none->∃W:Nat->Nat->List V->Hp->Prop,(∃m,W 0 m [] (upd H1 p (.lst [])))∧∀i m acc H2,W i m acc H2 ->
 H2 p=some (.lst acc)∧acc.length<sizeLine∧((J.stop i H2∧Q (.ref p) H2)∨(J.go i H2∧∀x H3,J.yld i H2 x H3->∀τ:St,τ.length=n->g x (τ++fvs fv σ) H3 fun σ2 H4=>(∃τ':St,τ'.length=n∧σ2=τ'++fvs fv σ) ∧
  tc σ2 H4 fun b H5=>if b=true then te σ2 H5 (fun y H6=>H6 p=some (.lst acc)∧∃m',m'<m∧W (i+1) m' (acc++[y]) (upd H6 p (.lst (acc++[y])))) else ∃m',m'<m∧W (i+1) m' acc H5))
def sf(wi:TI)(n:Nat)(fv:List (Str×Nat))(g:TG)(tc:TT)(te:TE):TE:=fun σ H Q=>wi σ H fun J H1=>jo J n fv g tc te σ H1 Q
section
variable {X:Cx} {scope:Scope} {cl:List (Str×Addr)} {xs:List Str} {fv:List (Str×Nat)} {elt iter tg:Expr} {ifs:List Expr} {pos:Pos} {te:TE} {tc:TT} {g:TG}
theorem wg{pins:List (Addr×Obj)}{σ:St}{H:Hp}{s:Shared}{fp:List Addr}(C:DN X scope cl xs fv)(I:Aa X pins σ H s)(hf:∀b∈fp,eO X pins H b)(ho:∀b∈fp,b<s.heap.objs.size):(X.blk (xs++fv.map (·.1)) scope cl fp s H).Ok:=by
 have hcl:∀y c,cl.lookup y=some c->X.env.cells.lookup y=some c:=fun y c h=>C.cells _ (bY h);have old:∀b∈fp,X.s₀.heap.objs.size≤b:=fun b hb=>by
  rcases(hf b hb).2.2.2.1 with z|z
  ·rw[C.noex]at z
   cases z
  ·exact z
 refine⟨I.ok.mod,by show(relabel scope X.env).kind=_;exact C.kind,I.ok.glob,I.ok.blt,Nat.le_refl _,fun y z c h1 h2=>I.ok.inj y z c (hcl y c h1) (hcl z c h2),fun y hy=>?_,(fun y c h=>by cases h),I.ok.hd,I.ok.frames,.inl rfl,fun b hb=>?_,fun b o e=>I.bs b o e,Nat.le_trans I.ok.bsz I.sz,fun b o e hb=>?_,fun b hb hm=>?_,I.stack,I.stkFree⟩
 ·have q:=C.has
  rw[List.all_eq_true]at q;have hm:∃k,(y,k)∈(relabel scope X.env).names∧(k = .cell∨k = .free):=by
   rcases hy with hy|hy
   ·exact⟨_,bY hy,.inl rfl⟩
   ·exact⟨_,bY hy,.inr rfl⟩
  obtain⟨k,hk,hk2⟩:=hm;have q2:=q _ hk;have q3:(cl.lookup y).isSome=true:=by
   rcases hk2 with rfl|rfl
   ·simpa using q2
   ·simpa using q2
  exact Option.isSome_iff_exists.mp q3
 ·obtain⟨f0,f1,f2,f3,f4,f5⟩:=hf b hb
  refine⟨?_,fun y c h=>f4 y c (hcl y c h)⟩;exact Nat.ne_of_lt (ho b hb)
 ·have z:=Heap.lt_size e
  have z2:=old b hb;exact absurd (Nat.lt_of_lt_of_le z (Nat.le_trans I.ok.bsz z2)) (Nat.lt_irrefl _)
 ·obtain⟨f0,f1,f2,f3,f4,f5⟩:=hf b hb
  rcases List.mem_cons.mp (I.stkSub b hm) with z|z
  ·exact f1 z
  ·exact f2 z
theorem uI{pins:List (Addr×Obj)}{σ:St}{H:Hp}{s s4:Shared}{fp:List Addr}(C:DN X scope cl xs fv)(I:Aa X pins σ H s)(hf:∀b∈fp,eO X pins H b)(ho:∀b∈fp,b<s.heap.objs.size)
  (hs:s4.os=s.os∧s4.gens=s.gens) (ns:s4.heap.Ns s.heap.objs.size fun _=>none) (kp:∀b o,s.heap.get? b=some o->s4.heap.get? b=some o) :
  Aa (X.blk (xs++fv.map (·.1)) scope cl fp s H) [] (List.replicate xs.length none++fvs fv σ) H s4:=by
 have hcl:∀y c,cl.lookup y=some c->X.env.cells.lookup y=some c:=fun y c h=>C.cells _ (bY h);refine⟨wg C I hf ho,hs.1,by rw[hs.2];exact I.bare,Un.kept kp,⟨_,ns,fun i y v e1 e2 e3=>?_⟩,fun y c h=>?_,I.hok.fresh (Nat.le_refl _),fun y c h=>I.freeC y c (hcl y c h),fun p hp=>by simp at hp,I.hok.kept kp,by simp[fvs]⟩
 ·by_cases hi:i<xs.length
  ·rw[List.getElem?_append_left (by rw[List.length_replicate];exact hi),List.getElem?_replicate]at e2
   simp[hi]at e2
  ·obtain⟨j,rfl⟩:∃j,i=xs.length+j:=⟨i - xs.length,by omega⟩
   have e1':(fv.map (·.1))[j]? = some y:=by
    have z:(xs++fv.map (·.1))[xs.length+j]? = some y:=e1;rw[List.getElem?_append_right (by omega)]at z;simpa using z
   have e2':(fvs fv σ)[j]? = some (some v):=by
    rw[List.getElem?_append_right (by rw[List.length_replicate];omega),List.length_replicate]at e2;simpa using e2
   rw[List.getElem?_map]at e1';unfold fvs at e2';rw[List.getElem?_map]at e2';cases hq:fv[j]? with
   | none =>
    rw[hq]at e1';cases e1'
   | some q =>
    rw[hq]at e1' e2';have ey:q.1=y:=Option.some.inj e1';have ev:(σ[q.2]?).join=some v:=Option.some.inj e2';have hm:q∈fv:=List.mem_of_getElem? hq;obtain⟨s1,s2,s3,s4',s5⟩:=C.slot q hm;have ev2:σ[q.2]? = some (some v):=by
     cases hz:σ[q.2]? with
     | none =>
      rw[hz]at ev;cases ev
     | some z =>
      rw[hz]at ev;have ev':z=some v:=ev;rw[ev']
    obtain⟨m,hn,hl⟩:=I.loc;obtain⟨u,r,lk⟩:=hl q.2 q.1 v s1 ev2 s3;obtain⟨c,hc⟩:=Option.isSome_iff_exists.mp s4';refine⟨u,r,.inr ⟨.inl (by rw[<- ey];exact s5),c,by rw[<- ey];exact hc,?_⟩⟩;rcases lk with⟨k,_⟩|⟨_,c',hc',z⟩
    ·rw[s2]at k
     cases k
    ·rw[hcl _ _ hc]at hc'
     cases hc';obtain⟨o,ho',hd⟩:=z;exact⟨o,kp _ _ ho',hd⟩
 ·obtain⟨v,o,ho',hd⟩:=I.cell y c (hcl y c h)
  exact⟨v,o,kp _ _ ho',hd⟩
theorem oj{pins:List (Addr×Obj)}{σ:St}{H2:Hp}{s2:Shared}{it:Addr}{fp:List Addr}{tn:Nat->Heap->Prop}{J:It}{RR:Value->Addr->Result->Shared->Prop}{E:Value->Shared->Prop}{Qf:V->Hp->Prop}
  (hcalm:X.calm=true) (C:DN X scope cl xs fv) (I2:Aa X pins σ H2 s2) (T:Em X.prog X.w X.K tg J fp it tn) (st:tn 0 s2.heap) (f2:∀b∈fp,eO X pins H2 b)
  (rd:jo J xs.length fv g tc te σ H2 Qf)
  (hg:∀(s₀:Shared) (H₀:Hp),PG (X.blk (xs++fv.map (·.1)) scope cl fp s₀ H₀) tg g) (ht:∀(s₀:Shared) (H₀:Hp),PTs (X.blk (xs++fv.map (·.1)) scope cl fp s₀ H₀) ifs tc)
  (he:∀(s₀:Shared) (H₀:Hp),PE (X.blk (xs++fv.map (·.1)) scope cl fp s₀ H₀) elt te)
  (hRR:∀(p C:Addr) (H':Hp) (s':Shared),(∃m,s'.heap.Ns C m)->C≠X.env.locals->H' C=none->X.s₀.heap.objs.size≤C->(∀y c,X.env.cells.lookup y=some c->c≠C)->(∀q∈X.pn++pins,q.1≠C)->Aa X pins σ H' s'->Qf (.ref p) H'->RR (.ref p) C (.ok .next) s') :
  wpAny (model X.prog X.w) X.A (newList []) (fun acc s₃=>wpAny (model X.prog X.w) X.A (newFunctionEnv scope X.env.globals cl [] X.env.qual none .none (some X.env)) (fun cenv s₄ =>
   codeAny (model X.prog X.w) X.A (.compStart (.ListComp elt [⟨tg,iter,ifs,0⟩] scope pos) 0 (.ref it) acc { cenv with scope:=relabel scope X.env }) (RR acc cenv.locals) s₄) E s₃) E s2:=by
 refine wpAny_newObj_type ?_;have hfresh:=I2.fresh;have I3:Aa X pins σ (upd H2 s2.heap.objs.size (.lst [])) { s2 with heap:=s2.heap.push { cls:=.type "list",data:=.seq ([]:List Value).toArray } } :=
  I2.laid (t':=s2.toks) (fun b u q=>Heap.get?_push_of_some _ q) (Nat.le_refl _) ⟨Nat.zero_le _,[],0,.nil,Heap.get?_push_size _ rfl⟩
 generalize hs3:({ s2 with heap:=s2.heap.push { cls:=.type "list",data:=.seq ([]:List Value).toArray } }:Shared)=s3 at I3 ⊢;have hp3:s2.heap.objs.size<s3.heap.objs.size:=by rw[<- hs3];exact Nat.lt_of_lt_of_le (Nat.lt_succ_self _) (Nat.le_of_eq (Heap.size_push _ _).symm)
 have k23:∀b o,s2.heap.get? b=some o->s3.heap.get? b=some o:=fun b o e=>by rw[<- hs3];exact Heap.get?_push_of_some _ e
 have fpo:∀b∈fp,b<s2.heap.objs.size:=fun b hb=>by
  obtain⟨o,e,_⟩:=T.obj 0 _ st b hb;exact Heap.lt_size e
 have f3:∀b∈fp,eO X pins (upd H2 s2.heap.objs.size (.lst [])) b:=fun b hb=>⟨by rw[aH (Nat.ne_of_lt (fpo b hb))];exact(f2 b hb).1,(f2 b hb).2⟩;refine wpAny_newFunctionEnv C.cell (by intro y hy;simp at hy) (fun h1 hns1 hsb1=>?_) C.kind;have kp:∀b o,s3.heap.get? b=some o->h1.get? b=some o:=fun b o e=>(hsb1.2 b (Nat.ne_of_lt (Heap.lt_size e))).trans (Heap.get?_push_of_some _ e);have I4:=uI (s4:={ s3 with heap:=h1,toks:=s3.toks+([]:List (Str×Value)).length }) C I3 f3 (fun b hb=>Nat.lt_trans (fpo b hb) hp3) ⟨rfl,rfl⟩ hns1 kp;have st4:tn 0 h1:=T.keep 0 _ _ st fun b _ o e=>kp b o (k23 b o e);obtain⟨W,⟨m0,w0⟩,step⟩:=rd _ hfresh;have loop:codeAny (model X.prog X.w) X.A (.compLoop (.ListComp elt [⟨tg,iter,ifs,0⟩] scope pos) 0 (.ref it) (.ref s2.heap.objs.size) (compEnvC scope cl s3.heap.objs.size X.env)) (RR (.ref s2.heap.objs.size) s3.heap.objs.size)
   { s3 with heap:=h1,toks:=s3.toks+([]:List (Str×Value)).length }:=by
  refine nY (fun n s=>∃i acc τ H',τ.length=xs.length∧Aa (X.blk (xs++fv.map (·.1)) scope cl fp s3 (upd H2 s2.heap.objs.size (.lst []))) [] (τ++fvs fv σ) H' s∧tn i s.heap∧(∀b∈fp,H' b=none)∧W i n acc H') ?_ m0 ⟨0,[],List.replicate xs.length none,_,List.length_replicate,I4,st4,fun b hb=>(f3 b hb).1,w0⟩;rintro n s ⟨i,acc,τ,H',hτ,I',st',fr',w'⟩;obtain⟨hp,hlen,alt⟩:=step i n acc H' w';have fpk:∀{H5:Hp},(∀b∈fp,H5 b=none)->∀b∈fp,eO (X.blk (xs++fv.map (·.1)) scope cl fp s3 (upd H2 s2.heap.objs.size (.lst []))) [] H5 b:=fun h5 b hb =>
   ⟨h5 b hb,(I'.ok.exf b hb).1,I'.ok.exfs b hb,.inl hb,fun y c e=>(I'.ok.exf b hb).2 y c e,fun q hq=>by simp at hq⟩
  rcases alt with⟨stop,qf⟩|⟨go,turn⟩
  ·refine wpAny_mono (T.done (X.blk (xs++fv.map (·.1)) scope cl fp s3 (upd H2 s2.heap.objs.size (.lst []))) rfl rfl rfl hcalm i [] s _ H' (fun _ _=>False) I' (fpk fr') st' stop) (fun r s5 ⟨hr,I5⟩=>?_) fun _ _ z=>False.elim z
   subst hr;refine hRR _ _ H' s5 (let ⟨m,hn,_⟩:=I5.loc;⟨m,hn⟩) (Nat.ne_of_gt I3.lt) I5.free I3.sz (fun y c e=>?_) (fun q hq=>?_) ?_ qf
   ·obtain⟨v,z⟩:=I3.cell y c e
    exact Nat.ne_of_lt z.lt
   ·exact Nat.ne_of_lt (Heap.lt_size (I3.pin q hq).1)
   ·exact I3.call' (s':=s5) (ch:=fp) I5.os I5.base I5.hok I5.bare fun b hb=>⟨(f2 b hb).2.2.2.1,(f2 b hb).2.1,(f2 b hb).2.2.2.2.1,(f2 b hb).2.2.2.2.2⟩
  ·refine wpAny_mono (T.item (X.blk (xs++fv.map (·.1)) scope cl fp s3 (upd H2 s2.heap.objs.size (.lst []))) rfl rfl rfl hcalm i [] s _ H' (fun _ _=>False) I' (fpk fr') st' go) (fun r s5 ⟨u,hr,h5⟩=>?_) fun _ _ z=>False.elim z
   subst hr;refine wpAny_mono h5 (fun _ s6 ⟨y,H6,I6,r6,y6,st6,fr6⟩=>?_) fun _ _ z=>False.elim z;have I6':=I6.pinned (fpk fr6) (T.obj _ _ st6);have rt:=turn y _ y6 τ hτ;refine wpAny_mono (hg s3 _ _ s6 _ H6 y u _ I6' r6 rt) (fun _ s7 ⟨σ7,H7,I7,⟨τ',hτ',e7⟩,q7⟩=>?_) fun _ _ z=>False.elim z;subst e7;refine wpAny_mono (ht s3 _ _ s7 _ _ _ I7 q7) (fun b s7b ⟨H7b,I7b,q7b⟩=>?_) fun _ _ z=>False.elim z;have kp6:∀{σ9:St} {H9:Hp} {s9:Shared},Aa (X.blk (xs++fv.map (·.1)) scope cl fp s3 (upd H2 s2.heap.objs.size (.lst []))) ([]++jB fp s6.heap) σ9 H9 s9->tn (i+1) s9.heap∧∀b∈fp,H9 b=none:=fun {σ9 H9 s9} I9=>by
    refine⟨T.keep _ _ _ st6 fun b hb o e=>(I9.pin (b,o) (List.mem_append_right _ (List.mem_append_right _ (de hb e)))).1,fun b hb=>?_⟩;obtain⟨o,e,d⟩:=T.obj _ _ st6 b hb;exact(I9.pin (b,o) (List.mem_append_right _ (List.mem_append_right _ (de hb e)))).2.1
   cases b with
   | false =>
    obtain⟨m',hm',w8⟩:=q7b;exact⟨m',hm',i+1,acc,τ',_,hτ',I7b.unpinned,(kp6 I7b).1,(kp6 I7b).2,w8⟩
   | true =>
    refine wpAny_mono (he s3 _ _ s7b _ _ _ I7b q7b) (fun v8 s8 ⟨y8,H8,I8,r8,q8,m',hm',w8⟩=>?_) fun _ _ z=>False.elim z;refine wpAny_mono (ia (X:=X.blk (xs++fv.map (·.1)) scope cl fp s3 (upd H2 s2.heap.objs.size (.lst []))) _ s8 _ H8 (.ref s2.heap.objs.size) [y8] (.ref s2.heap.objs.size) [v8] (fun _ H9=>H9=upd H8 s2.heap.objs.size (.lst (acc++[y8]))) I8 rfl (.cons r8 .nil) ⟨_,acc,y8,rfl,rfl,q8,hlen,rfl⟩) (fun _ s9 ⟨_,H9,I9,_,e9⟩=>?_) fun _ _ z=>False.elim z;subst e9;exact⟨m',hm',i+1,acc++[y8],τ',_,hτ',I9.unpinned,(kp6 I9).1,(kp6 I9).2,w8⟩
 exact codeAny_compStart_list loop (T.self _ 0 _ _ _ st4 loop)
theorem sS{wi:TI}(hcalm:X.calm=true)(C:DN X scope cl xs fv)(hi:PI X tg iter wi)(hg:∀(fp:List Addr) (s₀:Shared) (H₀:Hp),PG (X.blk (xs++fv.map (·.1)) scope cl fp s₀ H₀) tg g)(ht:∀(fp:List Addr) (s₀:Shared) (H₀:Hp),PTs (X.blk (xs++fv.map (·.1)) scope cl fp s₀ H₀) ifs tc)(he:∀(fp:List Addr) (s₀:Shared) (H₀:Hp),PE (X.blk (xs++fv.map (·.1)) scope cl fp s₀ H₀) elt te)
  (hs:∀v,foldedSetIterable iter X.env v=pure v:=by intro _;rfl):PE X (.ListComp elt [⟨tg,iter,ifs,0⟩] scope pos) (sf wi xs.length fv g tc te):=by
 intro pins s σ H Q I h;rw[eval_ListComp];refine wpAny_comprehension_free (use:=none) rfl hs C.clos C.kind C.names (wpAny_mono (hi pins s σ H _ I h) (fun v s1 h1=>wpAny_mono h1 (fun itv s2 h2=>?_) fun _ _ z=>z) fun _ _ z=>z);obtain⟨it,fp,tn,J,H2,rfl,I2,T,st2,f2,rd⟩:=h2;refine oj (Qf:=Q) hcalm C I2 T st2 f2 rd (hg fp) (ht fp) (he fp) fun p D H' s' ns nL nH n0 nC nP I8 q=>?_;obtain⟨m,hn⟩:=ns;exact⟨m,hn,fun h'' sb=>⟨.ref p,H',I8.turned (t':=s'.toks) (fun b o hb e=>(sb.2 b hb).trans e) nH nL (.inr n0) nC nP,rfl,q⟩⟩
theorem iA{wi:TI}{y:Str}{j:Nat}{py spos:Pos}(hcalm:X.calm=true)(C:DN X scope cl xs fv)(hN:X.N.Nodup)(hj:X.N[j]? = some y)(hy:X.env.scope.names.lookup y=some .local)(hi:PI X tg iter wi)(hg:∀(fp:List Addr) (s₀:Shared) (H₀:Hp),PG (X.blk (xs++fv.map (·.1)) scope cl fp s₀ H₀) tg g)(ht:∀(fp:List Addr) (s₀:Shared) (H₀:Hp),PTs (X.blk (xs++fv.map (·.1)) scope cl fp s₀ H₀) ifs tc)(he:∀(fp:List Addr) (s₀:Shared) (H₀:Hp),PE (X.blk (xs++fv.map (·.1)) scope cl fp s₀ H₀) elt te)
  (hsw:swapsWith (.ListComp elt [⟨tg,iter,ifs,0⟩] scope pos) (some (.Name y py)) spos.line X.env=pure true:=by rfl)
  (hs:∀v,foldedSetIterable iter X.env v=pure v:=by intro _;rfl):PS X (.Assign [.Name y py] (.ListComp elt [⟨tg,iter,ifs,0⟩] scope pos) spos) (xm (sf wi xs.length fv g tc te) (qj j)):=by
 intro pins s σ H D I h;rw[exec_Assign_Name_used _ _ _ _ hsw];refine wpAny_bind (wpAny_standAt (wpAny_bind ?_));show wpAny _ _ (do let _ <- comprehension (.ListComp elt [⟨tg,iter,ifs,0⟩] scope pos) scope X.env _ (newList []) false (eval iter X.env) (some (assign (.Name y py) X.env))) _ _ s
 refine wpAny_bind (wpAny_mono (wpAny_comprehension_free (use:=some (assign (.Name y py) X.env)) (Q:=fun _ s'=>SP X pins D .next s') rfl hs C.clos C.kind C.names
  (wpAny_mono (hi pins s σ H _ I h) (fun v s1 h1=>wpAny_mono h1 (fun itv s2 h2=>?_) fun _ _ z=>z) fun _ _ z=>z)) (fun _ s' hq=>wpAny_pure (wpAny_pure hq)) fun _ _ z=>z)
 obtain⟨it,fp,tn,J,H2,rfl,I2,T,st2,f2,rd⟩:=h2;refine oj (Qf:=fun v H'=>qj j v σ H' D.nx) hcalm C I2 T st2 f2 rd (hg fp) (ht fp) (he fp) fun p D' H' s' ns nL nH n0 nC nP I8 q=>?_;obtain⟨m,hn⟩:=ns;show wpAny _ _ (assign (.Name y py) X.env (.ref p)) _ _ _;refine wpAny_assign_Name (kL I8 hN hj (.inl hy) (v:=.ref p) rfl (fun s9 I9 ⟨a,sb,ha⟩=>?_) (.inr hy));have aD:D'≠a:=by
  rintro rfl;rcases ha with z|z
  ·exact nL z
  ·exact nC y _ z rfl
 exact⟨m,hn.sameBut sb aD,fun h'' sb2=>⟨_,H',I9.turned (t':=s9.toks) (fun b o hb e=>(sb2.2 b hb).trans e) nH nL (.inr n0) nC nP,q⟩⟩
end
end L2
namespace L2
open PySem PySem.Spec PyProof.Rows
section
variable {κ:Type} [DecidableEq κ]
def cT(kvs:List (κ×V))(k:κ):Option V:=(kvs.find? fun kv=>decide (kv.1=k)).map (·.2)
def eN(kvs:List (κ×V))(k:κ)(v:V):List (κ×V) :=
 if (kvs.any fun kv=>decide (kv.1=k))=true then kvs.map (fun kv=>if kv.1=k then (kv.1,v) else kv) else kvs++[(k,v)]
theorem bQ{p:κ×V}{r:List (κ×V)}{k:κ}(e:p.1=k):cT (p::r) k=some p.2:=by simp[cT,List.find?_cons,e]
theorem bI{p:κ×V}{r:List (κ×V)}{k:κ}(e:¬p.1=k):cT (p::r) k=cT r k:=by simp[cT,List.find?_cons,e]
theorem eQ(k:κ):∀kvs:List (κ×V),(kvs.any fun kv=>decide (kv.1=k))=(cT kvs k).isSome
 | []=>rfl
 | p::r=>by
  rw[List.any_cons]
  by_cases e:p.1=k
  ·simp only[bQ e,decide_eq_true e,Bool.true_or,Option.isSome_some]
  ·rw[bI e,decide_eq_false e,Bool.false_or];exact eQ k r
theorem my(k j:κ)(y:V):∀kvs:List (κ×V),cT (kvs.map fun kv=>if kv.1=k then (kv.1,y) else kv) j=(cT kvs j).map fun x=>if j=k then y else x
 | []=>rfl
 | p::r=>by
  have ih:=my k j y r;rw[List.map_cons]
  by_cases h:p.1=k
  ·rw[if_pos h]
   by_cases e:p.1=j
   ·rw[bQ (p:=(p.1,y)) e,bQ e,Option.map_some,if_pos (e.symm.trans h)]
   ·rw[bI (p:=(p.1,y)) e,bI e,ih]
  ·rw[if_neg h]
   by_cases e:p.1=j
   ·rw[bQ (p:=p) e,bQ e,Option.map_some,if_neg (fun z=>h (e.trans z))]
   ·rw[bI (p:=p) e,bI e,ih]
theorem kK(k j:κ)(y:V):∀kvs:List (κ×V),cT kvs k=none->cT (kvs++[(k,y)]) j=if j=k then some y else cT kvs j
 | [],_=>by
  by_cases e:k=j
  ·rw[if_pos e.symm];exact bQ (p:=(k,y)) e
  ·rw[if_neg (fun z=>e z.symm)];exact bI (p:=(k,y)) e
 | p::r,hn=>by
  rw[List.cons_append];have hk:¬p.1=k:=fun z=>by rw[bQ z]at hn;cases hn
  rw[bI hk]at hn;have ih:=kK k j y r hn
  by_cases e:p.1=j
  ·rw[bQ e,bQ e,if_neg (fun z=>hk (e.trans z))]
  ·rw[bI e,bI e,ih]
theorem gs(kvs:List (κ×V))(k j:κ)(y:V):cT (eN kvs k y) j=if j=k then some y else cT kvs j:=by
 unfold eN
 by_cases a:(kvs.any fun kv=>decide (kv.1=k))=true
 ·rw[if_pos a,my]
  rw[eQ]at a
  by_cases e:j=k
  ·obtain⟨x,hx⟩:=Option.isSome_iff_exists.mp a
   rw[if_pos e,e,hx,Option.map_some,if_pos rfl]
  ·rw[if_neg e]
   cases cT kvs j with
   | none=>rfl
   | some x=>rw[Option.map_some,if_neg e]
 ·rw[if_neg a]
  refine kK k j y kvs ?_;rw[eQ]at a;cases q:cT kvs k with
  | none=>rfl
  | some x=>rw[q]at a;exact(a rfl).elim
theorem iD(kvs:List (κ×V))(k:κ)(v:V):(eN kvs k v).length≤kvs.length+1:=by
 unfold eN
 split
 ·rw[List.length_map];omega
 ·rw[List.length_append,List.length_cons,List.length_nil];omega
theorem gF{kvs:List (κ×V)}{k:κ}(v:V)(h:cT kvs k=none):eN kvs k v=kvs++[(k,v)]:=by
 unfold eN;rw[eQ,h];exact if_neg (by decide)
theorem ix.isSome_eq{o:Option V}{u:Option Value}(r:ix o u):o.isSome=u.isSome:=by
 cases o with
 | none=>cases u with
  | none=>rfl
  | some _=>exact(show False from r).elim
 | some _=>cases u with
  | none=>exact(show False from r).elim
  | some _=>rfl
theorem KV.val{kvs:List (κ×V)}{vs:List (κ×Value)}(r:KV kvs vs)(k:κ):ix (cT kvs k) (valueAt vs k):=by
 unfold KV at r
 induction r with
 | nil=>exact True.intro
 | @cons p q ps qs h t ih =>
  obtain⟨h1,h2⟩:=h
  by_cases e:p.1=k
  ·have e':q.1=k:=h1.symm.trans e
   have b:valueAt (q::qs) k=some q.2:=by simp[valueAt,List.find?_cons,e']
   rw[bQ e,b];exact h2
  ·have e':¬q.1=k:=fun z=>e (h1.trans z)
   have b:valueAt (q::qs) k=valueAt qs k:=by simp[valueAt,List.find?_cons,e']
   rw[bI e,b];exact ih
theorem KV.any{kvs:List (κ×V)}{vs:List (κ×Value)}(r:KV kvs vs)(k:κ):(kvs.any fun kv=>decide (kv.1=k))=vs.any fun kv=>decide (kv.1=k):=by
 unfold KV at r
 induction r with
 | nil=>rfl
 | cons h t ih=>rw[List.any_cons,List.any_cons,ih,h.1]
theorem KV.repl{kvs:List (κ×V)}{vs:List (κ×Value)}(r:KV kvs vs)(k:κ){y:V}{u:Value}(ry:aU y u) :
  KV (kvs.map fun kv=>if kv.1=k then (kv.1,y) else kv) (vs.map fun kv=>if kv.1=k then (kv.1,u) else kv):=by
 unfold KV at r ⊢
 induction r with
 | nil=>exact .nil
 | @cons p q ps qs h t ih =>
  rw[List.map_cons,List.map_cons];refine .cons ?_ ih;obtain⟨h1,h2⟩:=h
  by_cases e:p.1=k
  ·rw[if_pos e,if_pos (h1.symm.trans e)];exact⟨h1,ry⟩
  ·rw[if_neg e,if_neg (fun z=>e (h1.trans z))];exact⟨h1,h2⟩
theorem KV.put{kvs:List (κ×V)}{vs:List (κ×Value)}(r:KV kvs vs)(k:κ){y:V}{u:Value}(ry:aU y u):KV (eN kvs k y) (stored vs k u):=by
 unfold eN stored;rw[r.any k]
 by_cases e:(vs.any fun kv=>decide (kv.1=k))=true
 ·rw[if_pos e,if_pos e];exact r.repl k ry
 ·rw[if_neg e,if_neg e];exact Paired.snoc r ⟨rfl,ry⟩
theorem KV.length{kvs:List (κ×V)}{vs:List (κ×Value)}(r:KV kvs vs):kvs.length=vs.length:=Paired.length r
end
theorem m6{P:Program}{w:World}{k:Key}{u:Value}(r:aU (kV k) u):(bX P w).is k u=true:=by
 cases k with
 | inl i=>obtain⟨t,e⟩:=(show ∃t,u=Value.int i t from r);subst e;exact mW P w i t
 | inr x=>obtain⟨t,e⟩:=(show ∃t,u=Value.str x t from r);subst e;exact mV P w x t
theorem k7{P:Program}{w:World}:∀{ks:List Key} {us:List Value},aN (ks.map kV) us->ItemsAre (bX P w) ks us
 | [],_,r=>by rw[List.map_nil]at r;cases r;exact .nil
 | k::ks,_,r=>by
  rw[List.map_cons]at r;cases r with
  | cons h t=>exact .cons (m6 h) (k7 t)
abbrev KT(H:Hp):List (List Key×V)->List (List Key×Addr×Value)->Prop:=Paired fun p q=>p.1=q.1∧H q.2.1=some (.tup (p.1.map kV))∧aU p.2 q.2.2
theorem KT.val{H:Hp}{kvs:List (List Key×V)}{xs:List (List Key×Addr×Value)}(r:KT H kvs xs)(k:List Key):ix (cT kvs k) ((atKey xs k).map (·.2)):=by
 induction r with
 | nil=>exact True.intro
 | @cons p q ps qs h t ih =>
  obtain⟨h1,_,h2⟩:=h
  by_cases e:p.1=k
  ·have e':q.1=k:=h1.symm.trans e
   have b:atKey (q::qs) k=some q.2:=by simp[atKey,List.find?_cons,e']
   rw[bQ e,b];exact h2
  ·have e':¬q.1=k:=fun z=>e (h1.trans z)
   have b:atKey (q::qs) k=atKey qs k:=by simp[atKey,List.find?_cons,e']
   rw[bI e,b];exact ih
theorem KT.repl{H:Hp}{kvs:List (List Key×V)}{xs:List (List Key×Addr×Value)}(r:KT H kvs xs)(k:List Key){y:V}{u:Value}(ry:aU y u) :
  KT H (kvs.map fun kv=>if kv.1=k then (kv.1,y) else kv) (xs.map (putAt k u)):=by
 induction r with
 | nil=>exact .nil
 | @cons p q ps qs h t ih =>
  rw[List.map_cons,List.map_cons];refine .cons ?_ ih;obtain⟨h1,h2,h3⟩:=h;unfold putAt
  by_cases e:p.1=k
  ·rw[if_pos e,if_pos (h1.symm.trans e)];exact⟨h1,h2,ry⟩
  ·rw[if_neg e,if_neg (fun z=>e (h1.trans z))];exact⟨h1,h2,h3⟩
theorem KT.put{H:Hp}{kvs:List (List Key×V)}{xs:List (List Key×Addr×Value)}(r:KT H kvs xs)(k:List Key){b:Addr}{y:V}{u:Value}(hb:H b=some (.tup (k.map kV)))(ry:aU y u) :
  KT H (eN kvs k y) (storedH xs k b u):=by
 have e:(kvs.any fun kv=>decide (kv.1=k))=(atKey xs k).isSome:=by
  rw[eQ,(r.val k).isSome_eq,Option.isSome_map]
 unfold eN storedH;rw[e]
 by_cases q:(atKey xs k).isSome=true
 ·rw[if_pos q,if_pos q];exact r.repl k ry
 ·rw[if_neg q,if_neg q];exact Paired.snoc r ⟨rfl,hb,ry⟩
theorem KT.keeps{H H':Hp}{kvs:List (List Key×V)}{xs:List (List Key×Addr×Value)}(r:KT H kvs xs)(ht:∀b ys,H b=some (.tup ys)->H' b=some (.tup ys)):KT H' kvs xs :=
 Paired.mapP r fun _ _ z=>⟨z.1,ht _ _ z.2.1,z.2.2⟩
section
variable {P:Program} {w:World} {H:Hp} {h:Heap} {a:Addr}
theorem wM{u:HO}(ok:HOk P w H h)(e:Rd H a u):a7 P w H h a u:=e.ok ok
theorem nS{kvs:List (Key×V)}(ok:HOk P w H h)(e:Rd H a (.dK kvs)):kvs.length≤sizeLine∧(a == sysModules)=false∧∃vs,KV kvs vs∧h.DictOf (bX P w) a vs :=
 show a7 P w H h a (.dK kvs) from wM ok e
theorem zp{kvs:List (Key×V)}(ok:HOk P w H h)(e:H a=some (.dK kvs)):kvs.length≤sizeLine∧(a == sysModules)=false∧∃vs,KV kvs vs∧h.DictOf (bX P w) a vs:=nS ok (.inl e)
theorem jJ{ks:List Key}(ok:HOk P w H h)(e:H a=some (.tup (ks.map kV))):(tupleKind (bX P w)).is h ks a:=by
 obtain⟨_,its,r,o,h1,h2,n,h3⟩:=(show a7 P w H h a (.tup (ks.map kV)) from ok a _ e);exact⟨o,its.toArray,n,h1,h2,h3,by simpa using k7 r⟩
theorem nR{kvs:List (List Key×V)}(ok:HOk P w H h)(e:Rd H a (.dT kvs)):kvs.length≤sizeLine∧(a == sysModules)=false ∧
  ∃xs,KT H kvs xs∧h.DictOfH (tupleKind (bX P w)) a xs:=by
 obtain⟨z,y,xs,r,o,es,ep,h1,h2,h3,h4,h5⟩:=(show a7 P w H h a (.dT kvs) from wM ok e);refine⟨z,y,xs,r,o,es,ep,h1,h2,h3,h4,fun x hx=>?_,h5⟩;have all:∀{l:List (List Key×V)} {m:List (List Key×Addr×Value)},KT H l m->∀x∈m,(tupleKind (bX P w)).is h x.1 x.2.1:=by
  intro l m q
  induction q with
  | nil=>intro x hx;exact nomatch hx
  | @cons p q ps qs hq t ih =>
   intro x hx;rcases List.mem_cons.mp hx with e|hx
   ·subst e
    exact jJ ok (by rw[<- hq.1];exact hq.2.1)
   ·exact ih x hx
 exact all r x hx
theorem zo{kvs:List (List Key×V)}(ok:HOk P w H h)(e:H a=some (.dT kvs)):kvs.length≤sizeLine∧(a == sysModules)=false ∧
  ∃xs,KT H kvs xs∧h.DictOfH (tupleKind (bX P w)) a xs:=nR ok (.inl e)
end
def fB(H:Hp)(a:Addr)(y:V)(r:Option V):Prop :=
 (∃kvs k,Rd H a (.dK kvs)∧y=kV k∧r=cT kvs k)∨∃kvs k b,Rd H a (.dT kvs)∧y = .ref b∧H b=some (.tup (k.map kV))∧r=cT kvs k
def j6(H:Hp)(a:Addr)(y v:V)(H':Hp):Prop :=
 (∃kvs k,H a=some (.dK kvs)∧y=kV k∧kvs.length<sizeLine∧H'=upd H a (.dK (eN kvs k v))) ∨
 ∃kvs k b,H a=some (.dT kvs)∧y = .ref b∧H b=some (.tup (k.map kV))∧kvs.length<sizeLine∧H'=upd H a (.dT (eN kvs k v))
theorem fB.t{H:Hp}{a b:Addr}{kvs:List (List Key×V)}{k:List Key}(e:H a=some (.dT kvs))(eb:H b=some (.tup (k.map kV))):fB H a (.ref b) (cT kvs k):=.inr ⟨kvs,k,b,.inl e,rfl,eb,rfl⟩
theorem j6.t{H:Hp}{a b:Addr}{kvs:List (List Key×V)}{k:List Key}{v:V}(e:H a=some (.dT kvs))(eb:H b=some (.tup (k.map kV)))(hl:kvs.length<sizeLine) :
  j6 H a (.ref b) v (upd H a (.dT (eN kvs k v))):=.inr ⟨kvs,k,b,e,rfl,eb,hl,rfl⟩
section
variable {X:Cx} {pins:List (Addr×Obj)} {σ:St} {H:Hp} {s:Shared} {a:Addr} {y v:V} {u r:Value} {o:Option V} {A:Around} {E:Value->Shared->Prop}
theorem Aa.big(I:Aa X pins σ H s):sysModules<s.heap.objs.size:=by
 have h:mainGlobals<s.heap.objs.size:=(I.mod.glob.keeps I.bk).lt;exact Nat.lt_trans (by decide) h
theorem rG{Q:Value->Shared->Prop}(hu:A.units+1<cLine)(I:Aa X pins σ H s)(g:fB H a y (some v))(ry:aU y u)(h:∀w' s',Aa X pins σ H s'->aU v w'->Q w' s') :
  wpAny (model X.prog X.w) A (getItem (.ref a) u) Q E s:=by
 rcases g with⟨kvs,k,e,ey,l⟩|⟨kvs,k,b,e,ey,eb,l⟩
 ·subst ey
  obtain⟨z,hd,vs,rel,dd⟩:=nS I.hok e;obtain⟨w',hw,rw'⟩:=ix.some_of (v:=v) (o:=valueAt vs k) (by rw[l];exact rel.val k);exact wpAny_getItem_of (m6 ry) dd.mapOf hw (h w' _ (I.tok _) rw')
 ·subst ey
  cases (show u=Value.ref b from ry);obtain⟨z,hd,xs,rel,dd⟩:=nR I.hok e;obtain⟨w',hw,rw'⟩:=ix.some_of (v:=v) (o:=(atKey xs k).map (·.2)) (by rw[l];exact rel.val k);obtain⟨p,hp,hp2⟩:=Option.map_eq_some_iff.mp hw;refine wpAny_getItem_heap (tupleKind_room_in1 hu) (jJ I.hok eb) dd hp ?_;rw[hp2];exact h w' _ (I.tok _) rw'
theorem zW{Q:Value->Shared->Prop}(hu:A.units+1<cLine)(I:Aa X pins σ H s)(g:fB H a y o)(ry:aU y u)(h:∀s',Aa X pins σ H s'->Q (.bool o.isSome) s') :
  wpAny (model X.prog X.w) A (compareOp .In u (.ref a)) Q E s:=by
 rcases g with⟨kvs,k,e,ey,l⟩|⟨kvs,k,b,e,ey,eb,l⟩
 ·subst ey
  obtain⟨z,hd,vs,rel,dd⟩:=nS I.hok e;refine wpAny_in_of (m6 ry) hd dd.mapOf ?_;rw[<- (rel.val k).isSome_eq,<- l];exact h _ (I.tok _)
 ·subst ey
  cases (show u=Value.ref b from ry);obtain⟨z,hd,xs,rel,dd⟩:=nR I.hok e;refine wpAny_in_heap (tupleKind_room_in1 hu) (jJ I.hok eb) hd dd ?_;have q:=(rel.val k).isSome_eq;rw[Option.isSome_map]at q;rw[<- q,<- l];exact h _ (I.tok _)
theorem vX{Q:Value->Shared->Prop}(hu:A.units+1<cLine)(I:Aa X pins σ H s)(g:fB H a y o)(ry:aU y u)(h:∀s',Aa X pins σ H s'->Q (.bool (!o.isSome)) s') :
  wpAny (model X.prog X.w) A (compareOp .NotIn u (.ref a)) Q E s:=by
 rcases g with⟨kvs,k,e,ey,l⟩|⟨kvs,k,b,e,ey,eb,l⟩
 ·subst ey
  obtain⟨z,hd,vs,rel,dd⟩:=nS I.hok e;refine wpAny_notIn_of (m6 ry) hd dd.mapOf ?_;rw[<- (rel.val k).isSome_eq,<- l];exact h _ (I.tok _)
 ·subst ey
  cases (show u=Value.ref b from ry);obtain⟨z,hd,xs,rel,dd⟩:=nR I.hok e;refine wpAny_notIn_heap (tupleKind_room_in1 hu) (jJ I.hok eb) hd dd ?_;have q:=(rel.val k).isSome_eq;rw[Option.isSome_map]at q;rw[<- q,<- l];exact h _ (I.tok _)
theorem qr{h':Heap}{t':Nat}{ob:HO}(I:Aa X pins σ H s)(mu:Mut (H a))(hs:Heap.SameBut a s.heap h')(he:∃q,h'.get? a=some q)(new:a7 X.prog X.w (upd H a ob) h' a ob) :
  Aa X pins σ (upd H a ob) { s with heap:=h',toks:=t' } :=
 I.write (x:=a) (e:=a) mu (.inl rfl) (fun b q hb z=>(hs.2 b hb).trans z) he new
theorem yc{P:Program}{w:World}{H':Hp}{h':Heap}{kvs:List (Key×V)}{vs:List (Key×Value)}(z:kvs.length≤sizeLine)(hd:(a == sysModules)=false)(rel:KV kvs vs)(dd:h'.DictOf (bX P w) a vs) :
  a7 P w H' h' a (.dK kvs):=⟨z,hd,vs,rel,dd⟩
theorem rF{H':Hp}{Q:Unit->Shared->Prop}(hu:A.units+1<cLine)(I:Aa X pins σ H s)(g:j6 H a y v H')(ry:aU y u)(rv:aU v r)(h:∀s',Aa X pins σ H' s'->Q () s') :
  wpAny (model X.prog X.w) A (setItem (.ref a) u r) Q E s:=by
 rcases g with⟨kvs,k,e,ey,l,eH⟩|⟨kvs,k,b,e,ey,eb,l,eH⟩
 ·subst ey eH
  obtain⟨z,hd,vs,rel,dd⟩:=zp I.hok e;have hz:vs.length≤sizeLine:=by rw[<- rel.length];exact z
  have hl:(eN kvs k v).length≤sizeLine:=by have:=iD kvs k v;omega
  refine wpAny_setItem_pairs (hsz:=hz) (m6 ry) dd fun h' dd' hs=>h _ ?_;have he:∃q,h'.get? a=some q:=let ⟨q,_,_,hq,_⟩:=dd';⟨q,hq⟩;exact qr I (by rw[e];exact True.intro) hs he (yc hl hd (rel.put k rv) dd')
 ·subst ey eH
  cases (show u=Value.ref b from ry);obtain⟨z,hd,xs,rel,dd⟩:=zo I.hok e;have hz:xs.length≤sizeLine:=by rw[<- Paired.length rel];exact z
  have hl:(eN kvs k v).length≤sizeLine:=by have:=iD kvs k v;omega
  refine wpAny_setItem_heap (hsz:=hz) (tupleKind_room_in1 hu) (jJ I.hok eb) dd fun h' dd' hs=>h _ ?_;obtain⟨q,es,ep,hq,h2,h3,h4,_,h5⟩:=dd';refine qr I (by rw[e];exact True.intro) hs ⟨q,hq⟩ ⟨hl,hd,_,(rel.put k eb rv).keeps fun c ys ec=>?_,q,es,ep,hq,h2,h3,h4,h5⟩;rw[aH (tm ec e (fun z=>nomatch z))]
  exact ec
end
section
variable {X:Cx} {pins:List (Addr×Obj)} {σ:St} {H:Hp} {s:Shared} {a:Addr} {kvs:List (Key×V)} {k:Key} {u:Value} {A:Around} {E:Value->Shared->Prop}
end
def zw(i:Expr):Prop:=∀ov iv,subscripted i false ov iv=operate [ov,iv] (getItem ov iv)
theorem uZ{prog:Program}{w:World}{A:Around}{E:Value->Shared->Prop}{s:Shared}{env:Env}{value slice:Expr}{pos:Pos}{T id:String}{Q:Value->Shared->Prop}
  (hl:typeLookup (.type T) "__getitem__" = pure (some (.builtin id))) (hs:zw slice)
  (h:wpAny (model prog w) A (eval value env) (fun o s₁=>wpAny (model prog w) A (eval slice env) (fun i s₂=>s₂.TypeIs o T∧wpAny (model prog w) A (getItem o i) Q E s₂) E s₁) E s) :
  wpAny (model prog w) A (eval (.Subscript value slice pos) env) Q E s:=by
 refine Subscript_ (wpAny_mono h (fun o s₁ h₁=>wpAny_mono h₁ (fun i s₂ h₂=>?_) fun _ _ x=>x) fun _ _ x=>x);obtain⟨hT,h₂⟩:=h₂;unfold subscriptTail;refine wpAny_bind ?_;rw[getitemInPython_of_ne hT.not_modules];refine wpAny_bind (wpAny_specialOf hT hl ?_);have fin:wpAny (model prog w) A (subscripted slice false o i) (fun r s₃=>wpAny (model prog w) A (letTemporaryGo value o r >>= fun _=>pure r) Q E s₃) E s₂:=by
  rw[hs o i];exact wpAny_operating (wpAny_mono h₂ (fun r s₃ h₃=>wpAny_bind (wpAny_letTemporaryGo (wpAny_pure h₃))) fun _ _ x=>x)
 first
  | exact wpAny_pure (wpAny_bind fin)
  | exact wpAny_bind (wpAny_pure (wpAny_bind fin))
  | exact wpAny_bind fin
theorem nU{X:Cx}{pins:List (Addr×Obj)}{σ:St}{H:Hp}{s:Shared}{a:Addr}{y:V}{o:Option V}(I:Aa X pins σ H s)(g:fB H a y o):s.TypeIs (.ref a) "dict":=by
 rcases g with⟨kvs,k,e,_,_⟩|⟨kvs,k,b,e,_,_,_⟩
 ·obtain⟨_,_,vs,_,dd⟩:=nS I.hok e
  exact dd.typeIs
 ·obtain⟨_,_,xs,_,dd⟩:=nR I.hok e
  exact dd.typeIs
def yM(td ty:TE):TE:=fun σ H Q=>td σ H fun x H1=>ty σ H1 fun y H2=>∃a v,x = .ref a∧fB H2 a y (some v)∧Q v H2
def zI(ty td:TE):TE:=fun σ H Q=>ty σ H fun y H1=>td σ H1 fun x H2=>∃a o,x = .ref a∧fB H2 a y o∧Q (.bl o.isSome) H2
def uW(ty td:TE):TE:=fun σ H Q=>ty σ H fun y H1=>td σ H1 fun x H2=>∃a o,x = .ref a∧fB H2 a y o∧Q (.bl (!o.isSome)) H2
def yS(td ty tv:TE):TS:=fun D σ H=>tv σ H fun v H1=>td σ H1 fun x H2=>ty σ H2 fun y H3=>∃a H4,x = .ref a∧j6 H3 a y v H4∧D.nx σ H4
section
variable {X:Cx} {o i e value:Expr} {pos pos' tpos:Pos} {td ty tv:TE}
theorem cP(hu:X.A.units+1<cLine)(ho:PE X o td)(hi:PE X i ty)(hs:zw i):PE X (.Subscript o i pos) (yM td ty):=by
 intro pins s σ H Q I h;refine uZ PySem.F.slot_dict_getitem.lookup hs (thn (ho pins s σ H _ I h) fun u s1 ⟨x,H1,I1,rx,q1⟩=>thn (hi pins s1 σ H1 _ I1 q1) fun iv s2 ⟨y,H2,I2,ry,a,v,ex,g,q2⟩=>?_);subst ex;obtain rfl:u=Value.ref a:=rx;exact⟨nU I2 g,rG hu I2 g ry fun w' s3 I3 rw'=>⟨v,H2,I3,rw',q2⟩⟩
theorem lR(hu:X.A.units+1<cLine)(hi:PE X i ty)(ho:PE X o td):PC X .In i o (zI ty td):=by
 intro pins s σ H Q I h;refine thn (hi pins s σ H _ I h) fun iv s1 ⟨y,H1,I1,ry,q1⟩=>thn (ho pins s1 σ H1 _ I1 q1) fun u s2 ⟨x,H2,I2,rx,a,ov,ex,g,q2⟩=>?_;subst ex;obtain rfl:u=Value.ref a:=rx;exact zW hu I2 g ry fun s3 I3=>⟨.bl ov.isSome,H2,I3,rfl,q2⟩
theorem kR(hu:X.A.units+1<cLine)(hi:PE X i ty)(ho:PE X o td):PC X .NotIn i o (uW ty td):=by
 intro pins s σ H Q I h;refine thn (hi pins s σ H _ I h) fun iv s1 ⟨y,H1,I1,ry,q1⟩=>thn (ho pins s1 σ H1 _ I1 q1) fun u s2 ⟨x,H2,I2,rx,a,ov,ex,g,q2⟩=>?_;subst ex;obtain rfl:u=Value.ref a:=rx;exact vX hu I2 g ry fun s3 I3=>⟨.bl (!ov.isSome),H2,I3,rfl,q2⟩
theorem dA(hu:X.A.units+1<cLine)(ho:PE X o td)(hi:PE X i ty)(hv:PE X value tv)(hs:swapsWith value (some (.Subscript o i pos')) pos.line X.env=pure false) :
  PS X (.Assign [.Subscript o i pos'] value pos) (yS td ty tv):=by
 intro pins s σ H D I h;refine wpAny_Assign_Subscript (thn (hv pins s σ H _ I h) fun r s1 ⟨v,H1,I1,rv,q1⟩=>thn (ho pins s1 σ H1 _ I1 q1) fun u s2 ⟨x,H2,I2,rx,q2⟩=>thn (hi pins s2 σ H2 _ I2 q2) fun iv s3 ⟨y,H3,I3,ry,a,H4,ex,g,q3⟩=>?_) hs;subst ex;obtain rfl:u=Value.ref a:=rx;exact rF hu I3 g ry rv fun s4 I4=>⟨σ,H4,I4,q3⟩
end
theorem ux{P:Program}{w:World}{H:Hp}(h:Heap)(hb:sysModules<h.objs.size):a7 P w H (h.push { cls:=.type "dict",data:=.dict #[] }) h.objs.size (.dT []) :=
 ⟨Nat.zero_le _,beq_eq_false_iff_ne.mpr (Ne.symm (Nat.ne_of_lt hb)),[],.nil,_,#[],0,Heap.get?_push_size _ rfl,⟨rfl,rfl,rfl⟩,rfl,rfl,List.nodup_nil⟩
def xi:TE:=fun _ H Q=>∀p,H p=none->Q (.ref p) (upd H p (.dT []))
section
variable {X:Cx} {pos:Pos}
theorem gH:PE X (.Dict [] [] pos) xi:=fun pins s σ H Q I h =>
 wpAny_Dict_empty ⟨.ref s.heap.objs.size,_,I.laid (a:=s.heap.objs.size) (o:=.dT []) (t':=s.toks) (fun _ _ q=>Heap.get?_push_of_some _ q) (Nat.le_refl _) (ux s.heap I.big),rfl,h _ (I.hok.fresh (Nat.le_refl _))⟩
end
section
variable {X:Cx} {pins:List (Addr×Obj)} {σ:St} {H:Hp} {s:Shared} {a:Addr} {y d:V} {u r:Value} {o:Option V} {A:Around} {E:Value->Shared->Prop}
end
section
variable {X:Cx} {o e f:Expr} {apos cpos:Pos} {td ty tx:TE}
end
section
variable {X:Cx} {pins:List (Addr×Obj)} {σ:St} {H:Hp} {s:Shared} {a:Addr} {kvs:List (Key×V)} {A:Around} {E:Value->Shared->Prop}
end
section
variable {X:Cx} {pins:List (Addr×Obj)} {σ:St} {H:Hp} {s:Shared} {a:Addr} {y:V} {u:Value} {A:Around} {E:Value->Shared->Prop}
end
end L2
namespace L2
open PySem PySem.Spec PyProof.Rows
section
variable {prog:Program} {w:World} {A:Around} {E:Value->Shared->Prop} {s:Shared} {it d:Addr} {i ep:Nat} {es:Array DictEntry} {od:Obj}
theorem sK{Q:Value->Shared->Prop}(hd:(d == sysModules)=false)(ho:s.heap.get? d=some od)(hc:od.cls = .type "dict")(hdat:od.data = .dict es ep)
  (hQ:Q (.ref s.heap.objs.size) { s with heap:=s.heap.push { cls:=.type "dict_keyiterator",data:=.fields #[.ref d,.int 0 0,.int es.size 0,.int ep 0] } }):wpAny (model prog w) A (pyIter (.ref d)) Q E s:=by
 have hT:s.TypeIs (.ref d) "dict":=⟨od,ho,hc⟩;refine wpAny_pyIter_slot hT F.slot_dict_iter (wpAny_call_entry F.slot_dict_iter hT F.entry_dict_iter ?_ (F.args_dict_iter_1 _));unfold Builtin.«dict.__iter__»;refine wpAny_bind ?_;unfold Builtin.Dict.dictSlotNone;refine wpAny_bind (wpAny_notOrdered_dict hT ?_);show wpAny _ _ (pure (Value.ref d)) _ _ s;refine wpAny_pure ?_;show wpAny _ _ (Builtin.Dict.showsAll d >>= _) _ _ s;unfold Builtin.Dict.showsAll;rw[if_neg (by rw[hd];exact Bool.false_ne_true)];refine wpAny_bind (wpAny_pure (wpAny_bind (wpAny_dictEntries ho hdat (wpAny_bind (wpAny_dictEpoch ho hdat ?_)))));exact wpAny_bind (wpAny_newObj_type (wpAny_pure ⟨_,rfl,"dict_keyiterator",_,⟨_,Heap.get?_push_size _ rfl,rfl⟩,F.slot_dict_keyiterator_next.lookup,hQ⟩))
theorem sL{Q:Option Value->Shared->Prop}(hit:s.heap.IsKeyIter it d i es.size ep)(hod:s.heap.get? d=some od)(hdd:od.data = .dict es ep)(hi:i<es.size)
  (hQ:∀h',h'.IsKeyIter it d (i+1) es.size ep->Heap.SameBut it s.heap h'->Q (some es[i].key) { s with heap:=h' }):wpAny (model prog w) A (pyNext (.ref it)) Q E s:=by
 obtain⟨o,ho,hc,hd⟩:=id hit;unfold pyNext;refine wpAny_bind (wpAny_attempt (wpAny_callSpecial?_slot (name:=Str.ofString "__next__") hit.typeIs F.slot_dict_keyiterator_next (wpAny_call_entry F.slot_dict_keyiterator_next hit.typeIs F.entry_dict_keyiterator_next ?_ (F.args_dict_keyiterator_next_1 _))));refine wpAny_bind (wpAny_pure (wpAny_bind (wpAny_bind ?_)))
 first|refine wpAny_bind (wpAny_typeNameOfWhole_keyiter hit.typeIs (wpAny_pure (wpAny_bind (wpAny_fieldsOf ho hd ?_))))|refine wpAny_bind (wpAny_typeNameOf_keyiter hit.typeIs (wpAny_pure (wpAny_bind (wpAny_fieldsOf ho hd ?_))))
 simp only[show Builtin.Dict_items.ownsTuple "dict_keyiterator" = false by decide,Bool.false_eq_true,if_false];show wpAny _ _ (if (Value.ref d == Value.none)=true then _ else _) _ _ s
 rw[if_neg (show ¬((Value.ref d == Value.none)=true) from Bool.false_ne_true)];refine wpAny_bind (wpAny_pure (wpAny_bind (wpAny_dictEntries hod hdd ?_)));rw[if_neg (by simp)];refine wpAny_bind (wpAny_pure (wpAny_bind (wpAny_dictEpoch hod hdd ?_)));rw[if_neg (by simp)];refine wpAny_pure ?_;simp only[show ¬((i:Int)<0) from by omega,if_false,Int.toNat_natCast,Array.getElem?_eq_getElem hi];refine wpAny_bind ?_
 first|refine wpAny_bind (wpAny_typeNameOfWhole_keyiter hit.typeIs (wpAny_pure (wpAny_bind (wpAny_isOneOf_keyiter hit.typeIs ?_))))|refine wpAny_bind (wpAny_typeNameOf_keyiter hit.typeIs (wpAny_pure (wpAny_bind (wpAny_isOneOf_keyiter hit.typeIs ?_))))
 show wpAny _ _ (setField (.ref it) 1 (rawInt ((i:Int)+1)) >>= _) _ _ s;refine wpAny_bind (wpAny_setField ho hd (by simp) ?_);have hit':(s.heap.update it (Obj.mapFields (·.setIfInBounds 1 (rawInt ((i:Int)+1))))).IsKeyIter it d (i+1) es.size ep:=⟨_,Heap.get?_update_self _ ho (Obj.isFreed_of_fields (Obj.data_mapFields hd _)),(Obj.cls_mapFields ..).trans hc,by rw[Obj.data_mapFields hd];simp[rawInt]⟩;refine wpAny_bind (wpAny_holding (wpAny_bind (wpAny_isOneOf_keyiter (s:={ s with heap:=s.heap.update it (Obj.mapFields (·.setIfInBounds 1 (rawInt ((i:Int)+1)))) }) hit'.typeIs ?_)));show wpAny _ _ (pure es[i].key) _ _ _;exact wpAny_pure (wpAny_pure ⟨_,rfl,wpAny_pure (hQ _ hit' (Heap.SameBut.update ..))⟩)
theorem vm{Q:Option Value->Shared->Prop}(hh:A.handled=none)(hit:s.heap.IsKeyIter it d i es.size ep)(hod:s.heap.get? d=some od)(hdd:od.data = .dict es ep)(hge:es.size≤i)
  (hQ:∀h',Heap.ExtBut it s.heap h'->Q none { s with heap:=h' }):wpAny (model prog w) A (pyNext (.ref it)) Q E s:=by
 obtain⟨o,ho,hc,hd⟩:=id hit;unfold pyNext;refine wpAny_bind (wpAny_attempt (wpAny_callSpecial?_slot (name:=Str.ofString "__next__") hit.typeIs F.slot_dict_keyiterator_next (wpAny_call_entry F.slot_dict_keyiterator_next hit.typeIs F.entry_dict_keyiterator_next ?_ (F.args_dict_keyiterator_next_1 _))));refine wpAny_bind (wpAny_pure (wpAny_bind (wpAny_bind ?_)))
 first|refine wpAny_bind (wpAny_typeNameOfWhole_keyiter hit.typeIs (wpAny_pure (wpAny_bind (wpAny_fieldsOf ho hd ?_))))|refine wpAny_bind (wpAny_typeNameOf_keyiter hit.typeIs (wpAny_pure (wpAny_bind (wpAny_fieldsOf ho hd ?_))))
 simp only[show Builtin.Dict_items.ownsTuple "dict_keyiterator" = false by decide,Bool.false_eq_true,if_false];show wpAny _ _ (if (Value.ref d == Value.none)=true then _ else _) _ _ s
 rw[if_neg (show ¬((Value.ref d == Value.none)=true) from Bool.false_ne_true)];refine wpAny_bind (wpAny_pure (wpAny_bind (wpAny_dictEntries hod hdd ?_)));rw[if_neg (by simp)];refine wpAny_bind (wpAny_pure (wpAny_bind (wpAny_dictEpoch hod hdd ?_)));rw[if_neg (by simp)];refine wpAny_pure ?_;simp only[show ¬((i:Int)<0) from by omega,if_false,Int.toNat_natCast,Array.getElem?_eq_none hge];refine wpAny_bind ?_
 first|refine wpAny_bind (wpAny_typeNameOfWhole_keyiter hit.typeIs (wpAny_pure ?_));show wpAny _ _ (setField (.ref it) 0 .none >>= _) _ _ s|refine wpAny_bind (wpAny_typeNameOf_keyiter hit.typeIs (wpAny_pure ?_));show wpAny _ _ (setField (.ref it) 0 .none >>= _) _ _ s
 refine wpAny_bind (wpAny_setField ho hd (by simp) ?_);show wpAny _ _ (newExc (.type "StopIteration") [] >>= _) _ _ _;refine wpAny_bind ?_;simp only[newExc,newTuple];refine wpAny_bind (wpAny_newObj_type ?_ (by size_fits));refine wpAny_bind (m:=firstArgMember _ _) (wpAny_of_eq (a:=Value.none) (by first|rfl|(simp only[firstArgMember];rfl)) ?_)
 refine wpAny_newObj_type ?_ (by size_fits);simp only[raiseNew];refine wpAny_bind (wpAny_handled ?_);rw[show A.in1.handled=none from hh];refine wpAny_bind (wpAny_pure (wpAny_throw ?_));exact wpAny_bind (wpAny_isInstance (T:="StopIteration") (b:=true) ⟨_,Heap.get?_push_size _ rfl,rfl⟩ isSubtype_stop (wpAny_pure (hQ _ (((Heap.SameBut.update ..).extBut.push _).push _))))
end
def Itd(a:Addr)(o:Obj)(kvs:List (List Key×V)):It :=
 ⟨fun i H=>H a=some (.frz o (.dT kvs))∧i<kvs.length,fun i H x H'=>H'=H∧∃k v b,kvs[i]? = some (k,v)∧x = .ref b∧H b=some (.tup (k.map kV)),fun i H=>H a=some (.frz o (.dT kvs))∧kvs.length≤i⟩
theorem jM{P:Program}{w:World}{H:Hp}{h:Heap}{a:Addr}{o:Obj}{kvs:List (List Key×V)}{es:Array DictEntry}{ep:Nat}(k:HOk P w H h)(e:H a=some (.frz o (.dT kvs)))(d:o.data = .dict es ep) :
  h.get? a=some o∧o.cls = .type "dict"∧(a == sysModules)=false∧es.size=kvs.length∧∀(i:Nat) (hi:i<es.size),∃q v b,kvs[i]? = some (q,v)∧es[i].key = .ref b∧H b=some (.tup (q.map kV)):=by
 obtain⟨g,_,sm,xs,pr,o',es',ep',g',ex,d',el,_⟩:=(show h.get? a=some o∧a7 P w H h a (.dT kvs) from k a _ e);rw[g]at g';cases g';rw[d]at d';cases d';have len:es.size=kvs.length:=by
  have:=congrArg List.length el;rw[List.length_map]at this;rw[<- Array.length_toList,this];exact(Paired.length pr).symm
 refine⟨g,ex.1,sm,len,fun i hi=>?_⟩;have hx:i<xs.length:=by rw[<- Paired.length pr,<- len];exact hi
 have get:∀{kvs:List (List Key×V)} {xs:List (List Key×Addr×Value)},Paired (fun (p:List Key×V) (q:List Key×Addr×Value)=>p.1=q.1∧H q.2.1=some (.tup (p.1.map kV))∧aU p.2 q.2.2) kvs xs->∀(i:Nat) (q:List Key×Addr×Value),xs[i]? = some q->∃v,kvs[i]? = some (q.1,v)∧H q.2.1=some (.tup (q.1.map kV)):=by
  intro kvs xs pr
  induction pr with
  | nil=>intro i q e;simp at e
  | cons a r ih =>
   intro i q e;cases i with
   | zero =>
    simp at e;subst e;exact⟨_,by rw[<- a.1];rfl,by rw[<- a.1];exact a.2.1⟩
   | succ j=>exact ih j q (by simpa using e)
 obtain⟨q,hq⟩:∃q,xs[i]? = some q:=⟨xs[i],by simp[hx]⟩;obtain⟨v,e1,e2⟩:=get pr i q hq;have e3:es.toList[i]? = some (entryOfKey (tupleKind (bX P w)) q):=by rw[el,List.getElem?_map,hq];rfl
 have e4:es[i]=entryOfKey (tupleKind (bX P w)) q:=by
  have:es.toList[i]? = some es[i]:=by simp[hi]
  rw[this]at e3;exact Option.some.inj e3
 exact⟨q.1,v,q.2.1,e1,by rw[e4];rfl,e2⟩
theorem qB{P:Program}{w:World}{K:W.Frag}{tg:Expr}{kvs:List (List Key×V)}{es:Array DictEntry}{ep:Nat}{o:Obj}(a it:Addr)(hd:o.data = .dict es ep):Em P w K tg (Itd a o kvs) [it] it (fun i h=>h.IsKeyIter it a i es.size ep) where
 mem:=by simp
 obj:=fun i h st b hb=>by
  have e:b=it:=by simpa using hb
  subst e;obtain⟨o,e,c,d⟩:=st;exact⟨o,e,fun v z=>by rw[d]at z;cases z⟩
 keep:=fun i h h' st k=>st.at fun o e=>k it (by simp) o e
 item:=by
  intro X hP hw hK hc i pins s σ H E I hf st hg;subst hP hw hK;obtain⟨e,hi⟩:=hg;obtain⟨g,gc,_,len,at'⟩:=jM I.hok e hd;obtain⟨q,v,b,e1,e2,e3⟩:=at' i (by omega);obtain⟨f0,f1,f2,f3,f4,f5⟩:=hf it (by simp);refine sL st g hd (by omega) fun h' st' sb=>?_;have I1:Aa X pins σ H { s with heap:=h' }:=I.turned (t':=s.toks) (fun b o hb e=>(sb.2 b hb).trans e) f0 f1 f3 f4 f5;obtain⟨oi,ei,ci,di⟩:=id st';exact⟨_,rfl,m9 (s:={ s with heap:=h' }) ei ci di (by decide) ⟨.ref b,H,I1,e2,⟨rfl,q,v,b,e1,rfl,e3⟩,st',fun b hb=>(hf b hb).1⟩⟩
 done:=by
  intro X hP hw hK hc i pins s σ H E I hf st hg;subst hP hw hK;obtain⟨e,hi⟩:=hg;obtain⟨g,gc,_,len,_⟩:=jM I.hok e hd;obtain⟨f0,f1,f2,f3,f4,f5⟩:=hf it (by simp);exact vm (I.ok.hd hc) st g hd (by omega) fun h' eb=>⟨rfl,I.turned (t':=s.toks) (fun b o hb e=>eb b o hb e) f0 f1 f3 f4 f5⟩
 self:=fun _ _ _ _ _ st h=>wpAny_pyIter_keyiter st h
section
variable {X:Cx} {tg:Expr}
def ze(tl:TE):TI:=fun σ H R=>tl σ H fun x H1=>∃a o kvs,x = .ref a∧H1 a=some (.frz o (.dT kvs))∧R (Itd a o kvs) H1
theorem pT{l:Expr}{tl:TE}(hl:PE X l tl):PI X tg l (ze tl):=by
 intro pins s σ H R I h;refine thn (hl pins s σ H _ I h) fun v s1 ⟨x,H1,I1,r1,q1⟩=>?_;obtain⟨a,o,kvs,rfl,e,q⟩:=q1;obtain rfl:v=Value.ref a:=r1;obtain⟨es,ep,d⟩:∃es ep,o.data = .dict es ep:=by
  obtain⟨g,_,_,xs,pr,o',es',ep',g',ex,d',_⟩:=(show s1.heap.get? a=some o∧a7 X.prog X.w H1 s1.heap a (.dT kvs) from I1.hok a _ e);rw[g]at g';cases g';exact⟨_,_,d'⟩
 obtain⟨g,gc,sm,len,_⟩:=jM I1.hok e d;refine sK sm g gc d ?_;refine⟨s1.heap.objs.size,[s1.heap.objs.size],_,_,H1,rfl,I1.kept (t':=s1.toks) fun b o e=>Heap.get?_push_of_some _ e,qB a _ d,⟨_,Heap.get?_push_size _ rfl,rfl,rfl⟩,fun b hb=>?_,q⟩;have e:b=s1.heap.objs.size:=by simpa using hb
 subst e;exact I1.fpOk (Nat.le_refl _) (I1.hok.fresh (Nat.le_refl _))
def zG(te:TE):TE:=fun σ H Q=>te σ H fun x H1=>∃a kvs,x = .ref a∧H1 a=some (.dT kvs)∧∀o,Q (.ref a) (upd H1 a (.frz o (.dT kvs)))
theorem xE{e:Expr}{te:TE}(h:PE X e te):PE X e (zG te):=by
 intro pins s σ H Q I hq;refine thn (h pins s σ H _ I hq) fun v s1 ⟨x,H1,I1,r1,a,kvs,ex,ea,k⟩=>?_;subst ex;have ok:=I1.hok a _ ea;obtain⟨_,_,_,_,o,_,_,g,_⟩:=(show a7 X.prog X.w H1 s1.heap a (.dT kvs) from ok);have tup:∀b xs,H1 b=some (.tup xs)->upd H1 a (.frz o (.dT kvs)) b=some (.tup xs):=fun b xs q=>by
  rw[aH (fun z=>by rw[z,ea]at q;cases q)];exact q
 have J:Aa X pins σ (upd H1 a (.frz o (.dT kvs))) { s1 with heap:=s1.heap,toks:=s1.toks }:=I1.write (x:=a) (e:=a) (by rw[ea];trivial) (.inl rfl) (fun _ _ _ q=>q) ⟨o,g⟩
  ⟨g,ok.stay (fun _ _ _ q=>q) (fun b q=>by rw[aH (fun z=>by rw[z,ea]at q;cases q)];exact q) tup⟩
 exact⟨.ref a,_,J,r1,k o⟩
end
end L2
namespace L2
open PySem PySem.Spec PyProof.Rows PySem.W
abbrev KnO(o:Obj):HO:=.frz o (.ext fun _=>True)
theorem mZ{P:Program}{w:World}{H:Hp}{h:Heap}{a:Addr}{o:Obj}(e:h.get? a=some o):a7 P w H h a (KnO o):=⟨e,trivial,⟨o,e⟩,fun _ _ _ _=>trivial⟩
theorem fY{P:Program}{w:World}{H:Hp}{h:Heap}{a:Addr}{o:Obj}(k:HOk P w H h)(e:H a=some (KnO o)):h.get? a=some o:=(show h.get? a=some o∧_ from k a _ e).1
def cZ(H:Hp)(c:Addr)(v:V):Prop:=∃o u,H c=some (KnO o)∧o.data = .cell (some u)∧aU v u
def iH(H:Hp)(c:Addr)(q:Str):Prop:=∃o vs t,H c=some (KnO o)∧o.data = .fields vs∧vs[1]? = some (.str q t)
theorem iH.rec_{P:Program}{w:World}{H:Hp}{h:Heap}{c:Addr}{q:Str}(x:iH H c q)(k:HOk P w H h):h.CodeRec (.ref c) q:=by
 obtain⟨o,vs,t,e,d,g⟩:=x;exact⟨c,o,vs,t,rfl,fY k e,d,g⟩
def dF(p:Addr)(H H':Hp):Prop:=∀b o,b≠p->H b=some o->H' b=some o
def j7(K:Frag)(c p:Addr):Prop :=
 ∃o vs file tf flags tg inF text tt,K.lookup c=some o∧o.cls = .type "code"∧o.data = .fields vs∧vs[11]? = some (.ref p)∧vs.getD 11 .none = .ref p∧vs.getD 18 .none = .str file tf ∧
  vs.getD 7 .none = .int flags tg∧vs.getD 9 .none = .bool inF∧vs.getD 10 .none = .int text tt∧c≠p
theorem j7.hd{K:Frag}{c p:Addr}{h:Heap}(x:j7 K c p)(X:K.In h):CodeHd h c p:=by
 obtain⟨o,vs,file,tf,flags,tg,inF,text,tt,e,r⟩:=x;exact⟨o,vs,file,tf,flags,tg,inF,text,tt,X _ _ e,r⟩
def wF(K:Frag)(mg:Str->Option Value):Prop :=
 ∃bm o,mg "__builtins__" = some (.ref bm)∧bm≠builtinsNs∧bm≠mainGlobals∧K.lookup bm=some o∧o.cls = .type "module"∧o.dict=some builtinsNs∧o.data = .plain
def Tab(H:Hp)(p:Addr)(ls:List (Pos×Str)):Prop :=
 ∃ps,H p=some (.tbl ps)∧TriplesOk ps.toList∧∀l∈ls,codeAmong l.1 ps.toList=none∨∃c,codeAmong l.1 ps.toList=some (.ref c)∧iH H c l.2
theorem Tab.same{H H':Hp}{p:Addr}{ls:List (Pos×Str)}(t:Tab H p ls)(s:Same H H'):Tab H' p ls:=by
 obtain⟨ps,e,k,a⟩:=t;refine⟨ps,s _ _ e,k,fun l hl=>(a l hl).imp_right ?_⟩;rintro⟨c,e2,o,vs,t,e3,r⟩;exact⟨c,e2,o,vs,t,s _ _ e3,r⟩
def lD(H:Hp)(f:Addr)(q:Str)(params:Arguments)(body:Expr)(scope:Scope)(clos:List (Str×Addr)):Prop :=
 ∃pm c ctv,H f=some (KnO (kla_obj "<lambda>" q params body scope clos pm c ctv))∧iH H c q
theorem lD.same{H H':Hp}{f:Addr}{q:Str}{params:Arguments}{body:Expr}{scope:Scope}{clos:List (Str×Addr)}(t:lD H f q params body scope clos)(s:∀b o,H b=some (KnO o)->H' b=some (KnO o)):lD H' f q params body scope clos:=by
 obtain⟨pm,c,ctv,e,o,vs,t,e3,r⟩:=t;exact⟨pm,c,ctv,s _ _ e,o,vs,t,s _ _ e3,r⟩
theorem kF{pos pos':Pos}{c:Value}(l:List Value)(h:TriplesOk l)(ne:¬(pos'.line=pos.line∧pos'.col=pos.col)):codeAmong pos' (l++[rawInt pos.line,rawInt pos.col,c])=codeAmong pos' l:=by
 fun_induction TriplesOk l with
 | case1 =>
  show codeAmong pos' [rawInt pos.line,rawInt pos.col,c]=codeAmong pos' [];simp only[rawInt,codeAmong];rw[if_neg];intro z;rw[Bool.and_eq_true]at z;have z1:=eq_of_beq z.1;have z2:=eq_of_beq z.2;exact ne ⟨by omega,by omega⟩
 | case2 a ta b tb c' rest ih =>
  show codeAmong pos' (.int a ta::.int b tb::c'::(rest++[rawInt pos.line,rawInt pos.col,c]))=codeAmong pos' (.int a ta::.int b tb::c'::rest);unfold codeAmong;rw[ih h]
 | case3 l h1 h2=>exact h.elim
def zE(p:Addr)(ls:List (Pos×Str))(q:Str)(params:Arguments)(body:Expr)(scope:Scope)(clos:List (Str×Addr)):TE:=fun _ H Q =>
 Tab H p ls∧∀f H',dF p H H'->Tab H' p ls->lD H' f q params body scope clos->H f=none->Q (.ref f) H'
section
variable {X:Cx} {params:Arguments} {body:Expr} {scope:Scope} {pos:Pos} {clos:List (Str×Addr)} {c p:Addr} {ls:List (Pos×Str)} {q:Str}
theorem sR(hcl:closureFor scope X.env=pure clos)(hcode:X.env.code = .ref c)(C:j7 X.K c p)(B:wF X.K X.mg)(hdef:defaultsOf params X.env=([],[]))(hq:q=X.env.qual++"<lambda>")(hm:(pos,q)∈ls)
  (hd:∀l∈ls,l≠(pos,q)->¬(l.1.line=pos.line∧l.1.col=pos.col)):PE X (.Lambda params body scope pos) (zE p ls q params body scope clos):=by
 intro pins s σ H Q I h;obtain⟨⟨ps,hp,tk,ok⟩,k⟩:=h;subst hq;have hP:s.heap.get? p=some (tabObj ps):=I.hok p _ hp;have hg:s.heap.Ns mainGlobals X.mg:=I.mod.glob.keeps I.bk;have hgP:mainGlobals≠p:=fun z=>by
  obtain⟨o,es,ep,e,d,_⟩:=hg;rw[z,hP]at e;cases e;cases d
 obtain⟨bm,ob,b1,b2,b3,b4,b5,b6,b7⟩:=B;have hbm:=I.kIn _ _ b4;have hbP:bm≠p:=fun z=>by
  rw[z,hP]at hbm;cases hbm;cases b7
 have BA:s.heap.BuiltinsAt X.mg p:=⟨bm,ob,b1,b2,b3,hbP,hbm,b5,b6,b7⟩;have CH:=C.hd I.kIn;refine kla_eval hdef ?_;rcases ok _ hm with hn|⟨c',hc',ck⟩
 ·refine kla_makeFunction (mg:=X.mg) hcl I.ok.glob hg hcode CH hP tk hn hgP BA fun c' ctv h' t' hx hge hlt hrec htb=>?_
  obtain⟨c₂,oc,vs,t,e2,hoc,hd2,hv⟩:=hrec;cases e2;have hfo:h'.objs.size≠c':=Nat.ne_of_gt hlt;have hpo:p<s.heap.objs.size:=Heap.lt_size hP;have pc:p≠c':=Nat.ne_of_lt (Nat.lt_of_lt_of_le hpo hge);have pf:p≠h'.objs.size:=Nat.ne_of_lt (Nat.lt_trans (Nat.lt_of_lt_of_le hpo hge) hlt);have nc:H c'=none:=I.hok.fresh hge;have nf:H h'.objs.size=none:=I.hok.fresh (Nat.le_of_lt (Nat.lt_of_le_of_lt hge hlt));generalize hps:ps++#[rawInt pos.line,rawInt pos.col,.ref c']=ps' at htb;generalize hfob:kla_obj "<lambda>" (X.env.qual++"<lambda>") params body scope clos ((X.mg "__name__").getD .none) c' ctv=fo at *;have nfr:fo.isFreed=false:=by rw[<- hfob];rfl
  have ext:∀b o,b≠p->s.heap.get? b=some o->(h'.push fo).get? b=some o:=fun b o ne e=>Heap.get?_push_of_some _ (hx b o ne e)
  let H':Hp:=upd (upd (upd H p (.tbl ps')) c' (KnO oc)) h'.objs.size (KnO fo)
  have Hf:H' h'.objs.size=some (KnO fo):=upd_same;have Hc:H' c'=some (KnO oc):=(aH hfo.symm).trans upd_same;have Hp':H' p=some (.tbl ps'):=(aH pf).trans ((aH pc).trans upd_same);have Hb:∀b,b≠p->b≠c'->b≠h'.objs.size->H' b=H b:=fun b z1 z2 z3=>(aH z3).trans ((aH z2).trans (aH z1));have Hs:dF p H H':=fun b o ne e=>by
   rw[Hb b ne (fun z=>by rw[z,nc]at e;cases e) (fun z=>by rw[z,nf]at e;cases e)];exact e
  have old:∀b o,s.heap.get? b=some o->b≠c'∧b≠h'.objs.size:=fun b o e=>⟨Nat.ne_of_lt (Nat.lt_of_lt_of_le (Heap.lt_size e) hge),Nat.ne_of_lt (Nat.lt_trans (Nat.lt_of_lt_of_le (Heap.lt_size e) hge) hlt)⟩;have npn:∀b,H b=none->b≠p:=fun b n z=>by rw[z,hp]at n;cases n
  have un:Un X.fs [] H H' s.heap (h'.push fo):=by
   refine⟨fun b o e n _ _=>ext b o (npn b n) e,fun b o e n _ _=>⟨o.slots,ext b o (npn b n) e⟩,fun b o e n _=>?_,fun b o e _=>?_,fun b xs e=>Hs b _ (fun z=>by rw[z,hp]at e;cases e) e,fun b o u e=>Hs b _ (fun z=>by rw[z,hp]at e;cases e) e,fun b ps2 e=>?_⟩
   ·rw[Hb b (npn b n) (old b o e).1 (old b o e).2];exact n
   ·by_cases z:b=p
    ·subst z;exact⟨_,Heap.get?_push_of_some _ htb⟩
    ·exact⟨o,ext b o z e⟩
   ·by_cases z:b=p
    ·subst z
     rw[hp]at e;cases e;exact⟨_,by rw[Hp',<- hps]⟩
    ·exact⟨#[],by rw[Hs b _ z e];simp⟩
  have hok:HOk X.prog X.w H' (h'.push fo):=fun b u e=>by
   by_cases z3:b=h'.objs.size
   ·subst z3
    rw[Hf]at e;cases e;exact mZ (Heap.get?_push_size _ nfr)
   ·by_cases z2:b=c'
    ·subst z2
     rw[Hc]at e;cases e;exact mZ (Heap.get?_push_of_some _ hoc)
    ·by_cases z1:b=p
     ·subst z1
      rw[Hp']at e;cases e;exact Heap.get?_push_of_some _ htb
     ·rw[Hb b z1 z2 z3]at e
      refine(I.hok b u e).stay (fun d v hd' q=>ext d v ?_ q) (fun d q=>Hs d _ (fun z=>by rw[z,hp]at q;cases q) q) fun d xs q=>Hs d _ (fun z=>by rw[z,hp]at q;cases q) q;rcases hd' with rfl|hd'
      ·exact z1
      ·intro z
       rw[z,hp]at hd';cases hd'
  have CK:iH H' c' (X.env.qual++"<lambda>"):=⟨oc,vs,t,Hc,hd2,hv⟩;have e0:ps'.toList=ps.toList++[rawInt pos.line,rawInt pos.col,.ref c']:=by rw[<- hps];simp
  refine⟨.ref h'.objs.size,H',I.un (t':=t') un hok,rfl,k _ H' Hs ⟨ps',Hp',?_,fun l hl=>?_⟩ ⟨_,c',ctv,by rw[Hf,<- hfob],CK⟩ nf⟩
  ·rw[e0]
   exact TriplesOk_snoc _ _ _ _ tk
  ·by_cases z:l=(pos,X.env.qual++"<lambda>")
   ·subst z
    refine .inr ⟨c',?_,CK⟩;rw[e0];exact codeAmong_snoc _ tk hn
   ·rw[e0,kF _ tk (hd l hl z)]
    refine(ok l hl).imp_right ?_;rintro⟨c3,e3,o3,vs3,t3,e4,r4⟩;exact⟨c3,e3,o3,vs3,t3,Hs _ _ (fun z=>by rw[z,hp]at e4;cases e4) e4,r4⟩
 ·refine kla_makeFunctionHit (mg:=X.mg) hcl I.ok.glob hg hcode CH hP tk hc' BA fun ctv h' t' hx hsz=>?_
  have nf:H h'.objs.size=none:=I.hok.fresh hsz;have J:=I.laid (a:=h'.objs.size) (o:=KnO (kla_obj "<lambda>" (X.env.qual++"<lambda>") params body scope clos ((X.mg "__name__").getD .none) c' ctv)) (t':=t') (h':=h'.push (kla_obj "<lambda>" (X.env.qual++"<lambda>") params body scope clos ((X.mg "__name__").getD .none) c' ctv))
   (fun b o e=>Heap.get?_push_of_some _ (hx b o e)) hsz (mZ (Heap.get?_push_size _ rfl))
  have S:Same H (upd H h'.objs.size (KnO (kla_obj "<lambda>" (X.env.qual++"<lambda>") params body scope clos ((X.mg "__name__").getD .none) c' ctv))):=fun b o e=>by
   rw[aH (fun z=>by rw[z,nf]at e;cases e)];exact e
  obtain⟨o,vs,t,e3,r⟩:=ck;exact⟨.ref h'.objs.size,_,J,rfl,k _ _ (fun b o _ e=>S b o e) (Tab.same ⟨ps,hp,tk,ok⟩ S) ⟨_,c',ctv,upd_same,o,vs,t,S _ _ e3,r⟩ nf⟩
end
abbrev cut(C:List Addr)(H:Hp):Hp:=fun b=>if b∈C then none else H b
abbrev mK(C:List Addr)(H H1:Hp):Hp:=fun b=>if b∈C then H b else H1 b
theorem jV{C:List Addr}{H:Hp}{b:Addr}(h:b∈C):cut C H b=none:=if_pos h
theorem cz{C:List Addr}{H:Hp}{b:Addr}(h:b∉C):cut C H b=H b:=if_neg h
theorem lJ{C:List Addr}{H H1:Hp}{b:Addr}(h:b∈C):mK C H H1 b=H b:=if_pos h
theorem cU{C:List Addr}{H H1:Hp}{b:Addr}(h:b∉C):mK C H H1 b=H1 b:=if_neg h
theorem kQ{C:List Addr}{H H1:Hp}(s:Same (cut C H) H1):Same H (mK C H H1):=fun b o e=>by
 by_cases h:b∈C
 ·rw[lJ h];exact e
 ·rw[cU h];exact s b o ((cz h).trans e)
theorem yg{P:Program}{w:World}{H:Hp}{h:Heap}{C:List Addr}(hok:HOk P w H h)(hC:∀c∈C,∃o,H c=some (KnO o)):HOk P w (cut C H) h:=fun b u e=>by
 have hb:b∉C:=fun z=>by rw[jV z]at e;cases e
 rw[cz hb]at e;have ne:∀d o,H d=some o->(∀z,o≠KnO z)->d∉C:=fun d o e n z=>by
  obtain⟨o',e'⟩:=hC d z;rw[e]at e';exact n o' (Option.some.inj e')
 refine(hok b u e).stay (fun _ _ _ q=>q) (fun d q=>?_) fun d xs q=>?_
 ·rw[cz (ne d _ q fun z q=>by cases q)];exact q
 ·rw[cz (ne d _ q fun z q=>by cases q)];exact q
def uA(P:Program)(w:World)(K:W.Frag)(mg:Str->Option Value)(base:Heap)(N:List Str)(qual:Str)(scope:Scope)(f:Addr)(cd:Value)(cl:List (Str×Addr))(A:Around)(outer:List Env)(s:Shared)(H:Hp):Cx where
 prog:=P
 w:=w
 K:=K
 mg:=mg
 base:=base
 A:=A.deeper (envX qual scope s.heap.objs.size f cd cl)
 N:=N
 s₀:=s
 H₀:=H
 env:=envX qual scope s.heap.objs.size f cd cl
 outer:=outer
 stack:=envX qual scope s.heap.objs.size f cd cl::outer
 ex:=[]
 calm:=true
 fn:=fun _=>false
 pn:=[]
 xe:=fun _ _=>False
structure FM(x:Str)(scope:Scope)(cl:List (Str×Addr)):Prop where
 kind:scope.kind = .function
 co:scope.isCoroutine=false
 gen:scope.isGenerator=false
 cell:∀y∈scope.names,y.2≠.cell
 own:scope.names.lookup x=some .local
 has:(scope.names.all fun q=>!(q.2 == .free) || (cl.lookup q.1).isSome)=true
 nd:(x::cl.map (·.1)).Nodup
 fr:∀p∈cl,scope.names.lookup p.1=some .free
 inj:∀p∈cl,∀q∈cl,p.2=q.2->p.1=q.1
theorem rK{cl:List (Str×Addr)}:∀(_:(cl.map (·.1)).Nodup) {j:Nat} {y:Str} {c:Addr},cl[j]? = some (y,c)->cl.lookup y=some c:=by
 induction cl with
 | nil=>intro _ j y c e;simp at e
 | cons a r ih =>
  intro nd j y c e;rw[List.map_cons,List.nodup_cons]at nd;rw[List.lookup_cons];cases j with
  | zero =>
   simp at e;subst e;simp
  | succ j =>
   have e':r[j]? = some (y,c):=by simpa using e
   have:y≠a.1:=fun z=>nd.1 (List.mem_map.mpr ⟨(y,c),List.mem_of_getElem? e',z⟩);rw[beq_eq_false_iff_ne.mpr this];exact ih nd.2 e'
section
variable {P:Program} {w:World} {K:W.Frag} {mg:Str->Option Value} {base:Heap}
theorem vG{x q:Str}{scope:Scope}{cl:List (Str×Addr)}{f c:Addr}{A:Around}{outer:List Env}{s:Shared}{h₁:Heap}{tk:Nat}{H:Hp}{v:V}{u:Value}{ws:List V}(L:FM x scope cl)(hd:A.handled=none)(e0:Ew P w K mg base A outer s H)
  (cs:Paired (fun (p:Str×Addr) z=>cZ H p.2 z) cl ws) (rv:aU v u) (hns:h₁.Ns s.heap.objs.size (fun y=>[(x,u)].reverse.lookup y)) (hk:∀b o,s.heap.get? b=some o->h₁.get? b=some o) :
  Aa (uA P w K mg base (x::cl.map (·.1)) q scope f (.ref c) cl A outer s (cut (cl.map (·.2)) H)) [] (some v::ws.map some) (cut (cl.map (·.2)) H) { s with heap:=h₁,toks:=tk }:=by
 have get:∀{j:Nat} {p:Str×Addr},cl[j]? = some p->∃z,ws[j]? = some z∧cZ H p.2 z:=by
  clear L hns
  induction cs with
  | nil=>intro j p e;simp at e
  | cons a r ih =>
   intro j p e;cases j with
   | zero=>simp at e;subst e;exact⟨_,rfl,a⟩
   | succ j=>exact ih (by simpa using e)
 have len:cl.length=ws.length:=Paired.length cs;have hC:∀d∈cl.map (·.2),∃o,H d=some (KnO o):=fun d hd'=>by
  obtain⟨p,hp,rfl⟩:=List.mem_map.mp hd';obtain⟨j,hj⟩:=List.getElem?_of_mem hp;obtain⟨z,_,o,_,e,_⟩:=get hj;exact⟨o,e⟩
 have isC:∀y d,cl.lookup y=some d->d∈cl.map (·.2)∧∃z,s.heap.IsCell d z:=fun y d e=>by
  have hm:=PySem.mem_of_lookup e;obtain⟨j,hj⟩:=List.getElem?_of_mem hm;obtain⟨z,_,o,u',e',d',_⟩:=get hj;exact⟨List.mem_map.mpr ⟨_,hm,rfl⟩,some u',o,fY e0.hok e',d'⟩
 have noA:∀b:Addr,b∉(uA P w K mg base (x::cl.map (·.1)) q scope f (.ref c) cl A outer s (cut (cl.map (·.2)) H)).ex:=fun b z=>absurd (show b∈([]:List Addr) from z) (by simp);have hcut:=yg (C:=cl.map (·.2)) e0.hok hC;have cn:∀b,H b=none->cut (cl.map (·.2)) H b=none:=fun b n=>by
  by_cases z:b∈cl.map (·.2)
  ·exact jV z
  ·rw[cz z];exact n
 have inv:∀h':Heap,(∀b o,s.heap.get? b=some o->h'.get? b=some o)->Un (frs outer) [] (cut (cl.map (·.2)) H) (cut (cl.map (·.2)) H) s.heap h':=fun h' k=>Un.kept k;refine⟨⟨e0.mod,L.kind,rfl,rfl,Nat.le_refl _,fun y z d h1 h2=>?_,fun y hy=>?_,fun y d z=>(by cases z),fun _=>hd,Around.frames_deeper e0.frames,.inr ⟨rfl,rfl⟩,fun b z=>absurd z (noA b),fun b o e=>⟨(e0.bs b o e).1,cn b (e0.bs b o e).2⟩,e0.bsz,fun b _ _=>noA b,fun b z=>absurd z (noA b),e0.funs,fun b hb=>cn b (e0.frf b hb)⟩,
  rfl,e0.bare,inv h₁ hk,⟨_,hns,fun i y v' h1 h2 h3=>?_⟩,fun y d h=>?_,?_,fun y d h=>?_,fun p hp=>absurd (show p∈([]:List (Addr×Obj)) from hp) (by simp),hcut.kept hk,?_⟩
 ·exact L.inj _ (PySem.mem_of_lookup h1) _ (PySem.mem_of_lookup h2) rfl
 ·have hy:scope.names.lookup y=some .cell∨scope.names.lookup y=some .free:=hy
  rcases hy with hy|hy
  ·exact absurd rfl (L.cell _ (PySem.mem_of_lookup hy))
  ·have q:=List.all_eq_true.mp L.has _ (PySem.mem_of_lookup hy)
   have q:(cl.lookup y).isSome=true:=by simpa only[beq_self_eq_true,Bool.not_true,Bool.false_or]using q
   exact Option.isSome_iff_exists.mp q
 ·have h1:(x::cl.map (·.1))[i]? = some y:=h1
  cases i with
  | zero =>
   have e1:x=y:=by simpa using h1
   have e2:v=v':=by simpa using h2
   subst e1 e2;exact⟨u,rv,.inl ⟨L.own,by simp⟩⟩
  | succ j =>
   have e1:(cl.map (·.1))[j]? = some y:=by simpa using h1
   rw[List.getElem?_map]at e1;cases hj:cl[j]? with
   | none=>rw[hj]at e1;cases e1
   | some p =>
    rw[hj]at e1;have e1:p.1=y:=by simpa using e1
    obtain⟨z,hz,o,u',e',d',r'⟩:=get hj;have e2:z=v':=by
     have:(ws.map some)[j]? = some (some v'):=by simpa using h2
     rw[List.getElem?_map,hz]at this;simpa using this
    subst e1 e2;refine⟨u',r',.inr ⟨.inr (L.fr p (List.mem_of_getElem? hj)),p.2,rK (List.nodup_cons.mp L.nd).2 (c:=p.2) (y:=p.1) hj,o,hk _ _ (fY e0.hok e'),d'⟩⟩
 ·obtain⟨z,o,e,d'⟩:=(isC y d h).2
  exact⟨z,o,hk _ _ e,d'⟩
 ·exact cn _ (e0.hok.fresh (Nat.le_refl _))
 ·exact jV (isC y d h).1
 ·show(some v::ws.map some).length=(x::cl.map (·.1)).length
  simp[len]
def yQ(f:Addr)(q:Str)(params:Arguments)(body:Expr)(scope:Scope)(cl:List (Str×Addr))(pm:Value)(c:Addr)(ctv:Value)(te:TE):Sp:=fun vs H Q _ =>
 ∃v ws,vs = [v]∧H f=some (KnO (kla_obj "<lambda>" q params body scope cl pm c ctv))∧iH H c q∧Paired (fun (p:Str×Addr) z=>cZ H p.2 z) cl ws ∧
  te (some v::ws.map some) (cut (cl.map (·.2)) H) fun r H1=>(∀c∈cl.map (·.2),H1 c=none)->Q r (mK (cl.map (·.2)) H H1)
theorem tS{x q:Str}{params:Arguments}{body:Expr}{scope:Scope}{cl:List (Str×Addr)}{pm ctv:Value}{f c:Addr}{te:TE}{k:Nat}(L:FM x scope cl)
  (hbody:∀(A:Around) (outer:List Env) (s:Shared) (H:Hp),Ar k (A.deeper (envX q scope s.heap.objs.size f (.ref c) cl))->PE (uA P w K mg base (x::cl.map (·.1)) q scope f (.ref c) cl A outer s H) body te) :
  CO P w K mg base CX0 (k+1) f (kla_fn "<lambda>" q params body scope cl pm (.ref c) ctv) [x] (yQ f q params body scope cl pm c ctv te):=by
 refine⟨fun vs H Q E h=>?_,fun A outer s H args us vs Q E hr e0 hb r hsp=>?_⟩
 ·obtain⟨v,ws,rfl,_⟩:=h
  rfl
 ·obtain⟨v,ws,rfl,ef,ck,cs,h⟩:=hsp
  cases r with
  | cons rv r =>
   cases r;rename_i u;have lim:s.heap.NoLimit:=e0.mod.nolimit.keeps fun b o e=>(e0.bs b o e).1;refine kla_callFunE hr.depth (fY e0.hok ef) rfl L.co L.gen rfl (ck.rec_ e0.hok) (hb _ _ _ _ ?_);refine wpAny_newFunctionEnv L.cell (fun y hy=>?_) (fun h₁ hns hsb=>⟨lim.fresh _ hsb,?_⟩) L.kind
   ·obtain rfl:y=(x,u):=by simpa using hy
    exact L.own
   ·show codeAny _ _ (.expr body (envX q scope s.heap.objs.size f (.ref c) cl)) _ _
    have hk₁:∀b o,s.heap.get? b=some o->h₁.get? b=some o:=fun b o e=>hsb.extBut b o (Nat.ne_of_lt (Heap.lt_size e)) (Heap.get?_push_of_some _ e);have I:=vG (q:=q) (f:=f) (c:=c) (tk:=s.toks+([x].zip [u]).length) L hr.hd e0 cs rv hns hk₁;refine kla_codeExpr (wpAny_mono (hbody A outer s _ (hr.deeper _) _ _ _ _ _ I h) (fun u' s' hq=>?_) fun _ _ z=>False.elim z);obtain⟨v',H1,J,r',q'⟩:=hq;have hC:∀d∈cl.map (·.2),∃o,H d=some (KnO o)∧s.heap.get? d=some o:=fun d hd'=>by
     obtain⟨p,hp,rfl⟩:=List.mem_map.mp hd';have:∀{l:List (Str×Addr)} {ws:List V},Paired (fun (p:Str×Addr) z=>cZ H p.2 z) l ws->p∈l->∃z,cZ H p.2 z:=by
      intro l ws cs
      induction cs with
      | nil=>intro z;cases z
      | cons a r ih =>
       intro z;rcases List.mem_cons.mp z with rfl|z
       ·exact⟨_,a⟩
       ·exact ih z
     obtain⟨z,o,_,e,_⟩:=this cs hp;exact⟨o,e,fY e0.hok e⟩
    have B:Un (frs outer) [] (cut (cl.map (·.2)) H) H1 s.heap s'.heap:=J.base;have nin:∀b,(∀o,H b≠some (KnO o))->b∉cl.map (·.2):=fun b n z=>by
     obtain⟨o,e,_⟩:=hC b z;exact n o e
    have out:∀b,H b=none->b∉cl.map (·.2):=fun b n=>nin b fun o e=>by rw[n]at e;cases e
    have h1n:∀d∈cl.map (·.2),H1 d=none:=fun d hd'=>by
     obtain⟨o,_,e⟩:=hC d hd';exact B.free d o e (jV hd') (by simp)
    have sC:∀d∈cl.map (·.2),∀o,s.heap.get? d=some o->s'.heap.get? d=some o:=fun d hd' o e=>by
     refine B.keep d o e (jV hd') (fun z=>?_) (by simp);obtain⟨o',e',_⟩:=hC d hd';rw[e0.frf d z]at e';cases e'
    refine⟨v',mK (cl.map (·.2)) H H1,J.os,J.bare,⟨fun b o e n hb hx=>?_,fun b o e n hb hx=>?_,fun b o e n hx=>?_,fun b o e hx=>B.there b o e hx,fun b xs e=>?_,fun b o u e=>?_,fun b ps e=>?_⟩,fun b u e=>?_,r',q' h1n⟩
    ·exact B.keep b o e ((cz (out b n)).trans n) hb hx
    ·exact B.slot b o e ((cz (out b n)).trans n) hb hx
    ·rw[cU (out b n)]
     exact B.free b o e ((cz (out b n)).trans n) hx
    ·have z:b∉cl.map (·.2):=nin b fun o' e'=>by rw[e]at e';cases e'
     rw[cU z];exact B.tups b xs ((cz z).trans e)
    ·by_cases z:b∈cl.map (·.2)
     ·rw[lJ z];exact e
     ·rw[cU z]
      exact B.frzs b o u ((cz z).trans e)
    ·have z:b∉cl.map (·.2):=nin b fun o' e'=>by rw[e]at e';cases e'
     obtain⟨more,q⟩:=B.tbls b ps ((cz z).trans e);exact⟨more,by rw[cU z];exact q⟩
    ·by_cases z:b∈cl.map (·.2)
     ·rw[lJ z]at e
      obtain⟨o,e',g⟩:=hC b z;rw[e]at e';cases e';exact mZ (sC b z o g)
     ·rw[cU z]at e
      refine(J.hok b u e).stay (fun _ _ _ q=>q) (fun d q=>?_) fun d xs q=>?_
      ·rw[cU fun z=>by rw[h1n d z]at q;cases q];exact q
      ·rw[cU fun z=>by rw[h1n d z]at q;cases q];exact q
end
def xl(cs:List (Addr×Nat))(sp:Sp)(t:TA):TE:=fun σ H Q=>t σ H fun vs H1=>∀H2,Same H1 H2->(∀p∈cs,∀v,σ[p.2]? = some (some v)->cZ H2 p.1 v) ->
 sp vs H2 (fun r H3=>∀H4,(∀b o,H3 b=some o->(∀z,o=KnO z->∀u,z.data≠.cell u)->H4 b=some o)->(∀b o,H1 b=some o->H3 b=some o->H4 b=some o)->Q r H4) E0
section
variable {X:Cx} {x:Str} {ps:List Str} {k:Nat} {sp:Sp} {p pos:Pos} {e:Expr} {es:List Expr} {t:TA} {cs:List (Addr×Nat)}
open Classical in
theorem ve{pins:List (Addr×Obj)}{σ:St}{H:Hp}{s:Shared}{Q:VK}{us:List Value}{vs:List V}{f:Addr}{fd:FuncData}(F:CO X.prog X.w X.K X.mg X.base CX0 k f fd ps sp)(hr:Ar k X.A)(hb:eM X.K fd ps [])(hfn:∀x,X.fn x=true)
  (hcs:∀p∈cs,∃y,X.env.cells.lookup y=some p.1∧X.N[p.2]? = some y∧X.env.kindOf y=some .cell∧Vis X.env.scope y) (I:Aa X pins σ H s) (r:aN vs us)
  (h:∀H2,Same H H2->(∀p∈cs,∀v,σ[p.2]? = some (some v)->cZ H2 p.1 v) ->
   sp vs H2 (fun r H3=>∀H4,(∀b o,H3 b=some o->(∀z,o=KnO z->∀u,z.data≠.cell u)->H4 b=some o)->(∀b o,H b=some o->H3 b=some o->H4 b=some o)->Q r H4) E0) :
  wpAny (model X.prog X.w) X.A (call (.ref f) us) (EP X pins σ Q) X.xe s:=by
 let isC:Addr->Prop:=fun b=>∃y,X.env.cells.lookup y=some b
 let H2:Hp:=fun b=>if isC b then (s.heap.get? b).map KnO else H b
 have in2:∀b,isC b->H2 b=(s.heap.get? b).map KnO:=fun b z=>if_pos z;have out2:∀b,¬isC b->H2 b=H b:=fun b z=>if_neg z;have cN:∀b,isC b->H b=none:=fun b ⟨y,e⟩=>I.freeC y b e;have cG:∀b,isC b->∃o z,s.heap.get? b=some o∧o.data = .cell z:=fun b ⟨y,e⟩=>by
  obtain⟨z,o,e1,e2⟩:=I.cell y b e;exact⟨o,z,e1,e2⟩
 have cK:∀b o,isC b->s.heap.get? b=some o->H2 b=some (KnO o):=fun b o z e=>by rw[in2 b z,e];rfl
 have cA:∀b,isC b->X.s₀.heap.objs.size≤b:=fun b ⟨y,e⟩=>I.ok.cab y b (hfn y) e;have same:Same H H2:=fun b o e=>by
  rw[out2 b fun z=>by rw[cN b z]at e;cases e];exact e
 have frn:∀b∈frs X.stack,¬isC b:=fun b hb ⟨y,e⟩=>by
  rcases List.mem_cons.mp (I.stkSub b hb) with z|z
  ·exact I.cne y b e z
  ·obtain⟨_,o,ho,_⟩:=I.ok.funs.mem z
   exact absurd (Nat.lt_of_lt_of_le (Heap.lt_size ho) (cA b ⟨y,e⟩)) (Nat.lt_irrefl _)
 have hok2:HOk X.prog X.w H2 s.heap:=fun b u e=>by
  by_cases z:isC b
  ·obtain⟨o,z',e1,_⟩:=cG b z
   rw[cK b o z e1]at e;cases e;exact mZ e1
  ·rw[out2 b z]at e
   exact(I.hok b u e).stay (fun _ _ _ q=>q) (fun d q=>same d _ q) fun d xs q=>same d _ q
 have e0:=I.env0;have e2:Ew X.prog X.w X.K X.mg X.base X.A X.stack s H2:=by
  refine⟨e0.frames,e0.mod,fun b o e=>⟨(e0.bs b o e).1,?_⟩,e0.bsz,e0.funs,fun b hb=>?_,hok2,e0.bare⟩
  ·rw[out2 b fun z=>absurd (Nat.lt_of_lt_of_le (Heap.lt_size e) (Nat.le_trans I.ok.bsz (cA b z))) (Nat.lt_irrefl _)]
   exact(e0.bs b o e).2
  ·rw[out2 b (frn b hb)]
   exact e0.frf b hb
 have cells:∀p∈cs,∀v,σ[p.2]? = some (some v)->cZ H2 p.1 v:=fun p hp v hv=>by
  obtain⟨y,h1,h2,h3,h4⟩:=hcs p hp;obtain⟨m,hn,hl⟩:=I.loc;obtain⟨u,ru,l⟩:=hl p.2 y v h2 hv h4;rcases l with⟨kk,_⟩|⟨_,c,hc,o,ho,hd⟩
  ·rw[h3]at kk;cases kk
  ·rw[h1]at hc
   cases hc;exact⟨o,u,cK _ o ⟨y,h1⟩ ho,hd,ru⟩
 have hq:=h H2 same cells;have hl:(us++[]).length=ps.length:=by rw[List.append_nil,<- r.length];exact F.len _ _ _ _ hq
 have hbb:=hb s us I.kIn hl;rw[List.append_nil]at hbb;refine wpAny_call (codeAny_mono (F.run X.A X.stack s H2 ⟨us,[]⟩ us vs _ E0 hr e2 hbb r hq) fun r s' hq=>?_);cases r with
 | error e=>exact False.elim hq
 | ok fl =>
  cases fl with
  | next=>exact False.elim hq
  | brk=>exact False.elim hq
  | cont=>exact False.elim hq
  | ret u =>
   obtain⟨v,H3,os,bare,un,hok,rv,q⟩:=hq
   let H4:Hp:=fun b=>if isC b then none else H3 b
   have in4:∀b,isC b->H4 b=none:=fun b z=>if_pos z;have out4:∀b,¬isC b->H4 b=H3 b:=fun b z=>if_neg z;have c3:∀b,isC b->∃o,H3 b=some (KnO o)∧s.heap.get? b=some o∧s'.heap.get? b=some o:=fun b z=>by
    obtain⟨o,z',e1,_⟩:=cG b z;have e3:=un.frzs b o _ (cK b o z e1);exact⟨o,e3,e1,fY hok e3⟩
   refine I.after ⟨v,H4,os,bare,⟨fun b o e n hb hx=>?_,fun b o e n hb hx=>?_,fun b o e n hx=>?_,fun b o e hx=>un.there b o e hx,fun b xs e=>?_,fun b o u e=>?_,fun b ps e=>?_⟩,fun b u e=>?_,rv,q H4 (fun b o e n=>?_) fun b o e e3=>?_⟩
   ·by_cases z:isC b
    ·obtain⟨o',_,e1,e2⟩:=c3 b z
     rw[e]at e1;cases e1;exact e2
    ·exact un.keep b o e ((out2 b z).trans n) hb hx
   ·exact un.slot b o e ((out2 b (frn b hb)).trans n) hb hx
   ·by_cases z:isC b
    ·exact in4 b z
    ·rw[out4 b z]
     exact un.free b o e ((out2 b z).trans n) hx
   ·have z:¬isC b:=fun z=>by rw[cN b z]at e;cases e
    rw[out4 b z];exact un.tups b xs ((out2 b z).trans e)
   ·have z:¬isC b:=fun z=>by rw[cN b z]at e;cases e
    rw[out4 b z];exact un.frzs b o u ((out2 b z).trans e)
   ·have z:¬isC b:=fun z=>by rw[cN b z]at e;cases e
    rw[out4 b z];exact un.tbls b ps ((out2 b z).trans e)
   ·have z:¬isC b:=fun z=>by rw[in4 b z]at e;cases e
    rw[out4 b z]at e;refine(hok b u e).stay (fun _ _ _ q=>q) (fun d q=>?_) fun d xs q=>?_
    ·rw[out4 d fun z=>by obtain⟨o,e3,_⟩:=c3 d z;rw[e3]at q;cases q];exact q
    ·rw[out4 d fun z=>by obtain⟨o,e3,_⟩:=c3 d z;rw[e3]at q;cases q];exact q
   ·rw[out4 b fun z=>by
     obtain⟨o',e3,e1,_⟩:=c3 b z;obtain⟨o2,z',e4,d⟩:=cG b z;rw[e1]at e4;cases e4;rw[e3]at e;exact n o' (Option.some.inj e).symm _ d]
    exact e
   ·rw[out4 b fun z=>by rw[cN b z]at e;cases e]
    exact e3
theorem vI{H H1:Hp}(h:∀b o,H b=some o->(∀z,o=KnO z->∀u,z.data≠.cell u)->H1 b=some o):∀b o,H b=some o->(∀z,o≠KnO z)->H1 b=some o:=fun b o e n=>h b o e fun z q=>absurd q (n z)
theorem xF(F:Fn X.prog X.w X.K X.mg X.base x ps k sp)(hr:Ar k X.A)(hg:Gl X x)(hfn:∀x,X.fn x=true)(hcs:∀p∈cs,∃y,X.env.cells.lookup y=some p.1∧X.N[p.2]? = some y∧X.env.kindOf y=some .cell∧Vis X.env.scope y)(ha:PA X (e::es) t)
  (hdb:(x == ("__debug__" : Str))=false:=by decide) (he:starEach (e::es) X.env=(false,eval e X.env)::starEach es X.env:=by rfl) (hpl:(backTo pos (starEach es X.env)).any (·.1)=false:=by rfl) :
  PE X (.Call (.Name x p) (e::es) [] pos) (xl cs sp t):=by
 obtain⟨f,fd,o,hm,hk,hb,_,G⟩:=F.ex;intro pins s σ H Q I h;refine wpAny_Call_Name_kw (eA I hg hm ?_ hdb);refine W.callWith_K (h₀:=X.base) I.ok.mod.kin hk (thn (ha pos pins s σ H _ I h) fun us s1 ⟨vs,H1,I1,r,q⟩=>⟨I1.kIn,?_⟩) he hpl;exact ve G hr (.all hb) hfn hcs I1 r q
def yv(P:Program)(w:World)(K:W.Frag)(mg:Str->Option Value)(base:Heap)(k:Nat)(f:Addr)(sp:Sp):Prop:=∃(fd:FuncData) (ps:List Str),CO P w K mg base CX0 k f fd ps sp∧eM K fd ps []
def o6(H:Hp)(f:Addr):Prop:=∃o fd,H f=some (KnO o)∧o.data = .func fd
def xk(P:Program)(w:World)(K:W.Frag)(mg:Str->Option Value)(base:Heap)(k i:Nat)(t:TA):TE:=fun σ H Q =>
 ∃f sp,σ[i]? = some (some (.ref f))∧yv P w K mg base k f sp∧o6 H f∧t σ H fun vs H1=>o6 H1 f∧sp vs H1 Q E0
theorem mO{i:Nat}(hr:Ar k X.A)(hN:X.N[i]? = some x)(hv:Vis X.env.scope x)(ha:PA X (e::es) t)
  (hdb:(x == ("__debug__" : Str))=false:=by decide) (hcd:(x == ("__classdict__" : Str))=false:=by decide) (he:starEach (e::es) X.env=(false,eval e X.env)::starEach es X.env:=by rfl) (hpl:(backTo pos (starEach es X.env)).any (·.1)=false:=by rfl) :
  PE X (.Call (.Name x p) (e::es) [] pos) (xk X.prog X.w X.K X.mg X.base k i t):=by
 intro pins s σ H Q I h;obtain⟨f,sp,hs,⟨fd',ps',G',hb⟩,⟨o,fd,eo,ed⟩,h⟩:=h;refine wpAny_Call_Name_kw (thn (sP (i:=i) hN hv hdb hcd pins s σ H (fun v H'=>v = .ref f∧H'=H) I ⟨_,hs,rfl,rfl⟩) fun u s1 ⟨v,H1,I1,rv,ev,eH⟩=>?_);subst ev eH;obtain rfl:u=Value.ref f:=rv;have at':∀{s:Shared} {H:Hp} {o:Obj} {fd:FuncData},HOk X.prog X.w H s.heap->H f=some (KnO o)->o.data = .func fd->FnAt f s.heap:=fun {s H o fd} k e d=>by
  have g:=fY k e;obtain⟨oc,od,dt,sl⟩:=o;cases d;exact⟨oc,od,fd,sl,g⟩
 refine callWith_F (at' I1.hok eo ed) (thn (ha pos pins s1 σ H1 _ I1 h) fun us s2 ⟨vs,H2,I2,r,⟨o2,fd2,eo2,ed2⟩,q⟩=>⟨at' I2.hok eo2 ed2,?_⟩) he hpl;exact sG (ds:=[]) (dvs:=[]) G' hr hb .nil wO I2 r (by rw[List.append_nil];exact q)
theorem lD.obj{H:Hp}{f:Addr}{q:Str}{params:Arguments}{body:Expr}{scope:Scope}{clos:List (Str×Addr)}(t:lD H f q params body scope clos):o6 H f:=by
 obtain⟨pm,c,ctv,e,_⟩:=t;exact⟨_,_,e,rfl⟩
end
structure GD(K:W.Frag)(mg:Str->Option Value)(x:Str)(st:Stmt)(p:Addr):Prop where
 ex:∃(f:Addr) (oc:Value) (od:Option Addr) (kV doc pm:Value) (an:Option Addr) (c:Addr) (ct:Value) (osl:Array (Option Value)),
  mg x=some (.ref f)∧K.lookup f=some ⟨oc,od,.func (W.fnOf x x (aY st) (aK st) (am st) .none kV doc pm an (.ref c) ct),osl⟩∧W.codeIn K (.ref c) x=true∧W.keepIn K (.ref f)=true∧j7 K c p
theorem GD.fn{P:Program}{w:World}{K:W.Frag}{mg:Str->Option Value}{base:Heap}{x:Str}{st:Stmt}{p:Addr}{N ps:List Str}{k:Nat}{sp:Sp}(D:GD K mg x st p)(S:zZ N ps (am st))
  (hbind:∀(kV doc pm:Value) (an:Option Addr) (cdv ct:Value) (us:List Value),us.length=ps.length->bindArgs (W.fnOf x x (aY st) (aK st) (am st) .none kV doc pm an cdv ct) ⟨us,[]⟩=pure (ps.zip us))
  (len:∀vs H Q E,sp vs H Q E->vs.length=ps.length)
  (hbody:∀(f:Addr) (cdv:Value) (A:Around) (outer:List Env) (s:Shared) (H:Hp) (vs:List V) (Q:VK) (E:XK),(∃c,cdv = .ref c∧j7 K c p)->Ar k (A.deeper (envOfC x (am st) s.heap.objs.size f cdv))->sp vs H Q E ->
   ∃t,PSs (bE CX0 P w K mg base N x (am st) f cdv A outer s H E).nox (aK st) t∧t { nx:=fun _ H'=>Q .non H',rt:=Q } (eE N vs) H):Fn P w K mg base x ps (k+1) sp:=by
 obtain⟨f,oc,od,kV,doc,pm,an,c,ct,osl,hm,lk,hcd,hk,hc⟩:=D.ex;refine⟨⟨f,_,_,hm,hk,hbind kV doc pm an (.ref c) ct,⟨lk,rfl⟩,nF lk hcd S len fun A outer s H vs Q E hr hsp=>?_⟩⟩;obtain⟨t,h,q⟩:=hbody f (.ref c) A outer s H vs Q E ⟨c,rfl,hc⟩ hr hsp;exact⟨t,h.nox,q⟩
def qt(s:Stmt)(i:Nat):Expr:=match s with
 | .Assign _ (.Call _ as _ _) _=>as.getD i (.Name "" ⟨0,0,0,0⟩)
 | _=>.Name "" ⟨0,0,0,0⟩
def dW(e:Expr):Scope:=match e with
 | .Lambda _ _ sc _=>sc
 | _=>{ kind:=.function,names:=[],isGenerator:=false,isCoroutine:=false }
def qd(e:Expr):Arguments:=match e with
 | .Lambda a _ _ _=>a
 | _=>{ posonlyargs:=[],args:=[],vararg:=none,kwonlyargs:=[],kw_defaults:=[],kwarg:=none,defaults:=[] }
def qc(e:Expr):Expr:=match e with
 | .Lambda _ b _ _=>b
 | _=>.Name "" ⟨0,0,0,0⟩
def dJ(e:Expr):Pos:=match e with
 | .Lambda _ _ _ p=>p
 | _=>⟨0,0,0,0⟩
theorem fm{C:List Addr}{H:Hp}{b:Addr}{o:HO}(hC:∀c∈C,∃o,H c=some (KnO o))(e:H b=some o)(n:∀z,o≠KnO z):cut C H b=some o:=by
 rw[cz fun z=>?_]
 ·exact e
 ·obtain⟨o',e'⟩:=hC b z
  rw[e]at e';exact n o' (Option.some.inj e')
theorem gE{C:List Addr}{H H1:Hp}{b:Addr}{o:HO}(hC:∀c∈C,H1 c=none)(e:H1 b=some o):mK C H H1 b=some o:=by
 rw[cU fun z=>by rw[hC b z]at e;cases e];exact e
theorem dF.keep{p:Addr}{H H':Hp}{b:Addr}{o:HO}{ls:List (Pos×Str)}(s:dF p H H')(t:Tab H p ls)(e:H b=some o)(n:∀ps,o≠.tbl ps):H' b=some o:=by
 obtain⟨ps,e1,_⟩:=t;refine s b o (fun z=>?_) e;rw[z,e1]at e;exact n ps (Option.some.inj e).symm
theorem dF.trans{p:Addr}{H H1 H2:Hp}(a:dF p H H1)(b:dF p H1 H2):dF p H H2:=fun c o n e=>b c o n (a c o n e)
theorem Same.p{p:Addr}{H H':Hp}(s:Same H H'):dF p H H':=fun b o _ e=>s b o e
theorem nZ{H:Hp}{cl:List (Str×Addr)}{ws:List V}(cs:Paired (fun (p:Str×Addr) z=>cZ H p.2 z) cl ws):∀c∈cl.map (·.2),∃o,H c=some (KnO o):=by
 induction cs with
 | nil=>intro c h;cases h
 | cons a r ih =>
  intro c h;rcases List.mem_cons.mp h with rfl|h
  ·obtain⟨o,u,e,_⟩:=a
   exact⟨o,e⟩
  ·exact ih c h
theorem cZ.mono{H H':Hp}{c:Addr}{v:V}(x:cZ H c v)(s:Same H H'):cZ H' c v:=let ⟨o,u,e,r⟩:=x;⟨o,u,s _ _ e,r⟩
end L2
namespace L2
open PySem PySem.Spec PyProof.Rows
theorem jX{a:Addr}{o:Obj}{kvs:List (List Key×V)}{fv:List (Str×Nat)}{g:TG}{tc:TT}{te:TE}{σ:St}{H1:Hp}{Q:VK}{k:Nat}(hD:H1 a=some (.frz o (.dT kvs)))(hlen:kvs.length<1000)(sel:List Key×V->Bool)(R:List Key×V->V->Hp->Prop)(hR:∀e v H H',SameT H H'->R e v H->R e v H')
  (hs:∀(i:Nat) e b H2 (τ:St) (Kc:VK) (Kn:Hp->Prop),kvs[i]? = some e->H2 b=some (.tup (e.1.map kV))->Same H1 H2->τ.length=k->(sel e=true->∀y H4,Same H2 H4->R e y H4->Kc y H4)->(sel e=false->∀H4,Same H2 H4->Kn H4) ->
   g (.ref b) (τ++fvs fv σ) H2 fun σ2 H4=>(∃τ':St,τ'.length=k∧σ2=τ'++fvs fv σ)∧tc σ2 H4 fun b H5=>if b=true then te σ2 H5 Kc else Kn H5)
  (hd:∀l ys H',H1 l=none->Same H1 H'->H' l=some (.lst ys)->Paired (fun e y=>R e y H') (kvs.filter sel) ys->Q (.ref l) H'):jo (Itd a o kvs) k fv g tc te σ H1 Q:=by
 intro l hl;refine⟨fun i m acc H2=>m=kvs.length - i∧i≤kvs.length∧acc.length≤i∧Same H1 H2∧H2 l=some (.lst acc)∧Paired (fun e y=>R e y H2) ((kvs.take i).filter sel) acc,⟨_,rfl,Nat.zero_le _,Nat.le_refl _,Same.new hl,upd_same,.nil⟩,?_⟩;rintro i m acc H2 ⟨rfl,hi,e1,sm,e3,hr⟩;refine⟨e3,aM (by omega),?_⟩
 by_cases hlt:i<kvs.length
 ·refine .inr ⟨⟨sm _ _ hD,hlt⟩,fun x H3 y τ hτ=>?_⟩
  obtain⟨rfl,q,v,b,hq,rfl,hb⟩:=y;have tk:kvs.take (i+1)=kvs.take i++[(q,v)]:=by rw[List.take_add_one,hq];rfl
  refine hs i (q,v) b H3 τ _ _ hq hb sm hτ (fun hsel y H4 s4 ry=>⟨s4 _ _ e3,kvs.length - (i+1),by omega,rfl,hlt,by simp;exact e1,(sm.trans s4).upd hl,upd_same,?_⟩) fun hsel H4 s4=>⟨kvs.length - (i+1),by omega,rfl,hlt,by omega,sm.trans s4,s4 _ _ e3,?_⟩
  ·have t4:=SameT.upd (ys:=acc++[y]) (s4 _ _ e3)
   rw[tk,List.filter_append];have:[(q,v)].filter sel = [(q,v)]:=by simp[hsel]
   rw[this];exact Paired.snoc (Paired.mapP hr fun e z r=>hR _ _ _ _ (s4.t.trans t4) r) (hR _ _ _ _ t4 ry)
  ·rw[tk,List.filter_append]
   have:[(q,v)].filter sel = []:=by simp[hsel]
   rw[this,List.append_nil];exact Paired.mapP hr fun e z r=>hR _ _ _ _ s4.t r
 ·have e:i=kvs.length:=by omega
  subst e;rw[List.take_length]at hr;exact .inl ⟨⟨sm _ _ hD,Nat.le_refl _⟩,hd l acc H2 hl sm e3 hr⟩
end L2
namespace Sk
open PySem PySem.Spec L2
abbrev aG:=List Key
def bo(H:Hp)(v:V)(k:aG):Prop:=∃p,v = .ref p∧H p=some (.tup (k.map kV))
theorem bo.mono{H H':Hp}{v:V}{k:aG}(x:bo H v k)(s:SameT H H'):bo H' v k:=let ⟨p,e,h⟩:=x;⟨p,e,s _ _ h⟩
inductive Lb
 | no
 | key (d:aG)
 | bend (d e:aG) (l m:Int×Int×Int×Int)
def n4(l:Int×Int×Int×Int):List V:=[.int l.1,.int l.2.1,.int l.2.2.1,.int l.2.2.2]
def TpK(K:W.Frag)(H:Hp)(a:Addr)(xs:List V):Prop:=H a=some (.tup xs)∨∃(o:Obj) (its:Array Value) (n:Nat),K.lookup a=some o∧o.cls = .type "tuple"∧o.data = .seq its n∧its.size≤sizeLine∧aN xs its.toList
theorem TpK.mono{K:W.Frag}{H H':Hp}{a:Addr}{xs:List V}(x:TpK K H a xs)(s:SameT H H'):TpK K H' a xs:=x.imp (fun e=>s _ _ e) id
theorem TpK.sq{K:W.Frag}{H:Hp}{a:Addr}{xs:List V}(x:TpK K H a xs):SqT K H a xs:=x.elim (fun e=>SqT.of e) .inr
def iY(K:W.Frag)(H:Hp)(v:V):Lb->Prop
 | .no=>v = .non
 | .key d=>bo H v d
 | .bend d e l m=>∃t p q g a b,v = .ref t∧H t=some (.tup [.ref p,.ref q,.ref g])∧H p=some (.tup (d.map kV))∧H q=some (.tup (e.map kV))∧H g=some (.tup [.ref a,.ref b])∧TpK K H a (n4 l)∧TpK K H b (n4 m)
theorem iY.mono{K:W.Frag}{H H':Hp}{v:V}{x:Lb}(h:iY K H v x)(s:SameT H H'):iY K H' v x:=by
 cases x with
 | no=>exact h
 | key d=>exact bo.mono h s
 | bend d e l m =>
  obtain⟨t,p,q,g,a,b,h1,h2,h3,h4,h5,h6,h7⟩:=h;exact⟨t,p,q,g,a,b,h1,s _ _ h2,s _ _ h3,s _ _ h4,s _ _ h5,h6.mono s,h7.mono s⟩
section
variable {K:W.Frag}
abbrev En:=aG×Option Nat×Lb
def Ent(K:W.Frag)(H:Hp)(es:List En)(e:En)(kv:aG×V):Prop:=kv.1=e.1∧∃t pv hv,kv.2 = .ref t∧H t=some (.tup [pv,hv])∧iY K H hv e.2.2∧(e.2.1=none->pv = .non)∧∀j,e.2.1=some j->∃e',es[j]? = some e'∧bo H pv e'.1
structure GA(es:List En):Prop where
 nd:(es.map (·.1)).Nodup
 up:∀(i:Nat) (e:En) (j:Nat),es[i]? = some e->e.2.1=some j->j<i
def iz(K:W.Frag)(H:Hp)(d:Addr)(es:List En):Prop:=∃kvs,H d=some (.dT kvs)∧Paired (Ent K H es) es kvs
theorem Ent.mono{H H':Hp}{es es':List En}{e:En}{kv:aG×V}(x:Ent K H es e kv)(s:SameT H H')(h:∀(j:Nat) e,es[j]? = some e->es'[j]? = some e):Ent K H' es' e kv:=by
 obtain⟨a,t,pv,hv,b,c,lb,d,f⟩:=x;refine⟨a,t,pv,hv,b,s _ _ c,lb.mono s,d,fun j hj=>?_⟩;obtain⟨e',h1,h2⟩:=f j hj;exact⟨e',h j e' h1,h2.mono s⟩
theorem oH{α β:Type}{F:α->β->Prop}:∀{l:List α} {m:List β},Paired F l m->∀(i:Nat) (a:α),l[i]? = some a->∃b,m[i]? = some b∧F a b:=by
 intro l m p
 induction p with
 | nil=>intro i a e;simp at e
 | cons h r ih =>
  intro i a e;cases i with
  | zero=>simp at e;subst e;exact⟨_,rfl,h⟩
  | succ j=>exact ih j a (by simpa using e)
theorem cR{α β:Type}{F:α->β->Prop}:∀{l:List α} {m:List β},Paired F l m->∀(i:Nat) (b:β),m[i]? = some b->∃a,l[i]? = some a∧F a b:=by
 intro l m p
 induction p with
 | nil=>intro i a e;simp at e
 | cons h r ih =>
  intro i a e;cases i with
  | zero=>simp at e;subst e;exact⟨_,rfl,h⟩
  | succ j=>exact ih j a (by simpa using e)
theorem qR{α:Type}{l:List α}(nd:l.Nodup){i j:Nat}{a:α}(hi:l[i]? = some a)(hj:l[j]? = some a):i=j:=by
 obtain⟨h1,e1⟩:=List.getElem?_eq_some_iff.mp hi;obtain⟨h2,e2⟩:=List.getElem?_eq_some_iff.mp hj;have pw:=List.pairwise_iff_getElem.mp nd;rcases Nat.lt_trichotomy i j with z|z|z
 ·exact absurd (e1.trans e2.symm) (pw i j h1 h2 z)
 ·exact z
 ·exact absurd (e2.trans e1.symm) (pw j i h2 h1 z)
theorem jD{α β:Type}{F:α->β->Prop}:∀{l:List α} {m:List β},Paired F l m->Paired F l.reverse m.reverse:=by
 intro l m p
 induction p with
 | nil=>exact .nil
 | cons h r ih =>
  rw[List.reverse_cons,List.reverse_cons];exact Paired.snoc ih h
theorem lZ{H:Hp}{es':List En}:∀{es:List En} {kvs:List (aG×V)},Paired (Ent K H es') es kvs->kvs.map (·.1)=es.map (·.1):=by
 intro es kvs p
 induction p with
 | nil=>rfl
 | cons h r ih=>rw[List.map_cons,List.map_cons,ih,h.1]
theorem uQ:∀{kvs:List (aG×V)} {i:Nat} {kv:aG×V},(kvs.map (·.1)).Nodup->kvs[i]? = some kv->cT kvs kv.1=some kv.2:=by
 intro kvs
 induction kvs with
 | nil=>intro i kv _ e;simp at e
 | cons a r ih =>
  intro i kv nd e;rw[List.map_cons,List.nodup_cons]at nd;cases i with
  | zero=>simp at e;subst e;exact bQ rfl
  | succ j =>
   have e:r[j]? = some kv:=by simpa using e
   rw[bI (fun z=>nd.1 (by rw[z];exact List.mem_map.mpr ⟨kv,List.mem_of_getElem? e,rfl⟩))];exact ih nd.2 e
theorem gu:∀{kvs:List (aG×V)} {k:aG},k∉kvs.map (·.1)->cT kvs k=none:=by
 intro kvs
 induction kvs with
 | nil=>intro k _;rfl
 | cons a r ih =>
  intro k h;rw[List.map_cons,List.mem_cons,not_or]at h;rw[bI (fun z=>h.1 z.symm)];exact ih h.2
theorem pz{kvs:List (aG×V)}{k:aG}(h:k∈kvs.map (·.1)):(cT kvs k).isSome=true:=by
 induction kvs with
 | nil=>simp at h
 | cons a r ih =>
  by_cases z:a.1=k
  ·rw[bQ z];rfl
  ·rw[bI z]
   rw[List.map_cons,List.mem_cons]at h;exact ih (h.resolve_left fun q=>z q.symm)
theorem iz.mono{H H':Hp}{d:Addr}{es:List En}(c:iz K H d es)(s:Same H H'):iz K H' d es:=by
 obtain⟨kvs,e1,e2⟩:=c;exact⟨kvs,s _ _ e1,Paired.mapP e2 fun a b x=>x.mono s.t fun _ _ h=>h⟩
theorem iz.look{H:Hp}{d:Addr}{es:List En}(c:iz K H d es){s:aG}{b:Addr}(hb:H b=some (.tup (s.map kV))):∃o,fB H d (.ref b) o∧(o.isSome=true↔s∈es.map (·.1)):=by
 obtain⟨kvs,e1,e2⟩:=c;refine⟨_,fB.t e1 hb,?_⟩;rw[<- lZ e2];constructor
 ·intro h
  by_cases z:s∈kvs.map (·.1)
  ·exact z
  ·rw[gu z]at h;cases h
 ·exact pz
theorem iz.add{H:Hp}{d:Addr}{es:List En}(c:iz K H d es){s:aG}{b t:Addr}{pv hv:V}{h:Lb}{pj:Option Nat}(hb:H b=some (.tup (s.map kV)))(ht:H t=some (.tup [pv,hv]))(lb:iY K H hv h)(hs:s∉es.map (·.1))(h0:pj=none->pv = .non)(h1:∀j,pj=some j->∃e',es[j]? = some e'∧bo H pv e'.1)(hl:es.length<1000) :
  ∃H',j6 H d (.ref b) (.ref t) H'∧iz K H' d (es++[(s,pj,h)])∧SameT H H'∧∀x,x≠d->H' x=H x:=by
 obtain⟨kvs,e1,e2⟩:=c;have len:=Paired.length e2;have new:eN kvs s (.ref t)=kvs++[(s,.ref t)]:=gF _ (gu (by rw[lZ e2];exact hs));have st:SameT H (upd H d (.dT (eN kvs s (.ref t)))):=fun x xs e=>by
  rw[aH (fun z=>by rw[z,e1]at e;cases e)];exact e
 refine⟨_,j6.t (k:=s) (v:=.ref t) e1 hb (by have:=aM (n:=kvs.length) (by omega);exact this),⟨_,upd_same,?_⟩,st,fun x hx=>aH hx⟩;have keep:∀(j:Nat) (e:En),es[j]? = some e->(es++[(s,pj,h)])[j]? = some e:=fun j e he=>by
  rw[List.getElem?_append_left (List.getElem?_eq_some_iff.mp he).1];exact he
 have last:Ent K (upd H d (.dT (eN kvs s (.ref t)))) (es++[(s,pj,h)]) (s,pj,h) (s,.ref t):=⟨rfl,t,pv,hv,rfl,st _ _ ht,lb.mono st,h0,fun j hj=>by
  obtain⟨e',g1,g2⟩:=h1 j hj;exact⟨e',keep _ _ g1,g2.mono st⟩⟩
 have all:=Paired.snoc (Paired.mapP e2 fun a b x=>x.mono st keep) last;rw[<- new]at all;exact all
inductive D0 (es:List En):Nat->List (aG×Lb)->Prop
 | root {i:Nat} {s:aG} {h:Lb}:es[i]? = some (s,none,h)->D0 es i [(s,h)]
 | step {i j:Nat} {s:aG} {h:Lb} {l:List (aG×Lb)}:es[i]? = some (s,some j,h)->D0 es j l->D0 es i (l++[(s,h)])
def gi(K:W.Frag)(H:Hp)(r:Addr)(l:List (aG×Lb)):Prop:=∃vs,H r=some (.lst vs)∧Paired (fun (e:aG×Lb) v=>∃t sv hv,v = .ref t∧H t=some (.tup [sv,hv])∧bo H sv e.1∧iY K H hv e.2) l vs
def qv(K:W.Frag)(H:Hp)(r:Addr)(l:List (aG×Lb)):Prop:=gi K H r l
def o5(es:List En)(cur:Option Nat)(i:Nat)(done:List (aG×Lb)):Prop:=∀l,(match cur with|some j=>D0 es j l|none=>l = [])->D0 es i (l++done.reverse)
theorem o5.begin{es:List En}{i:Nat}:o5 es (some i) i []:=fun l h=>by simpa using h
theorem o5.up{es:List En}{i j:Nat}{done:List (aG×Lb)}{s:aG}{pj:Option Nat}{h:Lb}(x:o5 es (some j) i done)(e:es[j]? = some (s,pj,h)):o5 es pj i (done++[(s,h)]):=by
 intro l hl;rw[List.reverse_append];show D0 es i (l++([(s,h)]++done.reverse));rw[<- List.append_assoc];refine x _ ?_;cases pj with
 | none =>
  have:l = []:=hl;subst this;exact .root e
 | some j'=>exact .step e hl
inductive Ef (K:W.Frag) (vs:List V) (H:Hp) (Q:VK) (x_3:XK):Prop
 | mk:∀(d:Addr) (sv:V) (es:List En) (i:Nat) (e:En),(vs = [.ref d,sv])->(iz K H d es)->(GA es)->(es[i]? = some e)->(bo H sv e.1)->(es.length<1000)->(∀r H' l,Same H H'->D0 es i l->l.length≤es.length->gi K H' r l->Q (.ref r) H')->Ef K vs H Q x_3
def wx(bs:List aG)(stp:aG->List (aG×Lb))(fin:aG->Bool)(l:List (aG×Lb)):Prop :=
 (∃s r,l=(s,.no)::r∧s∈bs)∧(∀(n:Nat) a b,l[n]? = some a->l[n+1]? = some b->b∈stp a.1)∧∃a,l.getLast? = some a∧fin a.1=true
def wv(bs:List aG)(stp:aG->List (aG×Lb))(fin:aG->Bool):Prop:=∃R:List aG,(∀s∈bs,s∈R)∧(∀s∈R,∀e∈stp s,e.1∈R)∧∀s∈R,fin s=false
structure FY(bs:List aG)(stp:aG->List (aG×Lb))(es:List En):Prop where
 root:∀(i:Nat) e,es[i]? = some e->e.2.1=none->e.1∈bs∧e.2.2 = .no
 step:∀(i j:Nat) e,es[i]? = some e->e.2.1=some j->∃e',es[j]? = some e'∧(e.1,e.2.2)∈stp e'.1
theorem vh{bs:List aG}{stp:aG->List (aG×Lb)}{fin:aG->Bool}{es:List En}(g:FY bs stp es){i:Nat}{l:List (aG×Lb)}(p:D0 es i l) :
  (∃s r,l=(s,.no)::r∧s∈bs)∧(∀(n:Nat) a b,l[n]? = some a->l[n+1]? = some b->b∈stp a.1)∧∃e,es[i]? = some e∧l.getLast? = some (e.1,e.2.2):=by
 induction p with
 | root e =>
  obtain⟨h1,h2⟩:=g.root _ _ e rfl;dsimp only at h1 h2;subst h2;exact⟨⟨_,[],rfl,h1⟩,fun n a b _ h=>by simp at h,_,e,rfl⟩
 | step e p ih =>
  obtain⟨⟨s,r,rfl,hs⟩,st,e',h1,h2⟩:=ih;refine⟨⟨s,r++_,rfl,hs⟩,fun n a b ha hb=>?_,_,e,List.getLast?_concat⟩;rcases Nat.lt_trichotomy (n+1) ((s,Lb.no)::r).length with z|z|z
  ·rw[List.getElem?_append_left (by omega)]at ha
   rw[List.getElem?_append_left z]at hb;exact st n a b ha hb
  ·rw[List.getElem?_append_left (by omega)]at ha
   rw[List.getElem?_append_right (by omega),z,Nat.sub_self]at hb;simp only[List.getElem?_cons_zero,Option.some.injEq]at hb;rw[List.getLast?_eq_getElem?]at h2;have ea:((s,Lb.no)::r).length - 1=n:=by omega
   rw[ea,ha]at h2;cases h2;obtain⟨e2,g1,g2⟩:=g.step _ _ _ e rfl;rw[h1]at g1;cases g1;rw[<- hb];exact g2
  ·rw[List.getElem?_eq_none (by simp at z ⊢;omega)]at hb
   cases hb
structure GN(P:Program)(w:World)(K:W.Frag)(mg:Str->Option Value)(base:Heap)(k:Nat)(H:Hp)(f1 f2:Addr)(U:List aG)(stp:aG->List (aG×Lb))(fin:aG->Bool):Prop where
 o1:o6 H f1
 o2:o6 H f2
 c1:∃sp,yv P w K mg base k f1 sp∧∀H' v s (Q:VK),Same H H'->bo H' v s->s∈U->(∀r H'',Same H' H''->H' r=none->qv K H'' r (stp s)->Q (.ref r) H'')->sp [v] H' Q E0
 c2:∃sp,yv P w K mg base k f2 sp∧∀H' v s (Q:VK),Same H H'->bo H' v s->s∈U->(∀H'',Same H' H''->Q (.bl (fin s)) H'')->sp [v] H' Q E0
 shut:∀s∈U,∀e∈stp s,e.1∈U
 few:∀s∈U,(stp s).length<1000
noncomputable def oV(n:Nat)(es:List En)(x:aG×Lb):List En:=@ite _ (x.1∈es.map (·.1)) (Classical.propDecidable _) es (es++[(x.1,some n,x.2)])
noncomputable def bJ(bs:List aG)(stp:aG->List (aG×Lb)):Nat->List En
 | 0=>bs.map fun s=>(s,none,.no)
 | n+1=>match (bJ bs stp n)[n]? with
  | some e=>(stp e.1).foldl (oV n) (bJ bs stp n)
  | none=>bJ bs stp n
theorem rE{n i:Nat}{es:List En}{x:aG×Lb}{e:En}(h:es[i]? = some e):(oV n es x)[i]? = some e:=by
 unfold oV
 split
 ·exact h
 ·rw[List.getElem?_append_left (List.getElem?_eq_some_iff.mp h).1]
  exact h
theorem rA{n i:Nat}{e:En}:∀{xs:List (aG×Lb)} {es:List En},es[i]? = some e->(xs.foldl (oV n) es)[i]? = some e:=by
 intro xs
 induction xs with
 | nil=>exact fun h=>h
 | cons a r ih=>exact fun h=>ih (rE h)
theorem js{bs:List aG}{stp:aG->List (aG×Lb)}{n i:Nat}{e:En}(h:(bJ bs stp n)[i]? = some e):∀k,(bJ bs stp (n+k))[i]? = some e
 | 0=>h
 | k+1=>by
  have ih:=js h k;show(match (bJ bs stp (n+k))[n+k]? with
   | some e=>(stp e.1).foldl (oV (n+k)) (bJ bs stp (n+k))
   | none=>bJ bs stp (n+k))[i]? = some e
  split
  ·exact rA ih
  ·exact ih
def om(bs:List aG)(stp:aG->List (aG×Lb))(fin:aG->Bool)(l:List (aG×Lb)):Prop :=
 ∃n e,(bJ bs stp n)[n]? = some e∧fin e.1=true∧(∀i,i<n->∃e',(bJ bs stp n)[i]? = some e'∧fin e'.1=false)∧D0 (bJ bs stp n) n l
theorem qL{es:List En}{i:Nat}{l l':List (aG×Lb)}(p:D0 es i l)(p':D0 es i l'):l=l':=by
 induction p generalizing l' with
 | root e =>
  cases p' with
  | root e'=>rw[e]at e';cases e';rfl
  | step e' _=>rw[e]at e';cases e'
 | step e _ ih =>
  cases p' with
  | root e'=>rw[e]at e';cases e'
  | step e' q=>rw[e]at e';cases e';rw[ih q]
theorem om.uniq{bs:List aG}{stp:aG->List (aG×Lb)}{fin:aG->Bool}{l l':List (aG×Lb)}(f:om bs stp fin l)(f':om bs stp fin l'):l=l':=by
 have one:∀{n n':Nat} {e:En},(bJ bs stp n)[n]? = some e->fin e.1=true->(∀i,i<n'->∃e',(bJ bs stp n')[i]? = some e'∧fin e'.1=false)->¬n<n':=fun {n n' e} h hf sn lt=>by
  obtain⟨e',h1,h2⟩:=sn n lt;have:=js h (n' - n);rw[show n+(n' - n)=n' by omega,h1]at this;cases this;rw[h2]at hf;cases hf
 obtain⟨n,e,h1,h2,h3,h4⟩:=f;obtain⟨n',e',h1',h2',h3',h4'⟩:=f';have a:=one h1 h2 h3';have b:=one h1' h2' h3;have:n=n':=by omega
 subst this;exact qL h4 h4'
def sr(P:Program)(w:World)(K:W.Frag)(mg:Str->Option Value)(base:Heap)(k:Nat):Sp:=fun vs H Q _ =>
 ∃(b f1 f2:Addr) (bvs:List V) (bs U:List aG) (stp:aG->List (aG×Lb)) (fin:aG->Bool),vs = [.ref b,.ref f1,.ref f2]∧H b=some (.lst bvs)∧Paired (fun s v=>bo H v s) bs bvs∧bs.Nodup∧(∀s∈bs,s∈U)∧U.length<900 ∧
  GN P w K mg base k H f1 f2 U stp fin∧(∀H',Same H H'->wv bs stp fin->Q .non H')∧∀r H' l,Same H H'->wx bs stp fin l->om bs stp fin l->l.length≤U.length->gi K H' r l->Q (.ref r) H'
theorem oI{α:Type}[DecidableEq α]{l U:List α}(nd:l.Nodup)(h:∀s∈l,s∈U):l.length≤U.length:=by
 induction l generalizing U with
 | nil=>exact Nat.zero_le _
 | cons a r ih =>
  rw[List.nodup_cons]at nd;have ha:=h a List.mem_cons_self;have:=ih (U:=U.erase a) nd.2 fun s hs=>by
   refine(List.mem_erase_of_ne ?_).mpr (h s (List.mem_cons_of_mem _ hs));rintro rfl;exact nd.1 hs
  rw[List.length_erase_of_mem ha]at this;have hp:0<U.length:=List.length_pos_of_mem ha;rw[List.length_cons];omega
theorem kY{l U:List aG}(nd:l.Nodup)(h:∀s∈l,s∈U):l.length≤U.length:=by
 classical exact oI nd h
structure BH(bs U:List aG)(stp:aG->List (aG×Lb))(fin:aG->Bool)(es:List En)(n:Nat):Prop where
 tree:GA es
 grown:FY bs stp es
 inU:∀e∈es,e.1∈U
 base:∀s∈bs,s∈es.map (·.1)
 le:n≤es.length
 seen:∀(i:Nat) e,i<n->es[i]? = some e->fin e.1=false∧∀x∈stp e.1,x.1∈es.map (·.1)
theorem BH.len{bs U:List aG}{stp:aG->List (aG×Lb)}{fin:aG->Bool}{es:List En}{n:Nat}(g:BH bs U stp fin es n):es.length≤U.length:=by
 have:=kY g.tree.nd (U:=U) fun s hs=>by
  obtain⟨e,he,rfl⟩:=List.mem_map.mp hs;exact g.inU e he
 rw[List.length_map]at this;exact this
theorem BH.shut{bs U:List aG}{stp:aG->List (aG×Lb)}{fin:aG->Bool}{es:List En}{n:Nat}(g:BH bs U stp fin es n)(h:es.length≤n):wv bs stp fin:=by
 refine⟨es.map (·.1),g.base,fun s hs x hx=>?_,fun s hs=>?_⟩
 ·obtain⟨e,he,rfl⟩:=List.mem_map.mp hs
  obtain⟨i,hi⟩:=List.getElem?_of_mem he;exact(g.seen i e (Nat.lt_of_lt_of_le (List.getElem?_eq_some_iff.mp hi).1 h) hi).2 x hx
 ·obtain⟨e,he,rfl⟩:=List.mem_map.mp hs
  obtain⟨i,hi⟩:=List.getElem?_of_mem he;exact(g.seen i e (Nat.lt_of_lt_of_le (List.getElem?_eq_some_iff.mp hi).1 h) hi).1
theorem BH.add{bs U:List aG}{stp:aG->List (aG×Lb)}{fin:aG->Bool}{es:List En}{n j:Nat}(g:BH bs U stp fin es n){e0:En}{s:aG}{h:Lb}(hj:es[j]? = some e0)(hs:(s,h)∈stp e0.1)(hU:s∈U)(hn:s∉es.map (·.1)) :
  BH bs U stp fin (es++[(s,some j,h)]) n:=by
 have old:∀(i:Nat) e,(es++[(s,some j,h)])[i]? = some e->es[i]? = some e∨(i=es.length∧e=(s,some j,h)):=fun i e he=>by
  rcases Nat.lt_trichotomy i es.length with z|z|z
  ·rw[List.getElem?_append_left z]at he;exact .inl he
  ·rw[List.getElem?_append_right (by omega),z,Nat.sub_self]at he
   simp only[List.getElem?_cons_zero,Option.some.injEq]at he;exact .inr ⟨z,he.symm⟩
  ·rw[List.getElem?_eq_none (by simp;omega)]at he;cases he
 have keep:∀(i:Nat) e,es[i]? = some e->(es++[(s,some j,h)])[i]? = some e:=fun i e he=>by
  rw[List.getElem?_append_left (List.getElem?_eq_some_iff.mp he).1];exact he
 have jl:=(List.getElem?_eq_some_iff.mp hj).1;refine⟨⟨?_,fun i e k he hk=>?_⟩,⟨fun i e he hk=>?_,fun i k e he hk=>?_⟩,fun e he=>?_,fun t ht=>?_,?_,fun i e hi he=>?_⟩
 ·rw[List.map_append,List.nodup_append]
  refine⟨g.tree.nd,by simp,fun a ha b hb=>?_⟩;have hb:b=s:=by simpa using hb
  rw[hb];rintro rfl;exact hn ha
 ·rcases old i e he with z|⟨z1,z2⟩
  ·exact g.tree.up i e k z hk
  ·subst z2
   cases hk;omega
 ·rcases old i e he with z|⟨z1,z2⟩
  ·exact g.grown.root i e z hk
  ·subst z2
   cases hk
 ·rcases old i e he with z|⟨z1,z2⟩
  ·obtain⟨e',h1,h2⟩:=g.grown.step i k e z hk
   exact⟨e',keep _ _ h1,h2⟩
  ·subst z2
   cases hk;exact⟨e0,keep _ _ hj,hs⟩
 ·rcases List.mem_append.mp he with z|z
  ·exact g.inU e z
  ·rw[List.mem_singleton.mp z];exact hU
 ·rw[List.map_append]
  exact List.mem_append_left _ (g.base t ht)
 ·rw[List.length_append]
  exact Nat.le_trans g.le (Nat.le_add_right _ _)
 ·rcases old i e he with z|⟨z1,z2⟩
  ·obtain⟨h1,h2⟩:=g.seen i e hi z
   refine⟨h1,fun x hx=>?_⟩;rw[List.map_append];exact List.mem_append_left _ (h2 x hx)
  ·have:=g.le
   omega
theorem BH.first{bs U:List aG}{stp:aG->List (aG×Lb)}{fin:aG->Bool}(nd:bs.Nodup)(hU:∀s∈bs,s∈U):BH bs U stp fin (bs.map fun s=>(s,none,.no)) 0:=by
 have at':∀(i:Nat) e,(bs.map fun s=>((s,none,.no):En))[i]? = some e->∃s,bs[i]? = some s∧e=(s,none,.no):=fun i e he=>by
  rw[List.getElem?_map]at he;cases h:bs[i]? with
  | none=>rw[h]at he;cases he
  | some s=>rw[h]at he;cases he;exact⟨s,rfl,rfl⟩
 have mp:(bs.map fun s=>((s,none,.no):En)).map (·.1)=bs:=by rw[List.map_map];exact List.map_id bs
 refine⟨⟨by rw[mp];exact nd,fun i e j he hj=>?_⟩,⟨fun i e he _=>?_,fun i j e he hj=>?_⟩,fun e he=>?_,fun s hs=>by rw[mp];exact hs,Nat.zero_le _,fun i e hi=>absurd hi (Nat.not_lt_zero _)⟩
 ·obtain⟨s,_,rfl⟩:=at' i e he
  cases hj
 ·obtain⟨s,hs,rfl⟩:=at' i e he
  exact⟨List.mem_of_getElem? hs,rfl⟩
 ·obtain⟨s,_,rfl⟩:=at' i e he
  cases hj
 ·obtain⟨s,hs,rfl⟩:=List.mem_map.mp he
  exact hU s hs
theorem BH.next{bs U:List aG}{stp:aG->List (aG×Lb)}{fin:aG->Bool}{es:List En}{n:Nat}(g:BH bs U stp fin es n){e:En}(he:es[n]? = some e)(hf:fin e.1=false)(hs:∀x∈stp e.1,x.1∈es.map (·.1)):BH bs U stp fin es (n+1):=by
 refine⟨g.tree,g.grown,g.inU,g.base,(List.getElem?_eq_some_iff.mp he).1,fun i e' hi he'=>?_⟩
 by_cases z:i=n
 ·subst z
  rw[he]at he';cases he';exact⟨hf,hs⟩
 ·exact g.seen i e' (by omega) he'
end
end Sk
namespace Dr
open PySem PySem.Spec L2 Mth Sp1 Sp2 Sp3 Sp7
def But(p:Addr)(H H':Hp):Prop:=∀b o,b≠p->H b=some o->H' b=some o
theorem But.trans{p:Addr}{H H1 H2:Hp}(a:But p H H1)(b:But p H1 H2):But p H H2:=fun c o n e=>b c o n (a c o n e)
theorem But.of{p:Addr}{H H':Hp}(s:Same H H'):But p H H':=fun c o _ e=>s c o e
theorem But.same{p:Addr}{H0 H H':Hp}(b:But p H H')(s:Same H0 H)(h:H0 p=none):Same H0 H':=fun c o e=>b c o (aQ e h) (s c o e)
theorem But.none{p l:Addr}{H H':Hp}(b:But p H H')(n:l≠p)(h:H' l=none):H l=none:=by
 cases e:H l with
 | none=>rfl
 | some o =>
  rw[b l o n e]at h;cases h
end Dr
namespace Dr
open PySem PySem.Spec L2 Mth Sp1 Sp2 Sp3 Sp7
theorem wQ{K:W.Frag}{H:Hp}{l:Addr}{xs:List V}{i:Int}{Q:VK}(C:Int->Prop)(e:H l=some (.lst xs))(h0:0≤i)(h1:i<(xs.length:Int))(hC:∀v∈xs,∃m,v = .int m∧C m)(h:∀m,C m->Q (.int m) H):FG K (.ref l) (.int i) H Q :=
 yZ e h0 h1 fun v hv=>by
  obtain⟨m,rfl,hc⟩:=hC v hv;exact h m hc
end Dr
namespace Dr
open PySem
end Dr
namespace PySem
namespace F
end F
section
variable {prog:Program} {w:World} {A:Around} {E:Value->Shared->Prop} {s:Shared}
end
end PySem
namespace L2
open PySem PySem.Spec PyProof.Rows
section
variable {X:Cx} {e:Expr} {te:TE} {p1 p2 q1 q2:Pos}
theorem oh:bootBuiltins "reversed" = some (.type "reversed"):=by decide +kernel
end
section
variable {X:Cx}
end
end L2
namespace Wk
open PySem PySem.Spec L2 Mth Sp1 Sp2 Sp3 Sp7 Dr
structure Pr where
 p:Addr
 x:Addr
 y:Addr
 a:Int
 b:Int
 c:Int
 d:Int
structure PrAt(H:Hp)(q:Pr):Prop where
 p_:H q.p=some (.tup [.ref q.x,.ref q.y])
 x_:H q.x=some (.tup [.int q.a,.int q.b])
 y_:H q.y=some (.tup [.int q.c,.int q.d])
 lx:EB q.a q.b
 ly:EB q.c q.d
 nx:0≤q.a
 ny:0≤q.c
 ba:aq q.a≤200
 bb:aq q.b≤60
 bc:aq q.c≤200
 bd:aq q.d≤60
def prs(ps:List Pr):List V:=ps.map fun q=>V.ref q.p
theorem cX(ps:List Pr):(prs ps).length=ps.length:=List.length_map _
theorem pR{ps:List Pr}{i:Nat}{v:V}(h:(prs ps)[i]? = some v):∃q,ps[i]? = some q∧v = .ref q.p:=by
 unfold prs at h;rw[List.getElem?_map]at h;obtain⟨q,hq,rfl⟩:=Option.map_eq_some_iff.mp h;exact⟨q,hq,rfl⟩
end Wk
namespace L2
open PySem PySem.Spec PyProof.Rows
end L2
namespace Fnc
open PySem PySem.Spec L2 Mth Sp1 Sp2 Sp3 Sp7 Dr Wk
theorem di(i j:Int):decide (V.int i=V.int j)=decide (i=j):=by
 rw[Bool.eq_iff_iff];simp
end Fnc
namespace Fnc
open PySem PySem.Spec L2 Mth Sp1 Sp2 Sp3 Sp7 Dr Wk
end Fnc
namespace Fnc
open PySem PySem.Spec L2 Mth Sp1 Sp2 Sp3 Sp7 Dr Wk
end Fnc
namespace Sk
open PySem PySem.Spec L2 Sp24 Wk
def ck(i j:Int):aG:=[.inl i,.inl j]
theorem uF{i j x y:Int}(h:ck i j=ck x y):i=x∧j=y:=by
 unfold ck at h;simp only[List.cons.injEq,Sum.inl.injEq,and_true]at h;exact h
def fP(F:Int->Int->Bool)(i k:Nat):List (Int×Int):=((List.range k).filter fun (j:Nat)=>F (i:Int) (j:Int)).map fun (j:Nat)=>((i:Int),(j:Int))
def gf(F:Int->Int->Bool)(n i:Nat):List (Int×Int):=(List.range i).flatMap fun i'=>fP F i' n
def ku(m n:Nat)(F:Int->Int->Bool):List (Int×Int):=gf F (n+1) (m+1)
theorem gJ{F:Int->Int->Bool}{i k:Nat}{p:Int×Int}:p∈fP F i k↔p.1=i∧0≤p.2∧p.2<k∧F p.1 p.2=true:=by
 unfold fP;simp only[List.mem_map,List.mem_filter,List.mem_range];constructor
 ·rintro⟨j,⟨h1,h2⟩,rfl⟩
  exact⟨rfl,by simp,by simpa using h1,h2⟩
 ·rintro⟨h1,h2,h3,h4⟩
  obtain⟨x,y⟩:=p;dsimp only at h1 h2 h3 h4;subst h1;refine⟨y.toNat,⟨by omega,?_⟩,?_⟩
  ·rw[show((y.toNat:Nat):Int)=y by omega];exact h4
  ·rw[show((y.toNat:Nat):Int)=y by omega]
theorem jG{F:Int->Int->Bool}{n i:Nat}{p:Int×Int}:p∈gf F n i↔0≤p.1∧p.1<i∧0≤p.2∧p.2<n∧F p.1 p.2=true:=by
 unfold gf;simp only[List.mem_flatMap,List.mem_range,gJ];constructor
 ·rintro⟨i',h1,h2,h3,h4,h5⟩
  exact⟨by omega,by omega,h3,h4,h5⟩
 ·rintro⟨h1,h2,h3,h4,h5⟩
  exact⟨p.1.toNat,by omega,by omega,h3,h4,h5⟩
theorem du{m n:Nat}{F:Int->Int->Bool}{x y:Int}:(x,y)∈ku m n F↔0≤x∧x≤m∧0≤y∧y≤n∧F x y=true:=by
 unfold ku;rw[jG];constructor
 ·rintro⟨h1,h2,h3,h4,h5⟩
  exact⟨h1,by simp at h2;omega,h3,by simp at h4;omega,h5⟩
 ·rintro⟨h1,h2,h3,h4,h5⟩
  exact⟨h1,by simp;omega,h3,by simp;omega,h5⟩
theorem g7{F:Int->Int->Bool}{i k:Nat}:fP F i (k+1)=fP F i k++(if F i k=true then [((i:Int),(k:Int))] else []):=by
 unfold fP;rw[List.range_succ,List.filter_append,List.map_append]
 congr 1
 by_cases h:F i k=true
 ·simp[h]
 ·simp[h]
theorem ip{F:Int->Int->Bool}{n i:Nat}:gf F n (i+1)=gf F n i++fP F i n:=by
 unfold gf;rw[List.range_succ,List.flatMap_append];simp
theorem mI{F:Int->Int->Bool}{i k:Nat}:(fP F i k).length≤k:=by
 unfold fP;rw[List.length_map];exact Nat.le_trans (List.length_filter_le _ _) (by simp)
theorem jS{F:Int->Int->Bool}{n:Nat}:∀{i:Nat},(gf F n i).length≤i*n
 | 0=>by simp[gf]
 | i+1=>by
  rw[ip,List.length_append];have:=jS (F:=F) (n:=n) (i:=i);have:=mI (F:=F) (i:=i) (k:=n);rw[Nat.succ_mul];omega
theorem oB{F:Int->Int->Bool}{i k:Nat}:(fP F i k).Nodup:=by
 induction k with
 | zero=>simp[fP]
 | succ k ih =>
  rw[g7,List.nodup_append];refine⟨ih,by split <;> simp,fun a ha b hb=>?_⟩
  split at hb
  ·have hb:b=((i:Int),(k:Int)):=by simpa using hb
   rintro rfl;rw[hb]at ha;have:=(gJ.mp ha).2.2.1;simp at this
  ·simp at hb
theorem oU{F:Int->Int->Bool}{n i:Nat}:(gf F n i).Nodup:=by
 induction i with
 | zero=>simp[gf]
 | succ i ih =>
  rw[ip,List.nodup_append];refine⟨ih,oB,fun a ha b hb=>?_⟩;rintro rfl;have h1:=(jG.mp ha).2.1;have h2:=(gJ.mp hb).1;omega
def kvF(l:List (Int×Int)):List (aG×V):=l.map fun p=>(ck p.1 p.2,.bl true)
theorem mY{l:List (Int×Int)}{x y:Int}:ck x y∈(kvF l).map (·.1)↔(x,y)∈l:=by
 unfold kvF;rw[List.map_map];constructor
 ·intro h
  obtain⟨p,hp,e⟩:=List.mem_map.mp h;obtain⟨h1,h2⟩:=uF e;rw[<- h1,<- h2];exact hp
 ·intro h
  exact List.mem_map.mpr ⟨(x,y),h,rfl⟩
theorem vH{l:List (Int×Int)}{x y:Int}:(cT (kvF l) (ck x y)).isSome=true↔(x,y)∈l:=by
 rw[<- mY];constructor
 ·intro h
  by_cases z:ck x y∈(kvF l).map (·.1)
  ·exact z
  ·rw[gu z]at h;cases h
 ·exact pz
def mo(H:Hp)(d:Addr)(m n:Nat)(F:Int->Int->Bool):Prop:=∃o,H d=some (.frz o (.dT (kvF (ku m n F))))
theorem mo.mono{H H':Hp}{d:Addr}{m n:Nat}{F:Int->Int->Bool}(h:mo H d m n F)(s:Same H H'):mo H' d m n F:=let ⟨o,e⟩:=h;⟨o,s _ _ e⟩
theorem mo.get{H:Hp}{d b:Addr}{m n:Nat}{F:Int->Int->Bool}(h:mo H d m n F){x y:Int}(hb:H b=some (.tup [.int x,.int y])):∃o,fB H d (.ref b) o∧o.isSome=decide ((x,y)∈ku m n F):=by
 obtain⟨o,e⟩:=h;refine⟨_,.inr ⟨_,ck x y,b,.inr ⟨o,e⟩,rfl,hb,rfl⟩,?_⟩;rw[Bool.eq_iff_iff,vH,decide_eq_true_iff]
def U(m n:Nat):List aG:=(List.range (m+1)).flatMap fun i=>(List.range (n+1)).map fun j=>ck (i:Nat) (j:Nat)
theorem eY{m n:Nat}{s:aG}:s∈U m n↔∃x y:Int,s=ck x y∧0≤x∧x≤m∧0≤y∧y≤n:=by
 unfold U;simp only[List.mem_flatMap,List.mem_range,List.mem_map];constructor
 ·rintro⟨i,hi,j,hj,rfl⟩
  exact⟨_,_,rfl,by omega,by omega,by omega,by omega⟩
 ·rintro⟨x,y,rfl,h1,h2,h3,h4⟩
  refine⟨x.toNat,by omega,y.toNat,by omega,?_⟩;rw[show((x.toNat:Nat):Int)=x by omega,show((y.toNat:Nat):Int)=y by omega]
theorem xf{m n:Nat}:(U m n).length=(m+1)*(n+1):=by
 unfold U
 induction (m+1) with
 | zero=>simp
 | succ k ih =>
  rw[List.range_succ (n:=k),List.flatMap_append,List.length_append,ih,Nat.succ_mul];simp
theorem wt{m n:Nat}(hm:m≤20)(hn:n≤20):(U m n).length<900:=by
 rw[xf];have:=Nat.mul_le_mul (show m+1≤21 by omega) (show n+1≤21 by omega);omega
def prC(q:Pr)(c:Int×Int):Prop:=q.a=c.1∧q.b=1∧q.c=c.2∧q.d=1
def dec:aG->Int×Int
 | [.inl i,.inl j]=>(i,j)
 | _=>(0,0)
theorem vj{bs U:List aG}{stp:aG->List (aG×Lb)}{fin:aG->Bool}{l:List (aG×Lb)}(r:wx bs stp fin l)(hb:∀s∈bs,s∈U)(hs:∀s∈U,∀e∈stp s,e.1∈U):∀(n:Nat) e,l[n]? = some e->e.1∈U:=by
 obtain⟨⟨s,r',rfl,h1⟩,h2,_⟩:=r;intro n
 induction n with
 | zero=>intro e he;simp at he;subst he;exact hb s h1
 | succ k ih =>
  intro e he;have lt:=(List.getElem?_eq_some_iff.mp he).1;obtain⟨a,ha⟩:∃a,((s,Lb.no)::r')[k]? = some a:=⟨((s,Lb.no)::r')[k]'(by omega),by rw[List.getElem?_eq_getElem (by omega)]⟩;exact hs _ (ih a ha) e (h2 k a e ha he)
theorem iY.put{K:W.Frag}{C:List Addr}{H H1:Hp}{v:V}{x:Lb}(hC:∀c∈C,H1 c=none)(h:iY K H1 v x):iY K (mK C H H1) v x:=h.mono fun b xs e=>gE hC e
theorem qG{K:W.Frag}{C:List Addr}{H H1:Hp}{r:Addr}{l:List (aG×Lb)}(hC:∀c∈C,H1 c=none)(x:gi K H1 r l):gi K (mK C H H1) r l:=by
 obtain⟨vs,e,p⟩:=x;refine⟨vs,gE hC e,Paired.mapP p fun a b ⟨t,sv,hv,x1,x2,⟨q,x3,x4⟩,x5⟩=>⟨t,sv,hv,x1,gE hC x2,⟨q,x3,gE hC x4⟩,x5.put hC⟩⟩
theorem vi{K:W.Frag}{H H1:Hp}{r:Addr}{l:List (aG×Lb)}(h:∀b o,H b=some o->(∀z,o≠KnO z)->H1 b=some o)(x:gi K H r l):gi K H1 r l:=by
 obtain⟨vs,e,p⟩:=x;have st:SameT H H1:=fun b xs e=>h _ _ e (fun z q=>by cases q);exact⟨vs,h _ _ e (fun z q=>by cases q),Paired.mapP p fun a b ⟨t,sv,hv,x1,x2,x3,x5⟩=>⟨t,sv,hv,x1,st _ _ x2,x3.mono st,x5.mono st⟩⟩
theorem jT{m n:Nat}{F:Int->Int->Bool}(hm:m≤20)(hn:n≤20):(ku m n F).length<900:=by
 have h1:=jS (F:=F) (n:=n+1) (i:=m+1);have:=Nat.mul_le_mul (show m+1≤21 by omega) (show n+1≤21 by omega);unfold ku;omega
end Sk
namespace Fz
end Fz
namespace L2
open PySem PySem.Spec PyProof.Rows
def ItR(K:W.Frag)(a:Addr)(n:Nat):It:=⟨fun i H=>∃xs x,SqL K H a xs∧xs.length=n∧i<n∧xs[n - 1 - i]? = some x,fun i H x H'=>H'=H∧∀xs,SqL K H a xs->xs[n - 1 - i]? = some x,fun i _=>i=n⟩
theorem rX{P:Program}{w:World}{K:W.Frag}{tg:Expr}(a it:Addr)(n:Nat):Em P w K tg (ItR K a n) [it] it (fun i h=>h.IsRevIter it a ((n:Int) - 1 - (i:Int))) where
 mem:=by simp
 obj:=fun i h st b hb=>by
  have e:b=it:=by simpa using hb
  subst e;obtain⟨o,e,c,d⟩:=st;exact⟨o,e,fun v z=>by rw[d]at z;cases z⟩
 keep:=fun i h h' st k=>st.at fun o e=>k it (by simp) o e
 item:=by
  intro X hP hw hK hc i pins s σ H E I hf st hg;subst hP hw hK;obtain⟨xs,x,hq,hn,hi,hx⟩:=hg;obtain⟨its,rv,p,hz⟩:=I.list hq;obtain⟨u,hu,ru⟩:=rv.get hx;obtain⟨f0,f1,f2,f3,f4,f5⟩:=hf it (by simp);have e0:(n:Int) - 1 - (i:Int)=((n - 1 - i:Nat):Int):=by omega
  have st0:s.heap.IsRevIter it a ((n:Int) - 1 - (i:Int)):=st;rw[e0]at st0;refine wpAny_pyNext_rev_item st0 p.isList (x:=u) (by simpa using hu) fun h' st' sb=>?_;have I1:Aa X pins σ H { s with heap:=h' }:=I.turned (t':=s.toks) (fun b o hb e=>(sb.2 b hb).trans e) f0 f1 f3 f4 f5;have e1:((n - 1 - i:Nat):Int) - 1=(n:Int) - 1 - ((i+1:Nat):Int):=by omega
  rw[e1]at st';obtain⟨o,e,c,d⟩:=id st';exact⟨u,rfl,m9 (s:={ s with heap:=h' }) e c d (by decide) ⟨x,H,I1,ru,⟨rfl,fun ys hy=>by rw[I.list_inj hy hq];exact hx⟩,st',fun b hb=>(hf b hb).1⟩⟩
 done:=by
  intro X hP hw hK hc i pins s σ H E I hf st hg;subst hP hw hK;have hg:i=n:=hg;subst hg;obtain⟨f0,f1,f2,f3,f4,f5⟩:=hf it (by simp);have st0:s.heap.IsRevIter it a ((i:Int) - 1 - (i:Int)):=st;rw[show(i:Int) - 1 - (i:Int) = -1 by omega]at st0;exact wpAny_pyNext_rev_end (I.ok.hd hc) st0 fun h' eb=>⟨rfl,I.turned (t':=s.toks) (fun b o hb e=>eb b o hb e) f0 f1 f3 f4 f5⟩
 self:=fun _ _ _ _ _ st h=>wpAny_pyIter_revIter st h
def zR(K:W.Frag)(te:TE):TI:=fun σ H R=>te σ H fun x H1=>∃a xs,[x] = [.ref a]∧SqL K H1 a xs∧R (ItR K a xs.length) H1
theorem xC{X:Cx}{tg e:Expr}{te:TE}{p1 q1:Pos}(gr:Gl X "reversed")(mr:X.mg "reversed" = none)(he:PE X e te)(h2:starEach [e] X.env = [(false,eval e X.env)]:=by rfl):PI X tg (.Call (.Name "reversed" p1) [e] [] q1) (zR X.K te):=by
 intro pins s σ H R I h;have h':(pF te xh) σ H (fun vs H1=>∃a xs,vs = [.ref a]∧SqL X.K H1 a xs∧R (ItR X.K a xs.length) H1):=h;refine wpAny_Call_Name_kw (fW I gr mr oh (PyProof.Rows.callWith_type1 (thn ((ad he ag h2) q1 pins s σ H (fun vs H1=>∃a xs,vs = [.ref a]∧SqL X.K H1 a xs∧R (ItR X.K a xs.length) H1) I h') fun us s1 ⟨vs,H1,I1,r1,q⟩=>?_) h2 rfl));obtain⟨a,xs,rfl,hx,k⟩:=q;obtain⟨u,rfl,ru⟩:=kJ r1;cases ru;obtain⟨its,rv,pl,hz⟩:=I1.list hx;have hl:=rv.length;refine call_reversed_list pl.isList ?_;have al:a<s1.heap.objs.size:=by obtain⟨_,e,_⟩:=pl.isList;exact Heap.lt_size e
 have kp:∀b o,s1.heap.get? b=some o->(s1.heap.push (revObj a ((its.toArray.size:Int) - 1))).get? b=some o:=fun b o e=>Heap.get?_push_of_some _ e;have it0:(s1.heap.push (revObj a ((its.toArray.size:Int) - 1))).IsRevIter s1.heap.objs.size a ((its.toArray.size:Int) - 1):=⟨_,Heap.get?_push_size _ rfl,rfl,rfl⟩;refine wpAny_pyIter_revIter (i:=(its.toArray.size:Int) - 1) it0 ?_;refine⟨_,[s1.heap.objs.size],_,_,H1,rfl,I1.kept (t':=s1.toks) kp,rX a s1.heap.objs.size xs.length,?_,fun b hb=>?_,k⟩
 ·show Heap.IsRevIter _ _ _ ((xs.length:Int) - 1 - ((0:Nat):Int))
  rw[show(xs.length:Int) - 1 - ((0:Nat):Int)=(its.toArray.size:Int) - 1 by rw[List.size_toArray];omega];exact it0
 ·have e:b=s1.heap.objs.size:=by simpa using hb
  subst e;exact I1.fpOk (Nat.le_refl _) (I1.hok.fresh (Nat.le_refl _))
theorem vP{K:W.Frag}{a:Addr}{xs:List V}{g:TG}{tb:TS}{D:CY}{σ:St}{H:Hp}(Pv:Nat->St->Hp->Prop)(h0:Pv 0 σ H)(hl:∀i σ H,i≤xs.length->Pv i σ H->SqL K H a xs)
  (hs:∀i x σ H,i<xs.length->xs[xs.length - 1 - i]? = some x->Pv i σ H->g x σ H fun σ2 H2=>tb { D with nx:=Pv (i+1),ct:=Pv (i+1),bk:=D.nx } σ2 H2) (hd:∀σ H,Pv xs.length σ H->D.nx σ H) :
  ∃W:Nat->Nat->St->Hp->Prop,(∃m,W 0 m σ H)∧∀i m σ H,W i m σ H ->
   ((ItR K a xs.length).stop i H∧D.nx σ H)∨((ItR K a xs.length).go i H∧∃N:St->Hp->Prop,(∀σ' H',N σ' H'->∃m',m'<m∧W (i+1) m' σ' H')∧∀x H',(ItR K a xs.length).yld i H x H'->g x σ H' fun σ2 H2=>tb { D with nx:=N,ct:=N,bk:=D.nx } σ2 H2):=by
 refine⟨fun i m σ H=>m=xs.length - i∧i≤xs.length∧Pv i σ H,⟨_,rfl,Nat.zero_le _,h0⟩,?_⟩;rintro i m σ H ⟨rfl,hi,p⟩;have q:=hl i σ H hi p
 by_cases hlt:i<xs.length
 ·refine .inr ⟨⟨xs,xs[xs.length - 1 - i],q,rfl,hlt,List.getElem?_eq_getElem (by omega)⟩,Pv (i+1),fun σ' H' p'=>⟨xs.length - (i+1),by omega,rfl,hlt,p'⟩,fun x H' ⟨e,y⟩=>?_⟩
  subst e;exact hs i x σ _ hlt (y xs q) p
 ·have e:i=xs.length:=by omega
  subst e;exact .inl ⟨rfl,hd σ H p⟩
end L2
namespace L2
open PySem PySem.Spec PyProof.Rows
theorem rH{α:Type}{K:W.Frag}{a:Addr}{xs:List V}{es:List α}{fv:List (Str×Nat)}{g:TG}{tc:TT}{te:TE}{σ:St}{H1:Hp}{Q:VK}{k:Nat}(hD:H1 a=some (.lst xs))(hlen:xs.length<1000)(R:α->V->Prop)(pr:Paired R es xs)(P:α->Bool)
  (hs:∀e x H2 (τ:St) (Kc:VK) (Kn:Hp->Prop),e∈es->R e x->Same H1 H2->τ.length=k->(P e=true->∀H4,Same H2 H4->Kc x H4)->(P e=false->∀H4,Same H2 H4->Kn H4) ->
   g x (τ++fvs fv σ) H2 fun σ2 H4=>(∃τ':St,τ'.length=k∧σ2=τ'++fvs fv σ)∧tc σ2 H4 fun b H5=>if b=true then te σ2 H5 Kc else Kn H5)
  (hd:∀l ys H',H1 l=none->Same H1 H'->H' l=some (.lst ys)->Paired R (es.filter P) ys->Q (.ref l) H'):jo (Itl K a) k fv g tc te σ H1 Q:=by
 intro l hl;have ll:=Paired.length pr;have la:l≠a:=fun z=>by rw[z,hD]at hl;cases hl
 have gp:∀{l:List α} {m:List V},Paired R l m->∀(i:Nat) (b:V),m[i]? = some b->∃a,l[i]? = some a∧R a b:=by
  intro l m p
  induction p with
  | nil=>intro i a e;simp at e
  | cons h r ih =>
   intro i a e;cases i with
   | zero=>simp at e;subst e;exact⟨_,rfl,h⟩
   | succ j=>exact ih j a (by simpa using e)
 refine⟨fun i m acc H2=>m=xs.length - i∧i≤xs.length∧acc.length≤i∧Same H1 H2∧H2 l=some (.lst acc)∧Paired R ((es.take i).filter P) acc,⟨_,rfl,Nat.zero_le _,Nat.le_refl _,Same.new hl,upd_same,.nil⟩,?_⟩;rintro i m acc H2 ⟨rfl,hi,e1,sm,e3,hr⟩;refine⟨e3,aM (by omega),?_⟩
 by_cases hlt:i<xs.length
 ·refine .inr ⟨⟨xs,xs[i],SqL.of (sm _ _ hD),List.getElem?_eq_getElem hlt⟩,fun x H3 y τ hτ=>?_⟩
  obtain⟨rfl,e⟩:=y;have hx:=e xs (SqL.of (sm _ _ hD));obtain⟨ee,he,hre⟩:=gp pr i x hx;have tk:es.take (i+1)=es.take i++[ee]:=by rw[List.take_add_one,he];rfl
  refine hs ee x H3 τ _ _ (List.mem_of_getElem? he) hre sm hτ (fun hsel H4 s4=>⟨s4 _ _ e3,xs.length - (i+1),by omega,rfl,hlt,by simp;exact e1,(sm.trans s4).upd hl,upd_same,?_⟩) fun hsel H4 s4=>⟨xs.length - (i+1),by omega,rfl,hlt,by omega,sm.trans s4,s4 _ _ e3,?_⟩
  ·rw[tk,List.filter_append,List.filter_cons,hsel]
   exact Paired.snoc hr hre
  ·rw[tk,List.filter_append,List.filter_cons,hsel]
   simp only[Bool.false_eq_true,if_false,List.filter_nil,List.append_nil];exact hr
 ·have e:i=xs.length:=by omega
  subst e;rw[List.take_of_length_le (by omega)]at hr;exact .inl ⟨⟨xs,SqL.of (sm _ _ hD),Nat.le_refl _⟩,hd l acc H2 hl sm e3 hr⟩
end L2
namespace L2
open PySem PySem.Spec PyProof.Rows
theorem ju(n:Nat):sliceRange ((n:Int) - 1) (-1) (-1)=(List.range n).map fun k=>n - 1 - k:=by
 unfold sliceRange;have e:(if ((-1:Int)>0) then (if (n:Int) - 1 < -1 then (-1 - ((n:Int) - 1) + -1 - 1) / -1 else 0) else (if (n:Int) - 1 > -1 then ((n:Int) - 1 - -1 - -1 - 1) / - -1 else 0)).toNat=n:=by
  rw[if_neg (by decide)]
  split
  ·rw[show - (-1:Int)=1 from rfl,Int.ediv_one]
   omega
  ·omega
 show List.map (fun k:Nat=>((n:Int) - 1 + -1*(k:Int)).toNat) (List.range (if ((-1:Int)>0) then (if (n:Int) - 1 < -1 then (-1 - ((n:Int) - 1) + -1 - 1) / -1 else 0) else (if (n:Int) - 1 > -1 then ((n:Int) - 1 - -1 - -1 - 1) / - -1 else 0)).toNat)=_
 rw[e];refine List.map_congr_left fun k _=>?_;omega
theorem j8(its:List Value):slicePick its.toArray none none (some (-1))=its.reverse.toArray:=by
 unfold slicePick;have b:sliceBounds none none (some (-1)) its.toArray.size=((its.length:Int) - 1,-1,-1):=by
  unfold sliceBounds;simp
 rw[b];show(List.filterMap (fun x=>its.toArray[x]?) (sliceRange ((its.length:Int) - 1) (-1) (-1))).toArray=_;rw[ju]
 congr 1
 have key:∀(l:List Value),List.filterMap (fun x=>l[x]?) ((List.range l.length).map fun k=>l.length - 1 - k)=l.reverse:=by
  intro l;have e2:(List.range l.length).map (fun k=>l.length - 1 - k)=(List.range l.length).reverse:=by
   refine List.ext_getElem? fun i=>?_
   by_cases hi:i<l.length
   ·rw[List.getElem?_map,List.getElem?_range hi,List.getElem?_reverse (by simpa using hi),List.length_range,List.getElem?_range (by omega)]
    rfl
   ·rw[List.getElem?_eq_none (by simp;omega),List.getElem?_eq_none (by simp;omega)]
  rw[e2,List.filterMap_reverse]
  congr 1
  have this:∀(l:List Value),List.filterMap (fun x=>l[x]?) (List.range l.length)=l:=by
   intro l;have h:∀n,n≤l.length->List.filterMap (fun x=>l[x]?) (List.range n)=l.take n:=by
    intro n
    induction n with
    | zero=>intro _;rfl
    | succ n ih =>
     intro hn;rw[List.range_succ,List.filterMap_append,ih (by omega),List.take_succ]
     congr 1
   rw[h _ (Nat.le_refl _),List.take_length]
  exact this l
 have k2:=key its;simpa using k2
section
variable {X:Cx} {e:Expr} {te:TE} {st:Expr} {ts:TO} {pos p2:Pos}
def yD(K:W.Frag)(te:TE)(ts:TO):TE:=fun σ H Q=>te σ H fun x H1=>ts σ H1 fun o H2=>o=some (-1)∧∃a xs,x = .ref a∧SqL K H2 a xs∧∀p H3,Same H2 H3->H3 p=some (.lst xs.reverse)->H2 p=none->Q (.ref p) H3
theorem qJ(he:PE X e te)(hs:PO X (some st) ts):PE X (.Subscript e (.Slice none none (some st) p2) pos) (yD X.K te ts):=by
 intro pins s σ H Q I h;refine Subscript_ (thn (he pins s σ H _ I h) fun v s1 ⟨x,H1,I1,r1,q1⟩=>?_);refine wpAny_Slice ?_;rw[evalPart_none];refine wpAny_pure ?_;refine wpAny_pure ?_;refine thn (hs pins s1 σ H1 _ I1 q1) fun vs s3 ⟨o,H3,I3,ps,q3⟩=>?_;obtain⟨rfl,a,xs,rfl,hx,q⟩:=q3;have I4:Aa X pins σ H3 { s3 with heap:=s3.heap.push { cls:=.type "slice",data:=.fields #[.none,.none,vs] } }:=I3.kept (t':=s3.toks) fun b ob q=>Heap.get?_push_of_some _ q;cases r1;obtain⟨its,r,ht,hz⟩:=I4.list hx;show wpAny (model X.prog X.w) X.A (subscriptTail e (.Slice none none (some st) p2) (.ref a) (.ref s3.heap.objs.size)) (EP X pins σ Q) X.xe { s3 with heap:=s3.heap.push { cls:=.type "slice",data:=.fields #[.none,.none,vs] } }
 refine tail_any (ops:=[.ref a,.ref s3.heap.objs.size]) ht.isList.typeIs slot_list_getitem.lookup ?_ (by with_unfolding_all rfl);have hlen:=r.length;refine wpAny_getItem_list_slice ht.isList (Heap.IsSliceOf.new ..) .none .none ps (by decide) ?_ (by rw[List.size_toArray] <;> omega);rw[j8];have hf:=I4.hok.fresh (Nat.le_refl _);refine⟨.ref _,upd H3 _ (.lst xs.reverse),I4.laid (fun b ob q=>Heap.get?_push_of_some _ q) (Nat.le_refl _) ?_,rfl,q _ _ (Same.new hf) upd_same hf⟩;exact⟨by rw[List.length_reverse];exact hz,_,0,r.reverse,Heap.get?_push_size _ rfl⟩
end
end L2
namespace Sp5
open PySem PySem.Spec L2 Mth Sp1 Sp2 Sp3 Sp24
structure A8(T a A:Int):Prop where
 nn:0≤A
 lo:A*A≤T*a
 hi:T*a<(A+1)*(A+1)
theorem pI{x y:Int}(hx:0≤x)(h:x<y):x*x<y*y:=by
 have h1:x*x≤y*x:=Int.mul_le_mul_of_nonneg_right (by omega) hx;have h2:y*x<y*y:=Int.mul_lt_mul_of_pos_left h (by omega);omega
theorem kN{x y:Int}(hy:0≤y)(h:x*x≤y*y):x≤y:=by
 by_cases hx:x≤y
 ·exact hx
 ·have:=pI hy (show y<x by omega)
  omega
theorem a8{x y:Int}(hx:0≤x)(h:x≤y):x*x≤y*y:=Int.mul_le_mul h h hx (by omega)
theorem A8.uniq{T a A B:Int}(h:A8 T a A)(k:A8 T a B):A=B:=by
 have h1:A≤B:=by
  by_cases z:A≤B
  ·exact z
  ·have:=a8 (x:=B+1) (y:=A) (by have:=k.nn;omega) (by omega)
   have:=k.hi;have:=h.lo;omega
 have h2:B≤A:=by
  by_cases z:B≤A
  ·exact z
  ·have:=a8 (x:=A+1) (y:=B) (by have:=h.nn;omega) (by omega)
   have:=h.hi;have:=k.lo;omega
 omega
theorem A8.mono{T a c A C:Int}(hT:0≤T)(h:A8 T a A)(k:A8 T c C)(hac:a≤c):A≤C:=by
 by_cases z:A≤C
 ·exact z
 ·have:=a8 (x:=C+1) (y:=A) (by have:=k.nn;omega) (by omega)
  have:=k.hi;have:=h.lo;have:T*a≤T*c:=Int.mul_le_mul_of_nonneg_left hac hT;omega
structure DK(S M:Int):Prop where
 m1:1≤M
 s:216*(M*(M*M))≤S
theorem DK.mm{S M:Int}(h:DK S M):M≤M*M∧M*M≤M*(M*M):=by
 have h1:=h.m1;have a:1*M≤M*M:=Int.mul_le_mul_of_nonneg_right h1 (by omega);have b:1*(M*M)≤M*(M*M):=Int.mul_le_mul_of_nonneg_right h1 (by omega);omega
theorem DK.pos{S M:Int}(h:DK S M):216*M≤S:=by
 have:=h.mm;have:=h.s;omega
theorem DK.big{S M K:Int}(h:DK S M)(hK:K≤24*(S*M)):K<S*S:=by
 have p:=h.pos;have m1:=h.m1;have:S*(216*M)≤S*S:=Int.mul_le_mul_of_nonneg_left p (by omega);have e:S*(216*M)=216*(S*M):=by grind
 have q:0<S*M:=Int.mul_pos (by omega) (by omega);omega
theorem DK.fin{S M K f:Int}(h:DK S M)(f0:0≤f)(hf:f≤2*(M*M))(k0:0≤K)(hK:K≤24*(S*M)):2*((S*S)*(f*K))+K*K<(S*S)*(S*S):=by
 have m1:=h.m1;have p:=h.pos;have s0:0<S:=by omega
 have mm:=h.mm;have q:0<S*M:=Int.mul_pos s0 (by omega);have a1:f*K≤2*(M*M)*(24*(S*M)):=Int.mul_le_mul hf hK k0 (by omega);have a2:2*(M*M)*(24*(S*M))=48*(S*(M*(M*M))):=by grind
 have a3:S*(216*(M*(M*M)))≤S*S:=Int.mul_le_mul_of_nonneg_left h.s (by omega);have a4:S*(216*(M*(M*M)))=216*(S*(M*(M*M))):=by grind
 have a5:9*(f*K)≤2*(S*S):=by omega
 have b1:K*K≤(24*(S*M))*(24*(S*M)):=Int.mul_le_mul hK hK k0 (by omega);have b2:(24*(S*M))*(24*(S*M))=(S*S)*(576*(M*M)):=by grind
 have b3:216*(M*M)≤S:=by have:=h.s;omega
 have b4:1*S≤S*S:=Int.mul_le_mul_of_nonneg_right (by omega) (by omega);have t0:0<S*S:=Int.mul_pos s0 s0;have b5:3*(576*(M*M))≤S*S:=by
  have:216*S≤S*S:=by
   have:216*S≤S*S:=Int.mul_le_mul_of_nonneg_right (by omega) (by omega);exact this
  omega
 have c1:(S*S)*(9*(f*K))≤(S*S)*(2*(S*S)):=Int.mul_le_mul_of_nonneg_left a5 (by omega);have c2:(S*S)*(3*(576*(M*M)))≤(S*S)*(S*S):=Int.mul_le_mul_of_nonneg_left b5 (by omega);have d1:(S*S)*(9*(f*K))=9*((S*S)*(f*K)):=by grind
 have d2:(S*S)*(2*(S*S))=2*((S*S)*(S*S)):=by grind
 have d3:(S*S)*(3*(576*(M*M)))=3*((S*S)*(576*(M*M))):=by grind
 have t1:0<(S*S)*(S*S):=Int.mul_pos t0 t0;omega
theorem A8.le{S M a A:Int}(h:DK S M)(r:A8 (S*S) a A)(ha:a≤M*M):A≤S*M:=by
 have m1:=h.m1;have p:=h.pos;refine kN (Int.mul_nonneg (by omega) (by omega)) ?_;have:(S*S)*a≤(S*S)*(M*M):=Int.mul_le_mul_of_nonneg_left ha (Int.mul_nonneg (by omega) (by omega));have e:(S*M)*(S*M)=(S*S)*(M*M):=by grind
 have:=r.lo;omega
theorem A8.ge{S M a A:Int}(h:DK S M)(r:A8 (S*S) a A)(ha:1≤a):S≤A:=by
 have m1:=h.m1;have p:=h.pos
 by_cases z:S≤A
 ·exact z
 ·have:=a8 (x:=A+1) (y:=S) (by have:=r.nn;omega) (by omega)
  have:(S*S)*1≤(S*S)*a:=Int.mul_le_mul_of_nonneg_left ha (Int.mul_nonneg (by omega) (by omega));have:=r.hi;omega
theorem D1{S M a c A C:Int}(h:DK S M)(ra:A8 (S*S) a A)(rc:A8 (S*S) c C)(hc:c≤M*M)(hac:c+1≤a):C+2<A:=by
 have m1:=h.m1;have p:=h.pos
 by_cases z:C+2<A
 ·exact z
 ·have c0:=rc.nn
  have h1:=a8 (x:=A+1) (y:=C+3) (by have:=ra.nn;omega) (by omega);have e1:(C+3)*(C+3)=C*C+6*C+9:=by grind
  have h2:(S*S)*(c+1)≤(S*S)*a:=Int.mul_le_mul_of_nonneg_left hac (Int.mul_nonneg (by omega) (by omega));have e2:(S*S)*(c+1)=(S*S)*c+S*S:=by grind
  have:=ra.hi;have:=rc.lo;have hC:=rc.le h hc;have q:S*1≤S*M:=Int.mul_le_mul_of_nonneg_left m1 (by omega);have:=h.big (K:=6*C+9) (by omega);omega
theorem A8.prod{T a c A C:Int}(hT:0≤T)(ha:0≤a)(hc:0≤c)(ra:A8 T a A)(rc:A8 T c C):(2*(A*C))*(2*(A*C))≤T*T*(4*(a*c))∧T*T*(4*(a*c))≤(2*((A+1)*(C+1)))*(2*((A+1)*(C+1))):=by
 have a0:=ra.nn;have c0:=rc.nn;have ta:0≤T*a:=Int.mul_nonneg hT ha;have tc:0≤T*c:=Int.mul_nonneg hT hc;have h1:(A*A)*(C*C)≤(T*a)*(T*c):=Int.mul_le_mul ra.lo rc.lo (Int.mul_nonneg c0 c0) ta;have h2:(T*a)*(T*c)≤((A+1)*(A+1))*((C+1)*(C+1)):=Int.mul_le_mul (Int.le_of_lt ra.hi) (Int.le_of_lt rc.hi) tc (Int.mul_nonneg (by omega) (by omega));have e1:(2*(A*C))*(2*(A*C))=4*((A*A)*(C*C)):=by grind
 have e2:(2*((A+1)*(C+1)))*(2*((A+1)*(C+1)))=4*(((A+1)*(A+1))*((C+1)*(C+1))):=by grind
 have e3:T*T*(4*(a*c))=4*((T*a)*(T*c)):=by grind
 rw[e1,e2,e3];omega
theorem tH{S M a c A C f K:Int}(h:DK S M)(ha:0≤a)(hc:0≤c)(ra:A8 (S*S) a A)(rc:A8 (S*S) c C)(f1:1≤f)(hf:f≤2*(M*M))(k0:0≤K)(hK:K≤24*(S*M))(hfc:4*(a*c)+1≤f*f)(hle:(S*S)*f≤2*(A*C)+K):False:=by
 have m1:=h.m1;have p:=h.pos;have t0:0<S*S:=Int.mul_pos (by omega) (by omega);have big:=h.big hK;have g1:(S*S)*1≤(S*S)*f:=Int.mul_le_mul_of_nonneg_left f1 (by omega);have y0:0≤(S*S)*f - K:=by omega
 have y1:=a8 (x:=(S*S)*f - K) (y:=2*(A*C)) y0 (by omega);have y2:=(A8.prod (by omega) ha hc ra rc).1;have y3:(S*S)*(S*S)*(4*(a*c)+1)≤(S*S)*(S*S)*(f*f):=Int.mul_le_mul_of_nonneg_left hfc (Int.mul_nonneg (by omega) (by omega));have y4:=h.fin (by omega) hf k0 hK;have e1:((S*S)*f - K)*((S*S)*f - K)=(S*S)*(S*S)*(f*f) - 2*((S*S)*(f*K))+K*K:=by grind
 have e2:(S*S)*(S*S)*(4*(a*c)+1)=(S*S)*(S*S)*(4*(a*c))+(S*S)*(S*S):=by grind
 have kk:0≤K*K:=Int.mul_nonneg k0 k0;omega
theorem wV{S M a c A C f K:Int}(h:DK S M)(ha:0≤a)(hc:0≤c)(ra:A8 (S*S) a A)(rc:A8 (S*S) c C)(f0:0≤f)(hf:f≤2*(M*M))(k0:0≤K)(hK:K≤24*(S*M))(hfc:f*f+1≤4*(a*c))(hle:2*((A+1)*(C+1))≤(S*S)*f+K):False:=by
 have m1:=h.m1;have p:=h.pos;have t0:0<S*S:=Int.mul_pos (by omega) (by omega);have a0:=ra.nn;have c0:=rc.nn;have z0:0≤2*((A+1)*(C+1)):=by
  have:0≤(A+1)*(C+1):=Int.mul_nonneg (by omega) (by omega);omega
 have y1:=a8 z0 hle;have y2:=(A8.prod (by omega) ha hc ra rc).2;have y3:(S*S)*(S*S)*(f*f+1)≤(S*S)*(S*S)*(4*(a*c)):=Int.mul_le_mul_of_nonneg_left hfc (Int.mul_nonneg (by omega) (by omega));have y4:=h.fin f0 hf k0 hK;have e1:((S*S)*f+K)*((S*S)*f+K)=(S*S)*(S*S)*(f*f)+2*((S*S)*(f*K))+K*K:=by grind
 have e2:(S*S)*(S*S)*(f*f+1)=(S*S)*(S*S)*(f*f)+(S*S)*(S*S):=by grind
 omega
section
variable {S M a c A C v:Int}
theorem L1(h:DK S M)(ha:0≤a)(hc:0≤c)(haM:a≤M*M)(hcM:c≤M*M)(ra:A8 (S*S) a A)(rc:A8 (S*S) c C)(v0:0≤v)(hv:v≤M)(he:0<v*v - a - c)(hd:4*(a*c)+1≤(v*v - a - c)*(v*v - a - c)):2<v*S - A - C:=by
 by_cases z:2<v*S - A - C
 ·exact z
 exfalso;have m1:=h.m1;have p:=h.pos;have a0:=ra.nn;have c0:=rc.nn;have hA:=ra.le h haM;have hC:=rc.le h hcM;have q:S*1≤S*M:=Int.mul_le_mul_of_nonneg_left m1 (by omega);have vv:v*v≤M*M:=a8 v0 hv;have s1:=a8 (x:=v*S) (y:=A+C+2) (Int.mul_nonneg v0 (by omega)) (by omega);have e1:(v*S)*(v*S)=(S*S)*(v*v):=by grind
 have e2:(A+C+2)*(A+C+2)=A*A+C*C+2*(A*C)+4*A+4*C+4:=by grind
 have e3:(S*S)*(v*v - a - c)=(S*S)*(v*v) - (S*S)*a - (S*S)*c:=by grind
 have:=ra.lo;have:=rc.lo;exact tH h ha hc ra rc (f:=v*v - a - c) (K:=4*A+4*C+4) (by omega) (by omega) (by omega) (by omega) hd (by omega)
theorem L2(h:DK S M)(ha:0≤a)(hc:0≤c)(ra:A8 (S*S) a A)(rc:A8 (S*S) c C)(v0:0≤v)(hv:v≤M)(hd:v*v - a - c<0∨(0≤v*v - a - c∧(v*v - a - c)*(v*v - a - c)+1≤4*(a*c))):v*S - A - C < -2:=by
 by_cases z:v*S - A - C < -2
 ·exact z
 exfalso;have m1:=h.m1;have p:=h.pos;have a0:=ra.nn;have c0:=rc.nn;have q:S*1≤S*M:=Int.mul_le_mul_of_nonneg_left m1 (by omega);have vs:v*S≤M*S:=Int.mul_le_mul_of_nonneg_right hv (by omega);have ms:M*S=S*M:=Int.mul_comm _ _;have vv:v*v≤M*M:=a8 v0 hv;have s1:=a8 (x:=A+1+(C+1)) (y:=v*S+4) (by omega) (by omega);have e1:(v*S+4)*(v*S+4)=(S*S)*(v*v)+8*(v*S)+16:=by grind
 have e2:(A+1+(C+1))*(A+1+(C+1))=(A+1)*(A+1)+(C+1)*(C+1)+2*((A+1)*(C+1)):=by grind
 have e3:(S*S)*(v*v - a - c)=(S*S)*(v*v) - (S*S)*a - (S*S)*c:=by grind
 have:=ra.hi;have:=rc.hi;have vs0:0≤v*S:=Int.mul_nonneg v0 (by omega);have z0:0≤(A+1)*(C+1):=Int.mul_nonneg (by omega) (by omega);rcases hd with hd|⟨hd0,hd⟩
 ·have g:(S*S)*(v*v - a - c)≤(S*S)*(-1):=Int.mul_le_mul_of_nonneg_left (by omega) (Int.mul_nonneg (by omega) (by omega))
  have:=h.big (K:=8*(v*S)+16) (by omega);omega
 ·exact wV h ha hc ra rc (f:=v*v - a - c) (K:=8*(v*S)+16) hd0 (by omega) (by omega) (by omega) hd (by omega)
theorem L3(h:DK S M)(ha:0≤a)(hc:0≤c)(ra:A8 (S*S) a A)(rc:A8 (S*S) c C)(v0:0≤v)(he:0≤v*v - a - c)(hd:(v*v - a - c)*(v*v - a - c)=4*(a*c)):-2≤v*S - A - C∧v*S - A - C≤2:=by
 have m1:=h.m1;have p:=h.pos;have a0:=ra.nn;have c0:=rc.nn;have t0:0≤S*S:=Int.mul_nonneg (by omega) (by omega);have vs0:0≤v*S:=Int.mul_nonneg v0 (by omega);have pr:=A8.prod t0 ha hc ra rc;have e0:(S*S*(v*v - a - c))*(S*S*(v*v - a - c))=S*S*(S*S)*(4*(a*c)):=by rw[<- hd];grind
 have te:0≤S*S*(v*v - a - c):=Int.mul_nonneg t0 he;have k1:2*(A*C)≤S*S*(v*v - a - c):=kN te (by omega);have z0:0≤(A+1)*(C+1):=Int.mul_nonneg (by omega) (by omega);have k2:S*S*(v*v - a - c)≤2*((A+1)*(C+1)):=kN (by omega) (by omega);have e3:(S*S)*(v*v - a - c)=(S*S)*(v*v) - (S*S)*a - (S*S)*c:=by grind
 have e4:(v*S)*(v*S)=(S*S)*(v*v):=by grind
 have e5:(A+C)*(A+C)=A*A+C*C+2*(A*C):=by grind
 have e6:(A+1+(C+1))*(A+1+(C+1))=(A+1)*(A+1)+(C+1)*(C+1)+2*((A+1)*(C+1)):=by grind
 have:=ra.lo;have:=rc.lo;have:=ra.hi;have:=rc.hi;have h1:A+C≤v*S:=kN vs0 (by omega);have h2:v*S≤A+1+(C+1):=kN (by omega) (by omega);omega
theorem L4(h:DK S M)(ha:0≤a)(hc:0≤c)(haM:a≤M*M)(hcM:c≤M*M)(ra:A8 (S*S) a A)(rc:A8 (S*S) c C)(v0:0<v)(hd:0<v*v - a - c∨(v*v - a - c≤0∧(v*v - a - c)*(v*v - a - c)+1≤4*(a*c))):2<v*S+A - C:=by
 by_cases z:2<v*S+A - C
 ·exact z
 exfalso;have m1:=h.m1;have p:=h.pos;have a0:=ra.nn;have c0:=rc.nn;have hA:=ra.le h haM;have hC:=rc.le h hcM;have q:S*1≤S*M:=Int.mul_le_mul_of_nonneg_left m1 (by omega);have s1:=a8 (x:=v*S) (y:=C - A+2) (Int.mul_nonneg (by omega) (by omega)) (by omega);have e1:(v*S)*(v*S)=(S*S)*(v*v):=by grind
 have e2:(C - A+2)*(C - A+2)=A*A+C*C - 2*(A*C)+4*C - 4*A+4:=by grind
 have e3:(S*S)*(v*v - a - c)=(S*S)*(v*v) - (S*S)*a - (S*S)*c:=by grind
 have e4:(A+1)*(C+1)=A*C+A+C+1:=by grind
 have:=ra.lo;have:=rc.lo;have ac0:0≤A*C:=Int.mul_nonneg a0 c0;rcases hd with hd|⟨hd0,hd⟩
 ·have g:(S*S)*1≤(S*S)*(v*v - a - c):=Int.mul_le_mul_of_nonneg_left (by omega) (Int.mul_nonneg (by omega) (by omega))
  have:=h.big (K:=4*C+4) (by omega);omega
 ·have e5:(S*S)*(-(v*v - a - c)) = -((S*S)*(v*v - a - c)):=by grind
  have vv:0≤v*v:=Int.mul_nonneg (by omega) (by omega);have e6:-(v*v - a - c) * -(v*v - a - c)=(v*v - a - c)*(v*v - a - c):=by grind
  exact wV h ha hc ra rc (f:=-(v*v - a - c)) (K:=6*C+2*A+6) (by omega) (by omega) (by omega) (by omega) (by rw[e6];exact hd) (by omega)
theorem L5(h:DK S M)(ha:0≤a)(hc:0≤c)(haM:a≤M*M)(hcM:c≤M*M)(hac:a≤c)(ra:A8 (S*S) a A)(rc:A8 (S*S) c C)(v0:0<v)(hv:v≤M)(he:v*v - a - c<0)(hd:4*(a*c)+1≤(v*v - a - c)*(v*v - a - c)):v*S+A - C < -2:=by
 by_cases z:v*S+A - C < -2
 ·exact z
 exfalso;have m1:=h.m1;have p:=h.pos;have a0:=ra.nn;have c0:=rc.nn;have hA:=ra.le h haM;have hC:=rc.le h hcM;have q:S*1≤S*M:=Int.mul_le_mul_of_nonneg_left m1 (by omega);have vs:v*S≤M*S:=Int.mul_le_mul_of_nonneg_right hv (by omega);have ms:M*S=S*M:=Int.mul_comm _ _;have t0:0≤S*S:=Int.mul_nonneg (by omega) (by omega);have hAC:=A8.mono t0 ra rc hac;have vs0:0≤v*S:=Int.mul_nonneg (by omega) (by omega);have s1:=a8 (x:=C - A) (y:=v*S+2) (by omega) (by omega);have e1:(v*S+2)*(v*S+2)=(S*S)*(v*v)+4*(v*S)+4:=by grind
 have e2:(C - A)*(C - A)=A*A+C*C - 2*(A*C):=by grind
 have e3:(S*S)*(v*v - a - c)=(S*S)*(v*v) - (S*S)*a - (S*S)*c:=by grind
 have e5:(S*S)*(-(v*v - a - c)) = -((S*S)*(v*v - a - c)):=by grind
 have e6:-(v*v - a - c) * -(v*v - a - c)=(v*v - a - c)*(v*v - a - c):=by grind
 have e7:(A+1)*(A+1)=A*A+2*A+1:=by grind
 have e8:(C+1)*(C+1)=C*C+2*C+1:=by grind
 have vv:0≤v*v:=Int.mul_nonneg (by omega) (by omega);have:=ra.hi;have:=rc.hi;exact tH h ha hc ra rc (f:=-(v*v - a - c)) (K:=4*(v*S)+4+2*A+2*C) (by omega) (by omega) (by omega) (by omega) (by rw[e6];exact hd) (by omega)
theorem L6(h:DK S M)(ha:0≤a)(hc:0≤c)(hac:a≤c)(ra:A8 (S*S) a A)(rc:A8 (S*S) c C)(v0:0<v)(he:v*v - a - c≤0)(hd:(v*v - a - c)*(v*v - a - c)=4*(a*c)):-2≤v*S+A - C∧v*S+A - C≤2:=by
 have m1:=h.m1;have p:=h.pos;have a0:=ra.nn;have c0:=rc.nn;have t0:0<S*S:=Int.mul_pos (by omega) (by omega);have vs0:0<v*S:=Int.mul_pos (by omega) (by omega);have aa:a*a≤a*c:=Int.mul_le_mul_of_nonneg_left hac ha;have f2:2*a≤-(v*v - a - c):=kN (by omega) (by
  have e1:(2*a)*(2*a)=4*(a*a):=by grind
  have e2:-(v*v - a - c) * -(v*v - a - c)=(v*v - a - c)*(v*v - a - c):=by grind
  rw[e1,e2,hd];omega)
 have g0:0≤c - a - v*v:=by omega
 have gg:(c - a - v*v)*(c - a - v*v)=4*(v*v*a):=by
  have:(c - a - v*v)*(c - a - v*v) - 4*(v*v*a)=(v*v - a - c)*(v*v - a - c) - 4*(a*c):=by grind
  omega
 have:=ra.lo;have:=rc.lo;have:=ra.hi;have:=rc.hi;have e3:(S*S)*(c - a - v*v)=(S*S)*c - (S*S)*a - (S*S)*(v*v):=by grind
 have sg0:0≤S*(c - a - v*v):=Int.mul_nonneg (by omega) g0;have k1:C≤v*S+A:=by
  by_cases z:C≤v*S+A
  ·exact z
  exfalso;have s1:=a8 (x:=v*S+(A+1)) (y:=C) (by omega) (by omega);have e1:(v*S+(A+1))*(v*S+(A+1))=(S*S)*(v*v)+S*(2*(v*(A+1)))+(A+1)*(A+1):=by grind
  have e2:(S*S)*(c - a - v*v)=S*(S*(c - a - v*v)):=by grind
  have l1:S*(2*(v*(A+1)))<S*(S*(c - a - v*v)):=by omega
  have l2:2*(v*(A+1))<S*(c - a - v*v):=Int.lt_of_mul_lt_mul_left l1 (by omega);have va:0≤v*(A+1):=Int.mul_nonneg (by omega) (by omega);have l3:=a8 (x:=2*(v*(A+1))) (y:=S*(c - a - v*v)) (by omega) (by omega);have e4:(S*(c - a - v*v))*(S*(c - a - v*v))=4*(v*v*(S*S*a)):=by
   have:(S*(c - a - v*v))*(S*(c - a - v*v))=(S*S)*((c - a - v*v)*(c - a - v*v)):=by grind
   rw[this,gg];grind
  have e5:(2*(v*(A+1)))*(2*(v*(A+1)))=4*(v*v*((A+1)*(A+1))):=by grind
  have l4:v*v*(S*S*a)<v*v*((A+1)*(A+1)):=Int.mul_lt_mul_of_pos_left ra.hi (Int.mul_pos v0 v0);omega
 have k2:v*S+A≤C+1:=by
  by_cases z:v*S+A≤C+1
  ·exact z
  exfalso;have s1:=a8 (x:=C+1) (y:=v*S+A) (by omega) (by omega);have e1:(v*S+A)*(v*S+A)=(S*S)*(v*v)+S*(2*(v*A))+A*A:=by grind
  have e2:(S*S)*(c - a - v*v)=S*(S*(c - a - v*v)):=by grind
  have l1:S*(S*(c - a - v*v))<S*(2*(v*A)):=by omega
  have l2:S*(c - a - v*v)<2*(v*A):=Int.lt_of_mul_lt_mul_left l1 (by omega);have l3:(S*(c - a - v*v))*(S*(c - a - v*v))<(2*(v*A))*(2*(v*A)):=pI sg0 l2;have e4:(S*(c - a - v*v))*(S*(c - a - v*v))=4*(v*v*(S*S*a)):=by
   have:(S*(c - a - v*v))*(S*(c - a - v*v))=(S*S)*((c - a - v*v)*(c - a - v*v)):=by grind
   rw[this,gg];grind
  have e5:(2*(v*A))*(2*(v*A))=4*(v*v*(A*A)):=by grind
  have l4:v*v*(A*A)≤v*v*(S*S*a):=Int.mul_le_mul_of_nonneg_left ra.lo (Int.mul_nonneg (by omega) (by omega));omega
 omega
end
end Sp5
namespace Sp5
open PySem PySem.Spec L2 Mth Sp1 Sp2 Sp3 Sp24
theorem cF{x:Int}(h:0<x):sg x=1:=by unfold sg;rw[if_pos h]
theorem dM{x:Int}(h:x<0):sg x = -1:=by unfold sg;rw[if_neg (by omega),if_pos h]
theorem jw{x:Int}(h:x=0):sg x=0:=by subst h;rfl
theorem cH(x:Int):sg (-x) = -sg x:=by
 rcases Int.lt_trichotomy x 0 with h|h|h
 ·rw[dM h,cF (by omega)];rfl
 ·subst h;rfl
 ·rw[cF h,dM (by omega)]
def gw(x:Int):Int:=(if decide (x>2)=true then 1 else 0) - (if decide (x < -2)=true then 1 else 0)
theorem dI{x:Int}(h:2<x):gw x=1:=by
 unfold gw;rw[decide_eq_true (show x>2 from h),decide_eq_false (show ¬x < -2 by omega)];rfl
theorem jq{x:Int}(h:x < -2):gw x = -1:=by
 unfold gw;rw[decide_eq_false (show ¬x>2 by omega),decide_eq_true h];rfl
theorem gZ{x:Int}(h:-2≤x∧x≤2):gw x=0:=by
 unfold gw;rw[decide_eq_false (show ¬x>2 by omega),decide_eq_false (show ¬x < -2 by omega)];rfl
theorem jp(x:Int):gw (-x) = -gw x:=by
 by_cases h:2<x
 ·rw[dI h,jq (by omega)]
 by_cases h2:x < -2
 ·rw[jq h2,dI (by omega)];rfl
 ·rw[gZ (x:=x) (by omega),gZ (by omega)];rfl
theorem cD{x:Int}(h:0≤x):ssq x=x*x:=by unfold ssq;rw[if_neg (by omega)]
theorem cQ{x:Int}(h:x<0):ssq x = -(x*x):=by unfold ssq;rw[if_pos h,Int.mul_neg]
section
variable {S M a c A C w:Int}
def Gp(w a c:Int):Int:=if sg w*sg (a+c)≥0 then sg (sg w+sg (a+c)) else sg w*sg (ssq (w*w - a - c) - 4*(a*c))
def Gm(w a c:Int):Int:=if sg w*sg (a - c)≥0 then sg (sg w+sg (a - c)) else sg w*sg (ssq (w*w - a - c)+4*(a*c))
theorem rt0(h:DK S M)(r:A8 (S*S) 0 A):A=0:=by
 have h0:A8 (S*S) 0 0:=⟨Int.le_refl _,by simp,by simp⟩;exact r.uniq h0
theorem pp(h:DK S M)(ha:0≤a)(hc:0≤c)(haM:a≤M*M)(hcM:c≤M*M)(ra:A8 (S*S) a A)(rc:A8 (S*S) c C)(hw0:-M≤w)(hw1:w≤M):gw (w*S+A+C)=Gp w a c:=by
 have m1:=h.m1;have p:=h.pos;have a0:=ra.nn;have c0:=rc.nn;unfold Gp
 by_cases w0:0<w
 ·have:1*S≤w*S:=Int.mul_le_mul_of_nonneg_right (by omega) (by omega)
  rw[dI (by omega),cF w0];rcases Int.lt_or_eq_of_le (show 0≤a+c by omega) with g|g
  ·rw[cF g];rfl
  ·rw[jw g.symm];rfl
 by_cases wz:w=0
 ·subst wz
  by_cases a1:1≤a
  ·have:=ra.ge h a1
   rw[dI (by omega),cF (show 0<a+c by omega)];rfl
  by_cases c1:1≤c
  ·have:=rc.ge h c1
   rw[dI (by omega),cF (show 0<a+c by omega)];rfl
  have ea:a=0:=by omega
  have ec:c=0:=by omega
  subst ea ec;rw[rt0 h ra,rt0 h rc,Int.zero_mul];rfl
 have wn:w<0:=by omega
 have ws:w*S≤-1*S:=Int.mul_le_mul_of_nonneg_right (by omega) (by omega);rw[dM wn]
 by_cases ac:a+c=0
 ·have ea:a=0:=by omega
  have ec:c=0:=by omega
  subst ea ec;rw[rt0 h ra,rt0 h rc,jq (by omega)];rfl
 rw[cF (show 0<a+c by omega),if_neg (by decide)];have e1:w*S+A+C = -(-w*S - A - C):=by grind
 have e2:w*w - a - c = -w * -w - a - c:=by grind
 rw[e1,jp,e2];have hac:0≤a*c:=Int.mul_nonneg ha hc;generalize ee:-w * -w - a - c=e at *;rcases Int.lt_trichotomy (ssq e - 4*(a*c)) 0 with g|g|g
 ·have k:e<0∨(0≤e∧e*e+1≤4*(a*c)):=by
   by_cases e0:e<0
   ·exact .inl e0
   ·rw[cD (by omega)]at g
    exact .inr ⟨by omega,by omega⟩
  rw[dM g,jq (L2 h ha hc ra rc (by omega) (by omega) (by rw[ee];exact k))];rfl
 ·have e0:0≤e:=by
   by_cases e0:e<0
   ·rw[cQ e0]at g
    have:0<e*e:=Int.mul_pos_of_neg_of_neg e0 e0;omega
   ·omega
  rw[cD e0]at g;rw[jw (show ssq e - 4*(a*c)=0 by rw[cD e0];exact g),gZ (L3 h ha hc ra rc (by omega) (by rw[ee];exact e0) (by rw[ee];omega))];rfl
 ·have e0:0<e:=by
   by_cases e0:e<0
   ·rw[cQ e0]at g
    have:0<e*e:=Int.mul_pos_of_neg_of_neg e0 e0;omega
   ·by_cases e1:e=0
    ·subst e1
     rw[show ssq 0=0 from rfl]at g;omega
    ·omega
  rw[cF g];rw[cD (by omega)]at g;rw[dI (L1 h ha hc haM hcM ra rc (by omega) (by omega) (by rw[ee];exact e0) (by rw[ee];omega))];rfl
theorem yw(w a c:Int):Gm (-w) c a = -Gm w a c:=by
 unfold Gm;rw[cH,show c - a = -(a - c) by omega,cH,Int.neg_mul_neg,show -w * -w - c - a=w*w - a - c by grind,Int.mul_comm c a]
 by_cases g:sg w*sg (a - c)≥0
 ·rw[if_pos g,if_pos g,show -sg w + -sg (a - c) = -(sg w+sg (a - c)) by omega,cH]
 ·rw[if_neg g,if_neg g,Int.neg_mul]
theorem pm1(h:DK S M)(ha:0≤a)(hc:0≤c)(haM:a≤M*M)(hcM:c≤M*M)(ra:A8 (S*S) a A)(rc:A8 (S*S) c C)(w0:0<w)(hw1:w≤M)(hac:a<c):gw (w*S+A - C)=sg (ssq (w*w - a - c)+4*(a*c)):=by
 have hp:0≤a*c:=Int.mul_nonneg ha hc;generalize ee:w*w - a - c=e at *;rcases Int.lt_trichotomy (ssq e+4*(a*c)) 0 with g|g|g
 ·have e0:e<0:=by
   by_cases e0:e<0
   ·exact e0
   ·rw[cD (by omega)]at g
    have:0≤e*e:=Int.mul_nonneg (by omega) (by omega);omega
  rw[dM g];rw[cQ e0]at g;exact jq (L5 h ha hc haM hcM (by omega) ra rc w0 hw1 (by rw[ee];exact e0) (by rw[ee];omega))
 ·have e0:e≤0:=by
   by_cases e0:e≤0
   ·exact e0
   ·rw[cD (by omega)]at g
    have:0<e*e:=Int.mul_pos (by omega) (by omega);omega
  rw[jw g];have g2:e*e=4*(a*c):=by
   by_cases e1:e<0
   ·rw[cQ e1]at g;omega
   ·have:e=0:=by omega
    subst this;rw[show ssq 0=0 from rfl]at g;omega
  exact gZ (L6 h ha hc (by omega) ra rc w0 (by rw[ee];exact e0) (by rw[ee];exact g2))
 ·rw[cF g]
  refine dI (L4 h ha hc haM hcM ra rc w0 ?_);rw[ee]
  by_cases e0:0<e
  ·exact .inl e0
  ·refine .inr ⟨by omega,?_⟩
   by_cases e1:e<0
   ·rw[cQ e1]at g;omega
   ·have:e=0:=by omega
    subst this;rw[show ssq 0=0 from rfl]at g;omega
theorem pm2(h:DK S M)(ha:0≤a)(hc:0≤c)(haM:a≤M*M)(hcM:c≤M*M)(ra:A8 (S*S) a A)(rc:A8 (S*S) c C)(w0:0≤w)(hw1:w≤M)(hz:0<w∨c≤a):gw (w*S+A - C)=Gm w a c:=by
 have m1:=h.m1;have p:=h.pos;have t0:0≤S*S:=Int.mul_nonneg (by omega) (by omega)
 by_cases hac:a<c
 ·have w1:0<w:=by omega
  rw[pm1 h ha hc haM hcM ra rc w1 hw1 hac];unfold Gm;rw[cF w1,dM (show a - c<0 by omega),if_neg (by decide),Int.one_mul]
 have hle:=A8.mono t0 rc ra (show c≤a by omega);unfold Gm
 by_cases w1:0<w
 ·have:1*S≤w*S:=Int.mul_le_mul_of_nonneg_right (by omega) (by omega)
  rw[dI (by omega),cF w1];rcases Int.lt_or_eq_of_le (show 0≤a - c by omega) with g|g
  ·rw[cF g];rfl
  ·rw[jw g.symm];rfl
 have wz:w=0:=by omega
 subst wz
 by_cases hlt:c+1≤a
 ·have:=D1 h ra rc hcM hlt
  rw[dI (by omega),cF (show 0<a - c by omega)];rfl
 ·have e:a=c:=by omega
  subst e;have e2:=ra.uniq rc;subst e2;rw[gZ (by omega),jw (show a - a=0 by omega)];rfl
theorem pm(h:DK S M)(ha:0≤a)(hc:0≤c)(haM:a≤M*M)(hcM:c≤M*M)(ra:A8 (S*S) a A)(rc:A8 (S*S) c C)(hw0:-M≤w)(hw1:w≤M):gw (w*S+A - C)=Gm w a c:=by
 by_cases g:0<w∨(w=0∧c≤a)
 ·exact pm2 h ha hc haM hcM ra rc (by omega) hw1 (by omega)
 ·have k:=pm2 h hc ha hcM haM rc ra (w:=-w) (by omega) (by omega) (by omega)
  rw[yw,show -w*S+C - A = -(w*S+A - C) by grind,jp]at k;omega
end
theorem uT{S M w m u n l A C:Int}(h:DK S M)(hu:0≤u)(hl:0≤l)(haM:m*m*u≤M*M)(hcM:n*n*l≤M*M)(ra:A8 (S*S) (m*m*u) A)(rc:A8 (S*S) (n*n*l) C)(hw0:-M≤w)(hw1:w≤M) :
  gw (w*S+A*sg m - C*sg n)=bV w m u (-n) l:=by
 have mm:0≤m*m:=by
  rcases Int.lt_or_le m 0 with g|g
  ·exact Int.le_of_lt (Int.mul_pos_of_neg_of_neg g g)
  ·exact Int.mul_nonneg g g
 have nn:0≤n*n:=by
  rcases Int.lt_or_le n 0 with g|g
  ·exact Int.le_of_lt (Int.mul_pos_of_neg_of_neg g g)
  ·exact Int.mul_nonneg g g
 have ha:0≤m*m*u:=Int.mul_nonneg mm hu;have hc:0≤n*n*l:=Int.mul_nonneg nn hl;have key:∀(x y z:Int),ssq m*u+ssq (-n)*l=x->ssq (-2*m * -n)*(u*l)=y->bV w m u (-n) l=if sg w*sg x≥0 then sg (sg w+sg x) else sg w*sg (ssq (w*w - m*m*u - n*n*l)+y):=by
  intro x y z hx hy;unfold bV swr;rw[hx,hy,show -n * -n*l=n*n*l by grind]
 have s1:∀{x:Int},0≤x->ssq x=x*x:=fun h=>cD h;have s2:∀{x:Int},x≤0->ssq x = -(x*x):=fun {x} h=>by
  by_cases g:x<0
  ·exact cQ g
  ·have:x=0:=by omega
   subst this;rfl
 have sA:m=0->A=0:=fun e=>by subst e;exact rt0 h (by simpa using ra)
 have sC:n=0->C=0:=fun e=>by subst e;exact rt0 h (by simpa using rc)
 have A1:0≤m->A*sg m=A:=fun g=>by
  by_cases e:m=0
  ·rw[sA e];simp
  ·rw[cF (by omega),Int.mul_one]
 have A2:m≤0->A*sg m = -A:=fun g=>by
  by_cases e:m=0
  ·rw[sA e];simp
  ·rw[dM (by omega),Int.mul_neg,Int.mul_one]
 have C1:0≤n->C*sg n=C:=fun g=>by
  by_cases e:n=0
  ·rw[sC e];simp
  ·rw[cF (by omega),Int.mul_one]
 have C2:n≤0->C*sg n = -C:=fun g=>by
  by_cases e:n=0
  ·rw[sC e];simp
  ·rw[dM (by omega),Int.mul_neg,Int.mul_one]
 rcases Int.le_total 0 m with gm|gm
 ·rcases Int.le_total 0 n with gn|gn
  ·-- + -
   have hp:0≤m*n:=Int.mul_nonneg gm gn;rw[A1 gm,C1 gn,key (m*m*u - n*n*l) (4*(m*m*u*(n*n*l))) 0 (by rw[s1 gm,s2 (by omega)];grind) (by rw[show -2*m * -n=2*(m*n) by grind,s1 (by omega)];grind)];exact pm h ha hc haM hcM ra rc hw0 hw1
  ·-- + +
   have hp:m*n≤0:=Int.mul_nonpos_of_nonneg_of_nonpos gm gn;rw[A1 gm,C2 gn,key (m*m*u+n*n*l) (-(4*(m*m*u*(n*n*l)))) 0 (by rw[s1 gm,s1 (by omega)];grind) (by rw[show -2*m * -n=2*(m*n) by grind,s2 (by omega)];grind),show w*S+A - -C=w*S+A+C by omega];have k:=pp h ha hc haM hcM ra rc hw0 hw1;rw[k];rfl
 ·rcases Int.le_total 0 n with gn|gn
  ·-- - -
   have hp:m*n≤0:=Int.mul_nonpos_of_nonpos_of_nonneg gm gn;rw[A2 gm,C1 gn,key (-(m*m*u+n*n*l)) (-(4*(m*m*u*(n*n*l)))) 0 (by rw[s2 gm,s2 (by omega)];grind) (by rw[show -2*m * -n=2*(m*n) by grind,s2 (by omega)];grind),show w*S + -A - C = -(-w*S+A+C) by grind,jp];have k:=pp h ha hc haM hcM ra rc (w:=-w) (by omega) (by omega);rw[k];unfold Gp;rw[show -w * -w=w*w by grind,cH w,cH (m*m*u+n*n*l),Int.neg_mul,Int.mul_neg]
   by_cases g:-(sg w*sg (m*m*u+n*n*l))≥0
   ·rw[if_pos g,if_pos g,show sg w + -sg (m*m*u+n*n*l) = -(-sg w+sg (m*m*u+n*n*l)) by omega,cH]
   ·rw[if_neg g,if_neg g,Int.neg_mul,Int.neg_neg]
    rfl
  ·-- - +
   have hp:0≤m*n:=Int.mul_nonneg_of_nonpos_of_nonpos gm gn;rw[A2 gm,C2 gn,key (n*n*l - m*m*u) (4*(m*m*u*(n*n*l))) 0 (by rw[s2 gm,s1 (by omega)];grind) (by rw[show -2*m * -n=2*(m*n) by grind,s1 (by omega)];grind),show w*S + -A - -C=w*S+C - A by omega];have k:=pm h hc ha hcM haM rc ra hw0 hw1;rw[k];unfold Gm;rw[show w*w - n*n*l - m*m*u=w*w - m*m*u - n*n*l by omega,Int.mul_comm (n*n*l)]
end Sp5
namespace Sp6
open PySem PySem.Spec L2 Mth Sp1 Sp2 Sp3 Sp24 Sp5
def sh:Nat->Int->Int->Int->Int->Option (List Int)
 | 0,_,_,_,_=>none
 | n+1,lo,hi,b,l=>if lo / b*b=lo then some [lo / b] else if (lo / b+1)*l≤hi then some [lo / b+1] else (sh n l b (hi - lo / b*l) (lo - lo / b*b)).map (lo / b::·)
theorem pJ:∀{n:Nat} {lo hi b l:Int} {ts:List Int},sh n lo hi b l=some ts->sh (n+1) lo hi b l=some ts
 | 0,_,_,_,_,_,h=>by cases h
 | n+1,lo,hi,b,l,ts,h=>by
  unfold sh at h ⊢
  by_cases h1:lo / b*b=lo
  ·rw[if_pos h1]at h ⊢;exact h
  ·rw[if_neg h1]at h ⊢
   by_cases h2:(lo / b+1)*l≤hi
   ·rw[if_pos h2]at h ⊢;exact h
   ·rw[if_neg h2]at h ⊢
    obtain⟨us,hu,rfl⟩:=Option.map_eq_some_iff.mp h;rw[pJ hu];rfl
theorem wI{n m:Nat}{lo hi b l:Int}{ts:List Int}(h:sh n lo hi b l=some ts)(hm:n≤m):sh m lo hi b l=some ts:=by
 induction m with
 | zero=>rw[Nat.le_zero.mp hm]at h;exact h
 | succ m ih =>
  rcases Nat.lt_or_eq_of_le hm with g|g
  ·exact pJ (ih (by omega))
  ·rw[<- g];exact h
theorem vb{n m:Nat}{lo hi b l:Int}{ts us:List Int}(h:sh n lo hi b l=some ts)(k:sh m lo hi b l=some us):ts=us:=by
 have a:=wI h (Nat.le_max_left n m);have c:=wI k (Nat.le_max_right n m);rw[a]at c;exact Option.some.inj c
def fr:List Int->Int×Int
 | []=>(0,1)
 | [c]=>(c,1)
 | c::d::r=>(c*(fr (d::r)).1+(fr (d::r)).2,(fr (d::r)).1)
theorem qk{c:Int}{r:List Int}(h:r≠[]):fr (c::r)=(c*(fr r).1+(fr r).2,(fr r).1):=by
 cases r with
 | nil=>exact absurd rfl h
 | cons d r=>rfl
theorem mG:∀{n:Nat} {lo hi b l:Int} {ts:List Int},0<b->0<l->lo*l<hi*b->sh n lo hi b l=some ts->ts≠[]∧0<(fr ts).2∧lo*(fr ts).2≤(fr ts).1*b∧(fr ts).1*l≤hi*(fr ts).2∧(fr ts).2≤b∧(fr ts).2≤l∧(0<lo->0<(fr ts).1∧(fr ts).1≤lo∧(fr ts).1≤hi)
 | 0,_,_,_,_,_,_,_,_,h=>by cases h
 | n+1,lo,hi,b,l,ts,hb,hl,hd,h=>by
  unfold sh at h;generalize hq:lo / b=q at h;have m0:=Int.emod_nonneg lo (show b≠0 by omega);have m1:=Int.emod_lt_of_pos lo hb;have m2:q*b+lo % b=lo:=by rw[<- hq];have:=Int.ediv_mul_add_emod lo b;omega
  by_cases h1:q*b=lo
  ·rw[if_pos h1]at h
   cases h;have e1:q*l<hi:=by
    have:q*l*b<hi*b:=by rw[show q*l*b=q*b*l by grind,h1];exact hd
    exact Int.lt_of_mul_lt_mul_right this (by omega)
   refine⟨by simp,by show(0:Int)<1;decide,?_,?_,by show(1:Int)≤b;omega,by show(1:Int)≤l;omega,fun h0=>?_⟩
   ·show lo*1≤q*b
    omega
   ·show q*l≤hi*1
    omega
   ·have q0:0<q:=by
     rcases Int.lt_or_le 0 q with g|g
     ·exact g
     ·have:=Int.mul_nonpos_of_nonpos_of_nonneg g (show 0≤b by omega)
      omega
    have q1:q*1≤q*b:=Int.mul_le_mul_of_nonneg_left (by omega) (by omega);have q2:q*1≤q*l:=Int.mul_le_mul_of_nonneg_left (by omega) (by omega);exact⟨q0,by show q≤lo;omega,by show q≤hi;omega⟩
  ·rw[if_neg h1]at h
   by_cases h2:(q+1)*l≤hi
   ·rw[if_pos h2]at h
    cases h;have e2:(q+1)*b=q*b+b:=by grind
    refine⟨by simp,by show(0:Int)<1;decide,?_,?_,by show(1:Int)≤b;omega,by show(1:Int)≤l;omega,fun h0=>?_⟩
    ·show lo*1≤(q+1)*b
     omega
    ·show(q+1)*l≤hi*1
     omega
    ·have q0:0≤q:=by rw[<- hq];exact Int.ediv_nonneg (by omega) (by omega)
     have q1:q*1≤q*b:=Int.mul_le_mul_of_nonneg_left (by omega) q0;have q2:(q+1)*1≤(q+1)*l:=Int.mul_le_mul_of_nonneg_left (by omega) (by omega);exact⟨by show 0<q+1;omega,by show q+1≤lo;omega,by show q+1≤hi;omega⟩
   ·rw[if_neg h2]at h
    obtain⟨us,hu,rfl⟩:=Option.map_eq_some_iff.mp h;have e2:(q+1)*l=q*l+l:=by grind
    have hh:0<hi - q*l:=by
     have a1:q*b*l<lo*l:=Int.mul_lt_mul_of_pos_right (by omega) hl;have a2:q*l*b<hi*b:=by rw[show q*l*b=q*b*l by grind];omega
     have:=Int.lt_of_mul_lt_mul_right a2 (by omega);omega
    have hlr:0<lo - q*b:=by omega
    have hdet:l*(lo - q*b)<b*(hi - q*l):=by
     have e3:l*(lo - q*b)=lo*l - q*b*l:=by grind
     have e4:b*(hi - q*l)=hi*b - q*b*l:=by grind
     omega
    obtain⟨i1,i2,i3,i4,i5,i6,i7⟩:=mG hh hlr hdet hu;obtain⟨j1,j2,j3⟩:=i7 hl;rw[qk i1];generalize (fr us).1=t at *;generalize (fr us).2=u at *;refine⟨by simp,j1,?_,?_,j3,j2,fun h0=>?_⟩
    ·show lo*t≤(q*t+u)*b
     have e5:(q*t+u)*b=q*b*t+b*u:=by grind
     have e6:t*(lo - q*b)=lo*t - q*b*t:=by grind
     omega
    ·show(q*t+u)*l≤hi*t
     have e5:(q*t+u)*l=q*l*t+l*u:=by grind
     have e6:t*(hi - q*l)=hi*t - q*l*t:=by grind
     omega
    ·have q0:0≤q:=by rw[<- hq];exact Int.ediv_nonneg (by omega) (by omega)
     have p0:0≤q*t:=Int.mul_nonneg q0 (by omega);have p1:q*t≤q*b:=Int.mul_le_mul_of_nonneg_left j3 q0;have p2:q*t≤q*l:=Int.mul_le_mul_of_nonneg_left j2 q0;exact⟨by show 0<q*t+u;omega,by show q*t+u≤lo;omega,by show q*t+u≤hi;omega⟩
theorem st{lo hi b l:Int}(hb:0<b)(hl:0<l)(hd:lo*l<hi*b)(h1:¬lo / b*b=lo)(h2:¬(lo / b+1)*l≤hi) :
  (0<hi - lo / b*l∧hi - lo / b*l<l)∧(0<lo - lo / b*b∧lo - lo / b*b<b)∧l*(lo - lo / b*b)<b*(hi - lo / b*l):=by
 have m0:=Int.emod_nonneg lo (show b≠0 by omega);have m1:=Int.emod_lt_of_pos lo hb;have m2:lo / b*b+lo % b=lo:=by have:=Int.ediv_mul_add_emod lo b;omega
 generalize lo / b=q at *;have e2:(q+1)*l=q*l+l:=by grind
 have hh:0<hi - q*l:=by
  have a1:q*b*l<lo*l:=Int.mul_lt_mul_of_pos_right (by omega) hl;have a2:q*l*b<hi*b:=by rw[show q*l*b=q*b*l by grind];omega
  have:=Int.lt_of_mul_lt_mul_right a2 (by omega);omega
 refine⟨⟨hh,by omega⟩,⟨by omega,by omega⟩,?_⟩;have e3:l*(lo - q*b)=lo*l - q*b*l:=by grind
 have e4:b*(hi - q*l)=hi*b - q*b*l:=by grind
 omega
structure Bd(N:Int)(ts:List Int):Prop where
 f:∀j,j<ts.length->(-N≤(fr (ts.drop j)).1∧(fr (ts.drop j)).1≤N)∧0<(fr (ts.drop j)).2∧(fr (ts.drop j)).2≤N
 c:∀x∈ts,-N≤x∧x≤N
theorem xJ{N lo hi b l t u:Int}(hb:0<b)(hl:0<l)(hu:0<u)(ub:u≤b)(ul:u≤l)(h1:lo*u≤t*b)(h2:t*l≤hi*u)(lN:-N≤lo)(hN:hi≤N)(N0:0≤N):-N≤t∧t≤N:=by
 constructor
 ·refine Int.le_of_mul_le_mul_right (a:=b) ?_ hb
  have a1:-N*u≤lo*u:=Int.mul_le_mul_of_nonneg_right lN (by omega);have a2:N*u≤N*b:=Int.mul_le_mul_of_nonneg_left ub N0;have e1:-N*u = -(N*u):=by grind
  have e2:-N*b = -(N*b):=by grind
  omega
 ·refine Int.le_of_mul_le_mul_right (a:=l) ?_ hl
  have a1:hi*u≤N*u:=Int.mul_le_mul_of_nonneg_right hN (by omega);have a2:N*u≤N*l:=Int.mul_le_mul_of_nonneg_left ul N0;omega
theorem ye{N lo b:Int}(hb:0<b)(h1:-N≤lo)(h2:lo≤N)(N0:0≤N):-N≤lo / b∧lo / b≤N:=by
 constructor
 ·refine Int.le_ediv_of_mul_le hb ?_
  have:N*1≤N*b:=Int.mul_le_mul_of_nonneg_left (by omega) N0;have e2:-N*b = -(N*b):=by grind
  omega
 ·have:=Int.ediv_le_ediv hb h2
  have a:N / b≤N:=Int.ediv_le_self b N0;omega
theorem wJ:∀{n:Nat} {N lo hi b l:Int} {ts:List Int},0<b->0<l->lo*l<hi*b->(-N≤lo∧lo≤N)->(-N≤hi∧hi≤N)->b≤N->l≤N->sh n lo hi b l=some ts->Bd (N+1) ts
 | 0,_,_,_,_,_,_,_,_,_,_,_,_,_,h=>by cases h
 | n+1,N,lo,hi,b,l,ts,hb,hl,hd,hlo,hhi,bN,lN,h=>by
  obtain⟨i1,i2,i3,i4,i5,i6,_⟩:=mG hb hl hd h;have top:(-(N+1)≤(fr ts).1∧(fr ts).1≤N+1)∧0<(fr ts).2∧(fr ts).2≤N+1:=by
   have:=xJ (N:=N) hb hl i2 i5 i6 i3 i4 hlo.1 hhi.2 (by omega);exact⟨⟨by omega,by omega⟩,i2,by omega⟩
  have hq:=ye hb hlo.1 hlo.2 (show 0≤N by omega);unfold sh at h
  by_cases h1:lo / b*b=lo
  ·rw[if_pos h1]at h
   cases h;refine⟨fun j hj=>?_,fun x hx=>?_⟩
   ·have:j=0:=by simpa using hj
    subst this;exact top
   ·rw[List.mem_singleton.mp hx]
    omega
  ·rw[if_neg h1]at h
   by_cases h2:(lo / b+1)*l≤hi
   ·rw[if_pos h2]at h
    cases h;refine⟨fun j hj=>?_,fun x hx=>?_⟩
    ·have:j=0:=by simpa using hj
     subst this;exact top
    ·rw[List.mem_singleton.mp hx]
     omega
   ·rw[if_neg h2]at h
    obtain⟨us,hu,rfl⟩:=Option.map_eq_some_iff.mp h;obtain⟨⟨s1,s2⟩,⟨s3,s4⟩,s5⟩:=st hb hl hd h1 h2;have ih:=wJ (N:=N) s1 s3 s5 ⟨by omega,by omega⟩ ⟨by omega,by omega⟩ (by omega) (by omega) hu;refine⟨fun j hj=>?_,fun x hx=>?_⟩
    ·cases j with
     | zero=>exact top
     | succ j=>exact ih.f j (by simpa using hj)
    ·rcases List.mem_cons.mp hx with rfl|hx
     ·omega
     ·exact ih.c x hx
def flr(m u R:Int):Int:=if m<0 then (if R*R=u then -R else -R - 1) else R
def SF(a0 a1 a2 a3 sc F:Int):Prop:=∃R,A8 1 (sc*sc*a1*a1*a2) R∧F=(sc*a0+flr a1 (sc*sc*a1*a1*a2) R) / a3
theorem SF.uniq{a0 a1 a2 a3 sc F G:Int}(h:SF a0 a1 a2 a3 sc F)(k:SF a0 a1 a2 a3 sc G):F=G:=by
 obtain⟨R,h1,rfl⟩:=h;obtain⟨S,k1,rfl⟩:=k;rw[h1.uniq k1]
theorem gB{x y:Int}(h:x≤y):ssq x≤ssq y:=by
 rcases Int.lt_or_le x 0 with hx|hx
 ·rcases Int.lt_or_le y 0 with hy|hy
  ·rw[cQ hx,cQ hy]
   have:=a8 (x:=-y) (y:=-x) (by omega) (by omega);have e1:-y * -y=y*y:=by grind
   have e2:-x * -x=x*x:=by grind
   omega
  ·rw[cQ hx,cD hy]
   have a:=Int.mul_nonneg hy hy;have b:0≤x*x:=by rw[show x*x = -x * -x by grind];exact Int.mul_nonneg (by omega) (by omega)
   omega
 ·rw[cD hx,cD (by omega)]
  exact a8 hx h
theorem iZ{k x:Int}(hk:0≤k):ssq (k*x)=k*k*ssq x:=by
 rcases Int.lt_or_le x 0 with hx|hx
 ·rcases Int.lt_or_eq_of_le hk with h|h
  ·rw[cQ (Int.mul_neg_of_pos_of_neg h hx),cQ hx];grind
  ·subst h;simp[ssq]
 ·rw[cD (Int.mul_nonneg hk hx),cD hx];grind
theorem xb{W m u R:Int}(hu:0≤u)(r:A8 1 (m*m*u) R)(h:W+flr m (m*m*u) R+1≤0):ssq W+ssq m*u<0:=by
 have lo:=r.lo;have hi:=r.hi;have nn:=r.nn;rw[Int.one_mul]at lo hi;unfold flr at h
 by_cases hm:m<0
 ·rw[if_pos hm]at h
  have em:ssq m*u = -(m*m*u):=by rw[cQ hm];grind
  rw[em]
  by_cases hx:R*R=m*m*u
  ·rw[if_pos hx]at h
   have a:ssq W≤ssq (R - 1):=gB (by omega);rcases Int.lt_or_le (R - 1) 0 with g|g
   ·rw[cQ g]at a
    have:R=0:=by omega
    subst this;simp at a hx;omega
   ·rw[cD g]at a
    have:=pI (x:=R - 1) (y:=R) g (by omega);omega
  ·rw[if_neg hx]at h
   have a:ssq W≤ssq R:=gB (by omega);rw[cD nn]at a;omega
 ·rw[if_neg hm]at h
  have em:ssq m*u=m*m*u:=by rw[cD (by omega)]
  rw[em];have a:ssq W≤ssq (-(R+1)):=gB (by omega);rw[cQ (by omega:-(R+1)<0)]at a;have e1:-(R+1) * -(R+1)=(R+1)*(R+1):=by grind
  omega
theorem SF.lt{a0 a1 a2 a3 sc F:Int}(h:SF a0 a1 a2 a3 sc F)(h2:0≤a2)(h3:0<a3)(hs:0<sc):ssq (a0*sc - (F+1)*a3)+ssq (a1*sc)*a2<0:=by
 obtain⟨R,r,rfl⟩:=h;have e:sc*sc*a1*a1*a2=a1*sc*(a1*sc)*a2:=by grind
 rw[e]at r ⊢;have hf:flr a1 (a1*sc*(a1*sc)*a2) R=flr (a1*sc) (a1*sc*(a1*sc)*a2) R:=by
  unfold flr
  by_cases g:a1<0
  ·rw[if_pos g,if_pos (Int.mul_neg_of_neg_of_pos g hs)]
  ·rw[if_neg g,if_neg (by have:=Int.mul_nonneg (show 0≤a1 by omega) (show 0≤sc by omega);omega)]
 rw[hf];refine xb h2 r ?_;generalize flr (a1*sc) (a1*sc*(a1*sc)*a2) R=f;have q:=Int.lt_ediv_add_one_mul_self (sc*a0+f) h3;have e2:sc*a0=a0*sc:=Int.mul_comm _ _;omega
theorem pY{a0 a1 a2 a3 sc L t u:Int}(hs:0<sc)(hu:0<u)(h3:0<a3)(h:ssq (a0*sc - L*a3)+ssq (a1*sc)*a2<0)(hL:L*u≤t*sc):ssq (a0*u - t*a3)+ssq (a1*u)*a2<0:=by
 have e1:ssq (a1*u*sc)=u*u*ssq (a1*sc):=by rw[show a1*u*sc=u*(a1*sc) by grind,iZ (by omega)]
 have e2:ssq (a1*u*sc)=sc*sc*ssq (a1*u):=by rw[show a1*u*sc=sc*(a1*u) by grind,iZ (by omega)]
 have e3:ssq ((a0*u - t*a3)*sc)=sc*sc*ssq (a0*u - t*a3):=by rw[Int.mul_comm,iZ (by omega)]
 have m:(a0*u - t*a3)*sc≤u*(a0*sc - L*a3):=by
  have:=Int.mul_le_mul_of_nonneg_right hL (show 0≤a3 by omega);have f1:(a0*u - t*a3)*sc=a0*u*sc - t*sc*a3:=by grind
  have f2:u*(a0*sc - L*a3)=a0*u*sc - L*u*a3:=by grind
  omega
 have m2:=gB m;rw[e3,iZ (k:=u) (by omega)]at m2;have pos:0<sc*sc:=Int.mul_pos hs hs;have pu:0<u*u:=Int.mul_pos hu hu;have key:sc*sc*(ssq (a0*u - t*a3)+ssq (a1*u)*a2)<0:=by
  have g1:sc*sc*(ssq (a0*u - t*a3)+ssq (a1*u)*a2)=sc*sc*ssq (a0*u - t*a3)+sc*sc*ssq (a1*u)*a2:=by grind
  rw[g1,<- e2,e1];have g2:u*u*(ssq (a0*sc - L*a3)+ssq (a1*sc)*a2)<0:=Int.mul_neg_of_pos_of_neg pu h;have g3:u*u*(ssq (a0*sc - L*a3)+ssq (a1*sc)*a2)=u*u*ssq (a0*sc - L*a3)+u*u*ssq (a1*sc)*a2:=by grind
  omega
 rcases Int.lt_or_le (ssq (a0*u - t*a3)+ssq (a1*u)*a2) 0 with g|g
 ·exact g
 ·have:=Int.mul_nonneg (show 0≤sc*sc by omega) g
  omega
def scl(j:Nat):Int:=2^(2^j)
theorem cO(j:Nat):0<scl j:=Int.pow_pos (by decide)
def Rm(a0 a1 a2 a3 b0 b1 b2 b3:Int)(j:Nat)(F G:Int):Prop:=SF a0 a1 a2 a3 (scl j) F∧SF (-b0) (-b1) b2 b3 (scl j) G
def Wi(a0 a1 a2 a3 b0 b1 b2 b3 t u:Int):Prop:=∃(j:Nat) (F G:Int) (ts:List Int) (m:Nat),Rm a0 a1 a2 a3 b0 b1 b2 b3 j F G∧F+1+2≤-G - 1∧(∀i,i<j->∀F' G',Rm a0 a1 a2 a3 b0 b1 b2 b3 i F' G'->¬F'+1+2≤-G' - 1)∧sh m (F+1) (-G - 1) (scl j) (scl j)=some ts∧DP (fr ts).1 (fr ts).2 t u
theorem Wi.uniq{a0 a1 a2 a3 b0 b1 b2 b3 t u t' u':Int}(h:Wi a0 a1 a2 a3 b0 b1 b2 b3 t u)(k:Wi a0 a1 a2 a3 b0 b1 b2 b3 t' u'):t=t'∧u=u':=by
 obtain⟨j,F,G,ts,m,h1,h2,h3,h4,h5⟩:=h;obtain⟨j',F',G',ts',m',k1,k2,k3,k4,k5⟩:=k;have e:j=j':=by
  rcases Nat.lt_trichotomy j j' with g|g|g
  ·exact absurd h2 (k3 j g F G h1)
  ·exact g
  ·exact absurd k2 (h3 j' g F' G' k1)
 subst e;have eF:=h1.1.uniq k1.1;have eG:=h1.2.uniq k1.2;subst eF eG;have et:=vb h4 k4;subst et;obtain⟨_,pos,_⟩:=mG (cO j) (cO j) (Int.mul_lt_mul_of_pos_right (show F+1 < -G - 1 by omega) (cO j)) h4;refine fV h5.low k5.low ?_;have e1:=h5.eq;have e2:=k5.eq;refine Int.eq_of_mul_eq_mul_right (a:=(fr ts).2) (by omega) ?_;have f1:t*u'*(fr ts).2=t*(fr ts).2*u':=by grind
 have f2:t'*u*(fr ts).2=t'*(fr ts).2*u:=by grind
 rw[f1,f2,<- e1,<- e2]
 grind
theorem Wi.mid{a0 a1 a2 a3 b0 b1 b2 b3 t u:Int}(h:Wi a0 a1 a2 a3 b0 b1 b2 b3 t u)(a2n:0≤a2)(a3p:0<a3)(b2n:0≤b2)(b3p:0<b3):ssq (a0*u - t*a3)+ssq (a1*u)*a2<0∧ssq (t*b3 - b0*u)+ssq (-b1*u)*b2<0:=by
 obtain⟨j,F,G,ts,m,h1,h2,h3,h4,h5⟩:=h;have sp:=cO j;obtain⟨_,pos,i3,i4,_⟩:=mG sp sp (Int.mul_lt_mul_of_pos_right (show F+1 < -G - 1 by omega) sp) h4;have up:=h5.low.pos;have e:=h5.eq;generalize (fr ts).1=x at *;generalize (fr ts).2=y at *;constructor
 ·refine pY (sc:=scl j) (L:=F+1) sp up a3p (h1.1.lt a2n a3p sp) ?_
  refine Int.le_of_mul_le_mul_right (a:=y) ?_ pos;have q:=Int.mul_le_mul_of_nonneg_right i3 (show 0≤u by omega);have f1:(F+1)*u*y=(F+1)*y*u:=by grind
  have f2:t*scl j*y=x*scl j*u:=by
   rw[show t*scl j*y=t*y*scl j by grind,<- e]
   grind
  omega
 ·have q:=pY (a0:=-b0) (a1:=-b1) (a2:=b2) (a3:=b3) (sc:=scl j) (L:=G+1) (t:=-t) sp up b3p (h1.2.lt b2n b3p sp) (by
   refine Int.le_of_mul_le_mul_right (a:=y) ?_ pos;have q:=Int.mul_le_mul_of_nonneg_right i4 (show 0≤u by omega);have f1:(G+1)*u*y = -((-G - 1)*y*u):=by grind
   have f2:-t*scl j*y = -(x*scl j*u):=by
    rw[show -t*scl j*y = -(t*y*scl j) by grind,<- e]
    grind
   omega)
  have f:-b0*u - -t*b3=t*b3 - b0*u:=by grind
  rw[f]at q;exact q
theorem vf(n:Nat):∃r:Nat,r*r≤n∧n<(r+1)*(r+1):=by
 induction n with
 | zero=>exact⟨0,by decide,by decide⟩
 | succ n ih =>
  obtain⟨r,h1,h2⟩:=ih
  by_cases h:(r+1)*(r+1)≤n+1
  ·refine⟨r+1,h,?_⟩
   have e:(r+1+1)*(r+1+1)=(r+1)*(r+1)+(r+1)+(r+1)+1:=by grind
   omega
  ·exact⟨r,by omega,by omega⟩
theorem sH{T a:Int}(h:0≤T*a):∃A,A8 T a A:=by
 obtain⟨r,h1,h2⟩:=vf (T*a).toNat;have e:(((T*a).toNat:Nat):Int)=T*a:=by omega
 have h1':((r*r:Nat):Int)≤T*a:=by omega
 have h2':T*a<(((r+1)*(r+1):Nat):Int):=by omega
 have e2:(((r+1)*(r+1):Nat):Int)=((r:Int)+1)*((r:Int)+1):=by rw[Int.natCast_mul];norm_cast
 rw[e2]at h2';rw[Int.natCast_mul]at h1';exact⟨(r:Int),by omega,h1',h2'⟩
theorem tR{x y:Int}(hy:0≤y)(h:x*x<y*y):x<y:=by
 rcases Int.lt_or_le x y with g|g
 ·exact g
 ·have:=a8 hy g
  omega
theorem kP{K S sc a1 a2 b3 R A:Int}(hK:0<K)(e:sc=K*S)(h3:0<b3)(r:A8 1 (sc*sc*a1*a1*a2) R)(ra:A8 (S*S) (a1*b3*(a1*b3)*a2) A):b3*flr a1 (sc*sc*a1*a1*a2) R≤K*(A*sg (a1*b3)+1):=by
 have lo:=r.lo;have hi:=r.hi;have nn:=r.nn;rw[Int.one_mul]at lo hi;have la:=ra.lo;have ha:=ra.hi;have na:=ra.nn;have key:b3*b3*(sc*sc*a1*a1*a2)=K*K*(S*S*(a1*b3*(a1*b3)*a2)):=by rw[e];grind
 have pK:0<K*K:=Int.mul_pos hK hK;have p3:0<b3*b3:=Int.mul_pos h3 h3;unfold flr;rcases Int.lt_trichotomy a1 0 with g|g|g
 ·rw[if_pos g,dM (Int.mul_neg_of_neg_of_pos g h3)]
  have main:∀x:Int,0≤x->sc*sc*a1*a1*a2≤x*x->b3 * -x≤K*(A * -1+1):=fun x hx hx2=>by
   have q1:K*A≤b3*x:=by
    refine Int.not_lt.mp fun h=>?_;have h4:=pI (Int.mul_nonneg (show 0≤b3 by omega) hx) h;have f1:b3*x*(b3*x)=b3*b3*(x*x):=by grind
    have f2:K*A*(K*A)=K*K*(A*A):=by grind
    have f3:=Int.mul_le_mul_of_nonneg_left hx2 (show 0≤b3*b3 by omega);have f4:=Int.mul_le_mul_of_nonneg_left la (show 0≤K*K by omega);omega
   have f5:b3 * -x = -(b3*x):=by grind
   have f6:K*(A * -1+1)=K - K*A:=by grind
   omega
  by_cases hx:R*R=sc*sc*a1*a1*a2
  ·rw[if_pos hx]
   exact main R nn (by omega)
  ·rw[if_neg hx,show -R - 1 = -(R+1) by omega]
   exact main (R+1) (by omega) (by omega)
 ·subst g
  rw[if_neg (by omega)];have:R=0:=by
   have:R*R≤0:=by simpa using lo
   rcases Int.lt_or_eq_of_le nn with h|h
   ·have:=Int.mul_pos h h
    omega
   ·exact h.symm
  subst this;rw[Int.zero_mul,jw rfl];omega
 ·rw[if_neg (by omega),cF (Int.mul_pos g h3)]
  have q1:b3*R<K*(A+1):=by
   refine tR (Int.mul_nonneg (by omega) (by omega)) ?_;have f1:b3*R*(b3*R)=b3*b3*(R*R):=by grind
   have f2:K*(A+1)*(K*(A+1))=K*K*((A+1)*(A+1)):=by grind
   have f3:=Int.mul_le_mul_of_nonneg_left lo (show 0≤b3*b3 by omega);have f4:=Int.mul_lt_mul_of_pos_left ha pK;omega
  have f6:K*(A*1+1)=K*(A+1):=by grind
  omega
theorem rY{x:Int}(h:gw x = -1):x < -2:=by
 rcases Int.lt_or_le x (-2) with g|g
 ·exact g
 ·rcases Int.lt_or_le 2 x with g2|g2
  ·rw[dI g2]at h;cases h
  ·rw[gZ ⟨g,g2⟩]at h;cases h
theorem room{a0 a1 a2 a3 b0 b1 b2 b3 K S M:Int}{j:Nat}(a2n:0≤a2)(a3p:0<a3)(b2n:0≤b2)(b3p:0<b3)(ho:ro a0 a1 a2 a3 b0 b1 b2 b3 = -1)(hK:0<K)(e:scl j=K*S)(hS:DK S M)(hW:-M≤a0*b3 - b0*a3∧a0*b3 - b0*a3≤M)
  (hm:a1*b3*(a1*b3)*a2≤M*M) (hn:b1*a3*(b1*a3)*b2≤M*M) (h4:4*(a3*b3)≤K):∀F G,Rm a0 a1 a2 a3 b0 b1 b2 b3 j F G->F+1+2≤-G - 1:=by
 rintro F G ⟨⟨R1,r1,rfl⟩,⟨R2,r2,rfl⟩⟩;have sqn:∀x:Int,0≤x*x:=fun x=>by
  rcases Int.lt_or_le x 0 with g|g
  ·exact Int.le_of_lt (Int.mul_pos_of_neg_of_neg g g)
  ·exact Int.mul_nonneg g g
 obtain⟨A,ra⟩:=sH (T:=S*S) (a:=a1*b3*(a1*b3)*a2) (Int.mul_nonneg (sqn S) (Int.mul_nonneg (sqn _) a2n));obtain⟨C,rc⟩:=sH (T:=S*S) (a:=b1*a3*(b1*a3)*b2) (Int.mul_nonneg (sqn S) (Int.mul_nonneg (sqn _) b2n));have t:=uT hS a2n b2n hm hn ra rc hW.1 hW.2;unfold ro at ho;rw[show -(b1*a3) = -b1*a3 by grind,ho]at t;have lowt:=rY t;have rc':A8 (S*S) (-b1*a3*(-b1*a3)*b2) C:=by rw[show -b1*a3*(-b1*a3)*b2=b1*a3*(b1*a3)*b2 by grind];exact rc
 have x1:=kP hK e b3p r1 ra;have x2:=kP hK e a3p r2 rc';have sn:sg (-b1*a3) = -sg (b1*a3):=by rw[show -b1*a3 = -(b1*a3) by grind,cH]
 rw[sn]at x2;generalize flr a1 (scl j*scl j*a1*a1*a2) R1=f1 at *;generalize flr (-b1) (scl j*scl j * -b1 * -b1*b2) R2=g1 at *;have y1:=Int.ediv_mul_le (scl j*a0+f1) (show a3≠0 by omega);have y2:=Int.ediv_mul_le (scl j * -b0+g1) (show b3≠0 by omega);generalize (scl j*a0+f1) / a3=F at *;generalize (scl j * -b0+g1) / b3=G at *;have z1:=Int.mul_le_mul_of_nonneg_right y1 (show 0≤b3 by omega);have z2:=Int.mul_le_mul_of_nonneg_right y2 (show 0≤a3 by omega);have pos:0<a3*b3:=Int.mul_pos a3p b3p;have tot:(F+G)*(a3*b3)≤K * -1:=by
  have e1:(F+G)*(a3*b3)=F*a3*b3+G*b3*a3:=by grind
  have e2:(scl j*a0+f1)*b3+(scl j * -b0+g1)*a3=K*(S*(a0*b3 - b0*a3))+b3*f1+a3*g1:=by rw[e];grind
  have e3:K*(A*sg (a1*b3)+1)+K*(C * -sg (b1*a3)+1)+K*(S*(a0*b3 - b0*a3))=K*((a0*b3 - b0*a3)*S+A*sg (a1*b3) - C*sg (b1*a3)+2):=by grind
  have e4:K*((a0*b3 - b0*a3)*S+A*sg (a1*b3) - C*sg (b1*a3)+2)≤K * -1:=Int.mul_le_mul_of_nonneg_left (by omega) (by omega);omega
 have fin:(F+G)*(a3*b3)≤-4*(a3*b3):=by omega
 have:=Int.le_of_mul_le_mul_right fin pos;omega
end Sp6
namespace Sp5
open PySem PySem.Spec L2 Mth Sp1 Sp2 Sp3 Sp24
theorem gA(x:Int):ssq (-x) = -ssq x:=by
 rcases Int.lt_trichotomy x 0 with h|h|h
 ·rw[cQ h,cD (x:=-x) (by omega)];grind
 ·subst h;rfl
 ·rw[cD (x:=x) (by omega),cQ (x:=-x) (by omega)];grind
theorem g6(w m u n l:Int):bV (-w) n l (-m) u = -bV w m u (-n) l:=by
 unfold bV swr;rw[gA m,gA n,cH w,show ssq n*l + -ssq m*u = -(ssq m*u + -ssq n*l) by grind,cH (ssq m*u + -ssq n*l),Int.neg_mul_neg,show -w * -w - n*n*l - -m * -m*u=w*w - m*m*u - -n * -n*l by grind,show -2*n * -m = -2*m * -n by grind,Int.mul_comm l u]
 by_cases g:sg w*sg (ssq m*u + -ssq n*l)≥0
 ·rw[if_pos g,if_pos g,show -sg w + -sg (ssq m*u + -ssq n*l) = -(sg w+sg (ssq m*u + -ssq n*l)) by omega,cH]
 ·rw[if_neg g,if_neg g,Int.neg_mul]
theorem dh(a0 a1 a2 a3 b0 b1 b2 b3:Int):ro b0 b1 b2 b3 a0 a1 a2 a3=0 - ro a0 a1 a2 a3 b0 b1 b2 b3:=by
 unfold ro;have h:=g6 (a0*b3 - b0*a3) (a1*b3) a2 (b1*a3) b2;rw[Int.neg_mul a1 b3,Int.neg_mul b1 a3,show b0*a3 - a0*b3 = -(a0*b3 - b0*a3) by omega,h];omega
theorem pH(W m u:Int):bV W m u 0 0=if sg W*sg (ssq m*u)≥0 then sg (sg W+sg (ssq m*u)) else sg W*sg (W*W - m*m*u):=by
 unfold bV swr;have e0:ssq (0:Int)=0:=rfl;have sq:∀e:Int,sg (ssq e)=sg e:=fun e=>by
  rcases Int.lt_trichotomy e 0 with h|h|h
  ·rw[cQ h,dM h,dM (by have:=Int.mul_pos_of_neg_of_neg h h;omega)]
  ·subst h;rfl
  ·rw[cD (by omega),cF h,cF (Int.mul_pos h h)]
 have e1:-2*m*0=0:=by omega
 have e2:ssq m*u+0*0=ssq m*u:=by omega
 have e3:W*W - m*m*u - 0*0*0=W*W - m*m*u:=by omega
 rw[e1,e0,e2,e3,show ssq (W*W - m*m*u)+0*(u*0)=ssq (W*W - m*m*u) by omega,sq]
theorem sY{W w U:Int}(hw:0<w)(hU:0≤U):(bV W w U 0 0<0↔W<0∧w*w*U<W*W)∧(bV W w U 0 0=0↔W≤0∧W*W=w*w*U)∧(0<bV W w U 0 0↔0<W∨W*W<w*w*U):=by
 rw[pH,cD (show 0≤w by omega)];have ww:0<w*w:=Int.mul_pos hw hw;have wu:0≤w*w*U:=Int.mul_nonneg (by omega) hU;generalize w*w*U=V at *;have WW:0<W->0<W*W:=fun h=>Int.mul_pos h h;have WN:W<0->0<W*W:=fun h=>Int.mul_pos_of_neg_of_neg h h;rcases Int.lt_trichotomy W 0 with h|h|h
 ·have k:=WN h
  rw[dM h];rcases Int.lt_or_eq_of_le wu with g|g
  ·rw[cF g,if_neg (by decide)]
   rcases Int.lt_trichotomy (W*W - V) 0 with d|d|d
   ·rw[dM d];omega
   ·rw[jw d];omega
   ·rw[cF d];omega
  ·rw[<- g]
   show(sg (-1+sg 0)<0↔_)∧(sg (-1+sg 0)=0↔_)∧(0<sg (-1+sg 0)↔_);rw[show sg (-1+sg 0) = -1 from rfl];omega
 ·subst h
  rw[show sg 0=0 from rfl,Int.zero_mul,if_pos (by decide),Int.zero_add,Int.zero_mul];rcases Int.lt_or_eq_of_le wu with g|g
  ·rw[cF g,show sg 1=1 from rfl];omega
  ·rw[<- g,show sg (sg 0)=0 from rfl];omega
 ·have k:=WW h
  rw[cF h];rcases Int.lt_or_eq_of_le wu with g|g
  ·rw[cF g,if_pos (by decide),show sg (1+1)=1 from rfl];omega
  ·rw[<- g,show sg 0=0 from rfl,if_pos (by decide),show sg (1+0)=1 from rfl];omega
theorem wP{W w U:Int}(hw:0<w)(hU:0≤U):(0<bV W (-w) U 0 0↔0<W∧w*w*U<W*W)∧(bV W (-w) U 0 0=0↔0≤W∧W*W=w*w*U)∧(bV W (-w) U 0 0<0↔W<0∨W*W<w*w*U):=by
 have k:=sY (W:=-W) hw hU;have e:bV W (-w) U 0 0 = -bV (-W) w U 0 0:=by
  rw[pH,pH,cH W,cQ (show -w<0 by omega),show -w * -w=w*w by grind,show -W * -W=W*W by grind,cD (show 0≤w by omega),Int.neg_mul,cH (w*w*U),Int.neg_mul,Int.mul_neg]
  by_cases g:-(sg W*sg (w*w*U))≥0
  ·rw[if_pos g,if_pos g,show sg W + -sg (w*w*U) = -(-sg W+sg (w*w*U)) by omega,cH]
  ·rw[if_neg g,if_neg g,Int.neg_mul,Int.neg_neg]
 rw[show -W * -W=W*W by grind]at k;rw[e];omega
end Sp5
namespace Sp5
open PySem PySem.Spec L2 Mth Sp1 Sp2 Sp3 Sp24
structure Gv(A B C be x y P L U:Int):Prop where
 pa:0<A
 py:0<y
 pb:be*be=A*C - B*B
 eP:P=B*y
 eL:L=A*y
 eU:U=y*(x*A - y*be*be)
section
variable {A B C be x y P L U:Int}
theorem Gv.kU(g:Gv A B C be x y P L U):U=y*(x*A - (A*C - B*B)*y):=by
 rw[g.eU,show y*(x*A - y*be*be)=y*(x*A - y*(be*be)) by grind,g.pb];grind
theorem lM{k z:Int}(hk:0<k):(0<k*z↔0<z)∧(k*z=0↔z=0)∧(k*z<0↔z<0):=by
 rcases Int.lt_trichotomy z 0 with h|h|h
 ·have:=Int.mul_neg_of_pos_of_neg hk h
  omega
 ·subst h;simp
 ·have:=Int.mul_pos hk h
  omega
theorem Gv.ya(g:Gv A B C be x y P L U):0<y*A:=Int.mul_pos g.py g.pa
theorem bO(p q r s t w:Int):ro p q r s t 0 0 w=bV (p*w - t*s) (q*w) r 0 0:=by
 unfold ro;rw[show -0*s=0 by omega]
theorem Gv.lowE(g:Gv A B C be x y P L U):ro P (-1) U L 1 0 0 1=bV (P - L) (-1) U 0 0:=by rw[bO];congr 1 <;> omega
theorem Gv.lowB(g:Gv A B C be x y P L U):ro P (-1) U L 0 0 0 1=bV P (-1) U 0 0:=by rw[bO];congr 1 <;> omega
theorem Gv.highE(g:Gv A B C be x y P L U):ro P 1 U L 1 0 0 1=bV (P - L) 1 U 0 0:=by rw[bO];congr 1 <;> omega
theorem Gv.highB(g:Gv A B C be x y P L U):ro P 1 U L 0 0 0 1=bV P 1 U 0 0:=by rw[bO];congr 1 <;> omega
theorem lU{W U:Int}(hU:0≤U):(bV W 1 U 0 0<0↔W<0∧U<W*W)∧(bV W 1 U 0 0=0↔W≤0∧W*W=U)∧(0<bV W 1 U 0 0↔0<W∨W*W<U):=by
 have h:=sY (W:=W) (w:=1) (by decide) hU;rw[Int.one_mul,Int.one_mul]at h;exact h
theorem lV{W U:Int}(hU:0≤U):(0<bV W (-1) U 0 0↔0<W∧U<W*W)∧(bV W (-1) U 0 0=0↔0≤W∧W*W=U)∧(bV W (-1) U 0 0<0↔W<0∨W*W<U):=by
 have h:=wP (W:=W) (w:=1) (by decide) hU;rw[Int.one_mul,Int.one_mul]at h;exact h
structure Opn(A B C P L U:Int):Prop where
 u:0≤U
 e:¬(0<P - L∧U<(P - L)*(P - L))
 b:¬(P<0∧U<P*P)
theorem Gv.shut(g:Gv A B C be x y P L U)(n:¬(sg U<0∨ro 1 0 0 1 P (-1) U L<0∨ro P 1 U L 0 0 0 1<0)):Opn A B C P L U:=by
 have u:0≤U:=by
  by_cases h:U<0
  ·exact absurd (.inl (by rw[dM h];decide)) n
  ·omega
 refine⟨u,fun h=>n (.inr (.inl ?_)),fun h=>n (.inr (.inr ?_))⟩
 ·rw[dh P (-1) U L 1 0 0 1,g.lowE]
  have:=(lV u).1.mpr h;omega
 ·rw[g.highB]
  exact(lU u).1.mpr h
theorem Gv.shut'(g:Gv A B C be x y P L U)(n:sg U<0∨ro 1 0 0 1 P (-1) U L<0∨ro P 1 U L 0 0 0 1<0):U<0∨(0<P - L∧U<(P - L)*(P - L))∨(P<0∧U<P*P):=by
 by_cases u:U<0
 ·exact .inl u
 have u:0≤U:=by omega
 rcases n with n|n|n
 ·rcases Int.lt_or_eq_of_le u with h|h
  ·rw[cF h]at n;omega
  ·rw[<- h]at n;exact absurd n (by decide)
 ·rw[dh P (-1) U L 1 0 0 1,g.lowE]at n
  exact .inr (.inl ((lV u).1.mp (by omega)))
 ·rw[g.highB]at n
  exact .inr (.inr ((lU u).1.mp n))
def dQ(P U L:Int):Int×Int×Int×Int:=if ro P (-1) U L 0 0 0 1<0 then (0,0,0,1) else (P,-1,U,L)
def cS(P U L:Int):Int×Int×Int×Int:=if ro P 1 U L 1 0 0 1>0 then (1,0,0,1) else (P,1,U,L)
end
end Sp5
namespace Sp5
open PySem PySem.Spec L2 Mth Sp1 Sp2 Sp3 Sp24
abbrev N4:=Int×Int×Int×Int
def ltB(l:N4)(a b:Int):Int:=ro l.1 l.2.1 l.2.2.1 l.2.2.2 a 0 0 b
def gtB(m:N4)(a b:Int):Int:=ro a 0 0 b m.1 m.2.1 m.2.2.1 m.2.2.2
def d5(o:Option (N4×N4))(a b:Int):Bool:=match o with
 | none=>false
 | some (l,m)=>decide (ltB l a b<1) && decide (gtB m a b<1)
def xc(o:Option (N4×N4))(a b:Int):Bool:=match o with
 | none=>false
 | some (l,m)=>decide (ltB l a b = -1) && decide (gtB m a b = -1)
theorem w5(m:N4)(a b:Int):gtB m a b=0 - ltB m a b:=dh _ _ _ _ _ _ _ _
theorem p8{a b:Int}:ltB (0,0,0,1) a b=sg (-a)∧ltB (1,0,0,1) a b=sg (b - a):=by
 have h:∀W:Int,bV W 0 0 0 0=sg W:=fun W=>by
  rw[pH,show ssq 0*0=0 by omega,show sg 0=0 from rfl,Int.mul_zero,if_pos (by decide),Int.add_zero];rcases Int.lt_trichotomy W 0 with h|h|h
  ·rw[dM h];rfl
  ·rw[jw h];rfl
  ·rw[cF h];rfl
 unfold ltB;dsimp only;rw[bO,bO,Int.zero_mul,Int.mul_one,Int.one_mul,h,h];constructor
 ·congr 1;omega
 ·rfl
theorem pL{x:Int}:sg x<1↔x≤0:=by
 rcases Int.lt_trichotomy x 0 with h|h|h
 ·rw[dM h];omega
 ·rw[jw h];omega
 ·rw[cF h];omega
section
variable {A B C be x y P L U a b:Int}
theorem Gv.kt(g:Gv A B C be x y P L U)(a b:Int):(P*b - a*L)*(P*b - a*L) - b*b*U=y*A*((A*a*a - 2*B*a*b+C*b*b)*y - x*(b*b)):=by
 rw[g.kU,g.eP,g.eL];grind
theorem Gv.ct(g:Gv A B C be x y P L U)(a b:Int):((P*b - a*L)*(P*b - a*L)≤b*b*U↔(A*a*a - 2*B*a*b+C*b*b)*y≤x*(b*b))∧((P*b - a*L)*(P*b - a*L)<b*b*U↔(A*a*a - 2*B*a*b+C*b*b)*y<x*(b*b)):=by
 have h:=lM (z:=(A*a*a - 2*B*a*b+C*b*b)*y - x*(b*b)) g.ya;rw[<- g.kt a b]at h;omega
theorem kM{u v:Int}(h0:0≤u)(h:u≤v):u*u≤v*v:=Int.mul_le_mul h h h0 (by omega)
theorem Gv.lpos(g:Gv A B C be x y P L U):0<L:=by rw[g.eL];exact Int.mul_pos g.pa g.py
theorem kZ(b p:Int):b*p*(b*p)=b*b*(p*p):=by grind
theorem Gv.wle(g:Gv A B C be x y P L U)(ha:0≤a):P*b - a*L≤b*P:=by
 have:=Int.mul_nonneg ha (Int.le_of_lt g.lpos);rw[Int.mul_comm P b];omega
theorem Gv.wge(g:Gv A B C be x y P L U)(hab:a≤b):b*(P - L)≤P*b - a*L:=by
 have h:=Int.mul_le_mul_of_nonneg_right hab (Int.le_of_lt g.lpos);rw[Int.mul_sub,Int.mul_comm b P];omega
theorem Gv.low_le(g:Gv A B C be x y P L U)(u0:0≤U)(ha:0≤a)(hb:0<b):(ltB (dQ P U L) a b<1↔¬(0<P*b - a*L∧b*b*U<(P*b - a*L)*(P*b - a*L)))∧(ltB (dQ P U L) a b = -1->P*b - a*L<0∨(P*b - a*L)*(P*b - a*L)<b*b*U):=by
 have bb:0<b*b:=Int.mul_pos hb hb;unfold dQ
 by_cases h:ro P (-1) U L 0 0 0 1<0
 ·rw[if_pos h,p8.1]
  rw[g.lowB]at h;have k:=(lV (W:=P) u0).2.2.mp h;have wle:=g.wle (b:=b) ha;generalize P*b - a*L=W at *;have key:W<0∨W*W<b*b*U:=by
   by_cases hw:W<0
   ·exact .inl hw
   ·have hP:¬P<0:=fun z=>by
     have:=Int.mul_neg_of_pos_of_neg hb z;omega
    have k2:P*P<U:=by omega
    have s1:=kM (show 0≤W by omega) wle;rw[kZ]at s1;have s2:=Int.mul_lt_mul_of_pos_left k2 bb;exact .inr (by omega)
  refine⟨⟨fun _ ⟨h1,h2⟩=>by omega,fun _=>?_⟩,fun _=>key⟩;exact pL.mpr (by omega)
 ·rw[if_neg h]
  show(ro P (-1) U L a 0 0 b<1↔_)∧(ro P (-1) U L a 0 0 b = -1->_);rw[bO,show -1*b = -b by omega];have k:=wP (W:=P*b - a*L) hb u0;omega
theorem Gv.high_ge(g:Gv A B C be x y P L U)(u0:0≤U)(hab:a≤b)(hb:0<b):(gtB (cS P U L) a b<1↔¬(P*b - a*L<0∧b*b*U<(P*b - a*L)*(P*b - a*L)))∧(gtB (cS P U L) a b = -1->0<P*b - a*L∨(P*b - a*L)*(P*b - a*L)<b*b*U):=by
 have bb:0<b*b:=Int.mul_pos hb hb;rw[w5];unfold cS
 by_cases h:ro P 1 U L 1 0 0 1>0
 ·rw[if_pos h,p8.2]
  rw[g.highE]at h;have k:=(lU (W:=P - L) u0).2.2.mp h;have wge:=g.wge (a:=a) hab;generalize P*b - a*L=W at *;have key:0<W∨W*W<b*b*U:=by
   by_cases hw:0<W
   ·exact .inl hw
   ·have hP:¬0<P - L:=fun z=>by
     have:=Int.mul_pos hb z;omega
    have k2:(P - L)*(P - L)<U:=by omega
    have s1:=kM (u:=-W) (v:=b * -(P - L)) (by omega) (by rw[Int.mul_neg];omega);rw[kZ,show -W * -W=W*W by grind,show -(P - L) * -(P - L)=(P - L)*(P - L) by grind]at s1;have s2:=Int.mul_lt_mul_of_pos_left k2 bb;exact .inr (by omega)
  refine⟨⟨fun _ ⟨h1,h2⟩=>by omega,fun _=>?_⟩,fun _=>key⟩;have:0≤sg (b - a):=by
   rcases Int.lt_or_eq_of_le (show 0≤b - a by omega) with z|z
   ·rw[cF z];decide
   ·rw[<- z];decide
  omega
 ·rw[if_neg h]
  show(0 - ro P 1 U L a 0 0 b<1↔_)∧(0 - ro P 1 U L a 0 0 b = -1->_);rw[bO,Int.one_mul];have k:=sY (W:=P*b - a*L) hb u0;omega
theorem sqx(x:Int):0≤x*x:=by
 rcases Int.le_total 0 x with h|h
 ·exact Int.mul_nonneg h h
 ·exact Int.mul_nonneg_of_nonpos_of_nonpos h h
theorem Gv.far(g:Gv A B C be x y P L U)(n:U<0∨(0<P - L∧U<(P - L)*(P - L))∨(P<0∧U<P*P))(ha:0≤a)(hab:a≤b)(hb:0<b):b*b*U<(P*b - a*L)*(P*b - a*L):=by
 have bb:0<b*b:=Int.mul_pos hb hb;rcases n with n|⟨n1,n2⟩|⟨n1,n2⟩
 ·have h1:=Int.mul_neg_of_pos_of_neg bb n
  have h2:=sqx (P*b - a*L);omega
 ·have wge:=g.wge (a:=a) hab
  have s1:=kM (u:=b*(P - L)) (Int.mul_nonneg (by omega) (by omega)) wge;rw[kZ]at s1;have s2:=Int.mul_lt_mul_of_pos_left n2 bb;omega
 ·have wle:=g.wle (b:=b) ha
  have s1:=kM (u:=b * -P) (v:=-(P*b - a*L)) (Int.mul_nonneg (by omega) (by omega)) (by rw[Int.mul_neg];omega);rw[kZ,show -P * -P=P*P by grind,show -(P*b - a*L) * -(P*b - a*L)=(P*b - a*L)*(P*b - a*L) by grind]at s1;have s2:=Int.mul_lt_mul_of_pos_left n2 bb;omega
end
end Sp5
namespace Pas
open PySem PySem.Spec L2 Sp24 Sp5
def ro4(a b:N4):Int:=ro a.1 a.2.1 a.2.2.1 a.2.2.2 b.1 b.2.1 b.2.2.1 b.2.2.2
theorem gD(a b:N4):ro4 b a=0 - ro4 a b:=dh _ _ _ _ _ _ _ _
structure Rv where
 lo:N4
 hi:N4
 ah:Option (Int×Int×Int)
def mxN(lo r:N4):N4:=if ro4 lo r<0 then r else lo
def pas(g:Option (N4×N4))(st tu:Option Rv)(sd td:Int×Int×Int):Option Rv :=
 match g with
 | none=>none
 | some p=>if tu.isSome=true then some ⟨p.1,p.2,some td⟩ else
  match st with
  | none=>none
  | some r=>if ro4 (mxN p.1 r.lo) p.2≤0 then some ⟨mxN p.1 r.lo,p.2,some sd⟩ else none
abbrev GF:=Int->Int->Int->Option (N4×N4)
def Lc(G:GF)(U:Nat->Option Rv)(i:Nat):Nat->Option Rv
 | 0=>none
 | j+1=>pas (G 1 i ((j+1:Nat):Int)) (Lc G U i j) (U j) (1,(i:Int),(j:Int)) (0,(i:Int),(j:Int))
def Uc(G:GF)(bg:Nat->Option Rv):Nat->Nat->Option Rv
 | 0=>bg
 | i+1=>fun j=>pas (G 0 ((i+1:Nat):Int) j) (Uc G bg i j) (Lc G (Uc G bg i) i j) (0,(i:Int),(j:Int)) (1,(i:Int),(j:Int))
structure C7(n m:Nat)(G:GF)(F:Nat->Nat->Bool)(S T:Nat->Nat->Prop):Prop where
 t1:∀a b q,a≤b->T b q->T a q
 t2:∀p q q',q≤q'->T p q->T p q'
 t3:∀p q,p≤n->q≤m->T p q->F p q=true->S p q
 t4:∀p q,S p q->T p q
 top:∀p,p≤n->F p m=true->S p m
 dn0:∀i j,i≤n->j<m->S i (j+1)->G 0 i j=none->S i j
 dn1:∀i j k p p',i≤n->j<m->S i (j+1)->k<i->G 0 i j=some p->G 0 k j=some p'->ro4 p.2 p'.1<0->S k j
 ov0:∀i j,i<n->j≤m->S i j->G 1 i j=none->S (i+1) j
 ov1:∀i j k p p',i<n->j<k->k≤m->S i j->G 1 i j=some p->G 1 i k=some p'->ro4 p'.2 p.1<0->S (i+1) k
 own:∀k i j p,G k i j=some p->ro4 p.1 p.2≤0
 gt:∀i j,i≤n->j<m->F i (j+1)=false->∃p,G 0 i j=some p∧∀(k:Nat) p',G 0 k j=some p'->ro4 p'.1 p.2≤0
 gl:∀i j,i<n->j≤m->F i j=false->∃p,G 1 i j=some p∧∀(k:Nat) p',G 1 i k=some p'->ro4 p.1 p'.2≤0
section
variable {n m:Nat} {G:GF} {F:Nat->Nat->Bool} {S T:Nat->Nat->Prop}
def At(m:Nat)(T:Nat->Nat->Prop)(i j:Nat):Prop:=j<m∧¬T i j∧(T i (j+1)∨j+1=m)
def OKU(n m:Nat)(G:GF)(T:Nat->Nat->Prop)(i j:Nat)(r:N4):Prop:=∀(b:Nat),i≤b->b≤n->At m T b j->∀p,G 0 b j=some p->ro4 r p.2≤0
def OKL(m:Nat)(G:GF)(T:Nat->Nat->Prop)(i j:Nat)(r:N4):Prop:=∀(q:Nat),j≤q->q≤m->¬T (i+1) q->∀p,G 1 i q=some p->ro4 r p.2≤0
theorem C7.far(D:C7 n m G F S T){i j:Nat}(hi:i≤n)(a:At m T i j)(f:F i (j+1)=true):S i (j+1):=by
 obtain⟨hj,_,h|h⟩:=a
 ·exact D.t3 i (j+1) hi hj h f
 ·rw[h]at f ⊢
  exact D.top i hi f
theorem C7.openU(D:C7 n m G F S T){i j:Nat}(hi:i≤n)(a:At m T i j):∃p,G 0 i j=some p∧OKU n m G T i j p.1:=by
 have op:∃p,G 0 i j=some p:=by
  cases f:F i (j+1) with
  | false =>
   obtain⟨p,h,_⟩:=D.gt i j hi a.1 f;exact⟨p,h⟩
  | true =>
   cases g:G 0 i j with
   | some p=>exact⟨p,rfl⟩
   | none=>exact absurd (D.t4 _ _ (D.dn0 i j hi a.1 (D.far hi a f) g)) a.2.1
 obtain⟨p,hp⟩:=op;refine⟨p,hp,fun b hb hn ab p' hp'=>?_⟩;rcases Nat.lt_or_eq_of_le hb with lt|rfl
 ·cases f:F b (j+1) with
  | false =>
   obtain⟨p2,h2,h3⟩:=D.gt b j hn ab.1 f;rw[hp']at h2;cases h2;exact h3 i p hp
  | true =>
   have sb:=D.far hn ab f;rcases Int.lt_or_le (ro4 p'.2 p.1) 0 with z|z
   ·exact absurd (D.t4 _ _ (D.dn1 b j i p' p hn ab.1 sb lt hp' hp z)) a.2.1
   ·rw[gD p'.2 p.1]
    omega
 ·rw[hp]at hp'
  cases hp';exact D.own _ _ _ p hp
theorem C7.openL(D:C7 n m G F S T){i q:Nat}(hi:i<n)(hq:q≤m)(t:T i q)(nt:¬T (i+1) q):∃p,G 1 i q=some p∧OKL m G T i q p.1:=by
 have op:∃p,G 1 i q=some p:=by
  cases f:F i q with
  | false =>
   obtain⟨p,h,_⟩:=D.gl i q hi hq f;exact⟨p,h⟩
  | true =>
   cases g:G 1 i q with
   | some p=>exact⟨p,rfl⟩
   | none=>exact absurd (D.t4 _ _ (D.ov0 i q hi hq (D.t3 i q (by omega) hq t f) g)) nt
 obtain⟨p,hp⟩:=op;refine⟨p,hp,fun q' hq' hm nt' p' hp'=>?_⟩;rcases Nat.lt_or_eq_of_le hq' with lt|rfl
 ·cases f:F i q with
  | false =>
   obtain⟨p2,h2,h3⟩:=D.gl i q hi hq f;rw[hp]at h2;cases h2;exact h3 q' p' hp'
  | true =>
   rcases Int.lt_or_le (ro4 p'.2 p.1) 0 with z|z
   ·exact absurd (D.t4 _ _ (D.ov1 i q q' p p' hi lt hm (D.t3 i q (by omega) hq t f) hp hp' z)) nt'
   ·rw[gD p'.2 p.1]
    omega
 ·rw[hp]at hp'
  cases hp';exact D.own _ _ _ p hp
theorem tD(a b:N4):mxN a b=a∨mxN a b=b:=by
 unfold mxN
 split
 ·exact .inr rfl
 ·exact .inl rfl
theorem mP{p:N4×N4}{g:Option (N4×N4)}{st tu:Option Rv}{sd td:Int×Int×Int}(hg:g=some p)(h:tu.isSome=true):pas g st tu sd td=some ⟨p.1,p.2,some td⟩:=by
 rw[hg];show(if tu.isSome=true then _ else _)=_
 rw[if_pos h]
theorem sT{p:N4×N4}{g:Option (N4×N4)}{st tu:Option Rv}{sd td:Int×Int×Int}{r:Rv}(hg:g=some p)(hs:st=some r)(o1:ro4 p.1 p.2≤0)(o2:ro4 r.lo p.2≤0):∃r',pas g st tu sd td=some r'∧(r'.lo=p.1∨r'.lo=r.lo):=by
 rw[hg,hs];show ∃r',(if tu.isSome=true then _ else if ro4 (mxN p.1 r.lo) p.2≤0 then _ else _)=some r'∧_
 split
 ·exact⟨_,rfl,.inl rfl⟩
 ·have:ro4 (mxN p.1 r.lo) p.2≤0:=by
   rcases tD p.1 r.lo with e|e
   ·rw[e];exact o1
   ·rw[e];exact o2
  rw[if_pos this];exact⟨_,rfl,tD _ _⟩
theorem mU(D:C7 n m G F S T){i j:Nat}(hj:j<m)(nt:¬T i j):∃j',j≤j'∧At m T i j':=by
 obtain⟨d,hd⟩:∃d,m - j=d:=⟨_,rfl⟩
 induction d generalizing j with
 | zero=>omega
 | succ d ih =>
  by_cases h:T i (j+1)∨j+1=m
  ·exact⟨j,Nat.le_refl _,hj,nt,h⟩
  ·obtain⟨j',h1,h2⟩:=ih (j:=j+1) (by omega) (fun z=>h (.inl z)) (by omega)
   exact⟨j',by omega,h2⟩
theorem C7.up(D:C7 n m G F S T){U:Nat->Option Rv}{i j:Nat}(hi:i<n)(a:At m T i j)(hu:(U j).isSome=true):∀q,j<q->q<m->¬T (i+1) q->∃r,Lc G U i q=some r∧OKL m G T i q r.lo:=by
 intro q
 induction q with
 | zero=>intro h;omega
 | succ q ih =>
  intro h1 h2 h3;have tq:T i (q+1):=by
   rcases a.2.2 with t|t
   ·exact D.t2 i (j+1) (q+1) (by omega) t
   ·omega
  obtain⟨p,hp,ok⟩:=D.openL hi (by omega) tq h3;rcases Nat.lt_or_eq_of_le (show j≤q by omega) with lt|rfl
  ·obtain⟨r,hr,okr⟩:=ih lt (by omega) fun z=>h3 (D.t2 _ _ _ (by omega) z)
   have okr':OKL m G T i (q+1) r.lo:=fun q' hq'=>okr q' (by omega);obtain⟨r',e,l⟩:=sT (tu:=U q) (sd:=(1,(i:Int),(q:Int))) (td:=(0,(i:Int),(q:Int))) hp hr (D.own _ _ _ p hp) (okr' (q+1) (Nat.le_refl _) (by omega) h3 p hp);refine⟨r',e,?_⟩;rcases l with l|l
   ·rw[l];exact ok
   ·rw[l];exact okr'
  ·exact⟨_,mP hp hu,ok⟩
theorem C7.on(D:C7 n m G F S T){bg:Nat->Option Rv}{i j:Nat}{r:Rv}(hi:i<n)(a:At m T i j)(hu:Uc G bg i j=some r)(ok:OKU n m G T i j r.lo):∃j' r',At m T (i+1) j'∧Uc G bg (i+1) j'=some r'∧OKU n m G T (i+1) j' r'.lo:=by
 obtain⟨j',h1,a'⟩:=mU D (i:=i+1) a.1 fun z=>a.2.1 (D.t1 i (i+1) j (by omega) z);obtain⟨p,hp,okp⟩:=D.openU (i:=i+1) (by omega) a';rcases Nat.lt_or_eq_of_le h1 with lt|rfl
 ·obtain⟨rl,hl,_⟩:=D.up (U:=Uc G bg i) hi a (by rw[hu];rfl) j' lt a'.1 a'.2.1
  exact⟨j',_,a',mP hp (by rw[hl];rfl),okp⟩
 ·have okr:OKU n m G T (i+1) j r.lo:=fun b hb=>ok b (by omega)
  obtain⟨r',e,l⟩:=sT (tu:=Lc G (Uc G bg i) i j) (sd:=(0,(i:Int),(j:Int))) (td:=(1,(i:Int),(j:Int))) hp hu (D.own _ _ _ p hp) (okr (i+1) (Nat.le_refl _) (by omega) a' p hp);refine⟨j,r',a',e,?_⟩;rcases l with l|l
  ·rw[l];exact okp
  ·rw[l];exact okr
theorem C7.all(D:C7 n m G F S T){bg:Nat->Option Rv}{j0:Nat}{r0:Rv}(a0:At m T 0 j0)(h0:bg j0=some r0)(ok0:OKU n m G T 0 j0 r0.lo):∀i,i≤n->∃j r,At m T i j∧Uc G bg i j=some r∧OKU n m G T i j r.lo:=by
 intro i
 induction i with
 | zero=>exact fun _=>⟨j0,r0,a0,h0,ok0⟩
 | succ i ih =>
  intro hi;obtain⟨j,r,a,hu,ok⟩:=ih (by omega);exact D.on (by omega) a hu ok
theorem C7.last(D:C7 n m G F S T){bg:Nat->Option Rv}{j0:Nat}{r0:Rv}(a0:At m T 0 j0)(h0:bg j0=some r0)(ok0:OKU n m G T 0 j0 r0.lo)(hn:1≤n)(no:∀q,¬T n q):(Uc G bg (n - 1) (m - 1)).isSome=true∨(Lc G (Uc G bg (n - 1)) (n - 1) (m - 1)).isSome=true:=by
 obtain⟨j,r,a,hu,ok⟩:=D.all a0 h0 ok0 (n - 1) (by omega);rcases Nat.lt_or_ge j (m - 1) with z|z
 ·obtain⟨rl,hl,_⟩:=D.up (U:=Uc G bg (n - 1)) (by omega) a (by rw[hu];rfl) (m - 1) z (by omega) (by rw[Nat.sub_add_cancel hn];exact no _)
  exact .inr (by rw[hl];rfl)
 ·have:j=m - 1:=by have:=a.1;omega
  subst this;exact .inl (by rw[hu];rfl)
end
end Pas
namespace L2
open PySem PySem.Spec PyProof.Rows
theorem sj{K:W.Frag}{H H':Hp}{a:Addr}{xs:List V}(h:SqT K H a xs)(s:Same H H'):SqT K H' a xs:=by
 rcases h with(h|⟨o,h⟩)|h
 ·exact .inl (.inl (s _ _ h))
 ·exact .inl (.inr ⟨o,s _ _ h⟩)
 ·exact .inr h
end L2
namespace Sp11
open PySem PySem.Spec L2 Mth Sp1 Sp2
inductive CP (C:Addr) (vs:List V) (H:Hp) (Q:VK) (E:XK):Prop
 | mk:∀(a b:Int) (n:Nat),(vs = [.int a,.int b])->((aq a≤n∧aq b≤n∧n≤7900))->((b=0->E (.ref C) none H))->((b≠0->∀(p:Addr) (t u:Int),DP a b t u->aq t≤n->aq u≤n->H p=none->Q (.ref p) (upd H p (.tup [.int t,.int u]))))->CP C vs H Q E
structure Fg(H:Hp)(p:Addr)(a b:Int)(n:Nat):Prop where
 at_:H p=some (.tup [.int a,.int b])
 low:EB a b
 ba:aq a≤n
 bb:aq b≤n
theorem Fg.mono{H H':Hp}{p:Addr}{a b:Int}{n:Nat}(f:Fg H p a b n)(s:Same H H'):Fg H' p a b n:=⟨s _ _ f.at_,f.low,f.ba,f.bb⟩
inductive Fv (num den:Int->Int->Int->Int->Int) (vs:List V) (H:Hp) (Q:VK) (x_3:XK):Prop
 | mk:∀(p q:Addr) (a b c d:Int) (n:Nat),(vs = [.ref p,.ref q])->(Fg H p a b n)->(Fg H q c d n)->(n≤3900)->(den a b c d≠0)->(∀(r:Addr) (t u:Int) (H':Hp),DP (num a b c d) (den a b c d) t u->Fg H' r t u (2*n+1)->Same H H'->Q (.ref r) H')->Fv num den vs H Q x_3
end Sp11
namespace Sp11
open PySem PySem.Spec L2 Mth Sp1 Sp2
theorem Bp.mono{H H':Hp}{x:V}(h:Bp H x)(s:Same H H'):Bp H' x:=by
 obtain⟨⟨t,k⟩,pt⟩:=h;refine⟨⟨t,k.mono s⟩,fun p xs e1 e2 y hy=>?_⟩;subst e1;have e3:H p=some (.tup xs):=by
  cases k with
  | lst e=>rw[s _ _ e]at e2;cases e2
  | tup e=>rw[s _ _ e]at e2;cases e2;exact e
  | dict e=>rw[s _ _ e]at e2;cases e2
 obtain⟨t',k'⟩:=pt p xs rfl e3 y hy;exact⟨t',k'.mono s⟩
abbrev Crn:=List (Addr×Int×Int)
end Sp11
namespace Sp11
open PySem PySem.Spec L2 Mth Sp1 Sp2
end Sp11
namespace Hd
open PySem PySem.W PySem.Spec L2
def vE(o:Obj):Bool:=match o.data with
 | .freed=>false
 | _=>true
def qQ:Nat->List Obj->Frag
 | _,[]=>[]
 | n,a::r=>bif vE a then (n,a)::qQ (n+1) r else qQ (n+1) r
def frag(h:Heap):Frag:=qQ 0 h.objs.toList
def fnFact(K:Frag)(x:Str):Option (Arguments×List Stmt×Scope×Value):=match nsIn K mainGlobals x with
 | some (some (.ref f))=>(match K.lookup f with
  | some ⟨_,_,.func fd,_⟩=>(match fd.body,fd.closure with
   | .stmts b,[]=>bif (fd.name == x && (fd.qualname == x && (Nat.beq fd.globals mainGlobals && (Nat.beq fd.builtins builtinsNs && codeIn K fd.code x)))) then some (fd.params,b,fd.scope,fd.defaults) else none
   | _,_=>none)
  | _=>none)
 | _=>none
theorem fh{K:Frag}{x:Str}{a:Arguments}{b:List Stmt}{sc:Scope}{dv:Value}(e:fnFact K x=some (a,b,sc,dv)) :
  ∃(f:Addr) (oc:Value) (od:Option Addr) (kV doc pm:Value) (an:Option Addr) (cdv ct:Value) (osl:Array (Option Value)),
   nsIn K mainGlobals x=some (some (.ref f))∧K.lookup f=some ⟨oc,od,.func (fnOf x x a b sc dv kV doc pm an cdv ct),osl⟩∧codeIn K cdv x=true∧keepIn K (.ref f)=true:=by
 unfold fnFact at e
 split at e
 ·rename_i f hf
  split at e
  ·rename_i oc od fd osl hl
   split at e
   ·rename_i b' hb hc
    cases hq:(fd.name == x && (fd.qualname == x && (Nat.beq fd.globals mainGlobals && (Nat.beq fd.builtins builtinsNs && codeIn K fd.code x)))) with
    | false=>rw[hq]at e;cases e
    | true =>
     rw[hq]at e;simp only[Bool.and_eq_true]at hq;obtain⟨h1,h2,h3,h4,h5⟩:=hq
     replace h1:=eq_of_beq h1
     replace h2:=eq_of_beq h2
     replace h3:=Nat.eq_of_beq_eq_true h3
     replace h4:=Nat.eq_of_beq_eq_true h4
     simp only[cond_true,Option.some.injEq,Prod.mk.injEq]at e;obtain⟨e1,e2,e3,e4⟩:=e;obtain⟨n,qn,ps,bd,s,gl,cl,df,kw,dc,pm,an,cd,ct,bl⟩:=fd;simp only at h1 h2 h3 h4 h5 e1 e2 e3 e4 hb hc;subst h1 h2 h3 h4 e1 e2 e3 e4 hb hc;refine⟨f,oc,od,kw,dc,pm,an,cd,ct,osl,hf,hl,h5,?_⟩;unfold keepIn;dsimp only;rw[hl]
   ·cases e
  ·cases e
 ·cases e
theorem df_of{K:Frag}{mg:Str->Option Value}{h:Heap}{x:Str}{st:Stmt}(X:K.In h)(G:h.Ns mainGlobals mg)(e:fnFact K x=some (aY st,aK st,am st,.none)):Df K mg x st:=by
 obtain⟨f,oc,od,kV,doc,pm,an,cdv,ct,osl,h1,h2,h3,h4⟩:=fh e;exact zq X G h1 h2 h3 h4
def bareV:Value->V
 | .none=>.non
 | .bool b=>.bl b
 | .int i _=>.int i
 | .str x _=>.str x
 | .bytes b _=>.byt b
 | .float b _=>.flt b
 | .ref a=>.ref a
 | .type n=>.ty n
 | _=>.ty "no plain value"
def g9:Value->Bool
 | .ellipsis | .notImplemented | .builtin _=>false
 | _=>true
theorem rN:∀{v:Value},g9 v=true->aU (bareV v) v
 | .none,_=>rfl
 | .bool _,_=>rfl
 | .int _ t,_=>⟨t,rfl⟩
 | .str _ t,_=>⟨t,rfl⟩
 | .bytes _ t,_=>⟨t,rfl⟩
 | .float _ t,_=>⟨t,rfl⟩
 | .ref _,_=>rfl
 | .type _,_=>rfl
 | .ellipsis,h=>by cases h
 | .notImplemented,h=>by cases h
 | .builtin _,h=>by cases h
theorem gY:∀{l:List Value},l.all g9=true->aN (l.map bareV) l
 | [],_=>.nil
 | _::_,h=>by
  rw[List.all_cons,Bool.and_eq_true]at h;exact .cons (rN h.1) (gY h.2)
def sB(K:Frag)(v:Value):Option (List V):=match v with
 | .ref a=>(match K.lookup a with
  | some ⟨_,_,.seq its _,_⟩=>bif its.toList.all g9 then some (its.toList.map bareV) else none
  | _=>none)
 | _=>none
theorem oA{K:Frag}{v:Value}{ds:List V}(e:sB K v=some ds):∃(a:Addr) (o:Obj) (its:List Value) (n:Nat),v = .ref a∧K.lookup a=some o∧o.data = .seq its.toArray n∧aN ds its:=by
 unfold sB at e
 split at e
 ·rename_i a
  split at e
  ·rename_i oc od its n osl hl
   cases hq:its.toList.all g9 with
   | false=>rw[hq]at e;cases e
   | true =>
    rw[hq]at e;cases e;exact⟨a,_,its.toList,n,rfl,hl,rfl,gY hq⟩
  ·cases e
 ·cases e
def fnFactD(K:Frag)(x:Str):Option (Arguments×List Stmt×Scope×List V):=match fnFact K x with
 | some (a,b,s,dv)=>(match sB K dv with
  | some ds=>some (a,b,s,ds)
  | none=>none)
 | none=>none
theorem dfd_of{K:Frag}{mg:Str->Option Value}{h:Heap}{x:Str}{st:Stmt}{ds:List V}(X:K.In h)(G:h.Ns mainGlobals mg)(e:fnFactD K x=some (aY st,aK st,am st,ds)):Gs K mg x st ds:=by
 unfold fnFactD at e
 split at e
 ·rename_i a b s dv hf
  split at e
  ·rename_i ds' hs
   simp only[Option.some.injEq,Prod.mk.injEq]at e;obtain⟨e1,e2,e3,e4⟩:=e;subst e1 e2 e3 e4;obtain⟨f,oc,od,kV,doc,pm,an,cdv,ct,osl,h1,h2,h3,h4⟩:=fh hf;obtain⟨T,oT,its,n,rfl,hl,hd,hv⟩:=oA hs;exact yf X G h1 h2 h3 h4 hl hd hv
  ·cases e
 ·cases e
def cls(K:Frag)(x:Str):Addr:=match nsIn K mainGlobals x with
 | some (some (.ref C))=>C
 | _=>0
def excFact(K:Frag)(x:Str):Bool:=match nsIn K mainGlobals x with
 | some (some (.ref C))=>excIn K C [.type "ValueError",.type "Exception",.type "BaseException",.type "object"] "ValueError.__new__"
 | _=>false
theorem exc_of{K:Frag}{mg:Str->Option Value}{h:Heap}{x:Str}(X:K.In h)(G:h.Ns mainGlobals mg)(e:excFact K x=true):Bq K mg x (cls K x):=by
 unfold excFact at e
 split at e
 ·rename_i C hC
  have:cls K x=C:=by unfold cls;rw[hC]
  rw[this];exact x9 X G hC e
 ·cases e
def tupFact(K:Frag)(x:Str):Option (List V):=match nsIn K mainGlobals x with
 | some (some (.ref a))=>(match K.lookup a with
  | some ⟨.type "tuple",_,.seq its _,_⟩=>bif its.toList.all g9 then some (its.toList.map bareV) else none
  | _=>none)
 | _=>none
theorem tup_of{K:Frag}{x:Str}{ds:List V}(e:tupFact K x=some ds):∃(a:Addr) (od:Option Addr) (its:List Value) (n:Nat) (osl:Array (Option Value)),nsIn K mainGlobals x=some (some (.ref a))∧K.lookup a=some ⟨.type "tuple",od,.seq its.toArray n,osl⟩∧aN ds its:=by
 unfold tupFact at e
 split at e
 ·rename_i a ha
  split at e
  ·rename_i od its n osl hl
   cases hq:its.toList.all g9 with
   | false=>rw[hq]at e;cases e
   | true =>
    rw[hq]at e;cases e;exact⟨a,od,its.toList,n,osl,ha,hl,gY hq⟩
  ·cases e
 ·cases e
def noFact(K:Frag)(x:Str):Bool:=match nsIn K mainGlobals x with
 | some none=>true
 | _=>false
theorem no_of{K:Frag}{x:Str}(e:noFact K x=true):nsIn K mainGlobals x=some none:=by
 unfold noFact at e
 split at e
 ·rename_i h
  exact h
 ·cases e
theorem at_map{α β:Type}{f g:α->β}{l:List α}(e:l.map f=l.map g)(i:Nat){a:α}(h:l[i]? = some a):f a=g a:=by
 have q:=congrArg (fun l:List β=>l[i]?) e;simp only[List.getElem?_map,h,Option.map_some,Option.some.injEq]at q;exact q
theorem at_all{α:Type}{f:α->Bool}{l:List α}(e:l.all f=true)(i:Nat){a:α}(h:l[i]? = some a):f a=true :=
 List.all_eq_true.mp e a (List.mem_of_getElem? h)
theorem at_two{α:Type}{l m:List α}(e:l=m)(i:Nat){a b:α}(h:l[i]? = some a)(h':m[i]? = some b):a=b:=by
 subst e;rw[h]at h';exact Option.some.inj h'
end Hd
namespace Hd
open PySem PySem.W PySem.Spec L2
theorem vals_sz{ds:List V}{its:List Value}(u:aN ds its)(h:ds.length≤100):its.toArray.size≤100:=by
 rw[List.size_toArray,<- u.length];exact h
end Hd
namespace L2
open PySem PySem.Spec PyProof.Rows
end L2
namespace Hd
open PySem PySem.W PySem.Spec L2
theorem pair2{α β:Type _}{a a':α}{b b':β}(h:a=a')(g:b=b'):(a,b)=(a',b'):=by rw[h,g]
end Hd
namespace PySem
namespace F
end F
section
variable {prog:Program} {w:World} {A:Around} {E:Value->Shared->Prop}
end
end PySem
namespace L2
open PySem PySem.Spec PyProof.Rows
inductive EC (x:V) (vs:List V) (H:Hp) (Q:VK):Prop
 | mk:∀l b xs zs,(x = .ref l)->(vs = [.ref b])->(H l=some (.lst xs))->(H b=some (.lst zs))->(xs.length+zs.length≤sizeLine)->(∀H',EH H H' l xs (xs++zs)->Q .non H')->EC x vs H Q
theorem oK{X:Cx}:MtM X "list.extend" EC:=fun pins s σ H x xs v us Q I rx rs ⟨l,b,ys,zs,e1,e2,h,h2,hz,q⟩ =>
 qS pins s σ H x xs v us Q I rx rs ⟨l,b,ys,zs,e1,e2,h,h2,hz,q _ (.mk' h)⟩
end L2
namespace L2
open PySem PySem.Spec PyProof.Rows
structure Dy(K:W.Frag)(mg:Str->Option Value)(x:Str)(C:Addr):Prop where
 bound:mg x=some (.ref C)
 cls:FZ K C
 makes:W.makesIn K C=true
 kp:W.keepIn K (.ref C)=true
structure GE(K:W.Frag)(C:Addr)(m q:Str)(st:Stmt):Prop where
 ex:∃(f:Addr) (oc:Value) (od:Option Addr) (kV doc pm:Value) (an:Option Addr) (cdv ct:Value) (osl:Array (Option Value)),
  GC K C m f∧K.lookup f=some ⟨oc,od,.func (W.fnOf m q (aY st) (aK st) (am st) .none kV doc pm an cdv ct),osl⟩∧W.codeIn K cdv q=true
structure Mt(P:Program)(w:World)(K:W.Frag)(mg:Str->Option Value)(base:Heap)(C:Addr)(m:Str)(ps:List Str)(k:Nat)(sp:Sp):Prop where
 ex:∃(f:Addr) (fd:FuncData),GC K C m f∧eM K fd ps []∧CO P w K mg base (CXE P w) k f fd ps sp
theorem GE.mt{P:Program}{w:World}{K:W.Frag}{mg:Str->Option Value}{base:Heap}{C:Addr}{m q:Str}{st:Stmt}{N ps:List Str}{k:Nat}{sp:Sp}(D:GE K C m q st)(S:zZ N ps (am st))
  (hbind:∀(kV doc pm:Value) (an:Option Addr) (cdv ct:Value) (us:List Value),us.length=ps.length->bindArgs (W.fnOf m q (aY st) (aK st) (am st) .none kV doc pm an cdv ct) ⟨us,[]⟩=pure (ps.zip us))
  (len:∀vs H Q E,sp vs H Q E->vs.length=ps.length)
  (hbody:∀(f:Addr) (cdv:Value) (A:Around) (outer:List Env) (s:Shared) (H:Hp) (vs:List V) (Q:VK) (E:XK),Ar k (A.deeper (envOfC q (am st) s.heap.objs.size f cdv))->sp vs H Q E ->
   ∃t,PSs (bE (CXE P w) P w K mg base N q (am st) f cdv A outer s H E) (aK st) t∧t { nx:=fun _ H'=>Q .non H',rt:=Q } (eE N vs) H):Mt P w K mg base C m ps (k+1) sp:=by
 obtain⟨f,oc,od,kV,doc,pm,an,cdv,ct,osl,hm,lk,hcd⟩:=D.ex;exact⟨⟨f,_,hm,.all (hbind kV doc pm an cdv ct),nF lk hcd S len fun A outer s H vs Q E hr hsp=>hbody f cdv A outer s H vs Q E hr hsp⟩⟩
section
variable {X:Cx} {C:Addr} {m:Str} {ps:List Str} {k:Nat} {sp:Sp} {o e:Expr} {es:List Expr} {ta:TE} {t:TA} {apos pos:Pos}
theorem xx{st:Stmt}{t:TS}(h:PS X.nox st t):PS X st t:=fun pins s σ H D I hw =>
 wpAny_mono (h pins s σ H D (I.wish _) hw) (fun _ _ q=>q.unwish) fun _ _ z=>False.elim z
end
section
variable {P:Program} {w:World} {K:W.Frag} {mg:Str->Option Value} {base:Heap} {N:List Str} {qual:Str} {scope:Scope} {f:Addr} {cdv:Value} {A:Around} {outer:List Env} {s₀:Shared} {H₀:Hp} {E:XK}
 {C:Addr} {m:Str} {ps:List Str} {k:Nat} {sp:Sp} {o e:Expr} {es:List Expr} {ta:TE} {t:TA} {apos pos:Pos}
end
section
variable {X:Cx} {x:Str} {i:Nat} {C:Addr} {m:Str} {ps:List Str} {k:Nat} {sp:Sp} {o e:Expr} {es:List Expr} {ta:TE} {t:TA} {px apos cpos pos:Pos}
end
section
variable {X:Cx}
end
end L2
namespace Hd
open PySem PySem.W PySem.Spec L2
def ownFact(K:Frag)(x:Str):Bool:=match nsIn K mainGlobals x with
 | some (some (.ref C))=>plainGet K C Str.empty && (hasDictIn K C && (plainOver K C && (makesIn K C && keepIn K (.ref C))))
 | _=>false
theorem own_of{K:Frag}{mg:Str->Option Value}{h:Heap}{x:Str}(X:K.In h)(G:h.Ns mainGlobals mg)(e:ownFact K x=true)(sa:findIn K (.ref (cls K x)) "__setattr__" = some (some (.builtin "object.__setattr__"))):Dy K mg x (cls K x):=by
 unfold ownFact at e
 split at e
 ·rename_i C hC
  have hc:cls K x=C:=by unfold cls;rw[hC]
  rw[hc]at sa ⊢;simp only[Bool.and_eq_true]at e;obtain⟨e1,e2,e3,e4,e5⟩:=e;exact⟨mg_of X G hC,⟨e1,e2,e3,sa⟩,e4,e5⟩
 ·cases e
def mtFact(K:Frag)(x m q:Str):Option (Arguments×List Stmt×Scope×Value):=match findIn K (.ref (cls K x)) m with
 | some (some (.ref f))=>(match K.lookup f with
  | some ⟨.type n,_,.func fd,_⟩=>(match fd.body,fd.closure with
   | .stmts b,[]=>bif (n == "function" && (fd.name == m && (fd.qualname == q && (Nat.beq fd.globals mainGlobals && (Nat.beq fd.builtins builtinsNs && codeIn K fd.code q))))) then some (fd.params,b,fd.scope,fd.defaults) else none
   | _,_=>none)
  | _=>none)
 | _=>none
theorem dfm_of{K:Frag}{x m q:Str}{st:Stmt}(e:mtFact K x m q=some (aY st,aK st,am st,.none)):GE K (cls K x) m q st:=by
 unfold mtFact at e
 split at e
 ·rename_i f hf
  split at e
  ·rename_i n od fd osl hl
   split at e
   ·rename_i b' hb hc
    cases hq:(n == "function" && (fd.name == m && (fd.qualname == q && (Nat.beq fd.globals mainGlobals && (Nat.beq fd.builtins builtinsNs && codeIn K fd.code q))))) with
    | false=>rw[hq]at e;cases e
    | true =>
     rw[hq]at e;simp only[Bool.and_eq_true]at hq;obtain⟨h0,h1,h2,h3,h4,h5⟩:=hq
     replace h0:=eq_of_beq h0
     replace h1:=eq_of_beq h1
     replace h2:=eq_of_beq h2
     replace h3:=Nat.eq_of_beq_eq_true h3
     replace h4:=Nat.eq_of_beq_eq_true h4
     simp only[cond_true,Option.some.injEq,Prod.mk.injEq]at e;obtain⟨e1,e2,e3,e4⟩:=e;obtain⟨n',qn,ps,bd,s,gl,cl,df,kw,dc,pm,an,cd,ct,bl⟩:=fd;simp only at h1 h2 h3 h4 h5 e1 e2 e3 e4 hb hc;subst h0 h1 h2 h3 h4 e2 hb hc e4;refine⟨⟨f,.type "function",od,kw,dc,pm,an,cd,ct,osl,⟨hf,?_,?_⟩,?_,h5⟩⟩
     ·unfold isFn typeIn
      dsimp only;rw[hl];exact beq_self_eq_true _
     ·unfold keepIn
      dsimp only;rw[hl]
     ·rw[hl,<- e1,<- e3]
   ·cases e
  ·cases e
 ·cases e
end Hd
namespace L2
open PySem PySem.Spec PyProof.Rows
section
variable {X:Cx}
theorem pV{K:W.Frag}{e:Expr}{f:Str}{ta:TE}{pos:Pos}(h:X.K=K)(he:PE X e ta)(hb:attributeBase e f X.env (eval e X.env)=eval e X.env):PE X (.Attribute e f pos) (yK K ta f):=h▸bR he hb
variable {C:Addr} {ps:List Str} {k:Nat} {sp:Sp} {pos:Pos} {e:Expr} {es:List Expr} {t:TA}
theorem yX{x:Str}{p:Pos}(O:Dy X.K X.mg x C)(F:Mt X.prog X.w X.K X.mg X.base C "__init__" ps k sp)(hr:Ar (k+1) X.A)(hg:Gl X x)(ha:PA X (e::es) t)(hdb:(x == ("__debug__" : Str))=false:=by decide)(he:starEach (e::es) X.env=(false,eval e X.env)::starEach es X.env:=by rfl)(hpl:(backTo pos (starEach es X.env)).any (·.1)=false:=by rfl) :
  PE X (.Call (.Name x p) (e::es) [] pos) (wH C sp [] E0 t):=by
 obtain⟨f,fd,hm,hb,G⟩:=F.ex;exact vp ⟨O.makes,hm.at_,hm.fn,O.kp⟩ G hr hg O.bound hb .nil kS ha hdb he hpl
end
end L2
namespace L2
open PySem PySem.Spec PyProof.Rows
section
variable {X:Cx}
end
end L2
namespace L2
open PySem PySem.Spec PyProof.Rows
section
variable {X:Cx}
end
end L2
namespace L2
open PySem PySem.Spec PyProof.Rows
section
variable {X:Cx}
end
end L2
namespace L2
open PySem PySem.Spec PyProof.Rows
section
variable {X:Cx}
variable {x fn:Str} {i:Nat} {ps:List Str} {k:Nat} {ds:List V} {sp:Sp} {e:Expr} {es:List Expr} {ta:TA} {px pf cpos pos:Pos}
end
end L2
namespace L2
open PySem PySem.Spec PyProof.Rows
end L2
namespace L2
open PySem PySem.Spec PyProof.Rows PySem.W
theorem qV{P:Program}{w:World}{K:W.Frag}{mg mb:Str->Option Value}{k:Nat}{fa a:Addr}{fd:FuncData}{x:Str}{sp:Sp}{s₁:Shared}{vs:List Value}{ns:List Int}{tabs:List Addr}
  (KX:K.In s₁.heap) (hKt:∀p∈tabs,K.lookup p=none) (hT:∀p∈tabs,s₁.heap.get? p=some (tabObj #[])) (hTc:∀p∈tabs,isCodeTable s₁.heap p)
  (hns:s₁.heap.Ns mainGlobals mg) (hb:s₁.heap.Ns builtinsNs mb) (hbb:∀x:Str,x≠"__name__"->mb x=bootBuiltins x) (hlim:s₁.heap.NoLimit) (hg:s₁.gens = #[])
  (ha:s₁.heap.get? a=some { cls:=.type "list",data:=.seq vs.toArray }) (hi:IntsAre vs ns) (hl:ns.length≤sizeLine) (hr:Ar k callerA)
  (F:∀base:Heap,K.In base->base.Ns mainGlobals mg->CO P w K mg base CX0 k fa fd [x] sp) (hbind:∀(s:Shared) (u:Value),BindsTo s fd ⟨[u],[]⟩ [(x,u)])
  (hsp:∀H:Hp,SqL K H a (ns.map V.int)->(∀p∈tabs,H p=some (.tbl #[]))->sp [.ref a] H (fun v _=>v = .bl true) fun _ _ _=>False) :
  codeAny (model P w) callerA (.call (.ref fa) ⟨[.ref a],[]⟩) (fun r s'=>r = .ok (.ret (.bool true))∧OldK s₁.heap s'.heap∧s'.os=s₁.os∧AllBare s'.gens) s₁:=by
 have rv:=kI hi;have lenV:=hi.length;have atab:a∉tabs:=fun z=>by rw[hT a z]at ha;cases ha
 have core:∀H:Hp,SqL K H a (ns.map V.int)->(∀p∈tabs,H p=some (.tbl #[]))->HOk P w H s₁.heap->(∀b,H b≠none->b∈tabs∨(b=a∧K.lookup a=none∧∃o xs,H b=some (.frz o (.lst xs)))) ->
   codeAny (model P w) callerA (.call (.ref fa) ⟨[.ref a],[]⟩) (fun r s'=>r = .ok (.ret (.bool true))∧OldK s₁.heap s'.heap∧s'.os=s₁.os∧AllBare s'.gens) s₁:=by
  intro H hS hTb hok hA;have base_of:∀{b:Addr} {o:Obj},s₁.heap.get? b=some o->H b=none->(l7 s₁.heap H).get? b=some o:=fun e n=>tV e n;have noA:∀{b:Addr} {o:Obj} {es:Array DictEntry} {ep:Nat},s₁.heap.get? b=some o->o.data = .dict es ep->H b=none:=fun {b o es ep} e d=>by
   cases q:H b with
   | none=>rfl
   | some u =>
    rcases hA b (by rw[q];simp) with z|⟨e',_⟩
    ·rw[hT b z]at e;cases e
     have d':Data.fields _=Data.dict es ep:=d;cases d'
    ·subst e'
     rw[ha]at e;cases e;have d':Data.seq vs.toArray _=Data.dict es ep:=d;cases d'
  have nsK:∀{b:Addr} {m:Str->Option Value},s₁.heap.Ns b m->(l7 s₁.heap H).Ns b m:=fun {b m} ⟨o,es,ep,e,d,r⟩=>⟨o,es,ep,base_of e (noA e d),d,r⟩;have hKb:K.In (l7 s₁.heap H):=fun b o e=>base_of (KX b o e) (by
   cases q:H b with
   | none=>rfl
   | some u =>
    rcases hA b (by rw[q];simp) with z|⟨e',hk,_⟩
    ·rw[hKt b z]at e;cases e
    ·subst e'
     rw[hk]at e;cases e)
  have hM:Mod K mg (l7 s₁.heap H):=⟨hKb,nsK hns,⟨mb,nsK hb,hbb⟩,let ⟨mc,h1,h2⟩:=hlim;⟨mc,nsK h1,h2⟩⟩;have e0:Ew P w K mg (l7 s₁.heap H) callerA [] s₁ H:=⟨rfl,hM,fun b o e=>vz e,Nat.le_of_eq (rh _ _),trivial,fun b hb=>absurd (show b∈([]:List Addr) from hb) (by simp),hok,.of_eq hg⟩;refine codeAny_mono ((F _ hKb (nsK hns)).run callerA [] s₁ H ⟨[.ref a],[]⟩ [.ref a] [.ref a] _ _ hr e0 (hbind s₁ (.ref a)) (.cons rfl .nil) (hsp H hS hTb)) fun r s' h=>?_;cases r with
  | error e=>exact False.elim h
  | ok fl =>
   cases fl with
   | next=>exact False.elim h
   | brk=>exact False.elim h
   | cont=>exact False.elim h
   | ret u =>
    obtain⟨v,H',os,bare,un,hok',r',q⟩:=h;have q':v = .bl true:=q;subst q';obtain rfl:u=Value.bool true:=r';refine⟨rfl,⟨fun b o e=>?_,fun b o e=>un.there b o e (by simp)⟩,os,bare⟩;cases q:H b with
    | none=>exact .inl (un.keep b o e q (by intro z;exact absurd (show b∈([]:List Addr) from z) (by simp)) (by simp))
    | some u =>
     rcases hA b (by rw[q];simp) with z|⟨_,_,ob,xs,z⟩
     ·obtain⟨more,q2⟩:=un.tbls b #[] (hTb b z)
      have e2:s'.heap.get? b=some { cls:=.none,data:=.fields (#[]++more) }:=hok' b _ q2;rw[hT b z]at e;cases e;exact .inr (.inl ⟨hTc b z,rfl,#[],more,rfl,e2⟩)
     ·have z2:=un.frzs b ob _ z
      obtain⟨e1,_⟩:=hok b _ z;obtain⟨e2,_⟩:=hok' b _ z2;rw[e]at e1;cases e1;exact .inl e2
 let Ht:Hp:=fun b=>if b∈tabs then some (.tbl #[]) else none
 have tb:∀p∈tabs,Ht p=some (.tbl #[]):=fun p hp=>if_pos hp;have tn:∀b,b∉tabs->Ht b=none:=fun b hb=>if_neg hb;have tok:HOk P w Ht s₁.heap:=fun b u e=>by
  by_cases z:b∈tabs
  ·rw[tb b z]at e;cases e
   exact hT b z
  ·rw[tn b z]at e;cases e
 cases hk:K.lookup a with
 | some o =>
  have e:=KX a o hk;rw[ha]at e;cases e;refine core Ht (.inr ⟨_,vs.toArray,_,hk,rfl,rfl,rfl,by rw[List.size_toArray,lenV];exact hl,by simpa using rv⟩) tb tok fun b z=>?_
  by_cases hb:b∈tabs
  ·exact .inl hb
  ·exact absurd (tn b hb) z
 | none =>
  have nb:Ht a=none:=tn a atab;have sm:∀b o,Ht b=some o->upd Ht a (.frz { cls:=.type "list",data:=.seq vs.toArray } (.lst (ns.map V.int))) b=some o:=fun b o e=>by
   rw[aH (fun z=>by rw[z,nb]at e;cases e)];exact e
  refine core (upd Ht a (.frz { cls:=.type "list",data:=.seq vs.toArray } (.lst (ns.map V.int)))) (.inl (.inr ⟨{ cls:=.type "list",data:=.seq vs.toArray },upd_same⟩)) (fun p hp=>sm p _ (tb p hp)) (fun b u z=>?_) fun b z=>?_
  ·by_cases hb:b=a
   ·subst hb
    rw[upd_same]at z;cases z;exact⟨ha,by rw[List.length_map];exact hl,vs,_,rv,ha⟩
   ·rw[aH hb]at z
    exact(tok b u z).stay (fun _ _ _ q=>q) (fun d q=>sm d _ q) fun d xs q=>sm d _ q
  ·by_cases hb:b=a
   ·exact .inr ⟨hb,hk,_,_,by rw[hb];exact upd_same⟩
   ·rw[aH hb]at z
    by_cases ht:b∈tabs
    ·exact .inl ht
    ·exact absurd (tn b ht) z
def oy(K:W.Frag)(tabs:List Addr):Sp:=fun vs H Q _=>∃(a:Addr) (ns:List Int),vs = [.ref a]∧SqL K H a (ns.map V.int)∧ns.length≤63∧(∀p∈tabs,H p=some (.tbl #[]))∧∀H',Q (.bl true) H'
end L2
namespace Hd
open PySem PySem.W PySem.Spec L2
def wU(o:Obj):Bool:=match o with
 | ⟨.none,_,.fields _,_⟩=>true
 | _=>false
def strip(K:Frag):Frag:=K.filter fun p=>!wU p.2
theorem mT:∀(l:List Obj) (n:Nat) (p:Nat×Obj),p∈qQ n l->n≤p.1∧l[p.1 - n]? = some p.2∧vE p.2=true
 | [],_,_,e=>by cases e
 | x::r,n,p,e=>by
  have up:p∈qQ (n+1) r->n≤p.1∧(x::r)[p.1 - n]? = some p.2∧vE p.2=true:=fun e=>by
   obtain⟨h1,h2,h3⟩:=mT r (n+1) p e;refine⟨by omega,?_,h3⟩;have:p.1 - n=(p.1 - (n+1))+1:=by omega
   rw[this];exact h2
  unfold qQ at e;cases hl:vE x with
  | false =>
   rw[hl]at e;exact up e
  | true =>
   rw[hl,cond_true]at e;rcases List.mem_cons.mp e with rfl|e
   ·exact⟨Nat.le_refl _,by simp,hl⟩
   ·exact up e
theorem um(h:Heap):∀p∈frag h,h.get? p.1=some p.2:=fun p hp=>by
 obtain⟨_,q,hl⟩:=mT _ _ _ hp;have q:h.objs[p.1]? = some p.2:=by simpa using q
 unfold Heap.get?;rw[q];obtain⟨a,o⟩:=p;obtain⟨c,d,dt,sl⟩:=o;cases dt <;> first|rfl|cases hl
theorem dR{K:Frag}{b:Addr}{o:Obj}(e:K.lookup b=some o):(b,o)∈K:=by
 induction K with
 | nil=>cases e
 | cons x r ih =>
  rw[List.lookup_cons]at e;cases hb:b == x.1 with
  | true =>
   rw[hb]at e;cases e;rw[beq_iff_eq.mp hb];exact List.mem_cons_self
  | false =>
   rw[hb]at e;exact List.mem_cons_of_mem _ (ih e)
theorem si{K:Frag}{h:Heap}(k:∀p∈K,h.get? p.1=some p.2):(strip K).In h:=fun b o e=>k (b,o) (List.mem_filter.mp (dR e)).1
theorem qD{K:Frag}{b:Addr}{o:Obj}(e:(strip K).lookup b=some o):wU o=false:=by
 have:=(List.mem_filter.mp (dR e)).2;simpa using this
def hookT{α:Type}(facts:Frag->α)(val:α):Hook :=
 ⟨α,fun s=>facts (frag s.heap),fun _=>val,fun _ h=>∃K:Frag,(∀p∈K,h.get? p.1=some p.2)∧facts K=val,fun _ s e=>⟨_,um s.heap,e⟩,fun _ _ _ ⟨K,hi,e⟩ k=>⟨K,fun p hp=>k _ _ (hi p hp),e⟩⟩
def mC(K:Frag)(x:Str):Option (Addr×Addr):=match nsIn (strip K) mainGlobals x with
 | some (some (.ref f))=>(match (strip K).lookup f with
  | some ⟨_,_,.func fd,_⟩=>(match fd.code with
   | .ref c=>(match (strip K).lookup c with
    | some ⟨.type "code",_,.fields vs,_⟩=>(match (vs[11]? : Option Value),vs.getD 18 .none,vs.getD 7 .none,vs.getD 9 .none,vs.getD 10 .none with
     | some (.ref p),.str _ _,.int _ _,.bool _,.int _ _=>(match K.lookup p with
      | some ⟨.none,none,.fields ps,sl⟩=>bif (ps.toList.isEmpty && (sl.toList.isEmpty && !(Nat.beq c p))) then some (c,p) else none
      | _=>none)
     | _,_,_,_,_=>none)
    | _=>none)
   | _=>none)
  | _=>none)
 | _=>none
def tabFact(K:Frag)(x:Str):Bool:=(mC K x).isSome
def tabP(K:Frag)(x:Str):Addr:=match mC K x with
 | some q=>q.2
 | none=>0
theorem jr{K:Frag}{x:Str}{c p:Addr}(e:mC K x=some (c,p)):∃f oc od fd sl,nsIn (strip K) mainGlobals x=some (some (.ref f))∧(strip K).lookup f=some ⟨oc,od,.func fd,sl⟩∧fd.code = .ref c∧j7 (strip K) c p∧K.lookup p=some (tabObj #[]):=by
 unfold mC at e
 split at e
 ·rename_i f hf
  split at e
  ·rename_i oc od fd sl hl
   split at e
   ·rename_i c' hc
    split at e
    ·rename_i od2 vs sl2 hl2
     split at e
     ·rename_i p' st tt i1 t1 b1 i2 t2 h11 h18 h7 h9 h10
      split at e
      ·rename_i ps sl3 hl3
       cases hq:(ps.toList.isEmpty && (sl3.toList.isEmpty && !(Nat.beq c' p'))) with
       | false=>rw[hq]at e;cases e
       | true =>
        rw[hq]at e;simp only[cond_true,Option.some.injEq,Prod.mk.injEq]at e;obtain⟨rfl,rfl⟩:=e;simp only[Bool.and_eq_true,List.isEmpty_iff,Bool.not_eq_true']at hq;obtain⟨q1,q2,q3⟩:=hq;have q1:ps = #[]:=by simpa using q1
        have q2:sl3 = #[]:=by simpa using q2
        subst q1 q2;refine⟨f,oc,od,fd,sl,hf,hl,hc,⟨_,vs,st,tt,i1,t1,b1,i2,t2,hl2,rfl,rfl,h11,?_,h18,h7,h9,h10,?_⟩,hl3⟩
        ·rw[Array.getD_eq_getD_getElem?,h11];rfl
        ·intro z
         rw[z,Nat.beq_refl]at q3;cases q3
      ·cases e
     ·cases e
    ·cases e
   ·cases e
  ·cases e
 ·cases e
theorem mB{K:Frag}{x:Str}(t:tabFact K x=true):∃c,mC K x=some (c,tabP K x):=by
 unfold tabFact at t;obtain⟨⟨c,p⟩,e⟩:=Option.isSome_iff_exists.mp t;refine⟨c,?_⟩;unfold tabP;rw[e]
theorem dft_of{K:Frag}{mg:Str->Option Value}{h:Heap}{x:Str}{st:Stmt}(X:(strip K).In h)(G:h.Ns mainGlobals mg)(e:fnFact (strip K) x=some (aY st,aK st,am st,.none))(t:tabFact K x=true):GD (strip K) mg x st (tabP K x):=by
 obtain⟨f,oc,od,kV,doc,pm,an,cdv,ct,osl,h1,h2,h3,h4⟩:=fh e;obtain⟨c,ht⟩:=mB t;obtain⟨f',oc',od',fd',sl',g1,g2,g3,g4,_⟩:=jr ht;rw[h1]at g1;cases g1;rw[h2]at g2;cases g2;have g3:cdv = .ref c:=g3;subst g3;exact⟨⟨f,oc,od,kV,doc,pm,an,c,ct,osl,W.mg_of X G h1,h2,h3,h4,g4⟩⟩
def apart:List Addr->Bool
 | []=>true
 | a::r=>(r.all fun b=>!(Nat.beq a b)) && apart r
def bltFact(K:Frag):Bool:=match nsIn K mainGlobals "__builtins__" with
 | some (some (.ref bm))=>(match K.lookup bm with
  | some ⟨.type "module",some d,.plain,_⟩=>!(Nat.beq bm builtinsNs) && (!(Nat.beq bm mainGlobals) && Nat.beq d builtinsNs)
  | _=>false)
 | _=>false
theorem blt_of{K:Frag}{mg:Str->Option Value}{h:Heap}(X:K.In h)(G:h.Ns mainGlobals mg)(t:bltFact K=true):wF K mg:=by
 unfold bltFact at t
 split at t
 ·rename_i bm hb
  split at t
  ·rename_i d sl hl
   simp only[Bool.and_eq_true,Bool.not_eq_true']at t;obtain⟨t1,t2,t3⟩:=t;have t3:=Nat.eq_of_beq_eq_true t3;subst t3;refine⟨bm,_,W.mg_of X G hb,fun z=>?_,fun z=>?_,hl,rfl,rfl,rfl⟩
   ·rw[z,Nat.beq_refl]at t1;cases t1
   ·rw[z,Nat.beq_refl]at t2;cases t2
  ·cases t
 ·cases t
theorem law_walkT{l:OpenLaw}{k:Nat}{q:Program}{loose:List Str}{XP:(Str->Option Value)->Heap->Prop}{d:DefRec}{α:Type}{facts:Frag->α}{val:α}{names:List Str}(hk:Ar k callerA)(hn:l.most=some 63)(hdf:d.params.defaults = [])
  (hnm:∀K,facts K=val->names.all (tabFact K)=true)
  (F:∀(K:Frag),facts K=val->∀(w:World) (mg:Str->Option Value) (fa:Addr) (h:Heap),(strip K).In h->h.Ns mainGlobals mg->mg d.name=some (.ref fa) ->
   ∃fd:FuncData,(∀(s:Shared) (u:Value),BindsTo s fd ⟨[u],[]⟩ [("script",u)])∧∀base:Heap,(strip K).In base->base.Ns mainGlobals mg->CO l.prog w (strip K) mg base CX0 k fa fd ["script"] (oy (strip K) (names.map (tabP K)))) :
  WalkO q loose XP (Hook.says (hookT facts val)) l.row.toRowW d [] (fun f vs=>PySem.call f vs):=by
 refine Att.attach_call hn hdf fun w s₀ s₁ mg mb fa o pm cd doc a vs ns G Y ho hd hcd hmg hobj hints hlen hg=>?_;obtain⟨K,hin,hf⟩:=Y;have KX:=si hin;obtain⟨fd,hb,hF⟩:=F K hf w mg fa _ KX G.T.g hmg;have ht:∀p∈names.map (tabP K),∃c,j7 (strip K) c p∧K.lookup p=some (tabObj #[]):=fun p hp=>by
  obtain⟨x,hx,rfl⟩:=List.mem_map.mp hp;obtain⟨c,e⟩:=mB (List.all_eq_true.mp (hnm K hf) x hx);obtain⟨_,_,_,_,_,_,_,_,g4,g5⟩:=jr e;exact⟨c,g4,g5⟩
 refine qV (tabs:=names.map (tabP K)) KX (fun p hp=>?_) (fun p hp=>?_) (fun p hp=>?_) G.T.g G.T.b G.T.builtins G.T.nolimit hg hobj hints (Nat.le_trans hlen (by decide)) hk hF hb (fun H hS hT=>⟨a,ns,rfl,hS,hlen,hT,fun _=>rfl⟩)
 ·cases e:(strip K).lookup p with
  | none=>rfl
  | some o =>
   have e1:=hin _ (List.mem_filter.mp (dR e)).1;obtain⟨c,_,e2⟩:=ht p hp;have e2:=hin _ (dR e2);have e1:s₁.heap.get? p=some o:=e1;have e2:s₁.heap.get? p=some (tabObj #[]):=e2;rw[e1]at e2;cases e2;cases qD e
 ·obtain⟨c,_,e2⟩:=ht p hp
  exact hin _ (dR e2)
 ·obtain⟨c,C,e2⟩:=ht p hp
  exact((C.hd KX).tab (ps:=#[]) (hin _ (dR e2))).isCodeTable
end Hd
namespace Hd
open PySem PySem.W PySem.Spec L2
theorem uD{K:Frag}{mg:Str->Option Value}{h:Heap}{x:Str}{v:V}(X:K.In h)(G:h.Ns mainGlobals mg)(e:(nsIn K mainGlobals x).map (fun o=>o.map bareV)=some (some v)):∃u,mg x=some u∧bareV u=v:=by
 cases hn:nsIn K mainGlobals x with
 | none =>
  rw[hn]at e;cases e
 | some o =>
  cases o with
  | none =>
   rw[hn]at e;cases e
  | some u =>
   rw[hn]at e;exact⟨u,mg_of X G hn,Option.some.inj (Option.some.inj e)⟩
theorem int_of{K:Frag}{mg:Str->Option Value}{h:Heap}{x:Str}{i:Int}(X:K.In h)(G:h.Ns mainGlobals mg)(e:(nsIn K mainGlobals x).map (fun o=>o.map bareV)=some (some (.int i))):∃tk,mg x=some (.int i tk):=by
 obtain⟨u,h1,h2⟩:=uD X G e;cases u <;> first|(cases h2;exact⟨_,h1⟩)|cases h2
end Hd
namespace Hd
open PySem PySem.W PySem.Spec L2
def sJ(C:Addr):Value->Bool
 | .ref a=>Nat.beq a C
 | _=>false
def rW(n:String):Value->Bool
 | .type a=>a == n
 | _=>false
theorem sI(C:Addr)(v:Value):(Value.ref C == v)=sJ C v:=by
 rw[Bool.eq_iff_iff,beq_iff_eq];cases v with
 | ref a=>exact⟨fun e=>by cases e;exact Nat.beq_refl _,fun e=>by rw[Nat.eq_of_beq_eq_true e]⟩
 | _=>exact⟨fun e=>(nomatch e),fun e=>(nomatch e)⟩
theorem uS(n:String)(v:Value):(Value.type n == v)=rW n v:=by
 rw[Bool.eq_iff_iff,beq_iff_eq];cases v with
 | type a=>exact⟨fun e=>by cases e;exact beq_self_eq_true n,fun e=>by rw[beq_iff_eq.mp e]⟩
 | _=>exact⟨fun e=>(nomatch e),fun e=>(nomatch e)⟩
theorem vJ(l:List Value)(C:Addr):l.contains (.ref C)=l.any (sJ C):=by
 rw[List.contains_eq_any_beq];exact congrArg l.any (funext fun v=>sI C v)
theorem tW(l:List Value)(n:String):l.contains (.type n)=l.any (rW n):=by
 rw[List.contains_eq_any_beq];exact congrArg l.any (funext fun v=>uS n v)
def tF(K:Frag)(C:Addr):Option (List Value):=match K.lookup C with
 | some ⟨_,_,.cls cd,_⟩=>(match cd.mro with
  | []=>none
  | v::r=>some (v::r))
 | _=>none
theorem lX{K:Frag}{C:Addr}{l:List Value}(e:tF K C=some l)(b:Value):mroIn K C b=some (l.contains b):=by
 unfold tF at e
 split at e
 ·rename_i a d cd sl h
  split at e
  ·cases e
  ·rename_i v r hm
   cases e;unfold mroIn clsIn;rw[h];show(if cd.mro.isEmpty then none else some (cd.mro.contains b))=_
   rw[hm];rfl
 ·cases e
def v6(K:Frag)(C:Addr):Bool:=match K.lookup C with
 | some ⟨.type n,_,.cls _,_⟩=>n == "type"
 | _=>false
theorem v5{K:Frag}{C:Addr}(e:v6 K C=true):((clsIn K C).isSome && typeIn K (.ref C) == some (.type "type"))=true:=by
 unfold v6 at e
 split at e
 ·rename_i n d cd sl h
  have e:=beq_iff_eq.mp e;subst e;unfold clsIn typeIn;rw[h,Bool.and_eq_true];exact⟨rfl,by rw[beq_iff_eq];dsimp only;rw[h];rfl⟩
 ·cases e
def uY(K:Frag)(C D:Addr):Option Bool:=bif v6 K D then (match tF K C with
  | some l=>some (l.any (sJ D))
  | none=>none) else none
theorem mD{K:Frag}{C D:Addr}{b:Bool}(e:uY K C D=some b):kitCls K (.ref C) (.ref D)=some b:=by
 unfold uY at e;cases hc:v6 K D with
 | false=>rw[hc]at e;cases e
 | true =>
  rw[hc,cond_true]at e
  split at e
  ·rename_i l hl
   cases e;unfold kitCls;dsimp only;rw[if_pos (v5 hc),<- vJ];exact lX hl _
  ·cases e
def kitR(K:Frag)(C D:Addr):Option Bool:=bif Nat.beq C D then some true else uY K C D
theorem kitR_one{K:Frag}{C D:Addr}{b:Bool}(e:kitR K C D=some b):kitOne K (.ref C) (.ref D)=some b:=by
 unfold kitR at e;unfold kitOne;cases h:Nat.beq C D with
 | true =>
  rw[h,cond_true]at e;have h:=Nat.eq_of_beq_eq_true h;subst h;rw[if_pos (beq_self_eq_true _)];exact e
 | false =>
  rw[h,cond_false]at e;have h:=Nat.ne_of_beq_eq_false h;rw[if_neg (by rw[beq_iff_eq];exact fun x=>h (by cases x;rfl))];exact mD e
def kitRs(K:Frag)(C:Addr):List Addr->Option Bool
 | []=>some false
 | D::r=>match kitR K C D with
  | some true=>some true
  | some false=>kitRs K C r
  | none=>none
theorem kitRs_any{K:Frag}{C:Addr}{b:Bool}:∀{l:List Addr},kitRs K C l=some b->kitAny K (.ref C) (l.map Value.ref)=some b
 | [],e=>e
 | D::r,e=>by
  unfold kitRs at e;rw[List.map_cons];unfold kitAny
  split at e
  ·rename_i h
   rw[kitR_one h];exact e
  ·rename_i h
   rw[kitR_one h];exact kitRs_any e
  ·cases e
theorem vD:kitMeta "ValueError" = true:=by decide +kernel
def kitT(K:Frag)(C:Addr):Option Bool:=match tF K C with
 | some l=>some (l.any (rW "ValueError"))
 | none=>none
theorem kitT_one{K:Frag}{C:Addr}{b:Bool}(e:kitT K C=some b):kitOne K (.ref C) (.type "ValueError")=some b:=by
 unfold kitT at e;unfold kitOne;rw[if_neg (by rw[beq_iff_eq];exact fun x=>by cases x)]
 split at e
 ·rename_i l hl
  cases e;unfold kitCls;dsimp only;rw[if_pos vD,<- tW];exact lX hl _
 ·cases e
def exmR(K:Frag)(C D:Addr):Option Bool:=match tF K D with
 | some l=>bif l.any (rW "BaseException") then uY K C D else none
 | none=>none
theorem exmR_one{K:Frag}{C D:Addr}{b:Bool}(e:exmR K C D=some b):exmOne K (.ref C) (.ref D)=some b:=by
 unfold exmR at e
 split at e
 ·rename_i l hl
  cases h:l.any (rW "BaseException") with
  | false=>rw[h]at e;cases e
  | true =>
   rw[h,cond_true]at e;unfold exmOne;have:subIn K (.ref D) (.type "BaseException")=some true:=by
    rw[<- h,<- tW];exact lX hl _
   rw[this,if_pos (by decide)];exact mD e
 ·cases e
def oo:List Value->Bool
 | [.type a,.type b,.type c,.type d]=>a == "ValueError" && (b == "Exception" && (c == "BaseException" && d == "object"))
 | _=>false
theorem qx:∀{l:List Value},oo l=true->l = [.type "ValueError",.type "Exception",.type "BaseException",.type "object"]:=fun {l} e=>by
 unfold oo at e
 split at e
 ·simp only[Bool.and_eq_true,beq_iff_eq]at e
  obtain⟨rfl,rfl,rfl,rfl⟩:=e;rfl
 ·cases e
def ml(K:Frag)(x:Str):List Value->Bool
 | []=>false
 | v::r=>match v with
  | .ref a=>(match K.lookup a with
   | some ⟨_,_,.cls cd,_⟩=>(match nsIn K cd.ns x with
    | some none=>ml K x r
    | _=>false)
   | _=>false)
  | _=>oo (v::r)
theorem lC{K:Frag}{x:Str}{z:Option Value}(hz:alongIn K x [.type "ValueError",.type "Exception",.type "BaseException",.type "object"]=some z):∀{l:List Value},ml K x l=true->alongIn K x l=some z
 | [],e=>by cases e
 | v::r,e=>by
  unfold ml at e
  split at e
  ·rename_i a
   split at e
   ·rename_i a' d cd sl h
    split at e
    ·rename_i hn
     unfold alongIn ownIn;dsimp only;rw[h];dsimp only;rw[hn];exact lC hz e
    ·cases e
   ·cases e
  ·rw[qx e]
   exact hz
def findR(K:Frag)(C:Addr)(x:Str):Bool:=match K.lookup C with
 | some ⟨_,_,.cls cd,_⟩=>ml K x cd.mro
 | _=>false
theorem findR_eq{K:Frag}{C:Addr}{x:Str}{z:Option Value}(hz:alongIn K x [.type "ValueError",.type "Exception",.type "BaseException",.type "object"]=some z)(e:findR K C x=true):findIn K (.ref C) x=some z:=by
 unfold findR at e
 split at e
 ·rename_i a d cd sl h
  unfold findIn;dsimp only;rw[h];exact lC hz e
 ·cases e
theorem fE_ga(K:Frag):alongIn K "__getattribute__" [.type "ValueError",.type "Exception",.type "BaseException",.type "object"]=some (some (.builtin "BaseException.__getattribute__")):=by kernel_rfl
theorem fE_gn(K:Frag):alongIn K "__getattr__" [.type "ValueError",.type "Exception",.type "BaseException",.type "object"]=some none:=by kernel_rfl
theorem fE_cl(K:Frag):alongIn K "__class__" [.type "ValueError",.type "Exception",.type "BaseException",.type "object"]=some (some (.builtin "object.__class__")):=by kernel_rfl
end Hd
namespace L2
open PySem PySem.Spec PyProof.Rows
section
variable {X:Cx}
end
end L2
namespace L2
open PySem PySem.Spec PyProof.Rows
section
variable {X:Cx}
theorem oF{Cs:Addr->Prop}{n en:Str}{B:Addr}{np hpos pos:Pos}{body:List Stmt}{b₀:Stmt}{suite:List Stmt}{tx:TX}{th:TS}{i:Nat}(stk:X.stack=X.env::X.outer)(hfr:X.env.frame=some X.env.locals)(hb:PXs X body tx)(O:Bq X.K X.mg n B)(hg:Gl X n)
  (hm:∀C,Cs C->W.exmOne X.K (.ref C) (.ref B)=some true) (hex:X.ex = []) (hN:X.N.Nodup) (hi:X.N[i]? = some en) (hk:X.env.kindOf en=some .local)
  (hh:∀e:Addr,PSs (X.inH e) (b₀::suite) th) (hdb:(n == ("__debug__" : Str))=false:=by decide) :
  PS X (.Try body [.ExceptHandler (some (.Name n np)) (some en) (b₀::suite) hpos] [] [] pos) (fun D σ H=>tx (fun c σ' H'=>∃C,c = .ref C∧Cs C∧∀e:Addr,H' e=none->th (D.drop i) (σ'.set i (some (.ref e))) (upd H' e (gT C e))) D σ H):=by
 intro pins s σ H D I h;refine wpAny_Try_except (wpAny_mono (hb pins s σ H D _ I h) (fun f s1 q=>?_) fun ev s1 q=>?_)
 ·cases f with
  | next=>exact wpAny_execs_nil q
  | ret v=>exact q
  | brk=>exact q
  | cont=>exact q
 ·obtain⟨s₁,σ₁,H₁,E1,I1,hx,hE⟩:=q
  obtain⟨ea,t,cls,H',B',rfl,os,bare,un,hok,fl,big,q⟩:=hx;obtain⟨C,rfl,hC,rd⟩:=hE _ _ _ q;exact rL (E1:=fun c o H''=>c = .ref C∧H''=H') I1 stk hfr O hg (hm C hC) hex hN hi hk ⟨ea,t,_,H',B',rfl,os,bare,un,hok,fl,big,rfl,rfl⟩ (fun c o H'' z=>by obtain⟨rfl,rfl⟩:=z;exact⟨rfl,rd⟩) hh hdb
inductive FB (K:W.Frag) (Cs:Addr->Prop) (xs:List V) (H:Hp) (Q:VK):Prop
 | mk:∀C,(Cs C)->(Gk K C xs H Q)->FB K Cs xs H Q
theorem og{Cs:Addr->Prop}(h:∀C,Cs C->(∃n,Bq X.K X.mg n C)∧FP X.K C):eJ X (.builtin "isinstance") (FB X.K Cs):=by
 intro pins s σ H xs us Q I rs q;obtain⟨C,hC,q⟩:=q;obtain⟨⟨n,O⟩,f⟩:=h C hC;exact oX O f pins s σ H xs us Q I rs q
end
end L2
namespace L2
open PySem PySem.Spec PyProof.Rows
section
variable {X:Cx}
end
end L2
local macro_rules | `(tactic| omega)=>`(tactic| lia)
local macro_rules | `(tactic| walk_at "bt")=>`(tactic| first
 | assumption
 | (apply L2.bits_mul <;> walk_at "bt")
 | (apply L2.bits_add2 <;> walk_at "bt")
 | (apply L2.bits_sub2 <;> walk_at "bt")
 | (apply L2.bits_neg;walk_at "bt")
 | (apply L2.bits_abs;walk_at "bt")
 | exact L2.bits_lit)
local macro_rules | `(tactic| walk_at "bl")=>`(tactic| (apply L2.bits_of_le;(walk_at "bt");decide))
local macro_rules | `(tactic| walk_at "cm")=>`(tactic| first
 | exact L2.CM.l ⟨by decide,by decide⟩
 | exact L2.CM.r ⟨by decide,by decide⟩
 | (apply L2.CM.of;(walk_at "bt");(walk_at "bt");decide))
local macro_rules | `(tactic| walk_at "at")=>`(tactic| first
 | assumption
 | exact L2.upd_same
 | (refine L2.Same.at (by assumption) ?_;walk_at "at")
 | (refine L2.SameT.at (by assumption) ?_;walk_at "at"))
local macro_rules | `(tactic| walk_at "sm")=>`(tactic| first
 | assumption
 | exact L2.Same.rfl'
 | (refine L2.Same.trans ?_ (by assumption);walk_at "sm"))
local macro_rules | `(tactic| walk_at "kn")=>`(tactic| first
 | assumption
 | exact⟨_,.int _⟩|exact⟨_,.bl _⟩|exact⟨_,.str _⟩|exact⟨_,.non⟩
 | exact⟨_,.tup (by walk_at "at")⟩|exact⟨_,.lst (by walk_at "at")⟩|exact⟨_,.dict (by walk_at "at")⟩)
local macro_rules | `(tactic| walk_at "nice")=>`(tactic| first
 | exact L2.nice_int|exact L2.nice_bool|exact L2.nice_tuple|exact L2.nice_list|exact L2.nice_str)
local macro_rules | `(tactic| walk_at "th")=>`(tactic| first
 | assumption
 | exact Sp1.th_flat .non (fun p e=>nomatch e)|exact Sp1.th_flat (.int _) (fun p e=>nomatch e)|exact Sp1.th_flat (.bl _) (fun p e=>nomatch e)|exact Sp1.th_flat (.str _) (fun p e=>nomatch e)
 | exact Sp1.th_lst (by walk_at "at")
 | (refine' Sp1.th_tup ?hat ?hkn;(case hat=>walk_at "at");(case hkn=>(simp only[List.mem_cons,List.not_mem_nil,or_false,forall_eq_or_imp,forall_eq,false_imp_iff,implies_true];(try (first|(walk_at "kn")|(repeat' apply And.intro) <;> walk_at "kn")))))
 )
local macro_rules | `(tactic| walk_at "r1")=>`(tactic| first
 | (refine⟨_,rfl,?_⟩)
 | (refine⟨_,_,rfl,rfl,?_⟩)
 | (refine⟨_,_,rfl,rfl,by walk_at "cm",?_⟩)
 | (refine⟨_,_,rfl,rfl,(by show(0:Int)<_;decide),?_⟩)
 | (refine⟨_,_,rfl,rfl,⟨by decide,by decide⟩,?_⟩)
 | (refine⟨_,_,rfl,rfl,⟨by decide,by decide,by decide⟩,?_⟩)
 | (refine' ⟨_,_,_,_,rfl,rfl,L2.SqT.of ?hat,?hix,?nxt⟩;(case hat=>walk_at "at");(case hix=>exact rfl))
 | (refine' ⟨_,_,_,_,rfl,rfl,L2.SqL.of ?hat,?hix,?nxt⟩;(case hat=>walk_at "at");(case hix=>exact rfl))
 | (refine⟨by walk_at "cm",?_⟩)
 | (refine⟨(by show(0:Int)<_;decide),?_⟩)
 | (refine⟨⟨by decide,by decide⟩,?_⟩)
 | (refine⟨⟨by decide,by decide,by decide⟩,?_⟩)
 | (refine⟨Sp1.sz (by simp),fun _ _ _ _ _=>?_⟩)
 | (refine⟨Sp1.sz (by simp),L2.alloc fun _ _ _ _=>?_⟩)
 | (refine' ⟨_,_,_,_,rfl,rfl,?hat,?hbt,Sp1.sz ?hsz,fun _ _ _ _ _=>?nxt⟩;(case hat=>walk_at "at");(case hbt=>walk_at "at");(case hsz=>simp))
 | (refine' ⟨_,_,_,_,rfl,rfl,?hat,?hbt,Sp1.sz ?hsz,L2.alloc fun _ _ _ _=>?nxt⟩;(case hat=>walk_at "at");(case hbt=>walk_at "at");(case hsz=>simp))
 | (refine' ⟨_,_,rfl,.inl (L2.SqL.of ?hat),?nxt⟩;(case hat=>walk_at "at"))
 | (refine' ⟨_,_,rfl,.inr (L2.SqT.of ?hat),?nxt⟩;(case hat=>walk_at "at"))
 | (refine' L2.alloc fun _ _ _ _=>?nxt))
local macro_rules | `(tactic| walk_at "rd")=>`(tactic| repeat (walk_at "r1"))
namespace K28
open PySem PySem.Spec L2 Mth Sp1 Sp2 Sp11 Sp7 Sp24 Sp5 Sp6 Dr Wk Sk Fz Pas
def top(i:Nat):Stmt:=Challenge.pw_oneleash_k28_no_leash.main.body.getD i (.Pass ⟨0,0,0,0⟩)
def vC(i j:Nat):Stmt:=match top i with
 | .ClassDef _ _ _ b _ _ _ _ _ _ _=>b.getD j (.Pass ⟨0,0,0,0⟩)
 | x=>x
def je:List (Str×Nat):=[(Str.ofString "is_whole",9),(Str.ofString "common_divisor",10),(Str.ofString "plus",12),(Str.ofString "is_ratio",13),(Str.ofString "sign_of",15),(Str.ofString "signed_square",16),(Str.ofString "sign_with_root",17),(Str.ofString "sign_with_roots",18),(Str.ofString "root_order",19),(Str.ofString "floor_root",20),(Str.ofString "own_fraction",21),(Str.ofString "scaled_floor",22),(Str.ofString "below_all",23),(Str.ofString "shared_terms",24),(Str.ofString "fraction_of_terms",25),(Str.ofString "fraction_within",26),(Str.ofString "root_between",27),(Str.ofString "look_at_square",31),(Str.ofString "leash_order",32),(Str.ofString "reach_of",33),(Str.ofString "part_within",34),(Str.ofString "last_of",36),(Str.ofString "with_a_stretch",40),(Str.ofString "doors_of",41),(Str.ofString "far_corners",42),(Str.ofString "begins_fence",44),(Str.ofString "ends_fence",45),(Str.ofString "pair_at_corner",46),(Str.ofString "part_from",47),(Str.ofString "pair_in_door",48),(Str.ofString "place_on",49),(Str.ofString "pairs_on",50),(Str.ofString "row_to",52),(Str.ofString "seek",53),(Str.ofString "gap_between",55),(Str.ofString "steps_down",56),(Str.ofString "steps_over",57),(Str.ofString "steps_back",58),(Str.ofString "steps_from",59),(Str.ofString "pairs_of_bend",60),(Str.ofString "fence_past",61),(Str.ofString "doors_at_begin",63),(Str.ofString "door_out",64),(Str.ofString "pass_through",65),(Str.ofString "doors_reached",66),(Str.ofString "doors_at_end",67),(Str.ofString "may_keep",68),(Str.ofString "pairs_to",69),(Str.ofString "walk_through",70),(Str.ofString "go_by",72),(Str.ofString "go_on",73),(Str.ofString "go_part",74),(Str.ofString "_law_pool",76),(Str.ofString "_law_take",77),(Str.ofString "_law_corner",78),(Str.ofString "_law_line",79),(Str.ofString "_law_second",80),(Str.ofString "_law_no_square",81),(Str.ofString "_law_refused",82),(Str.ofString "law",83)]
def jd:List (Str×Nat×List V):=[(Str.ofString "ratio",11,[.int 1])]
def zi:List Str:=[Str.ofString "LeashError",Str.ofString "NoFence",Str.ofString "NoPlace",Str.ofString "NoRatio",Str.ofString "NoSquare",Str.ofString "NoWalk",Str.ofString "NoWay"]
def hNo:List Str:=[Str.ofString "ValueError",Str.ofString "abs",Str.ofString "bool",Str.ofString "enumerate",Str.ofString "int",Str.ofString "isinstance",Str.ofString "len",Str.ofString "list",Str.ofString "max",Str.ofString "min",Str.ofString "range",Str.ofString "reversed",Str.ofString "tuple"]
def vK:List (Str×List V):=[(Str.ofString "BEGIN",[.int 0,.int 0,.int 0,.int 1]),(Str.ofString "END",[.int 1,.int 0,.int 0,.int 1])]
def zn(K:W.Frag):List (Option (Option V)):=[(W.nsIn K mainGlobals "UPRIGHT").map (fun o=>o.map Hd.bareV),(W.nsIn K mainGlobals "LEVEL").map (fun o=>o.map Hd.bareV)]
def wZ:List (Option (Option V)):=[some (some (.int 0)),some (some (.int 1))]
def zm(K:W.Frag):List (Option (Option Value)):=[W.findIn K (.ref (Hd.cls K "Field")) "__setattr__",W.findIn K (.ref (Hd.cls K "Field")) "room",W.findIn K (.ref (Hd.cls K "Field")) "last",W.findIn K (.ref (Hd.cls K "Field")) "doors",W.findIn K (.ref (Hd.cls K "Field")) "far"]
def wY:List (Option (Option Value)):=[some (some (.builtin "object.__setattr__")),some none,some none,some none,some none]
def zk(K:W.Frag):List (Option Bool):=[Hd.exmR K (Hd.cls K "NoSquare") (Hd.cls K "LeashError"),Hd.kitR K (Hd.cls K "NoSquare") (Hd.cls K "NoSquare"),Hd.kitT K (Hd.cls K "NoSquare"),Hd.kitRs K (Hd.cls K "NoSquare") [(Hd.cls K "NoRatio"),(Hd.cls K "NoWay"),(Hd.cls K "NoPlace"),(Hd.cls K "NoWalk"),(Hd.cls K "NoFence")]]
def wX:List (Option Bool):=[some true,some true,some true,some false]
def zj(K:W.Frag):List (Bool):=[Hd.findR K (Hd.cls K "NoSquare") "__getattribute__",Hd.findR K (Hd.cls K "NoSquare") "__getattr__",Hd.findR K (Hd.cls K "NoSquare") "__class__"]
def wW:List (Bool):=[true,true,true]
def zf:List Str:=[Str.ofString "Field"]
def hMt:List (Str×Str×Str×Stmt):=[(Str.ofString "Field",Str.ofString "__init__",Str.ofString "Field.__init__",vC 43 0)]
def hTabs:List Str:=[Str.ofString "fence_past"]
def hF0(K:W.Frag):List (Option (Arguments×List Stmt×Scope×Value)):=je.map (fun p=>Hd.fnFact K p.1)
def hG0:List (Option (Arguments×List Stmt×Scope×Value)):=je.map (fun p=>some (aY (top p.2),aK (top p.2),am (top p.2),.none))
def hF1(K:W.Frag):List (Option (Arguments×List Stmt×Scope×List V))×Bool×Bool×List (Option (List V))×Bool×List (Option (Arguments×List Stmt×Scope×Value))×List (Option (Option V))×List (Option (Option Value))×List (Option Bool)×List (Bool):=(jd.map (fun p=>Hd.fnFactD K p.1),zi.all (Hd.excFact K),hNo.all (Hd.noFact K),vK.map (fun p=>Hd.tupFact K p.1),zf.all (Hd.ownFact K),hMt.map (fun p=>Hd.mtFact K p.1 p.2.1 p.2.2.1),zn K,zm K,zk K,zj K)
def hG1:List (Option (Arguments×List Stmt×Scope×List V))×Bool×Bool×List (Option (List V))×Bool×List (Option (Arguments×List Stmt×Scope×Value))×List (Option (Option V))×List (Option (Option Value))×List (Option Bool)×List (Bool):=(jd.map (fun p=>some (aY (top p.2.1),aK (top p.2.1),am (top p.2.1),p.2.2)),true,true,vK.map (fun p=>some p.2),true,hMt.map (fun p=>some (aY p.2.2.2,aK p.2.2.2,am p.2.2.2,.none)),wZ,wY,wX,wW)
def hF2(K0:W.Frag):Bool×Bool×Bool:=(hTabs.all (Hd.tabFact K0),Hd.bltFact (Hd.strip K0),Hd.apart (hTabs.map (Hd.tabP K0)))
def hG2:Bool×Bool×Bool:=(true,true,true)
def hFacts(K:W.Frag):(List (Option (Arguments×List Stmt×Scope×Value)))×(List (Option (Arguments×List Stmt×Scope×List V))×Bool×Bool×List (Option (List V))×Bool×List (Option (Arguments×List Stmt×Scope×Value))×List (Option (Option V))×List (Option (Option Value))×List (Option Bool)×List (Bool))×(Bool×Bool×Bool):=(hF0 (Hd.strip (K)),hF1 (Hd.strip (K)),hF2 (K))
def hGood:(List (Option (Arguments×List Stmt×Scope×Value)))×(List (Option (Arguments×List Stmt×Scope×List V))×Bool×Bool×List (Option (List V))×Bool×List (Option (Arguments×List Stmt×Scope×Value))×List (Option (Option V))×List (Option (Option Value))×List (Option Bool)×List (Bool))×(Bool×Bool×Bool):=(hG0,hG1,hG2)
def hView:Program:=W.view Challenge.pw_oneleash_k28_no_leash [83]
def hLoose:List Str:=[Str.ofString "LeashError",Str.ofString "NoRatio",Str.ofString "NoPlace",Str.ofString "NoWay",Str.ofString "NoWalk",Str.ofString "NoFence",Str.ofString "NoSquare",Str.ofString "is_whole",Str.ofString "common_divisor",Str.ofString "ratio",Str.ofString "plus",Str.ofString "is_ratio",Str.ofString "sign_of",Str.ofString "signed_square",Str.ofString "sign_with_root",Str.ofString "sign_with_roots",Str.ofString "root_order",Str.ofString "floor_root",Str.ofString "own_fraction",Str.ofString "scaled_floor",Str.ofString "below_all",Str.ofString "shared_terms",Str.ofString "fraction_of_terms",Str.ofString "fraction_within",Str.ofString "root_between",Str.ofString "BEGIN",Str.ofString "END",Str.ofString "look_at_square",Str.ofString "leash_order",Str.ofString "reach_of",Str.ofString "part_within",Str.ofString "last_of",Str.ofString "UPRIGHT",Str.ofString "LEVEL",Str.ofString "with_a_stretch",Str.ofString "doors_of",Str.ofString "far_corners",Str.ofString "Field",Str.ofString "begins_fence",Str.ofString "ends_fence",Str.ofString "pair_at_corner",Str.ofString "part_from",Str.ofString "pair_in_door",Str.ofString "place_on",Str.ofString "pairs_on",Str.ofString "row_to",Str.ofString "seek",Str.ofString "gap_between",Str.ofString "steps_down",Str.ofString "steps_over",Str.ofString "steps_back",Str.ofString "steps_from",Str.ofString "pairs_of_bend",Str.ofString "fence_past",Str.ofString "doors_at_begin",Str.ofString "door_out",Str.ofString "pass_through",Str.ofString "doors_reached",Str.ofString "doors_at_end",Str.ofString "may_keep",Str.ofString "pairs_to",Str.ofString "walk_through",Str.ofString "go_by",Str.ofString "go_on",Str.ofString "go_part",Str.ofString "_law_pool",Str.ofString "_law_take",Str.ofString "_law_corner",Str.ofString "_law_line",Str.ofString "_law_second",Str.ofString "_law_no_square",Str.ofString "_law_refused"]
noncomputable def hRunS(w:World):=(W.openEnds treeTable Challenge.pw_oneleash_k28_no_leash w 100000).map (fun s=>(W.openSeen hView hLoose (importedModules Challenge.pw_oneleash_k28_no_leash.main.body) (fun _=>true) true s,hF1 (Hd.strip (Hd.frag s.heap)),hF2 (Hd.frag s.heap)))
noncomputable def hEndS:=some ((W.openGood hView hLoose,hG1,hG2))
theorem hRunS_self:@hRunS = @hRunS:=rfl
theorem hEndS_self:@hEndS = @hEndS:=rfl
set_option maxHeartbeats 0 in
lay_quick K28.hRunS K28.hEndS
name_quick hRunSQ for K28.hRunS by K28.hRunS_self
name_quick hEndSQ for K28.hEndS by K28.hEndS_self
set_option maxHeartbeats 0 in
theorem vL(w:World):W.Fast.hRunSQ w=W.Fast.hEndSQ:=by kernel_rfl
theorem zg(w:World):hRunS w=hEndS:=(congrFun W.Fast.hRunSQ_eq w).trans ((vL w).trans W.Fast.hEndSQ_eq.symm)
noncomputable def hRun0(w:World):=(W.openEnds treeTable Challenge.pw_oneleash_k28_no_leash w 100000).map (fun s=>hF0 (Hd.strip (Hd.frag s.heap)))
noncomputable def hEnd0:=some (hG0)
theorem hRun0_self:@hRun0 = @hRun0:=rfl
theorem hEnd0_self:@hEnd0 = @hEnd0:=rfl
set_option maxHeartbeats 0 in
lay_quick K28.hRun0 K28.hEnd0
name_quick hRun0Q for K28.hRun0 by K28.hRun0_self
name_quick hEnd0Q for K28.hEnd0 by K28.hEnd0_self
set_option maxHeartbeats 0 in
theorem vM(w:World):W.Fast.hRun0Q w=W.Fast.hEnd0Q:=by kernel_rfl
theorem zh(w:World):hRun0 w=hEnd0:=(congrFun W.Fast.hRun0Q_eq w).trans ((vM w).trans W.Fast.hEnd0Q_eq.symm)
theorem zT(w:World):(W.openEnds treeTable Challenge.pw_oneleash_k28_no_leash w 100000).map (fun s=>(W.openSeen hView hLoose (importedModules Challenge.pw_oneleash_k28_no_leash.main.body) (fun _=>true) true s,hFacts (Hd.frag s.heap)))=some (W.openGood hView hLoose,hGood):=by
 have rS:(W.openEnds treeTable Challenge.pw_oneleash_k28_no_leash w 100000).map (fun s=>(W.openSeen hView hLoose (importedModules Challenge.pw_oneleash_k28_no_leash.main.body) (fun _=>true) true s,hF1 (Hd.strip (Hd.frag s.heap)),hF2 (Hd.frag s.heap)))=some ((W.openGood hView hLoose,hG1,hG2)):=zg w;have r0:(W.openEnds treeTable Challenge.pw_oneleash_k28_no_leash w 100000).map (fun s=>hF0 (Hd.strip (Hd.frag s.heap)))=some (hG0):=zh w
 skip
 generalize (W.openEnds treeTable Challenge.pw_oneleash_k28_no_leash w 100000)=x at *;cases x with
 | none=>cases rS
 | some s =>
  have zS:=Option.some.inj rS;have z0:=Option.some.inj r0;show some (W.openSeen hView hLoose (importedModules Challenge.pw_oneleash_k28_no_leash.main.body) (fun _=>true) true s,hFacts (Hd.frag s.heap))=_;unfold hFacts hGood;have z:=(congrArg Prod.fst zS);have q1:=(congrArg Prod.fst (congrArg Prod.snd zS));have q2:=(congrArg Prod.snd (congrArg Prod.snd zS));have q0:=z0;exact congrArg some (Hd.pair2 z (Hd.pair2 q0 (Hd.pair2 q1 q2)))
structure Txt(mg:Str->Option Value):Prop where
 z_ValueError:mg "ValueError" = none
 z_abs:mg "abs" = none
 z_bool:mg "bool" = none
 z_enumerate:mg "enumerate" = none
 z_int:mg "int" = none
 z_isinstance:mg "isinstance" = none
 z_len:mg "len" = none
 z_list:mg "list" = none
 z_max:mg "max" = none
 z_min:mg "min" = none
 z_range:mg "range" = none
 z_reversed:mg "reversed" = none
 z_tuple:mg "tuple" = none
section
variable {P:Program} {w:World} {K:W.Frag} {mg:Str->Option Value} {base:Heap} {C_Field:Addr}
theorem d9{α:Type}{xs:List α}(h:xs.length=1):∃a,xs = [a]:=match xs,h with | [a],_=>⟨a,rfl⟩
theorem di(i j:Int):decide (V.int i=V.int j)=decide (i=j):=Fnc.di i j
theorem fF{x:Int}(h:Sm x):aq x≤50:=by
 have h':-999999999999≤x∧x≤999999999999:=h;exact cB (n:=50) (by show _<1125899906842624;omega)
theorem smk{N M:List Str}{c:Scope}(a:c.kind=.function:=by rfl)(b:c.isCoroutine=false:=by rfl)(d:c.isGenerator=false:=by rfl)(e:N.Nodup:=by decide +kernel)(f:N.take M.length=M:=by rfl)(g:∀x∈M,c.names.lookup x=some .local∨c.names.lookup x=some .cell:=by decide +kernel)(h:∀y∈c.names,y.2≠.free:=by decide +kernel):zZ N M c:=⟨a,b,d,e,f,g,h⟩
theorem EQ:zZ ["thing"] ["thing"] (am (top 9)):=smk
theorem nM(Dq:Df K mg "is_whole" (top 9))(T:Txt mg):Fn P w K mg base "is_whole" ["thing"] 1 DR:=by
 refine Dq.fn EQ (fun _ _ _ _ _ _ us hl=>by obtain⟨_,rfl⟩:=d9 hl;rfl) (fun vs H Q E h=>?_) (fun f cdv A outer s H vs Q E hr h=>?_)
 ·obtain⟨x,t,rfl,_⟩:=h
  rfl
 ·obtain⟨x,t,rfl,k,q⟩:=h
  refine⟨_,(ak (ay (lQ (aT fu (by rfl) T.z_isinstance cj (ad (pv 0) (ad (pU T.z_int yj) ag))) (h8 (sQ (aT fu (by rfl) T.z_isinstance cj (ad (pv 0) (ad (pU T.z_bool v9) ag)))))))),?_⟩;refine⟨_,rfl,x,t,"int",rfl,k,.inl rfl,_,rfl,?_⟩;refine aR (fun hc=>?_) (fun hc=>?_)
  ·refine⟨_,rfl,x,t,"bool",rfl,k,.inr (.inl rfl),_,rfl,?_⟩
   rw[(kG k).1 hc];exact q
  ·rw[(kG k).2 hc]at q
   exact q
theorem Ak:zZ ["one","other","rest"] ["one","other"] (am (top 10)):=smk
theorem gS(Bl:Df K mg "common_divisor" (top 10))(T:Txt mg):Fn P w K mg base "common_divisor" ["one","other"] 1 E5:=by
 refine Bl.fn Ak (fun _ _ _ _ _ _ us hl=>by obtain⟨_,_,rfl⟩:=dw hl;rfl) (fun vs H Q E h=>?_) (fun f cdv A outer s H vs Q E hr h=>?_)
 ·obtain⟨a,b,rfl,_⟩:=h
  rfl
 ·obtain⟨a,b,rfl,q⟩:=h
  refine⟨_,(ai (ap (i:=0) Ak.nd rfl (Or.inl rfl) (aT fw (by rfl) T.z_abs jZ (ad (pv 0) ag))) (ai (ap (i:=1) Ak.nd rfl (Or.inl rfl) (aT fw (by rfl) T.z_abs jZ (ad (pv 1) ag))) (ai (dE PassesOwn.never (az kW (pv 1) af (aE _)) (ai (ap (i:=2) Ak.nd rfl (Or.inl rfl) (ao fT (pv 0) (pv 1))) (ai (ap (i:=0) Ak.nd rfl (Or.inl rfl) (pv 1)) (ak (ap (i:=1) Ak.nd rfl (Or.inl rfl) (pv 2)))))) (ak (ay (pv 0)))))),?_⟩;refine⟨_,rfl,a,rfl,_,rfl,b,rfl,?_⟩;refine dC (fun σ H'=>∃x y r,σ = [some (.int x),some (.int y),r]∧H'=H∧0≤x∧0≤y∧Int.gcd x y=Int.gcd a b)
   (fun σ _=>match σ with | [_,some (.int y),_]=>y.toNat|_=>0) ⟨_,_,_,rfl,rfl,j4 a,j4 b,by rw[qh,ue]⟩ ?_ ?_
  ·rintro σ H' ⟨x,y,r,rfl,rfl,hx,hy,hg⟩
   refine⟨_,rfl,rfl,_,rfl,?_⟩;refine aR (fun hc=>?_) (fun hc=>?_)
   ·have hy0:¬y=0:=by simpa using hc
    have hy1:0<y:=by omega
    refine⟨_,rfl,_,rfl,x,y,rfl,rfl,hy1,_,rfl,_,rfl,⟨y,x % y,_,rfl,rfl,hy,Int.emod_nonneg _ hy0,?_⟩,?_⟩
    ·rw[tZ hx hy1]
     exact hg
    ·have h1:=Int.emod_lt_of_pos x hy1
     have h2:=Int.emod_nonneg x hy0;show(x % y).toNat<y.toNat;omega
   ·have hy0:y=0:=by simpa using hc
    subst hy0;refine⟨_,rfl,?_⟩;have e:(Int.gcd a b:Int)=x:=by rw[<- hg];exact gcd_zero hx
    rw[e]at q;exact q
  ·rintro σ H' Q1 Q2 hq ⟨v,e,hs,k,ek,r⟩
   exact⟨v,e,hs,k,ek,hq _ _ r⟩
theorem Er:zZ ["top","bottom","divisor"] ["top","bottom"] (am (top 11)):=smk
theorem uq{C:Addr}(Ey:Gs K mg "ratio" (top 11) [.int 1])(Ao:Bq K mg "NoRatio" C)(AG:Fn P w K mg base "is_whole" ["thing"] 1 DR)(Am:Fn P w K mg base "common_divisor" ["one","other"] 1 E5):Fx P w K mg base "ratio" ["top","bottom"] 2 [.int 1] (CP C):=by
 refine Ey.fx Er (fun T kV doc pm an cdv ct us its oT n s hv hl ho hs=>?_) (fun T kV doc pm an cdv ct us its oT n s hv hl ho hs=>?_) (fun vs H Q E h=>?_) (fun f cdv A outer s H vs Q E hr h=>?_)
 ·obtain⟨u,rfl,_⟩:=kJ hv
  match us,hl with
  | [_,_],_=>exact BindsTo.of_defaults rfl ho hs rfl rfl
 ·obtain⟨u,rfl,_⟩:=kJ hv
  have hl1:us.length=1:=by simpa using hl
  match us,hl1 with
  | [_],_=>exact BindsTo.of_defaults rfl ho hs rfl rfl
 ·obtain⟨a,b,nb,rfl,_⟩:=h
  rfl
 ·obtain⟨a,b,nb,rfl,⟨ba,bb,hnb⟩,k0,k1⟩:=h
  refine⟨_,(ai (aL (eT (d6 (cW (aA AG (hr.mono (by decide)) (by rfl) (ad (pv 0) ag)))) (eT (d6 (cW (aA AG (hr.mono (by decide)) (by rfl) (ad (pv 1) ag)))) (eS (az bS (pv 1) af (aE _))))).pt (ak (gG Ao (by rfl))) aF) (ai (ap (i:=2) Er.nd rfl (Or.inl rfl) (aA Am (hr.mono (by decide)) (by rfl) (ad (pv 0) (ad (pv 1) ag)))) (ai (aL (az dn (pv 1) af (aE _)) (ak (ap (i:=2) Er.nd rfl (Or.inl rfl) (dO da (pv 2)))) aF) (ak (ay (hZ (ad (ao mS (pv 0) (pv 2)) (ad (ao mS (pv 1) (pv 2)) ag)))))))),?_⟩;refine⟨_,rfl,_,_,rfl,.int a,_,rfl,ig ?_⟩;refine⟨_,rfl,_,_,rfl,.int b,_,rfl,ig ?_⟩;refine⟨_,rfl,rfl,_,rfl,?_⟩;refine aR (fun hc=>?_) (fun hc=>?_)
  ·exact k0 (by simpa using hc)
  ·have hb:b≠0:=by simpa using hc
   have hg:=l8 (a:=a) (b:=b) hb;have bg:aq (Int.gcd a b:Int)≤8000:=ar (rm hb bb) (by omega);refine⟨_,rfl,_,rfl,a,b,rfl,?_⟩;refine⟨_,rfl,_,_,rfl,rfl,_,rfl,?_⟩;refine aR (fun hd=>?_) (fun hd=>?_)
   ·have hlt:b<0:=by simpa using hd
    refine⟨_,rfl,_,rfl,?_⟩;refine⟨_,rfl,_,rfl,_,_,rfl,rfl,⟨by omega,bits_neg bg⟩,_,rfl,_,rfl,_,_,rfl,rfl,⟨by omega,bits_neg bg⟩,sz (by simp),fun p hp=>?_⟩;exact k1 hb p _ _ (k9 hb _ (by rw[if_pos hlt])) (fM ba) (fM bb) hp
   ·have hlt:¬b<0:=by simpa using hd
    refine⟨_,rfl,_,rfl,_,_,rfl,rfl,⟨by omega,bg⟩,_,rfl,_,rfl,_,_,rfl,rfl,⟨by omega,bg⟩,sz (by simp),fun p hp=>?_⟩;exact k1 hb p _ _ (k9 hb _ (by rw[if_neg hlt])) (fM ba) (fM bb) hp
theorem Fa:zZ ["number"] ["number"] (am (top 15)):=smk
theorem oQ(DH:Df K mg "sign_of" (top 15)):Fn P w K mg base "sign_of" ["number"] 1 C8:=by
 refine DH.fn Fa (fun _ _ _ _ _ _ us hl=>by obtain⟨_,rfl⟩:=d9 hl;rfl) (fun vs H Q E h=>?_) (fun f cdv A outer s H vs Q E hr h=>?_)
 ·obtain⟨n,rfl,_⟩:=h
  rfl
 ·obtain⟨n,rfl,q⟩:=h
  refine⟨_,(ai (aL (az pW (pv 0) af (aE _)) (ak (ay af)) aF) (ai (aL (az dn (pv 0) af (aE _)) (ak (ay (dO da af))) aF) (ak (ay af)))),?_⟩;unfold sg at q;refine⟨_,rfl,_,_,rfl,rfl,_,rfl,aR (fun h1=>?_) (fun h1=>?_)⟩
  ·rw[if_pos (by simpa using h1)]at q
   exact q
  ·rw[if_neg (by simpa using h1)]at q
   refine⟨_,rfl,_,_,rfl,rfl,_,rfl,aR (fun h2=>?_) (fun h2=>?_)⟩
   ·rw[if_pos (by simpa using h2)]at q
    exact⟨_,rfl,q⟩
   ·rw[if_neg (by simpa using h2)]at q
    exact q
inductive Ee (vs:List V) (H:Hp) (Q:VK) (x_3:XK):Prop
 | mk:∀n:Int,(vs = [.int n])->(aq n≤160000)->(Q (.int (ssq n)) H)->Ee vs H Q x_3
inductive EI (vs:List V) (H:Hp) (Q:VK) (x_3:XK):Prop
 | mk:∀w p u:Int,(vs = [.int w,.int p,.int u])->((aq w≤64000∧aq p≤64000∧aq u≤64000))->(Q (.int (swr w p u)) H)->EI vs H Q x_3
inductive Ed (vs:List V) (H:Hp) (Q:VK) (x_3:XK):Prop
 | mk:∀w p u s b:Int,(vs = [.int w,.int p,.int u,.int s,.int b])->((aq w≤8000∧aq p≤8000∧aq u≤8000∧aq s≤8000∧aq b≤8000))->(Q (.int (bV w p u s b)) H)->Ed vs H Q x_3
structure GH(K:W.Frag)(H:Hp)(p:Addr)(a0 a1 a2 a3:Int):Prop where
 at_:SqT K H p [.int a0,.int a1,.int a2,.int a3]
 b0:aq a0≤3600
 b1:aq a1≤3600
 b2:aq a2≤8000
 b3:aq a3≤3600
inductive EZ (K:W.Frag) (vs:List V) (H:Hp) (Q:VK) (x_3:XK):Prop
 | mk:∀(p q:Addr) (a0 a1 a2 a3 b0 b1 b2 b3:Int),(vs = [.ref p,.ref q])->(GH K H p a0 a1 a2 a3)->(GH K H q b0 b1 b2 b3)->(Q (.int (ro a0 a1 a2 a3 b0 b1 b2 b3)) H)->EZ K vs H Q x_3
theorem DO:zZ ["number"] ["number"] (am (top 16)):=smk
theorem ii(Bw:Df K mg "signed_square" (top 16))(T:Txt mg):Fn P w K mg base "signed_square" ["number"] 1 Ee:=by
 refine Bw.fn DO (fun _ _ _ _ _ _ us hl=>by obtain⟨_,rfl⟩:=d9 hl;rfl) (fun vs H Q E h=>?_) (fun f cdv A outer s H vs Q E hr h=>?_)
 ·obtain⟨n,rfl,_⟩:=h
  rfl
 ·obtain⟨n,rfl,bn,q⟩:=h
  refine⟨_,(ak (ay (ao aB (pv 0) (aT fw (by rfl) T.z_abs jZ (ad (pv 0) ag))))),?_⟩;exact⟨_,rfl,_,rfl,_,rfl,_,_,rfl,rfl,CM.b bn (bits_abs bn) (by decide) (by decide),q⟩
theorem DC:zZ ["whole","part","under"] ["whole","part","under"] (am (top 17)):=smk
theorem gO(Bg:Df K mg "sign_with_root" (top 17))(Af:Fn P w K mg base "sign_of" ["number"] 1 C8)(Ah:Fn P w K mg base "signed_square" ["number"] 1 Ee):Fn P w K mg base "sign_with_root" ["whole","part","under"] 2 EI:=by
 refine Bg.fn DC (fun _ _ _ _ _ _ us hl=>by obtain⟨_,_,_,rfl⟩:=iL hl;rfl) (fun vs H Q E h=>?_) (fun f cdv A outer s H vs Q E hr h=>?_)
 ·obtain⟨a,p,u,rfl,_⟩:=h
  rfl
 ·obtain⟨a,p,u,rfl,⟨ba,bp,bu⟩,q⟩:=h
  refine⟨_,(ak (ay (aA Af (hr.mono (by decide)) (by rfl) (ad (ao aP (aA Ah (hr.mono (by decide)) (by rfl) (ad (pv 0) ag)) (ao aB (aA Ah (hr.mono (by decide)) (by rfl) (ad (pv 1) ag)) (pv 2))) ag)))),?_⟩;exact⟨_,rfl,a,rfl,ar ba (by decide),_,rfl,p,rfl,ar bp (by decide),_,rfl,_,_,rfl,rfl,CM.b (jt bp) bu (by decide) (by decide),_,_,rfl,rfl,_,rfl,q⟩
theorem AV:zZ ["whole","part","under","share","below","roots","even"] ["whole","part","under","share","below"] (am (top 18)):=smk
theorem fZ(A4:Df K mg "sign_with_roots" (top 18))(Af:Fn P w K mg base "sign_of" ["number"] 1 C8)(Ah:Fn P w K mg base "signed_square" ["number"] 1 Ee)(A9:Fn P w K mg base "sign_with_root" ["whole","part","under"] 2 EI):Fn P w K mg base "sign_with_roots" ["whole","part","under","share","below"] 3 Ed:=by
 refine A4.fn AV (fun _ _ _ _ _ _ us hl=>by obtain⟨_,_,_,_,_,rfl⟩:=vF hl;rfl) (fun vs H Q E h=>?_) (fun f cdv A outer s H vs Q E hr h=>?_)
 ·obtain⟨a,p,u,c,b,rfl,_⟩:=h
  rfl
 ·obtain⟨a,p,u,c,b,rfl,⟨ba,bp,bu,bc,bb⟩,q⟩:=h
  refine⟨_,(ai (ap (i:=5) AV.nd rfl (Or.inl rfl) (aA Af (hr.mono (by decide)) (by rfl) (ad (ao aP (ao aB (aA Ah (hr.mono (by decide)) (by rfl) (ad (pv 1) ag)) (pv 2)) (ao aB (aA Ah (hr.mono (by decide)) (by rfl) (ad (pv 3) ag)) (pv 4))) ag))) (ai (aL (az kX (ao aB (aA Af (hr.mono (by decide)) (by rfl) (ad (pv 0) ag)) (pv 5)) af (aE _)) (ak (ay (aA Af (hr.mono (by decide)) (by rfl) (ad (ao aP (aA Af (hr.mono (by decide)) (by rfl) (ad (pv 0) ag)) (pv 5)) ag)))) aF) (ai (ap (i:=6) AV.nd rfl (Or.inl rfl) (ao aO (ao aO (ao aB (pv 0) (pv 0)) (ao aB (ao aB (pv 1) (pv 1)) (pv 2))) (ao aB (ao aB (pv 3) (pv 3)) (pv 4)))) (ak (ay (ao aB (aA Af (hr.mono (by decide)) (by rfl) (ad (pv 0) ag)) (aA A9 (hr.mono (by decide)) (by rfl) (ad (pv 6) (ad (ao aB (ao aB (dO da af) (pv 1)) (pv 3)) (ad (ao aB (pv 2) (pv 4)) ag)))))))))),?_⟩;refine⟨_,rfl,p,rfl,ar bp (by decide),_,rfl,_,_,rfl,rfl,CM.b (jt bp) bu (by decide) (by decide),_,rfl,c,rfl,ar bc (by decide),_,rfl,_,_,rfl,rfl,CM.b (jt bc) bb (by decide) (by decide),_,_,rfl,rfl,_,rfl,?_⟩;unfold bV at q;refine⟨_,rfl,a,rfl,_,rfl,_,_,rfl,rfl,CM.b (i8 _) (i8 _) (by decide) (by decide),_,_,rfl,rfl,_,rfl,aR (fun h1=>?_) (fun h1=>?_)⟩
  ·rw[if_pos (by simpa using h1)]at q
   exact⟨_,rfl,a,rfl,_,rfl,_,_,rfl,rfl,_,rfl,q⟩
  ·rw[if_neg (by simpa using h1)]at q
   have m2:∀{i j:Int},aq i≤8000->aq j≤8000->aq (i*j)≤16000:=fun hi hj=>bits_mul hi hj;have m3:∀{i j:Int},aq i≤16000->aq j≤8000->aq (i*j)≤24000:=fun hi hj=>bits_mul hi hj;have cm:∀{i j:Int},aq i≤40000->aq j≤40000->CM i j:=fun hi hj=>CM.b hi hj (by decide) (by decide);have w:∀{i:Int} {m:Nat},aq i≤m->m≤40000->aq i≤40000:=fun h hm=>ar h hm;have ba':=w ba (by decide);have bp':=w bp (by decide);have bc':=w bc (by decide);have bu':=w bu (by decide);have bb':=w bb (by decide);refine⟨_,rfl,_,rfl,_,_,rfl,rfl,cm ba' ba',_,rfl,_,rfl,_,_,rfl,rfl,cm bp' bp',_,rfl,_,_,rfl,rfl,cm (w (m2 bp bp) (by decide)) bu',_,_,rfl,rfl,_,rfl,_,rfl,_,_,rfl,rfl,cm bc' bc',_,rfl,_,_,rfl,rfl,cm (w (m2 bc bc) (by decide)) bb',_,_,rfl,rfl,?_⟩;have b2:aq (-2:Int)≤8000:=ar (eC (by decide) (by decide)) (by decide);have be:aq (a*a - p*p*u - c*c*b)≤64000:=ar (ce (n:=24001) (ce (n:=24000) (ar (m2 ba ba) (by decide)) (m3 (m2 bp bp) bu)) (ar (m3 (m2 bc bc) bb) (by decide))) (by decide);refine⟨_,rfl,a,rfl,_,rfl,_,rfl,_,rfl,_,_,rfl,rfl,cm (w b2 (by decide)) bp',_,rfl,_,_,rfl,rfl,cm (w (m2 b2 bp) (by decide)) bc',_,rfl,_,rfl,_,_,rfl,rfl,cm bu' bb',_,_,_,rfl,⟨be,ar (m3 (m2 b2 bp) bc) (by decide),ar (m2 bu bb) (by decide)⟩,_,_,rfl,rfl,?_,q⟩;exact CM.l (by have:=jx a;exact wR (by omega) (by omega))
theorem Dw:zZ ["one","other","whole"] ["one","other"] (am (top 19)):=smk
theorem xY(CA:Df K mg "root_order" (top 19))(AY:Fn P w K mg base "sign_with_roots" ["whole","part","under","share","below"] 3 Ed):Fn P w K mg base "root_order" ["one","other"] 4 (EZ K):=by
 refine CA.fn Dw (fun _ _ _ _ _ _ us hl=>by obtain⟨_,_,rfl⟩:=dw hl;rfl) (fun vs H Q E h=>?_) (fun f cdv A outer s H vs Q E hr h=>?_)
 ·obtain⟨p,q,a0,a1,a2,a3,b0,b1,b2,b3,rfl,_⟩:=h
  rfl
 ·obtain⟨p,q,a0,a1,a2,a3,b0,b1,b2,b3,rfl,ra,rb,k⟩:=h
  have cm:∀{i j:Int},aq i≤3600->aq j≤3600->CM i j:=fun hi hj=>CM.b hi hj (by decide) (by decide);have m2:∀{i j:Int},aq i≤3600->aq j≤3600->aq (i*j)≤7200:=fun hi hj=>bits_mul hi hj;refine⟨_,(ai (ap (i:=2) Dw.nd rfl (Or.inl rfl) (ao aO (ao aB (aw au (pv 0) af (fun _ _=>rfl)) (aw au (pv 1) af (fun _ _=>rfl))) (ao aB (aw au (pv 1) af (fun _ _=>rfl)) (aw au (pv 0) af (fun _ _=>rfl))))) (ak (ay (aA AY (hr.mono (by decide)) (by rfl) (ad (pv 2) (ad (ao aB (aw au (pv 0) af (fun _ _=>rfl)) (aw au (pv 1) af (fun _ _=>rfl))) (ad (aw au (pv 0) af (fun _ _=>rfl)) (ad (ao aB (dO da (aw au (pv 1) af (fun _ _=>rfl))) (aw au (pv 0) af (fun _ _=>rfl))) (ad (aw au (pv 1) af (fun _ _=>rfl)) ag))))))))),?_⟩;refine⟨_,rfl,p,_,_,_,rfl,rfl,ra.at_,rfl,_,rfl,q,_,_,_,rfl,rfl,rb.at_,rfl,_,_,rfl,rfl,cm ra.b0 rb.b3,_,rfl,q,_,_,_,rfl,rfl,rb.at_,rfl,_,rfl,p,_,_,_,rfl,rfl,ra.at_,rfl,_,_,rfl,rfl,cm rb.b0 ra.b3,_,_,rfl,rfl,?_⟩;refine⟨_,rfl,_,rfl,p,_,_,_,rfl,rfl,ra.at_,rfl,_,rfl,q,_,_,_,rfl,rfl,rb.at_,rfl,_,_,rfl,rfl,cm ra.b1 rb.b3,_,rfl,p,_,_,_,rfl,rfl,ra.at_,rfl,_,rfl,q,_,_,_,rfl,rfl,rb.at_,rfl,_,rfl,_,rfl,p,_,_,_,rfl,rfl,ra.at_,rfl,_,_,rfl,rfl,cm (bits_neg rb.b1) ra.b3,_,rfl,q,_,_,_,rfl,rfl,rb.at_,rfl,?_⟩;exact⟨_,_,_,_,_,rfl,⟨ar (ce (m2 ra.b0 rb.b3) (m2 rb.b0 ra.b3)) (by decide),ar (m2 ra.b1 rb.b3) (by decide),ar ra.b2 (by decide),ar (m2 (bits_neg rb.b1) ra.b3) (by decide),ar rb.b2 (by decide)⟩,k⟩
theorem ki(F:Fn P w K mg base "root_order" ["one","other"] 4 (EZ K)):Fn P w K mg base "root_order" ["one","other"] 4 (EJ K):=by
 obtain⟨f,fd,o,h1,h2,h3,h4,h5⟩:=F.ex;refine⟨f,fd,o,h1,h2,h3,h4,h5.imp fun vs H Q E h=>?_⟩;obtain⟨p,q,a0,a1,a2,a3,b0,b1,b2,b3,e,ra,rb,k⟩:=h;exact⟨p,q,a0,a1,a2,a3,b0,b1,b2,b3,e,⟨ra.at_,ar ra.b0 (by decide),ar ra.b1 (by decide),ar ra.b2 (by decide),ar ra.b3 (by decide)⟩,⟨rb.at_,ar rb.b0 (by decide),ar rb.b1 (by decide),ar rb.b2 (by decide),ar rb.b3 (by decide)⟩,k⟩
theorem xI{n f:Int}(hn:0≤n)(hf:0<f):n<((f+n / f) / 2+1)*((f+n / f) / 2+1)∧(n<f*f->(f+n / f) / 2<f)∧0≤(f+n / f) / 2:=by
 have q0:0≤n / f:=Int.ediv_nonneg hn (by omega);have q1:n<(n / f+1)*f:=Int.lt_ediv_add_one_mul_self n hf;refine⟨?_,fun h=>?_,by omega⟩
 ·generalize eg:(f+n / f) / 2=g
  have h2:f+(n / f+1)≤2*(g+1):=by omega
  have s1:=a8 (x:=f+(n / f+1)) (y:=2*(g+1)) (by omega) h2;have e1:2*(g+1)*(2*(g+1))=4*((g+1)*(g+1)):=by grind
  have e2:(f+(n / f+1))*(f+(n / f+1))=4*((n / f+1)*f)+(f - (n / f+1))*(f - (n / f+1)):=by grind
  have e3:0≤(f - (n / f+1))*(f - (n / f+1)):=by
   rcases Int.le_total 0 (f - (n / f+1)) with g0|g0
   ·exact Int.mul_nonneg g0 g0
   ·exact Int.mul_nonneg_of_nonpos_of_nonpos g0 g0
  omega
 ·have:n / f<f:=Int.ediv_lt_of_lt_mul hf h
  omega
theorem ox{n:Int}(hn:0≤n):n<((1:Int)*2^((((aq n:Nat):Int)+1) / 2).toNat+1)*((1:Int)*2^((((aq n:Nat):Int)+1) / 2).toNat+1)∧0<(1:Int)*2^((((aq n:Nat):Int)+1) / 2).toNat:=by
 generalize ek:((((aq n:Nat):Int)+1) / 2).toNat=k;have hk:aq n≤k+k:=by omega
 have h1:=cp hk;have hp:(0:Int)<2^k:=Int.pow_pos (by decide);have e1:((2:Int)^k)*2^k=((2^(k+k):Nat):Int):=by rw[<- Int.pow_add];norm_cast
 rw[Int.one_mul];refine⟨?_,hp⟩;have e2:((2:Int)^k+1)*(2^k+1)=2^k*2^k+2*2^k+1:=by grind
 have h2:n<((2^(k+k):Nat):Int):=by omega
 omega
inductive Eg (vs:List V) (H:Hp) (Q:VK) (x_3:XK):Prop
 | mk:∀n:Int,(vs = [.int n])->(0≤n)->(aq n≤15000)->(∀r:Int,A8 1 n r->Q (.int r) H)->Eg vs H Q x_3
theorem gA(x:Int):ssq (-x) = -ssq x:=by
 rcases Int.lt_trichotomy x 0 with h|h|h
 ·rw[cQ h,cD (x:=-x) (by omega)];grind
 ·subst h;rfl
 ·rw[cD (x:=x) (by omega),cQ (x:=-x) (by omega)];grind
theorem g6(w m u n l:Int):bV (-w) n l (-m) u = -bV w m u (-n) l:=by
 unfold bV swr;rw[gA m,gA n,cH w,show ssq n*l + -ssq m*u = -(ssq m*u + -ssq n*l) by grind,cH (ssq m*u + -ssq n*l),Int.neg_mul_neg,show -w * -w - n*n*l - -m * -m*u=w*w - m*m*u - -n * -n*l by grind,show -2*n * -m = -2*m * -n by grind,Int.mul_comm l u]
 by_cases g:sg w*sg (ssq m*u + -ssq n*l)≥0
 ·rw[if_pos g,if_pos g,show -sg w + -sg (ssq m*u + -ssq n*l) = -(sg w+sg (ssq m*u + -ssq n*l)) by omega,cH]
 ·rw[if_neg g,if_neg g,Int.neg_mul]
theorem dh(a0 a1 a2 a3 b0 b1 b2 b3:Int):ro b0 b1 b2 b3 a0 a1 a2 a3=0 - ro a0 a1 a2 a3 b0 b1 b2 b3:=by
 unfold ro;have h:=g6 (a0*b3 - b0*a3) (a1*b3) a2 (b1*a3) b2;rw[Int.neg_mul a1 b3,Int.neg_mul b1 a3,show b0*a3 - a0*b3 = -(a0*b3 - b0*a3) by omega,h];omega
theorem oC{n:Int}(hn:0≤n)(h:aq n≤15000):aq ((1:Int)*2^((((aq n:Nat):Int)+1) / 2).toNat)≤7502:=by
 refine cB ?_;generalize ek:((((aq n:Nat):Int)+1) / 2).toNat=k;have hk:k≤7501:=by omega
 rw[Int.one_mul,Int.natAbs_pow];show 2^k<2^7502;exact Nat.pow_lt_pow_right (by decide) (by omega)
theorem Cg:zZ ["number","guess"] ["number"] (am (top 20)):=smk
theorem km(CI:Df K mg "floor_root" (top 20)):Fn P w K mg base "floor_root" ["number"] 1 Eg:=by
 refine CI.fn Cg (fun _ _ _ _ _ _ us hl=>by obtain⟨_,rfl⟩:=d9 hl;rfl) (fun vs H Q E h=>?_) (fun f cdv A outer s H vs Q E hr h=>?_)
 ·obtain⟨n,rfl,_⟩:=h
  rfl
 ·obtain⟨n,rfl,hn,bn,q⟩:=h
  refine⟨_,(ai (ap (i:=1) Cg.nd rfl (Or.inl rfl) (ao sV af (ao dP (ao aP (oG PySem.F.plainAttrs_int PySem.F.slot_int_bit_length PySem.F.type_int_bit_length qT (pv 0)) af) af))) (ai (dE PassesOwn.never (az pW (ao aB (pv 1) (pv 1)) (pv 0) (aE _)) (ak (ap (i:=1) Cg.nd rfl (Or.inl rfl) (ao dP (ao aP (pv 1) (ao dP (pv 0) (pv 1))) af)))) (ak (ay (pv 1))))),?_⟩;have st:=ox hn;have sb:=oC hn bn;refine⟨_,rfl,rfl,n,rfl,rfl,_,_,rfl,rfl,_,_,rfl,rfl,⟨by decide,by decide⟩,_,_,rfl,rfl,⟨Int.ediv_nonneg (by omega) (by decide),?_,by decide⟩,?_⟩
  ·show(((aq n:Nat):Int)+1) / 2≤1000000
   omega
  refine dC (fun σ H'=>∃f:Int,σ = [some (.int n),some (.int f)]∧H'=H∧0≤f∧n<(f+1)*(f+1)∧aq f≤7502)
   (fun σ _=>match σ with | [_,some (.int f)]=>f.toNat|_=>0) ⟨_,rfl,rfl,by omega,st.1,sb⟩ ?_ ?_
  ·rintro σ H' ⟨f,rfl,rfl,hf,hlt,bf⟩
   refine⟨_,rfl,_,rfl,_,_,rfl,rfl,CM.b bf bf (by decide) (by decide),_,rfl,_,_,rfl,rfl,_,rfl,aR (fun hc=>?_) (fun hc=>?_)⟩
   ·have hc:n<f*f:=bz hc
    have hf0:0<f:=by
     rcases Int.lt_or_eq_of_le hf with h|h
     ·exact h
     ·rw[<- h]at hc;simp at hc;omega
    obtain⟨k1,k2,k3⟩:=xI hn hf0;refine⟨_,rfl,_,rfl,_,rfl,_,_,rfl,rfl,⟨hf0,ar bf (by decide)⟩,_,_,rfl,rfl,_,_,rfl,rfl,⟨by decide,by decide⟩,⟨(f+n / f) / 2,rfl,rfl,k3,k1,gh k3 (Int.le_of_lt (k2 hc)) bf⟩,?_⟩;have:=k2 hc;show((f+n / f) / 2).toNat<f.toNat;omega
   ·have hc:¬n<f*f:=bU hc
    refine⟨_,rfl,q f ⟨hf,by omega,by omega⟩⟩
  ·rintro σ H' Q1 Q2 hq ⟨v,e,v2,e2,i,j,e3,e4,cm,v3,e5,i2,j2,e6,e7,k,ek,r⟩
   exact⟨v,e,v2,e2,i,j,e3,e4,cm,v3,e5,i2,j2,e6,e7,k,ek,hq _ _ r⟩
inductive EY (K:W.Frag) (vs:List V) (H:Hp) (Q:VK) (x_3:XK):Prop
 | mk:∀(p:Addr) (a0 a1 a2 a3 sc:Int) (n kk k2:Nat),(vs = [.ref p,.int sc])->(Rt K H p a0 a1 a2 a3)->((0≤a2∧0<a3))->((0<sc∧aq sc≤n))->((n≤4100∧aq a0≤kk∧aq a1≤kk∧aq a2≤2*k2∧kk≤450∧k2≤500))->(∀F,SF a0 a1 a2 a3 sc F->aq F≤n+kk+k2+5->Q (.int F) H)->EY K vs H Q x_3
inductive Fy (K:W.Frag) (vs:List V) (H:Hp) (Q:VK) (x_3:XK):Prop
 | mk:∀(p:Addr) (a0 a1 a2 a3 sc:Int) (n kk k2:Nat),(vs = [.ref p,.int sc])->(Rt K H p a0 a1 a2 a3)->((0≤a2∧0<a3))->((0<sc∧aq sc≤n))->((n≤4100∧aq a0≤kk∧aq a1≤kk∧aq a2≤2*k2∧kk≤450∧k2≤500))->(∀F H',SF (-a0) (-a1) a2 a3 sc F->aq F≤n+kk+k2+5->Same H H'->Q (.int (-F - 1)) H')->Fy K vs H Q x_3
theorem mH{n R:Int}{m:Nat}(r:A8 1 n R)(h:aq n≤2*m):aq R≤m+1:=by
 have h1:=cp h;have lo:=r.lo;have nn:=r.nn;rw[Int.one_mul]at lo;refine cB ?_;refine Classical.byContradiction fun g=>?_;have g1:2^(m+1)≤R.natAbs:=by omega
 have g2:2^(m+1)*2^(m+1)≤R.natAbs*R.natAbs:=Nat.mul_le_mul g1 g1;have e1:R.natAbs*R.natAbs=(R*R).natAbs:=(Int.natAbs_mul R R).symm;have e2:(R*R).natAbs≤n.natAbs:=by have:=Int.mul_nonneg nn nn;omega
 have e3:2^(2*m)≤2^(m+1)*2^(m+1):=by rw[<- Nat.pow_add];exact Nat.pow_le_pow_right (by decide) (by omega)
 omega
theorem li{x s:Int}{m:Nat}(hs:0<s)(h:aq x≤m):aq (x / s)≤m+1:=by
 have h1:=cp h;refine cB ?_;have e:(x / s).natAbs≤x.natAbs+1:=by
  have q1:=Int.ediv_mul_le x (show s≠0 by omega);have q2:=Int.lt_ediv_add_one_mul_self x hs;generalize x / s=q at *;rcases Int.lt_or_le q 0 with g|g
  ·have a1:q*s≤q*1:=by
    have:=Int.mul_le_mul_of_nonneg_left (show(1:Int)≤s by omega) (show 0≤-q by omega);have e1:-q*s = -(q*s):=by grind
    omega
   have e2:(q+1)*s=q*s+s:=by grind
   rcases Int.lt_or_le (q+1) 0 with g2|g2
   ·have a2:(q+1)*s≤(q+1)*1:=by
     have:=Int.mul_le_mul_of_nonneg_left (show(1:Int)≤s by omega) (show 0≤-(q+1) by omega);have e1:-(q+1)*s = -((q+1)*s):=by grind
     omega
    omega
   ·omega
  ·have a1:q*1≤q*s:=Int.mul_le_mul_of_nonneg_left (by omega) g
   omega
 have:2^(m+1)=2*2^m:=by rw[Nat.pow_succ];omega
 have p:0<2^m:=Nat.pow_pos (by decide);omega
theorem AW:zZ ["number","scale","under","root"] ["number","scale"] (am (top 22)):=smk
theorem iP(BS:Df K mg "scaled_floor" (top 22))(AK:Fn P w K mg base "floor_root" ["number"] 1 Eg):Fn P w K mg base "scaled_floor" ["number","scale"] 2 (EY K):=by
 refine BS.fn AW (fun _ _ _ _ _ _ us hl=>by obtain⟨_,_,rfl⟩:=dw hl;rfl) (fun vs H Q E h=>?_) (fun f cdv A outer s H vs Q E hr h=>?_)
 ·obtain⟨p,a0,a1,a2,a3,sc,n,kk,k2,rfl,_⟩:=h
  rfl
 ·obtain⟨p,a0,a1,a2,a3,sc,n,kk,k2,rfl,r,⟨h2,h3⟩,⟨s0,sb⟩,⟨n1,c0,c1,c2,d1,d2⟩,q⟩:=h
  refine⟨_,(ai (ap (i:=2) AW.nd rfl (Or.inl rfl) (ao aB (ao aB (ao aB (ao aB (pv 1) (pv 1)) (aw au (pv 0) af (fun _ _=>rfl))) (aw au (pv 0) af (fun _ _=>rfl))) (aw au (pv 0) af (fun _ _=>rfl)))) (ai (ap (i:=3) AW.nd rfl (Or.inl rfl) (aA AK (hr.mono (by decide)) (by rfl) (ad (pv 2) ag))) (ai (aL (az dn (aw au (pv 0) af (fun _ _=>rfl)) af (aE _)) (ak (ap (i:=3) AW.nd rfl (Or.inl rfl) (eV (az bS (ao aB (pv 3) (pv 3)) (pv 2) (aE _)) (dO da (pv 3)) (ao aO (dO da (pv 3)) af)))) aF) (ak (ay (ao dP (ao aP (ao aB (pv 1) (aw au (pv 0) af (fun _ _=>rfl))) (pv 3)) (aw au (pv 0) af (fun _ _=>rfl)))))))),?_⟩;have m1:aq (sc*sc)≤n+n:=bits_mul sb sb;have m2:aq (sc*sc*a1)≤n+n+kk:=bits_mul m1 c1;have m3:aq (sc*sc*a1*a1)≤n+n+kk+kk:=bits_mul m2 c1;have m4:aq (sc*sc*a1*a1*a2)≤2*(n+kk+k2):=ar (bits_mul m3 c2) (by omega);have n4:0≤sc*sc*a1*a1*a2:=by
   have e:sc*sc*a1*a1=sc*a1*(sc*a1):=by grind
   rw[e];have:0≤sc*a1*(sc*a1):=by
    rcases Int.lt_or_le (sc*a1) 0 with g|g
    ·exact Int.mul_nonneg_of_nonpos_of_nonpos (by omega) (by omega)
    ·exact Int.mul_nonneg g g
   exact Int.mul_nonneg this h2
  refine⟨_,rfl,_,rfl,_,_,rfl,rfl,CM.of sb sb ⟨by omega,by omega⟩,_,rfl,p,_,_,_,rfl,rfl,r.at_,rfl,_,_,rfl,rfl,CM.of m1 r.b1 ⟨by omega,by decide⟩,_,rfl,p,_,_,_,rfl,rfl,r.at_,rfl,_,_,rfl,rfl,CM.of m2 r.b1 ⟨by omega,by decide⟩,_,rfl,p,_,_,_,rfl,rfl,r.at_,rfl,_,_,rfl,rfl,CM.of m3 r.b2 ⟨by omega,by decide⟩,?_⟩;refine⟨_,rfl,_,rfl,n4,ar m4 (by omega),fun R hR=>?_⟩;have rb:aq R≤n+kk+k2+1:=mH hR m4;have m5:aq (sc*a0)≤n+kk:=bits_mul sb c0;have fin:∀f:Int,f=flr a1 (sc*sc*a1*a1*a2) R->aq f≤n+kk+k2+2->aq ((sc*a0+f) / a3)≤n+kk+k2+5:=fun f _ hf=>ar (li h3 (cM (n:=n+kk+k2+2) (ar m5 (by omega)) hf)) (by omega);have end_:∀f:Int,f=flr a1 (sc*sc*a1*a1*a2) R->aq f≤n+kk+k2+2->Q (.int ((sc*a0+f) / a3)) H:=fun f e hf=>q _ ⟨R,hR,by rw[<- e]⟩ (fin f e hf);refine⟨_,rfl,p,_,_,_,rfl,rfl,r.at_,rfl,_,_,rfl,rfl,_,rfl,aR (fun e1=>?_) (fun e1=>?_)⟩
  ·have e1:a1<0:=bz e1
   refine⟨_,rfl,_,rfl,_,_,rfl,rfl,CM.of rb rb ⟨by omega,by omega⟩,_,rfl,rfl,_,rfl,aR (fun e2=>?_) (fun e2=>?_)⟩
   ·have e2:R*R=sc*sc*a1*a1*a2:=by simpa using e2
    refine⟨_,rfl,_,rfl,_,rfl,_,rfl,p,_,_,_,rfl,rfl,r.at_,rfl,_,_,rfl,rfl,CM.of sb r.b0 ⟨by omega,by decide⟩,_,rfl,_,_,rfl,rfl,_,rfl,p,_,_,_,rfl,rfl,r.at_,rfl,_,_,rfl,rfl,⟨h3,ar r.b3 (by decide)⟩,end_ (-R) ?_ (ar (bits_neg rb) (by omega))⟩;unfold flr;rw[if_pos e1,if_pos e2]
   ·have e2:¬R*R=sc*sc*a1*a1*a2:=by simpa using e2
    refine⟨_,rfl,_,rfl,_,_,rfl,rfl,_,rfl,_,rfl,p,_,_,_,rfl,rfl,r.at_,rfl,_,_,rfl,rfl,CM.of sb r.b0 ⟨by omega,by decide⟩,_,rfl,_,_,rfl,rfl,_,rfl,p,_,_,_,rfl,rfl,r.at_,rfl,_,_,rfl,rfl,⟨h3,ar r.b3 (by decide)⟩,end_ (-R - 1) ?_ (ce (n:=n+kk+k2+1) (bits_neg rb) (ar (show aq 1≤1 by decide) (by omega)))⟩;unfold flr;rw[if_pos e1,if_neg e2]
  ·have e1:¬a1<0:=bU e1
   refine⟨_,rfl,_,rfl,p,_,_,_,rfl,rfl,r.at_,rfl,_,_,rfl,rfl,CM.of sb r.b0 ⟨by omega,by decide⟩,_,rfl,_,_,rfl,rfl,_,rfl,p,_,_,_,rfl,rfl,r.at_,rfl,_,_,rfl,rfl,⟨h3,ar r.b3 (by decide)⟩,end_ R ?_ (ar rb (by omega))⟩;unfold flr;rw[if_neg e1]
theorem DL:zZ ["number","scale","turned"] ["number","scale"] (am (top 23)):=smk
theorem md(C0:Df K mg "below_all" (top 23))(As:Fn P w K mg base "scaled_floor" ["number","scale"] 2 (EY K)):Fn P w K mg base "below_all" ["number","scale"] 3 (Fy K):=by
 refine C0.fn DL (fun _ _ _ _ _ _ us hl=>by obtain⟨_,_,rfl⟩:=dw hl;rfl) (fun vs H Q E h=>?_) (fun f cdv A outer s H vs Q E hr h=>?_)
 ·obtain⟨p,a0,a1,a2,a3,sc,n,kk,k2,rfl,_⟩:=h
  rfl
 ·obtain⟨p,a0,a1,a2,a3,sc,n,kk,k2,rfl,r,⟨h2,h3⟩,⟨s0,sb⟩,⟨n1,c0,c1,c2,d1,d2⟩,q⟩:=h
  refine⟨_,(ai (ap (i:=2) DL.nd rfl (Or.inl rfl) (ax (ad (dO da (aw au (pv 0) af (fun _ _=>rfl))) (ad (dO da (aw au (pv 0) af (fun _ _=>rfl))) (ad (aw au (pv 0) af (fun _ _=>rfl)) (ad (aw au (pv 0) af (fun _ _=>rfl)) ag)))))) (ak (ay (ao aO (dO da (aA As (hr.mono (by decide)) (by rfl) (ad (pv 2) (ad (pv 1) ag)))) af)))),?_⟩;refine⟨_,rfl,p,_,_,_,rfl,rfl,r.at_,rfl,_,rfl,_,rfl,p,_,_,_,rfl,rfl,r.at_,rfl,_,rfl,_,rfl,p,_,_,_,rfl,rfl,r.at_,rfl,_,rfl,p,_,_,_,rfl,rfl,r.at_,rfl,sz (by simp),fun t H1 s1 f1 nn1=>?_⟩;exact⟨_,rfl,_,rfl,t,-a0,-a1,a2,a3,sc,n,kk,k2,rfl,⟨SqT.of f1,bits_neg r.b0,bits_neg r.b1,r.b2,r.b3⟩,⟨h2,h3⟩,⟨s0,sb⟩,⟨n1,bits_neg c0,bits_neg c1,c2,d1,d2⟩,fun F hF hb=>⟨_,rfl,_,_,rfl,rfl,q F H1 hF hb s1⟩⟩
inductive Ec (vs:List V) (H:Hp) (Q:VK) (x_3:XK):Prop
 | mk:∀lo hi sc:Int,(vs = [.int lo,.int hi,.int sc])->((lo<hi∧aq lo≤6020∧aq hi≤6020))->((0<sc∧aq sc≤4100))->(∀(l:Addr) (ts:List Int) (n:Nat) (H':Hp),Same H H'->H' l=some (.lst (ts.map V.int))->sh n lo hi sc sc=some ts->ts.length≤8210->Q (.ref l) H')->Ec vs H Q x_3
theorem ib{x:Int}{n:Nat}(h:aq x≤n):x<2^n:=by
 have:=cp h;have e:((2^n:Nat):Int)=2^n:=by norm_cast
 omega
theorem m7{x y:Int}{n:Nat}(h:2*x<y)(hy:y<2^n)(h0:0<x):∃m,n=m+1∧x<2^m:=by
 cases n with
 | zero=>simp at hy;omega
 | succ m =>
  refine⟨m,rfl,?_⟩;have:(2:Int)^(m+1)=2*2^m:=by rw[Int.pow_succ];omega
  omega
def Far(lo hi b l sc:Int)(k:Nat):Prop:=(k=0∧b=sc∧l=sc)∨∃x y:Nat,hi<2^x∧lo<2^x∧b<2^y∧l<2^y∧b<lo∧l<hi∧k+x+y≤8205
theorem Far.len{lo hi b l sc:Int}{k:Nat}(h:Far lo hi b l sc k):k≤8205:=by
 rcases h with h|⟨x,y,h⟩ <;> omega
theorem Far.step{lo hi b l sc:Int}{k:Nat}(h:Far lo hi b l sc k)(sb:aq sc≤4100)(hb:0<b)(hl:0<l)(s:(0<hi - lo / b*l∧hi - lo / b*l<l)∧(0<lo - lo / b*b∧lo - lo / b*b<b)):Far l b (hi - lo / b*l) (lo - lo / b*b) sc (k+1):=by
 obtain⟨⟨s1,s2⟩,s3,s4⟩:=s;rcases h with⟨rfl,rfl,rfl⟩|⟨x,y,h1,h2,h3,h4,h5,h6,h7⟩
 ·have:=ib sb
  exact .inr ⟨4100,4100,this,this,by omega,by omega,s2,s4,by omega⟩
 ·have q1:1≤lo / b:=by
   have:=Int.ediv_le_ediv hb (show b≤lo by omega);rw[Int.ediv_self (by omega)]at this;exact this
  have e1:l*1≤lo / b*l:=by rw[Int.mul_comm (lo / b)];exact Int.mul_le_mul_of_nonneg_left q1 (by omega)
  have e2:b*1≤lo / b*b:=by rw[Int.mul_comm (lo / b)];exact Int.mul_le_mul_of_nonneg_left q1 (by omega)
  obtain⟨m,rfl,hm⟩:=m7 (x:=hi - lo / b*l) (by omega) h1 s1;obtain⟨m',e,hm'⟩:=m7 (x:=lo - lo / b*b) (by omega) h2 s3;have:m=m':=by omega
  subst this;exact .inr ⟨y,m,h3,h4,hm,hm',s2,s4,by omega⟩
theorem Ad:zZ ["low","high","scale","terms","bottom","last","term","low_rest","high_rest"] ["low","high","scale"] (am (top 24)):=smk
theorem iO(BR:Df K mg "shared_terms" (top 24))(T:Txt mg):Fn P w K mg base "shared_terms" ["low","high","scale"] 1 Ec:=by
 refine BR.fn Ad (fun _ _ _ _ _ _ us hl=>by obtain⟨_,_,_,rfl⟩:=iL hl;rfl) (fun vs H Q E h=>?_) (fun f cdv A outer s H vs Q E hr h=>?_)
 ·obtain⟨lo,hi,sc,rfl,_⟩:=h
  rfl
 ·obtain⟨lo,hi,sc,rfl,⟨lh,bl,bh⟩,⟨s0,sb⟩,q⟩:=h
  refine⟨_,(ai (ap (i:=3) Ad.nd rfl (Or.inl rfl) (aX ag)) (ai (ap (i:=4) Ad.nd rfl (Or.inl rfl) (pv 2)) (ai (ap (i:=5) Ad.nd rfl (Or.inl rfl) (pv 2)) (ak (dE PassesOwn.never (cW dH) (ai (ap (i:=6) Ad.nd rfl (Or.inl rfl) (ao dP (pv 0) (pv 4))) (ai (aL (az bS (ao aB (pv 6) (pv 4)) (pv 0) (aE _)) (ai (bD (dG PySem.F.plainAttrs_list PySem.F.slot_list_append PySem.F.type_list_append aZ (pv 3) (ad (pv 6) ag))) (ak (ay (pv 3)))) aF) (ai (aL (az mR (ao aB (ao aP (pv 6) af) (pv 5)) (pv 1) (aE _)) (ai (bD (dG PySem.F.plainAttrs_list PySem.F.slot_list_append PySem.F.type_list_append aZ (pv 3) (ad (ao aP (pv 6) af) ag))) (ak (ay (pv 3)))) aF) (ai (bD (dG PySem.F.plainAttrs_list PySem.F.slot_list_append PySem.F.type_list_append aZ (pv 3) (ad (pv 6) ag))) (ai (ap (i:=7) Ad.nd rfl (Or.inl rfl) (ao aO (pv 0) (ao aB (pv 6) (pv 4)))) (ai (ap (i:=8) Ad.nd rfl (Or.inl rfl) (ao aO (pv 1) (ao aB (pv 6) (pv 5)))) (ai (ap (i:=0) Ad.nd rfl (Or.inl rfl) (pv 5)) (ai (ap (i:=1) Ad.nd rfl (Or.inl rfl) (pv 4)) (ai (ap (i:=4) Ad.nd rfl (Or.inl rfl) (pv 8)) (ak (ap (i:=5) Ad.nd rfl (Or.inl rfl) (pv 7))))))))))))))))),?_⟩;refine⟨sz (by simp),fun p H1 s1 f1 n1=>⟨_,rfl,_,rfl,?_⟩⟩;refine dC (fun σ H'=>∃(x y b l:Int) (ts:List Int) (z6 z7 z8:Option V),σ = [some (.int x),some (.int y),some (.int sc),some (.ref p),some (.int b),some (.int l),z6,z7,z8]∧Same H H'∧H' p=some (.lst (ts.map V.int))∧(0<b∧b≤sc)∧(0<l∧l≤sc)∧x*l<y*b∧(aq x≤6020∧aq y≤6020)∧Far x y b l sc ts.length∧∀us n,sh n x y b l=some us->∃m,sh m lo hi sc sc=some (ts++us))
   (fun σ _=>match σ with | [_,_,_,_,some (.int b),some (.int l),_,_,_]=>(b+l).toNat|_=>0) ⟨lo,hi,sc,sc,[],_,_,_,rfl,s1,f1,⟨s0,Int.le_refl _⟩,⟨s0,Int.le_refl _⟩,Int.mul_lt_mul_of_pos_right lh s0,⟨bl,bh⟩,.inl ⟨rfl,rfl,rfl⟩,fun us n h=>⟨n,h⟩⟩ ?_ ?_
  ·rintro σ H' ⟨x,y,b,l,ts,z6,z7,z8,rfl,sm,ft,⟨b0,b1⟩,⟨l0,l1⟩,hd,⟨bx,by'⟩,far,tl⟩
   have bb:aq b≤4100:=gh (by omega) b1 sb;have bl':aq l≤4100:=gh (by omega) l1 sb;have bq:aq (x / b)≤6021:=li b0 bx;have fl:=far.len;have sz3:∀c:Int,(ts.map V.int).length<sizeLine:=fun _=>by rw[sizeLine_eq,List.length_map];omega
   refine⟨_,rfl,bL rfl ?_⟩;refine⟨_,rfl,_,rfl,_,_,rfl,rfl,⟨b0,ar bb (by decide)⟩,?_⟩;refine⟨_,rfl,_,rfl,_,_,rfl,rfl,CM.of bq bb ⟨by decide,by decide⟩,_,rfl,rfl,_,rfl,aR (fun c1=>?_) (fun c1=>?_)⟩
   ·have c1:x / b*b=x:=by simpa using c1
    refine⟨_,rfl,.inl ⟨rfl,_,SqL.of ft⟩,_,rfl,p,_,_,rfl,rfl,ft,sz3 0,fun H2 u2=>⟨_,rfl,?_⟩⟩;obtain⟨m,hm⟩:=tl [x / b] 1 (by unfold sh;rw[if_pos c1]);exact q p (ts++[x / b]) m H2 (u2.same sm n1) (by rw[u2.now,List.map_append];rfl) hm (by simp;omega)
   ·have c1:¬x / b*b=x:=by simpa using c1
    refine⟨_,rfl,_,_,rfl,rfl,_,rfl,_,_,rfl,rfl,CM.of (cM (n:=6021) bq (ar (show aq 1≤1 by decide) (by decide))) bl' ⟨by decide,by decide⟩,_,rfl,_,_,rfl,rfl,_,rfl,aR (fun c2=>?_) (fun c2=>?_)⟩
    ·have c2:(x / b+1)*l≤y:=bz c2
     refine⟨_,rfl,.inl ⟨rfl,_,SqL.of ft⟩,_,rfl,_,_,rfl,rfl,p,_,_,rfl,rfl,ft,sz3 0,fun H2 u2=>⟨_,rfl,?_⟩⟩;obtain⟨m,hm⟩:=tl [x / b+1] 1 (by unfold sh;rw[if_neg c1,if_pos c2]);exact q p (ts++[x / b+1]) m H2 (u2.same sm n1) (by rw[u2.now,List.map_append];rfl) hm (by simp;omega)
    ·have c2:¬(x / b+1)*l≤y:=bU c2
     obtain⟨st1,st2,st3⟩:=st b0 l0 hd c1 c2;refine⟨_,rfl,.inl ⟨rfl,_,SqL.of ft⟩,_,rfl,p,_,_,rfl,rfl,ft,sz3 0,fun H2 u2=>?_⟩;refine⟨_,rfl,_,rfl,_,rfl,_,_,rfl,rfl,CM.of bq bb ⟨by decide,by decide⟩,_,_,rfl,rfl,?_⟩;refine⟨_,rfl,_,rfl,_,rfl,_,_,rfl,rfl,CM.of bq bl' ⟨by decide,by decide⟩,_,_,rfl,rfl,?_⟩;refine⟨_,rfl,_,rfl,_,rfl,_,rfl,⟨l,b,y - x / b*l,x - x / b*b,ts++[x / b],_,_,_,rfl,u2.same sm n1,by rw[u2.now,List.map_append];rfl,⟨st1.1,by omega⟩,⟨st2.1,by omega⟩,st3,⟨ar bl' (by decide),ar bb (by decide)⟩,by rw[List.length_append];exact far.step sb b0 l0 ⟨st1,st2⟩,fun us n h=>?_⟩,?_⟩
     ·obtain⟨m,hm⟩:=tl (x / b::us) (n+1) (by unfold sh;rw[if_neg c1,if_neg c2,h];rfl)
      exact⟨m,by rw[List.append_assoc];exact hm⟩
     ·show(y - x / b*l+(x - x / b*b)).toNat<(b+l).toNat
      omega
  ·rintro σ H' Q1 Q2 hq ⟨k,e,r⟩
   exact⟨k,e,hq _ _ r⟩
inductive Gc (vs:List V) (H:Hp) (Q:VK) (x_3:XK):Prop
 | mk:∀(l:Addr) (ts:List Int) (N:Int) (n:Nat),(vs = [.ref l])->(H l=some (.lst (ts.map V.int)))->((0<ts.length∧ts.length≤8210))->(Bd N ts)->((aq N≤n∧n≤4490∧0≤N))->(∀(r:Addr) (t u:Int) (H':Hp),Same H H'->H' r=some (.tup [.int t,.int u])->DP (fr ts).1 (fr ts).2 t u->aq t≤n->aq u≤n->Q (.ref r) H')->Gc vs H Q x_3
theorem uC{xs:List V}(h:0<xs.length):kA xs none (some (-1))=xs.dropLast:=by
 unfold kA;rw[HT.sIx_none];have e:HT.sIx xs.length xs.length (some (-1))=xs.length - 1:=by
  unfold HT.sIx;simp;omega
 rw[e,List.dropLast_eq_take];simp
theorem jn{N x:Int}{n:Nat}(h:-N≤x∧x≤N)(hN:aq N≤n)(N0:0≤N):aq x≤n:=cB (Nat.lt_of_le_of_lt (by omega:x.natAbs≤N.natAbs) (cp hN))
theorem Ag:zZ ["terms","top","bottom","term","rest"] ["terms"] (am (top 25)):=smk
theorem fg{C:Addr}(AO:Df K mg "fraction_of_terms" (top 25))(BD:Fx P w K mg base "ratio" ["top","bottom"] 2 [.int 1] (CP C))(T:Txt mg):Fn P w K mg base "fraction_of_terms" ["terms"] 3 Gc:=by
 refine AO.fn Ag (fun _ _ _ _ _ _ us hl=>by obtain⟨_,rfl⟩:=d9 hl;rfl) (fun vs H Q E h=>?_) (fun f cdv A outer s H vs Q E hr h=>?_)
 ·obtain⟨l,ts,N,n,rfl,_⟩:=h
  rfl
 ·obtain⟨l,ts,N,n,rfl,hl,⟨t0,t1⟩,bd,⟨bN,n1,N0⟩,q⟩:=h
  refine⟨_,(ai (ap (i:=1) Ag.nd rfl (Or.inl rfl) (aw cr (pv 0) (dO da af) (fun _ _=>rfl))) (ai (ap (i:=2) Ag.nd rfl (Or.inl rfl) af) (ai (bW PassesOwn.never rfl (xC rfl T.z_reversed (mL mF (pv 0) pS (lO (dO da af)))) (aS (i:=3) Ag.nd rfl (Or.inl rfl)) (ai (ap (i:=4) Ag.nd rfl (Or.inl rfl) (pv 2)) (ai (ap (i:=2) Ag.nd rfl (Or.inl rfl) (pv 1)) (ak (ap (i:=1) Ag.nd rfl (Or.inl rfl) (ao aP (ao aB (pv 3) (pv 1)) (pv 4))))))) (ak (ay (eW BD (hr.mono (by decide)) (by rfl) (ad (pv 1) (ad (pv 2) ag)))))))),?_⟩;obtain⟨ti,tl,rfl⟩:∃ti tl,ts=ti++[tl]:=by
   rcases List.eq_nil_or_concat ts with h|⟨a,b,h⟩
   ·rw[h]at t0
    simp at t0
   ·exact⟨a,b,by rw[h];simp⟩
  have len:(ti++[tl]).length=ti.length+1:=by simp
  have hlast:atI ((ti++[tl]).map V.int) (-1)=some (.int tl):=by
   rw[List.map_append];exact uM _ _
  have hcut:kA ((ti++[tl]).map V.int) none (some (-1))=ti.map V.int:=by
   rw[uC (by rw[List.length_map,len];omega),List.map_append];simp
  refine⟨_,rfl,_,rfl,l,_,_,_,rfl,rfl,SqL.of hl,hlast,?_⟩;refine⟨_,rfl,_,rfl,_,rfl,l,_,rfl,SqL.of hl,fun p H1 s1 f1 m1=>?_⟩;rw[hcut]at f1;have fl:(fr ((ti++[tl]).drop ti.length))=(tl,1):=by rw[List.drop_left];rfl
  refine⟨p,_,rfl,SqL.of f1,vP (K:=K) (a:=p) (xs:=ti.map V.int) (fun i σ H'=>∃(x y:Int) (z3 z4:Option V),σ = [some (.ref l),some (.int x),some (.int y),z3,z4]∧H'=H1∧i≤ti.length∧fr ((ti++[tl]).drop (ti.length - i))=(x,y)) ⟨tl,1,_,_,rfl,rfl,Nat.zero_le _,by rw[Nat.sub_zero];exact fl⟩ ?_ ?_ ?_⟩
  ·rintro i σ H' hi ⟨x,y,z3,z4,rfl,rfl,h1,h2⟩
   exact SqL.of f1
  ·rintro i v σ H' hi hv ⟨x,y,z3,z4,rfl,rfl,h1,h2⟩
   rw[List.length_map]at hi hv;rw[List.getElem?_map]at hv;obtain⟨c,hc,rfl⟩:=Option.map_eq_some_iff.mp hv;have hj:ti.length - (i+1)<(ti++[tl]).length:=by rw[len];omega
   have hc':(ti++[tl])[ti.length - (i+1)]? = some c:=by
    rw[List.getElem?_append_left (by omega),<- hc]
    congr 1
    omega
   have e1:(ti++[tl]).drop (ti.length - (i+1))=c::(ti++[tl]).drop (ti.length - i):=by
    obtain⟨a1,a2⟩:=List.getElem?_eq_some_iff.mp hc';rw[List.drop_eq_getElem_cons a1,a2]
    congr 1
    congr 1
    omega
   have ne:(ti++[tl]).drop (ti.length - i)≠[]:=fun z=>by
    have:=congrArg List.length z;rw[List.length_drop,len]at this;simp at this;omega
   have bt:=(bd.f (ti.length - i) (by rw[len];omega)).1;rw[h2]at bt;have bx:aq x≤n:=jn bt bN N0;have bc:aq c≤n:=jn (bd.c c (List.mem_of_getElem? hc')) bN N0;refine⟨_,rfl,_,rfl,_,rfl,_,rfl,_,_,rfl,rfl,CM.of bc bx ⟨by omega,by omega⟩,_,rfl,_,_,rfl,rfl,c*x+y,x,_,_,rfl,rfl,by omega,?_⟩;rw[e1,qk ne,h2]
  ·rintro σ H' ⟨x,y,z3,z4,rfl,rfl,h1,h2⟩
   rw[List.length_map,Nat.sub_self,List.drop_zero]at h2;have b0:=bd.f 0 (by omega);rw[List.drop_zero,h2]at b0;have bx:aq x≤n:=jn b0.1 bN N0;have by':aq y≤n:=jn ⟨by have:=b0.2.1;omega,b0.2.2⟩ bN N0;refine⟨_,rfl,_,rfl,x,y,n,rfl,⟨bx,by',by omega⟩,fun z=>?_,fun _ r t u fr' c1 c2 nr=>?_⟩
   ·have:=b0.2.1
    have z:y=0:=z;omega
   ·rw[h2]at q
    exact q r t u _ (s1.trans (Same.new nr)) upd_same fr' c1 c2
theorem pM{K:W.Frag}{H H':Hp}{p:Addr}{a0 a1 a2 a3:Int}(r:Rt K H p a0 a1 a2 a3)(s:Same H H'):Rt K H' p a0 a1 a2 a3:=⟨sj r.at_ s,r.b0,r.b1,r.b2,r.b3⟩
structure GM(a0 a1 a2 a3 b0 b1 b2 b3:Int)(kk k2:Nat):Prop where
 a2n:0≤a2
 a3p:0<a3
 b2n:0≤b2
 b3p:0<b3
 x0:aq a0≤kk
 x1:aq a1≤kk
 x2:aq a2≤2*k2
 y0:aq b0≤kk
 y1:aq b1≤kk
 y2:aq b2≤2*k2
 hk:kk≤450
 h2:k2≤500
inductive Gb (K:W.Frag) (vs:List V) (H:Hp) (Q:VK) (x_3:XK):Prop
 | mk:∀(p q:Addr) (a0 a1 a2 a3 b0 b1 b2 b3:Int) (kk k2 J n:Nat),(vs = [.ref p,.ref q])->(Rt K H p a0 a1 a2 a3)->(Rt K H q b0 b1 b2 b3)->(GM a0 a1 a2 a3 b0 b1 b2 b3 kk k2)->((2^J+1+kk+k2+8≤n∧n≤4490∧2^J≤4099))->((∀F G,Rm a0 a1 a2 a3 b0 b1 b2 b3 J F G->F+1+2≤-G - 1))->(∀(r:Addr) (t u:Int) (H':Hp),Same H H'->H' r=some (.tup [.int t,.int u])->Wi a0 a1 a2 a3 b0 b1 b2 b3 t u->aq t≤n->aq u≤n->Q (.ref r) H')->Gb K vs H Q x_3
theorem xu(i:Nat):(1:Int)*2^((2:Int)^i).toNat=scl i:=by
 have:((2:Int)^i).toNat=2^i:=by
  have e:((2^i:Nat):Int)=(2:Int)^i:=by norm_cast
  rw[<- e];exact Int.toNat_natCast _
 rw[this,Int.one_mul];rfl
theorem gC(i:Nat):aq (scl i)≤2^i+1:=by
 refine cB ?_;unfold scl;rw[Int.natAbs_pow];exact Nat.pow_lt_pow_right (by decide) (by omega)
theorem jA(i:Nat):((2^i:Nat):Int)=(2:Int)^i:=by norm_cast
theorem Ai:zZ ["one","other","bits","scale","low","high"] ["one","other"] (am (top 26)):=smk
theorem gb(A6:Df K mg "fraction_within" (top 26))(As:Fn P w K mg base "scaled_floor" ["number","scale"] 2 (EY K))(CW:Fn P w K mg base "below_all" ["number","scale"] 3 (Fy K))(AM:Fn P w K mg base "fraction_of_terms" ["terms"] 3 Gc)(BJ:Fn P w K mg base "shared_terms" ["low","high","scale"] 1 Ec):Fn P w K mg base "fraction_within" ["one","other"] 4 (Gb K):=by
 refine A6.fn Ai (fun _ _ _ _ _ _ us hl=>by obtain⟨_,_,rfl⟩:=dw hl;rfl) (fun vs H Q E h=>?_) (fun f cdv A outer s H vs Q E hr h=>?_)
 ·obtain⟨p,q,a0,a1,a2,a3,b0,b1,b2,b3,kk,k2,J,n,rfl,_⟩:=h
  rfl
 ·obtain⟨p,q,a0,a1,a2,a3,b0,b1,b2,b3,kk,k2,J,n,rfl,rp,rq,tw,⟨j1,j2,j3⟩,top,k⟩:=h
  refine⟨_,(ai (ap (i:=2) Ai.nd rfl (Or.inl rfl) af) (ak (dE PassesOwn.never (cW dH) (ai (ap (i:=3) Ai.nd rfl (Or.inl rfl) (ao sV af (pv 2))) (ai (ap (i:=4) Ai.nd rfl (Or.inl rfl) (ao aP (aA As (hr.mono (by decide)) (by rfl) (ad (pv 0) (ad (pv 3) ag))) af)) (ai (ap (i:=5) Ai.nd rfl (Or.inl rfl) (aA CW (hr.mono (by decide)) (by rfl) (ad (pv 1) (ad (pv 3) ag)))) (ai (aL (az mR (ao aP (pv 4) af) (pv 5) (aE _)) (ak (ay (aA AM (hr.mono (by decide)) (by rfl) (ad (aA BJ (hr.mono (by decide)) (by rfl) (ad (pv 4) (ad (pv 5) (ad (pv 3) ag)))) ag)))) aF) (ak (ap (i:=2) Ai.nd rfl (Or.inl rfl) (ao aB (pv 2) af)))))))))),?_⟩;refine dC (fun σ H'=>∃(i:Nat) (z3 z4 z5:Option V),σ = [some (.ref p),some (.ref q),some (.int (2^i)),z3,z4,z5]∧i≤J∧Same H H'∧∀i',i'<i->∀F' G',Rm a0 a1 a2 a3 b0 b1 b2 b3 i' F' G'->¬F'+1+2≤-G' - 1)
   (fun σ _=>match σ with | [_,_,some (.int B),_,_,_]=>((2:Int)^J+1 - B).toNat|_=>0) ⟨0,_,_,_,rfl,Nat.zero_le _,Same.refl _,fun i' h=>absurd h (by omega)⟩ ?_ ?_
  ·rintro σ H' ⟨i,z3,z4,z5,rfl,hi,sm,no⟩
   have pw:2^i≤2^J:=Nat.pow_le_pow_right (by decide) hi;have pi:0<2^i:=Nat.pow_pos (by decide);have pc:=jA i;have rp':=pM rp sm;have rq':=pM rq sm;refine⟨_,rfl,bL rfl ?_⟩;refine⟨_,rfl,_,_,rfl,rfl,⟨by omega,by show(2:Int)^i≤1000000;omega,by decide⟩,?_⟩;rw[xu];refine⟨_,rfl,_,rfl,p,a0,a1,a2,a3,scl i,2^i+1,kk,k2,rfl,rp',⟨tw.a2n,tw.a3p⟩,⟨cO i,gC i⟩,⟨by omega,tw.x0,tw.x1,tw.x2,tw.hk,tw.h2⟩,fun F hF bF=>⟨_,_,rfl,rfl,?_⟩⟩;refine⟨_,rfl,_,rfl,q,b0,b1,b2,b3,scl i,2^i+1,kk,k2,rfl,rq',⟨tw.b2n,tw.b3p⟩,⟨cO i,gC i⟩,⟨by omega,tw.y0,tw.y1,tw.y2,tw.hk,tw.h2⟩,fun G H1 hG bG s1=>?_⟩;refine⟨_,rfl,_,_,rfl,rfl,_,rfl,_,_,rfl,rfl,_,rfl,aR (fun c1=>?_) (fun c1=>?_)⟩
   ·have c1:F+1+2≤-G - 1:=bz c1
    have hk:=tw.hk;have h2:=tw.h2;have bl:aq (F+1)≤2^i+1+kk+k2+6:=cM bF (ar (show aq 1≤1 by decide) (by omega));have bh:aq (-G - 1)≤2^i+1+kk+k2+6:=ce (bits_neg bG) (ar (show aq 1≤1 by decide) (by omega));refine⟨_,rfl,_,rfl,_,rfl,F+1,-G - 1,scl i,rfl,⟨by omega,ar bl (by omega),ar bh (by omega)⟩,⟨cO i,ar (gC i) (by omega)⟩,fun l ts m H2 s2 f2 hs ln=>?_⟩;have hd:(F+1)*scl i<(-G - 1)*scl i:=Int.mul_lt_mul_of_pos_right (by omega) (cO i);have e1:=ib bl;have e2:=ib bh;have e3:=ib (bits_neg bl);have e4:=ib (bits_neg bh);have e5:=ib (ar (n:=2^i+1+kk+k2+6) (gC i) (by omega));have bd:=wJ (N:=2^(2^i+1+kk+k2+6)) (cO i) (cO i) hd ⟨by omega,by omega⟩ ⟨by omega,by omega⟩ (by omega) (by omega) hs;have ne:=(mG (cO i) (cO i) hd hs).1;have N0:(0:Int)<2^(2^i+1+kk+k2+6):=Int.pow_pos (by decide);have bN:aq ((2:Int)^(2^i+1+kk+k2+6)+1)≤n:=by
     refine ar (cM (n:=2^i+1+kk+k2+7) (cB ?_) (ar (show aq 1≤1 by decide) (by omega))) (by omega);rw[Int.natAbs_pow];exact Nat.pow_lt_pow_right (by decide) (by omega)
    exact⟨l,ts,_,n,rfl,f2,⟨List.length_pos_iff.mpr ne,ln⟩,bd,⟨bN,j2,by omega⟩,fun r t u H3 s3 f3 hf c2 c3=>k r t u H3 (sm.trans (s1.trans (s2.trans s3))) f3 ⟨i,F,G,ts,m,⟨hF,hG⟩,c1,no,hs,hf⟩ c2 c3⟩
   ·have c1:¬F+1+2≤-G - 1:=bU c1
    have ij:i≠J:=fun z=>by
     subst z;exact c1 (top F G ⟨hF,hG⟩)
    have pw2:2^(i+1)≤2^J:=Nat.pow_le_pow_right (by decide) (by omega);have pc2:=jA (i+1);have pcJ:=jA J;have e:(2:Int)^i*2=2^(i+1):=by rw[Int.pow_succ]
    refine⟨_,rfl,_,_,rfl,rfl,CM.r ⟨by decide,by decide⟩,?_⟩;rw[e];refine⟨⟨i+1,_,_,_,rfl,by omega,sm.trans s1,fun i' h F' G' hR=>?_⟩,?_⟩
    ·rcases Nat.lt_or_eq_of_le (Nat.le_of_lt_succ h) with g|g
     ·exact no i' g F' G' hR
     ·subst g
      rw[hR.1.uniq hF,hR.2.uniq hG];exact c1
    ·show((2:Int)^J+1 - 2^(i+1)).toNat<((2:Int)^J+1 - 2^i).toNat
     omega
  ·rintro σ H' Q1 Q2 hq ⟨k,e,r⟩
   exact⟨k,e,hq _ _ r⟩
inductive Fp (K:W.Frag) (C:Addr) (vs:List V) (H:Hp) (Q:VK) (E:XK):Prop
 | mk:∀(p:Addr) (a0 a1 a2 a3:Int),(vs = [.ref p])->(Rt K H p a0 a1 a2 a3)->((0≤a2∧0<a3))->(∀R,A8 1 (a1*a1*a2) R->(R*R≠a1*a1*a2->E (.ref C) none H) ∧
 (R*R=a1*a1*a2->∀(r:Addr) (t u:Int) (H':Hp),Same H H'->H' r=some (.tup [.int t,.int u])->DP (a0+sg a1*R) a3 t u->aq t≤1500->aq u≤1500->Q (.ref r) H'))->Fp K C vs H Q E
inductive FE (K:W.Frag) (C:Addr) (vs:List V) (H:Hp) (Q:VK) (E:XK):Prop
 | mk:∀(p q:Addr) (a0 a1 a2 a3 b0 b1 b2 b3:Int) (kk k2 J n:Nat),(vs = [.ref p,.ref q])->(Rt K H p a0 a1 a2 a3)->(Rt K H q b0 b1 b2 b3)->(GM a0 a1 a2 a3 b0 b1 b2 b3 kk k2)->((2^J+1+kk+k2+8≤n∧n≤4490∧2^J≤4099))->((0<ro a0 a1 a2 a3 b0 b1 b2 b3->E (.ref C) none H))->((ro a0 a1 a2 a3 b0 b1 b2 b3=0->∀R,A8 1 (a1*a1*a2) R->(R*R≠a1*a1*a2->E (.ref C) none H)∧(R*R=a1*a1*a2->∀(r:Addr) (t u:Int) (H':Hp),Same H H'->H' r=some (.tup [.int t,.int u])->DP (a0+sg a1*R) a3 t u->aq t≤1500->aq u≤1500->Q (.ref r) H')))->((ro a0 a1 a2 a3 b0 b1 b2 b3<0->(∀F G,Rm a0 a1 a2 a3 b0 b1 b2 b3 J F G->F+1+2≤-G - 1)∧∀(r:Addr) (t u:Int) (H':Hp),Same H H'->H' r=some (.tup [.int t,.int u])->Wi a0 a1 a2 a3 b0 b1 b2 b3 t u->aq t≤n->aq u≤n->Q (.ref r) H'))->FE K C vs H Q E
theorem xn(x:Int):0≤x*x:=by
 rcases Int.lt_or_le x 0 with g|g
 ·exact Int.le_of_lt (Int.mul_pos_of_neg_of_neg g g)
 ·exact Int.mul_nonneg g g
theorem BE:zZ ["number","under","root"] ["number"] (am (top 21)):=smk
theorem iT{C:Addr}(BW:Df K mg "own_fraction" (top 21))(Ao:Bq K mg "NoRatio" C)(AK:Fn P w K mg base "floor_root" ["number"] 1 Eg)(Af:Fn P w K mg base "sign_of" ["number"] 1 C8)(BD:Fx P w K mg base "ratio" ["top","bottom"] 2 [.int 1] (CP C)):Fx P w K mg base "own_fraction" ["number"] 3 [] (Fp K C):=by
 refine BW.fx BE (fun _ _ _ _ _ _ us hl=>by obtain⟨_,rfl⟩:=d9 hl;rfl) (fun vs H Q E h=>?_) (fun f cdv A outer s H vs Q E hr h=>?_)
 ·obtain⟨p,a0,a1,a2,a3,rfl,_⟩:=h
  rfl
 ·obtain⟨p,a0,a1,a2,a3,rfl,r,⟨h2,h3⟩,k⟩:=h
  refine⟨_,(ai (ap (i:=1) BE.nd rfl (Or.inl rfl) (ao aB (ao aB (aw au (pv 0) af (fun _ _=>rfl)) (aw au (pv 0) af (fun _ _=>rfl))) (aw au (pv 0) af (fun _ _=>rfl)))) (ai (ap (i:=2) BE.nd rfl (Or.inl rfl) (aA AK (hr.mono (by decide)) (by rfl) (ad (pv 1) ag))) (ai (aL (az kW (ao aB (pv 2) (pv 2)) (pv 1) (aE _)) (ak (gG Ao (by rfl))) aF) (ak (ay (mM BD (hr.mono (by decide)) (by rfl) (ad (ao aP (aw au (pv 0) af (fun _ _=>rfl)) (ao aB (aA Af (hr.mono (by decide)) (by rfl) (ad (aw au (pv 0) af (fun _ _=>rfl)) ag)) (pv 2))) (ad (aw au (pv 0) af (fun _ _=>rfl)) ag)))))))),?_⟩;have m1:aq (a1*a1)≤900:=bits_mul r.b1 r.b1;have m2:aq (a1*a1*a2)≤1900:=bits_mul m1 r.b2;have n2:0≤a1*a1*a2:=Int.mul_nonneg (xn a1) h2;refine⟨_,rfl,p,_,_,_,rfl,rfl,r.at_,rfl,_,rfl,p,_,_,_,rfl,rfl,r.at_,rfl,_,_,rfl,rfl,CM.of r.b1 r.b1 ⟨by decide,by decide⟩,_,rfl,p,_,_,_,rfl,rfl,r.at_,rfl,_,_,rfl,rfl,CM.of m1 r.b2 ⟨by decide,by decide⟩,?_⟩;refine⟨_,rfl,_,rfl,n2,ar m2 (by decide),fun R hR=>?_⟩;obtain⟨k1,k2⟩:=k R hR;have rb:aq R≤951:=mH hR m2;refine⟨_,rfl,_,rfl,_,_,rfl,rfl,CM.of rb rb ⟨by decide,by decide⟩,_,rfl,rfl,_,rfl,aR (fun c=>?_) (fun c=>?_)⟩
  ·exact k1 (by simpa using c)
  ·have c:R*R=a1*a1*a2:=by simpa using c
   refine⟨_,rfl,p,_,_,_,rfl,rfl,r.at_,rfl,_,rfl,p,_,_,_,rfl,rfl,r.at_,rfl,a1,rfl,_,rfl,_,_,rfl,rfl,CM.of (i8 a1) rb ⟨by decide,by decide⟩,_,_,rfl,rfl,_,rfl,p,_,_,_,rfl,rfl,r.at_,rfl,_,_,1500,rfl,⟨ar (cM (n:=961) (ar r.b0 (by decide)) (bits_mul (i8 a1) rb)) (by decide),ar r.b3 (by decide),by decide⟩,fun z=>absurd z (by omega),fun _ p2 t u fr c1 c2 np=>k2 c p2 t u _ (Same.new np) upd_same fr c1 c2⟩
theorem CU:zZ ["one","other","order"] ["one","other"] (am (top 27)):=smk
theorem iQ{C:Addr}(BT:Df K mg "root_between" (top 27))(Ao:Bq K mg "NoRatio" C)(Ab:Fn P w K mg base "root_order" ["one","other"] 4 (EJ K))(BL:Fx P w K mg base "own_fraction" ["number"] 3 [] (Fp K C))(AZ:Fn P w K mg base "fraction_within" ["one","other"] 4 (Gb K)):Fx P w K mg base "root_between" ["one","other"] 5 [] (FE K C):=by
 refine BT.fx CU (fun _ _ _ _ _ _ us hl=>by obtain⟨_,_,rfl⟩:=dw hl;rfl) (fun vs H Q E h=>?_) (fun f cdv A outer s H vs Q E hr h=>?_)
 ·obtain⟨p,q,a0,a1,a2,a3,b0,b1,b2,b3,kk,kq,J,n,rfl,_⟩:=h
  rfl
 ·obtain⟨p,q,a0,a1,a2,a3,b0,b1,b2,b3,kk,kq,J,n,rfl,rp,rq,tw,j,k1,k2,k3⟩:=h
  refine⟨_,(ai (ap (i:=2) CU.nd rfl (Or.inl rfl) (aA Ab (hr.mono (by decide)) (by rfl) (ad (pv 0) (ad (pv 1) ag)))) (ai (aL (az pW (pv 2) af (aE _)) (ak (gG Ao (by rfl))) aF) (ai (aL (az bS (pv 2) af (aE _)) (ak (ay (mM BL (hr.mono (by decide)) (by rfl) (ad (pv 0) ag)))) aF) (ak (ay (aA AZ (hr.mono (by decide)) (by rfl) (ad (pv 0) (ad (pv 1) ag)))))))),?_⟩;refine⟨_,rfl,_,rfl,p,q,a0,a1,a2,a3,b0,b1,b2,b3,rfl,rp,rq,?_⟩;refine⟨_,rfl,_,_,rfl,rfl,_,rfl,aR (fun c=>?_) (fun c=>?_)⟩
  ·exact k1 (bz c)
  ·have c:¬0<ro a0 a1 a2 a3 b0 b1 b2 b3:=bU c
   refine⟨_,rfl,rfl,_,rfl,aR (fun d=>?_) (fun d=>?_)⟩
   ·exact⟨_,rfl,p,a0,a1,a2,a3,rfl,rp,⟨tw.a2n,tw.a3p⟩,k2 (by simpa using d)⟩
   ·have d:¬ro a0 a1 a2 a3 b0 b1 b2 b3=0:=by simpa using d
    obtain⟨k4,k5⟩:=k3 (by omega);exact⟨_,rfl,_,rfl,p,q,a0,a1,a2,a3,b0,b1,b2,b3,kk,kq,J,n,rfl,rp,rq,tw,j,k4,k5⟩
theorem Go:zZ ["a","b"] ["a","b"] (am (top 12)):=smk
theorem vR{C:Addr}(EV:Df K mg "plus" (top 12))(BD:Fx P w K mg base "ratio" ["top","bottom"] 2 [.int 1] (CP C)):Fn P w K mg base "plus" ["a","b"] 3 (Fv (fun a b c d=>a*d+c*b) (fun a b c d=>b*d)):=by
 refine EV.fn Go (fun _ _ _ _ _ _ us hl=>by obtain⟨_,_,rfl⟩:=dw hl;rfl) (fun vs H Q E h=>?_) (fun f cdv A outer s H vs Q E hr h=>?_)
 ·obtain⟨p,q,a,b,c,d,n,rfl,_⟩:=h
  rfl
 ·obtain⟨p,q,a,b,c,d,n,rfl,fp,fq,hn,hden,k⟩:=h
  have ep:=fp.at_;have eq:=fq.at_;have cm:∀{i j:Int},aq i≤n->aq j≤n->CM i j:=fun hi hj=>CM.b hi hj (Nat.le_trans hn (by decide)) (Nat.le_trans hn (by decide));have fin:∀(r:Addr) (t u:Int),DP (a*d+c*b) (b*d) t u->aq t≤2*n+1->aq u≤2*n+1->H r=none->Q (.ref r) (upd H r (.tup [.int t,.int u])):=fun r t u fr bt bu hr'=>by
   obtain⟨H1,e1,s1,f1⟩:=zU (o:=.tup [.int t,.int u]) hr';rw[e1];exact k r t u H1 fr ⟨f1,fr.low,bt,bu⟩ s1
  refine⟨_,(ak (ay (eW BD (hr.mono (by decide)) (by rfl) (ad (ao aP (ao aB (aw au (pv 0) af (fun _ _=>rfl)) (aw au (pv 1) af (fun _ _=>rfl))) (ao aB (aw au (pv 1) af (fun _ _=>rfl)) (aw au (pv 0) af (fun _ _=>rfl)))) (ad (ao aB (aw au (pv 0) af (fun _ _=>rfl)) (aw au (pv 1) af (fun _ _=>rfl))) ag))))),?_⟩;refine⟨_,rfl,p,_,_,_,rfl,rfl,SqT.of ep,rfl,_,rfl,q,_,_,_,rfl,rfl,SqT.of eq,rfl,_,_,rfl,rfl,cm fp.ba fq.bb,_,rfl,q,_,_,_,rfl,rfl,SqT.of eq,rfl,_,rfl,p,_,_,_,rfl,rfl,SqT.of ep,rfl,_,_,rfl,rfl,cm fq.ba fp.bb,_,_,rfl,rfl,?_⟩;refine⟨_,rfl,p,_,_,_,rfl,rfl,SqT.of ep,rfl,_,rfl,q,_,_,_,rfl,rfl,SqT.of eq,rfl,_,_,rfl,rfl,cm fp.bb fq.bb,_,_,2*n+1,rfl,⟨ar (cM (n:=2*n) (ar (bits_mul fp.ba fq.bb) (by omega)) (ar (bits_mul fq.ba fp.bb) (by omega))) (by omega),ar (bits_mul fp.bb fq.bb) (by omega),by omega⟩,fun z=>absurd z hden,fun _ r t u fr bt bu hr'=>fin r t u fr bt bu hr'⟩
theorem ER:zZ ["thing"] ["thing"] (am (top 13)):=smk
theorem nN(Ds:Df K mg "is_ratio" (top 13))(AG:Fn P w K mg base "is_whole" ["thing"] 1 DR)(Am:Fn P w K mg base "common_divisor" ["one","other"] 1 E5)(T:Txt mg):Fn P w K mg base "is_ratio" ["thing"] 2 Fs:=by
 refine Ds.fn ER (fun _ _ _ _ _ _ us hl=>by obtain⟨_,rfl⟩:=d9 hl;rfl) (fun vs H Q E h=>?_) (fun f cdv A outer s H vs Q E hr h=>?_)
 ·obtain⟨x,rfl,_⟩:=h
  rfl
 ·obtain⟨x,rfl,th,q⟩:=h
  obtain⟨t,k⟩:=th.kn;refine⟨_,(ai (aL (eT (d6 (cW (aT fu (by rfl) T.z_isinstance cj (ad (pv 0) (ad (pU T.z_tuple uG) ag))))) (eS (az kW (aT a6 (by rfl) T.z_len dL (ad (pv 0) ag)) af (aE _)))).pt (ak (ay dH)) aF) (ai (aL (eT (d6 (cW (aA AG (hr.mono (by decide)) (by rfl) (ad (aw au (pv 0) af (fun _ _=>rfl)) ag)))) (eS (d6 (cW (aA AG (hr.mono (by decide)) (by rfl) (ad (aw au (pv 0) af (fun _ _=>rfl)) ag)))))).pt (ak (ay dH)) aF) (ak (ay (lQ (cY kX (aw au (pv 0) af (fun _ _=>rfl)) af (aE _)) (h8 (cY bS (aA Am (hr.mono (by decide)) (by rfl) (ad (aw au (pv 0) af (fun _ _=>rfl)) (ad (aw au (pv 0) af (fun _ _=>rfl)) ag))) af (aE _)))))))),?_⟩;refine⟨_,rfl,x,t,"tuple",rfl,k,.inr (.inr (.inl rfl)),_,rfl,?_⟩;rcases Kn.cases_tup k with⟨p,xs,rfl,e,rfl⟩|⟨hl,hs⟩
  ·-- a tuple
   rw[tJ e]at q;refine ig ?_;refine⟨_,rfl,p,xs,rfl,.inr (SqT.of e),rfl,_,rfl,?_⟩;refine aR (fun hc=>?_) (fun hc=>?_)
   ·have hn:xs.length≠2:=by
     intro z;rw[z]at hc;exact absurd hc (by decide)
    rw[tN hn]at q;exact q
   ·have hn:xs.length=2:=by
     have z:(xs.length:Int)=2:=by simpa using hc
     omega
    match xs,hn,e,q with
    | [y,z],_,e,q =>
     obtain⟨ty,ky⟩:=th.parts p _ rfl e y (by simp);obtain⟨tz,kz⟩:=th.parts p _ rfl e z (by simp);refine⟨_,rfl,p,_,_,_,rfl,rfl,SqT.of e,rfl,y,ty,rfl,ky,_,rfl,?_⟩;rcases Kn.cases_int ky with⟨a,rfl,rfl⟩|⟨ny,ey⟩
     ·refine ig ?_
      refine⟨_,rfl,p,_,_,_,rfl,rfl,SqT.of e,rfl,z,tz,rfl,kz,_,rfl,?_⟩;rcases Kn.cases_int kz with⟨b,rfl,rfl⟩|⟨nz,ez⟩
      ·refine ig ?_
       refine⟨_,rfl,p,_,_,_,rfl,rfl,SqT.of e,rfl,b,1,rfl,rfl,_,rfl,?_⟩;have q':Q (.bl (lowB a b)) H:=q;unfold lowB at q';refine aR (fun hc=>?_) (fun hc=>?_)
       ·refine⟨_,rfl,p,_,_,_,rfl,rfl,SqT.of e,rfl,_,rfl,p,_,_,_,rfl,rfl,SqT.of e,rfl,a,b,rfl,rfl,?_⟩
        rw[hc,Bool.true_and]at q';have e1:decide (V.int (Int.gcd a b:Int)=V.int 1)=decide (Int.gcd a b=1):=by
         rw[Bool.eq_iff_iff];simp;omega
        rw[<- e1]at q';exact q'
       ·rw[hc,Bool.false_and]at q'
        exact q'
      ·rw[ez,tM nz]at *
       exact q
     ·rw[ey,tO ny]at *
      exact q
  ·rw[hs]
   rw[hl]at q;exact q
theorem Fb:zZ ["line"] ["line"] (am (top 36)):=smk
theorem oR(DI:Df K mg "last_of" (top 36))(T:Txt mg):Fn P w K mg base "last_of" ["line"] 1 Ek:=by
 refine DI.fn Fb (fun _ _ _ _ _ _ us hl=>by obtain⟨_,rfl⟩:=d9 hl;rfl) (fun vs H Q E h=>?_) (fun f cdv A outer s H vs Q E hr h=>?_)
 ·obtain⟨p,xs,rfl,_⟩:=h
  rfl
 ·obtain⟨p,xs,rfl,e,q⟩:=h
  exact⟨_,(ak (ay (ao aO (aT a6 (by rfl) T.z_len dL (ad (pv 0) ag)) af))),_,rfl,p,xs,rfl,.inl (SqL.of e),_,_,rfl,rfl,q⟩
theorem B6:zZ ["one","other","square","across","up"] ["one","other","square"] (am (top 32)):=smk
theorem jO(Cb:Df K mg "leash_order" (top 32))(Af:Fn P w K mg base "sign_of" ["number"] 1 C8):Fn P w K mg base "leash_order" ["one","other","square"] 2 FF:=by
 refine Cb.fn B6 (fun _ _ _ _ _ _ us hl=>by obtain⟨_,_,_,rfl⟩:=iL hl;rfl) (fun vs H Q E h=>?_) (fun f cdv A outer s H vs Q E hr h=>?_)
 ·obtain⟨p,q,r,x,y,x',y',a,b,rfl,_⟩:=h
  rfl
 ·obtain⟨p,q,r,x,y,x',y',a,b,rfl,⟨e1,b1,b2⟩,⟨e2,b3,b4⟩,⟨e3,b5,b6⟩,k⟩:=h
  refine⟨_,(ai (ap (i:=3) B6.nd rfl (Or.inl rfl) (ao aO (aw au (pv 1) af (fun _ _=>rfl)) (aw au (pv 0) af (fun _ _=>rfl)))) (ai (ap (i:=4) B6.nd rfl (Or.inl rfl) (ao aO (aw au (pv 1) af (fun _ _=>rfl)) (aw au (pv 0) af (fun _ _=>rfl)))) (ak (ay (aA Af (hr.mono (by decide)) (by rfl) (ad (ao aO (aw au (pv 2) af (fun _ _=>rfl)) (ao aB (ao aP (ao aB (pv 3) (pv 3)) (ao aB (pv 4) (pv 4))) (aw au (pv 2) af (fun _ _=>rfl)))) ag)))))),?_⟩
  walk_at "rd"
  exact k
theorem Av:zZ ["corner","begin","end","square","across","up","away_across","away_up","length","along","beside","under"] ["corner","begin","end","square"] (am (top 33)):=smk
theorem ni(Di:Df K mg "reach_of" (top 33)):Fn P w K mg base "reach_of" ["corner","begin","end","square"] 1 Eh:=by
 refine Di.fn Av (fun _ _ _ _ _ _ us hl=>by obtain⟨_,_,_,_,rfl⟩:=tQ hl;rfl) (fun vs H Q E h=>?_) (fun f cdv A outer s H vs Q E hr h=>?_)
 ·obtain⟨pc,pb,pe,ps,cx,cy,bx,by_,ex,ey,a,b,rfl,_⟩:=h
  rfl
 ·obtain⟨pc,pb,pe,ps,cx,cy,bx,by_,ex,ey,a,b,rfl,⟨e1,b1,b2⟩,⟨e2,b3,b4⟩,⟨e3,b5,b6⟩,⟨e4,b7,b8⟩,k⟩:=h
  refine⟨_,(ai (ap (i:=4) Av.nd rfl (Or.inl rfl) (ao aO (aw au (pv 2) af (fun _ _=>rfl)) (aw au (pv 1) af (fun _ _=>rfl)))) (ai (ap (i:=5) Av.nd rfl (Or.inl rfl) (ao aO (aw au (pv 2) af (fun _ _=>rfl)) (aw au (pv 1) af (fun _ _=>rfl)))) (ai (ap (i:=6) Av.nd rfl (Or.inl rfl) (ao aO (aw au (pv 0) af (fun _ _=>rfl)) (aw au (pv 1) af (fun _ _=>rfl)))) (ai (ap (i:=7) Av.nd rfl (Or.inl rfl) (ao aO (aw au (pv 0) af (fun _ _=>rfl)) (aw au (pv 1) af (fun _ _=>rfl)))) (ai (ap (i:=8) Av.nd rfl (Or.inl rfl) (ao aP (ao aB (pv 4) (pv 4)) (ao aB (pv 5) (pv 5)))) (ai (ap (i:=9) Av.nd rfl (Or.inl rfl) (ao aP (ao aB (pv 6) (pv 4)) (ao aB (pv 7) (pv 5)))) (ai (ap (i:=10) Av.nd rfl (Or.inl rfl) (ao aO (ao aB (pv 6) (pv 5)) (ao aB (pv 7) (pv 4)))) (ai (ap (i:=11) Av.nd rfl (Or.inl rfl) (ao aB (aw au (pv 3) af (fun _ _=>rfl)) (ao aO (ao aB (aw au (pv 3) af (fun _ _=>rfl)) (pv 8)) (ao aB (ao aB (aw au (pv 3) af (fun _ _=>rfl)) (pv 10)) (pv 10))))) (ak (ay (hZ (ad (ao aB (pv 9) (aw au (pv 3) af (fun _ _=>rfl))) (ad (pv 11) (ad (ao aB (pv 8) (aw au (pv 3) af (fun _ _=>rfl))) ag)))))))))))))),?_⟩
  walk_at "rd"
  exact k _ _ (by assumption) (by assumption)
theorem DE:zZ ["square"] ["square"] (am (top 31)):=smk
theorem gQ{C:Addr}(Bi:Df K mg "look_at_square" (top 31))(AR:Bq K mg "NoSquare" C)(De:Fn P w K mg base "is_ratio" ["thing"] 2 Fs):Fx P w K mg base "look_at_square" ["square"] 3 [] (Ej C):=by
 refine Bi.fx DE (fun _ _ _ _ _ _ us hl=>by obtain⟨_,rfl⟩:=d9 hl;rfl) (fun vs H Q E h=>?_) (fun f cdv A outer s H vs Q E hr h=>?_)
 ·obtain⟨x,rfl,_⟩:=h
  rfl
 ·obtain⟨x,rfl,th,k0,k1⟩:=h
  refine⟨_,(ak (aL (eT (d6 (cW (aA De (hr.mono (by decide)) (by rfl) (ad (pv 0) ag)))) (eS (az dn (aw au (pv 0) af (fun _ _=>rfl)) af (aE _)))).pt (ak (gG AR (by rfl))) aF)),?_⟩;refine⟨_,rfl,x,rfl,th,_,rfl,?_⟩;cases hl:iK H x with
  | false=>exact qY (k0 (u8 hl))
  | true =>
   obtain⟨p,a,b,rfl,e,lw⟩:=tK hl;rw[u5 e,y7 lw,Bool.true_and]at k0 k1;refine ig ?_;refine⟨_,rfl,p,_,_,_,rfl,rfl,SqT.of e,rfl,_,_,rfl,rfl,_,rfl,aR (fun h1=>?_) (fun h1=>?_)⟩
   ·exact k0 (by rw[show decide (a<0)=true from h1];rfl)
   ·exact k1 (by rw[show decide (a<0)=false from h1];rfl)
def Pw(K:W.Frag)(H':Hp)(v:V)(N e:Bool)(P U L:Int):Prop:=(v = .non∧N=true)∨(N=false∧∃(t l h:Addr) (ln hn:Int×Int×Int×Int),v = .ref t∧H' t=some (.tup [.ref l,.ref h])∧TpK K H' l [.int ln.1,.int ln.2.1,.int ln.2.2.1,.int ln.2.2.2]∧TpK K H' h [.int hn.1,.int hn.2.1,.int hn.2.2.1,.int hn.2.2.2]∧ln=(if e=true then (0,0,0,1) else dQ P U L)∧hn=(if e=true then (1,0,0,1) else cS P U L))
inductive Fm (K:W.Frag) (vs:List V) (H:Hp) (Q:VK) (x_3:XK):Prop
 | mk:∀(pc pb pe ps:Addr) (cx cy bx by_ ex ey a b room:Int),(vs = [.ref pc,.ref pb,.ref pe,.ref ps,.int room])->(Cn H pc cx cy)->(Cn H pb bx by_)->(Cn H pe ex ey)->(Sq H ps a b)->(∀(v:V) (H':Hp),Same H H'->Pw K H' v (pwN cx cy bx by_ ex ey a b room) (decide ([bx,by_] = [ex,ey])) (rAl cx cy bx by_ ex ey*b) (rUn cx cy bx by_ ex ey a b) (cI bx by_ ex ey*b)->Q v H')->Fm K vs H Q x_3
theorem AB:zZ ["corner","begin","end","square","room","reach","low","high"] ["corner","begin","end","square","room"] (am (top 34)):=smk
theorem jN{pB pE:Addr}(Ca:Df K mg "part_within" (top 34))(BC:mg "BEGIN" = some (.ref pB))(Ea:mg "END" = some (.ref pE))(hB:∀H,SqT K H pB [.int 0,.int 0,.int 0,.int 1])(hE:∀H,SqT K H pE [.int 1,.int 0,.int 0,.int 1])(tB:∀H,TpK K H pB [.int 0,.int 0,.int 0,.int 1])(tE:∀H,TpK K H pE [.int 1,.int 0,.int 0,.int 1])
  (AD:Fn P w K mg base "leash_order" ["one","other","square"] 2 FF) (Db:Fn P w K mg base "reach_of" ["corner","begin","end","square"] 1 Eh) (Af:Fn P w K mg base "sign_of" ["number"] 1 C8) (Ab:Fn P w K mg base "root_order" ["one","other"] 4 (EJ K)):Fn P w K mg base "part_within" ["corner","begin","end","square","room"] 5 (Fm K):=by
 refine Ca.fn AB (fun _ _ _ _ _ _ us hl=>by obtain⟨_,_,_,_,_,rfl⟩:=vF hl;rfl) (fun vs H Q E h=>?_) (fun f cdv A outer s H vs Q E hr h=>?_)
 ·obtain⟨pc,pb,pe,ps,cx,cy,bx,by_,ex,ey,a,b,room,rfl,_⟩:=h
  rfl
 ·obtain⟨pc,pb,pe,ps,cx,cy,bx,by_,ex,ey,a,b,room,rfl,c1,c2,c3,c4,k⟩:=h
  refine⟨_,(ai (aL (az (xG hr.units0) (pv 1) (pv 2) (aE _)) (ak (ay (eV (az kX (aA AD (hr.mono (by decide)) (by rfl) (ad (pv 0) (ad (pv 1) (ad (pv 3) ag)))) (pv 4) (aE _)) (hZ (ad (aJ (v:=.ref _) (by rfl) BC rfl) (ad (aJ (v:=.ref _) (by rfl) Ea rfl) ag))) aW))) aF) (ai (ap (i:=5) AB.nd rfl (Or.inl rfl) (aA Db (hr.mono (by decide)) (by rfl) (ad (pv 0) (ad (pv 1) (ad (pv 2) (ad (pv 3) ag)))))) (ai (aL (az dn (aA Af (hr.mono (by decide)) (by rfl) (ad (aw au (pv 5) af (fun _ _=>rfl)) ag)) (pv 4) (aE _)) (ak (ay aW)) aF) (ai (ap (i:=6) AB.nd rfl (Or.inl rfl) (hZ (ad (aw au (pv 5) af (fun _ _=>rfl)) (ad (dO da af) (ad (aw au (pv 5) af (fun _ _=>rfl)) (ad (aw au (pv 5) af (fun _ _=>rfl)) ag)))))) (ai (ap (i:=7) AB.nd rfl (Or.inl rfl) (hZ (ad (aw au (pv 5) af (fun _ _=>rfl)) (ad af (ad (aw au (pv 5) af (fun _ _=>rfl)) (ad (aw au (pv 5) af (fun _ _=>rfl)) ag)))))) (ai (aL (eT (az dn (aA Ab (hr.mono (by decide)) (by rfl) (ad (aJ (v:=.ref _) (by rfl) Ea rfl) (ad (pv 6) ag))) (pv 4) (aE _)) (eS (az dn (aA Ab (hr.mono (by decide)) (by rfl) (ad (pv 7) (ad (aJ (v:=.ref _) (by rfl) BC rfl) ag))) (pv 4) (aE _)))).pt (ak (ay aW)) aF) (ai (aL (az dn (aA Ab (hr.mono (by decide)) (by rfl) (ad (pv 6) (ad (aJ (v:=.ref _) (by rfl) BC rfl) ag))) af (aE _)) (ak (ap (i:=6) AB.nd rfl (Or.inl rfl) (aJ (v:=.ref _) (by rfl) BC rfl))) aF) (ai (aL (az pW (aA Ab (hr.mono (by decide)) (by rfl) (ad (pv 7) (ad (aJ (v:=.ref _) (by rfl) Ea rfl) ag))) af (aE _)) (ak (ap (i:=7) AB.nd rfl (Or.inl rfl) (aJ (v:=.ref _) (by rfl) Ea rfl))) aF) (ak (ay (hZ (ad (pv 6) (ad (pv 7) ag))))))))))))),?_⟩;refine⟨_,rfl,_,rfl,pb,pe,[bx,by_],[ex,ey],rfl,rfl,SqT.of c2.at_,SqT.of c3.at_,_,rfl,aR (fun h1=>?_) (fun h1=>?_)⟩
  ·have hs:[bx,by_] = [ex,ey]:=bz h1
   refine⟨_,rfl,_,rfl,_,rfl,_,_,_,_,_,_,_,_,_,rfl,c1,c2,c4,_,rfl,_,_,rfl,rfl,_,rfl,aR (fun h2=>?_) (fun h2=>?_)⟩
   ·refine⟨Sp1.sz (by simp),alloc fun p H1 s1 e1=>k _ _ s1 (.inr ⟨?_,p,pB,pE,(0,0,0,1),(1,0,0,1),rfl,e1,tB _,tE _,?_,?_⟩)⟩
    ·unfold pwN
     rw[if_pos hs];simp only[ge_iff_le]at h2 ⊢;rw[show decide (room≤lo cx cy bx by_ a b)=true from h2];rfl
    ·rw[decide_eq_true hs];rfl
    ·rw[decide_eq_true hs];rfl
   ·refine k _ _ Same.rfl' (.inl ⟨rfl,?_⟩)
    unfold pwN;rw[if_pos hs];rw[show decide (lo cx cy bx by_ a b≥room)=false from h2];rfl
  ·have hs:¬[bx,by_] = [ex,ey]:=bU h1
   unfold pwN at k;rw[if_neg hs,decide_eq_false hs]at k;refine⟨_,rfl,_,rfl,_,rfl,_,rfl,_,_,_,_,_,_,_,_,_,_,_,_,rfl,c1,c2,c3,c4,fun r H1 s1 e1=>?_⟩;obtain⟨_,b1,b2⟩:=c1;obtain⟨_,b3,b4⟩:=c2;obtain⟨_,b5,b6⟩:=c3;obtain⟨_,b7,b8⟩:=c4;have z1:aq (rAl cx cy bx by_ ex ey*b)≤450:=by unfold rAl;walk_at "bl"
   have z2:aq (rUn cx cy bx by_ ex ey a b)≤1000:=by unfold rUn cI rBe;walk_at "bl"
   have z3:aq (cI bx by_ ex ey*b)≤450:=by unfold cI;walk_at "bl"
   generalize rAl cx cy bx by_ ex ey*b=A0 at *;generalize rUn cx cy bx by_ ex ey a b=A1 at *;generalize cI bx by_ ex ey*b=A2 at *
   walk_at "rd"
   refine aR (fun h2=>?_) (fun h2=>?_)
   ·exact k _ _ s1 (.inl ⟨rfl,by rw[show decide (sg A1<room)=true from h2];rfl⟩)
   rw[show decide (sg A1<room)=false from h2,Bool.false_or]at k
   walk_at "rd"
   rename_i pl Hl sl el ph Hh sh eh;have r0:aq (0:Int)≤450:=by decide
   have r1:aq (1:Int)≤450:=by decide
   have r2:aq (-1:Int)≤450:=by decide
   have r0':aq (0:Int)≤1000:=by decide
   have RB:∀H,Rt K H pB 0 0 0 1:=fun H=>⟨hB H,r0,r0,r0',r1⟩;have RE:∀H,Rt K H pE 1 0 0 1:=fun H=>⟨hE H,r1,r0,r0',r1⟩;have RL:Rt K Hh pl A0 (-1) A1 A2:=⟨SqT.of (sh _ _ el),z1,r2,z2,z3⟩;have RH:Rt K Hh ph A0 1 A1 A2:=⟨SqT.of eh,z1,r1,z2,z3⟩;have sm:Same H Hh:=s1.trans (sl.trans sh);refine⟨_,_,_,_,_,_,_,_,_,_,rfl,RE _,RL,_,rfl,_,_,rfl,rfl,_,rfl,aR (fun h3=>?_) (fun h3=>?_)⟩
   ·refine k _ _ sm (.inl ⟨rfl,?_⟩)
    rw[show decide (ro 1 0 0 1 A0 (-1) A1 A2<room)=true from h3];rfl
   rw[show decide (ro 1 0 0 1 A0 (-1) A1 A2<room)=false from h3,Bool.false_or]at k;refine⟨_,rfl,_,_,_,_,_,_,_,_,_,_,rfl,RH,RB _,_,rfl,_,_,rfl,rfl,_,rfl,aR (fun h4=>?_) (fun h4=>?_)⟩
   ·exact k _ _ sm (.inl ⟨rfl,h4⟩)
   rw[show decide (ro A0 1 A1 A2 0 0 0 1<room)=false from h4]at k;have fin:∀(l h:Addr) (ln hn:Int×Int×Int×Int),(∀H1,Same Hh H1->TpK K H1 l [.int ln.1,.int ln.2.1,.int ln.2.2.1,.int ln.2.2.2])->(∀H1,Same Hh H1->TpK K H1 h [.int hn.1,.int hn.2.1,.int hn.2.2.1,.int hn.2.2.2])->ln=dQ A0 A1 A2->hn=cS A0 A1 A2->(yF (yB (pF (Fi 6) (pF (Fi 7) xh)))) { nx:=fun _ H'=>Q .non H',rt:=Q } [some (.ref pc),some (.ref pb),some (.ref pe),some (.ref ps),some (.int room),some (.ref r),some (.ref l),some (.ref h)] Hh:=fun l h ln hn hl hh e1 e2 =>
    ⟨_,rfl,_,rfl,Sp1.sz (by simp),alloc fun p H1 s1 ep=>k _ _ (sm.trans s1) (.inr ⟨rfl,p,l,h,ln,hn,rfl,ep,hl _ s1,hh _ s1,e1,e2⟩)⟩
   have lT:ro A0 (-1) A1 A2 0 0 0 1<0->dQ A0 A1 A2=(0,0,0,1):=fun z=>by unfold dQ;rw[if_pos z]
   have lF:¬ro A0 (-1) A1 A2 0 0 0 1<0->dQ A0 A1 A2=(A0,-1,A1,A2):=fun z=>by unfold dQ;rw[if_neg z]
   have hT:ro A0 1 A1 A2 1 0 0 1>0->cS A0 A1 A2=(1,0,0,1):=fun z=>by unfold cS;rw[if_pos z]
   have hF:¬ro A0 1 A1 A2 1 0 0 1>0->cS A0 A1 A2=(A0,1,A1,A2):=fun z=>by unfold cS;rw[if_neg z]
   have tl:∀H1,Same Hh H1->TpK K H1 pl [.int A0,.int (-1),.int A1,.int A2]:=fun H1 s=>.inl (s _ _ (sh _ _ el));have th:∀H1,Same Hh H1->TpK K H1 ph [.int A0,.int 1,.int A1,.int A2]:=fun H1 s=>.inl (s _ _ eh);refine⟨_,rfl,_,_,_,_,_,_,_,_,_,_,rfl,RL,RB _,_,_,rfl,rfl,_,rfl,aR (fun h5=>?_) (fun h5=>?_)⟩
   ·refine⟨_,rfl,_,_,_,_,_,_,_,_,_,_,rfl,RH,RE _,_,_,rfl,rfl,_,rfl,aR (fun h6=>?_) (fun h6=>?_)⟩
    ·exact fin pB pE (0,0,0,1) (1,0,0,1) (fun H1 _=>tB H1) (fun H1 _=>tE H1) (lT (bz h5)).symm (hT (bz h6)).symm
    ·exact fin pB ph (0,0,0,1) (A0,1,A1,A2) (fun H1 _=>tB H1) th (lT (bz h5)).symm (hF (bU h6)).symm
   ·refine⟨_,rfl,_,_,_,_,_,_,_,_,_,_,rfl,RH,RE _,_,_,rfl,rfl,_,rfl,aR (fun h6=>?_) (fun h6=>?_)⟩
    ·exact fin pl pE (A0,-1,A1,A2) (1,0,0,1) tl (fun H1 _=>tE H1) (lF (bU h5)).symm (hT (bz h6)).symm
    ·exact fin pl ph (A0,-1,A1,A2) (A0,1,A1,A2) tl th (lF (bU h5)).symm (hF (bU h6)).symm
theorem Dv:zZ ["came","spot","row","ahead"] ["came","spot"] (am (top 52)):=smk
theorem rB(D4:Df K mg "row_to" (top 52))(T:Txt mg):Fn P w K mg base "row_to" ["came","spot"] 1 (Ef K):=by
 refine D4.fn Dv (fun _ _ _ _ _ _ us hl=>by obtain⟨_,_,rfl⟩:=dw hl;rfl) (fun vs H Q E h=>?_) (fun f cdv A outer s H vs Q E hr h=>?_)
 ·obtain⟨d,sv,es,i,e,rfl,_⟩:=h
  rfl
 ·obtain⟨d,sv,es,i,e,rfl,cm,tr,he,hsv,hl,q⟩:=h
  refine⟨_,(ai (ap (i:=2) Dv.nd rfl (Or.inl rfl) (aX ag)) (ai (dE PassesOwn.never (az fJ (pv 1) aW (aE _)) (ai (ap (i:=3) Dv.nd rfl (Or.inl rfl) (cP (bT hr) (pv 0) (pv 1) (fun _ _=>rfl))) (ai (bD (dG PySem.F.plainAttrs_list PySem.F.slot_list_append PySem.F.type_list_append aZ (pv 2) (ad (ax (ad (pv 1) (ad (aw au (pv 3) af (fun _ _=>rfl)) ag))) ag))) (ak (ap (i:=1) Dv.nd rfl (Or.inl rfl) (aw au (pv 3) af (fun _ _=>rfl))))))) (ai (bD (oG PySem.F.plainAttrs_list PySem.F.slot_list_reverse PySem.F.type_list_reverse iB (pv 2))) (ak (ay (pv 2)))))),?_⟩;refine⟨sz (by simp),fun r H1 s1 f1 n1=>?_⟩;have CM':∀{H':Hp},Same H H'->∃kvs,H' d=some (.dT kvs)∧Paired (Ent K H' es) es kvs:=fun {H'} s'=>by
   obtain⟨kvs,e1,e2⟩:=cm;exact⟨kvs,s' _ _ e1,Paired.mapP e2 fun a b x=>x.mono s'.t fun _ _ h=>h⟩
  refine dC (fun σ H'=>∃(cur:Option Nat) (cv:V) (done:List (aG×Lb)) (vs:List V) (av:Option V),σ = [some (.ref d),some cv,some (.ref r),av]∧Same H H'∧H' r=some (.lst vs)∧Paired (fun (e:aG×Lb) v=>∃t sv hv,v = .ref t∧H' t=some (.tup [sv,hv])∧bo H' sv e.1∧iY K H' hv e.2) done vs∧o5 es cur i done ∧
    (cur=none->cv = .non)∧(∀j,cur=some j->∃e,es[j]? = some e∧bo H' cv e.1∧done.length+j+1≤es.length)∧done.length≤es.length)
   (fun _ H'=>match H' r with|some (.lst vs)=>es.length - vs.length|_=>0) ⟨some i,sv,[],[],_,rfl,s1,f1,.nil,o5.begin,(fun z=>nomatch z),(fun j z=>by cases z;exact⟨e,he,hsv.mono s1.t,by have:=(List.getElem?_eq_some_iff.mp he).1;simp;omega⟩),Nat.zero_le _⟩ ?_ ?_
  ·rintro σ H2 ⟨cur,cv,done,vs,av,rfl,s2,f2,pr,lf,c0,c1,dl⟩
   refine⟨_,rfl,rfl,_,rfl,?_⟩;cases cur with
   | none =>
    rw[c0 rfl];refine ig ?_;refine⟨_,rfl,.inl ⟨rfl,_,SqL.of f2⟩,r,_,rfl,rfl,f2,fun H3 u=>?_⟩;refine⟨_,rfl,?_⟩;have s3:Same H H3:=fun b o eb=>u.at (fun z=>by rw[z,n1]at eb;cases eb) (s2 b o eb);refine q r H3 done.reverse s3 (by simpa using lf [] rfl) (by simpa using dl) ⟨_,u.now,?_⟩;exact jD (Paired.mapP pr fun a b ⟨t,sv,hv,x1,x2,x3,x4⟩=>⟨t,sv,hv,x1,u.t _ _ x2,x3.mono u.t,x4.mono u.t⟩)
   | some j =>
    obtain⟨e,he,hs,hj⟩:=c1 j rfl;obtain⟨p,rfl,hp⟩:=hs;refine qY ?_;obtain⟨kvs,kd,kp⟩:=CM' s2;obtain⟨kv,hkv,ke,t,pv,hvv,kt,ht,lbv,h0,h1⟩:=oH kp j e he;have nd:(kvs.map (·.1)).Nodup:=by rw[lZ kp];exact tr.nd
    have vv:=uQ nd hkv;rw[ke,kt]at vv;have dg:=fB.t kd hp;rw[vv]at dg;refine⟨_,rfl,_,rfl,d,_,rfl,dg,?_⟩;refine⟨_,rfl,.inl ⟨rfl,_,SqL.of f2⟩,_,rfl,_,rfl,t,_,_,_,rfl,rfl,SqT.of ht,rfl,sz (by simp),fun x H3 s3 f3 n3=>?_⟩;have lv:=Paired.length pr;refine⟨r,_,_,rfl,rfl,s3 _ _ f2,aM (by omega),fun H4 u=>?_⟩;have s4:Same H H4:=fun b o eb=>u.at (fun z=>by rw[z,n1]at eb;cases eb) (s3 _ _ (s2 b o eb));have t4:=s3.t.trans u.t;refine⟨_,rfl,t,_,_,_,rfl,rfl,SqT.of (t4 _ _ ht),rfl,?_⟩;refine⟨⟨e.2.1,pv,done++[(e.1,e.2.2)],_,_,rfl,s4,u.now,Paired.snoc (Paired.mapP pr fun a b ⟨t,sv,hv,x1,x2,x3,x4⟩=>⟨t,sv,hv,x1,t4 _ _ x2,x3.mono t4,x4.mono t4⟩) ⟨x,.ref p,hvv,rfl,u.t _ _ f3,⟨p,rfl,t4 _ _ hp⟩,lbv.mono t4⟩,lf.up he,h0,fun j' hj'=>?_,?_⟩,?_⟩
    ·obtain⟨e',g1,g2⟩:=h1 j' hj'
     have:=tr.up j e j' he hj';refine⟨e',g1,g2.mono t4,?_⟩;rw[List.length_append,List.length_singleton];omega
    ·rw[List.length_append,List.length_singleton]
     omega
    ·show(match H4 r with|some (.lst vs)=>es.length - vs.length|_=>0)<(match H2 r with|some (.lst vs)=>es.length - vs.length|_=>0)
     rw[u.now,f2];show es.length - (vs++[V.ref x]).length<es.length - vs.length;rw[List.length_append,List.length_singleton];omega
  ·rintro σ H' Q1 Q2 hq ⟨v,e,hs,k,ek,r⟩
   exact⟨v,e,hs,k,ek,hq _ _ r⟩
theorem CT:zZ ["begins","steps_from","is_end","came","spot","row","number","step"] ["begins","steps_from","is_end"] (am (top 53)):=smk
theorem vQ(EU:Df K mg "seek" (top 53))(D3:Fn P w K mg base "row_to" ["came","spot"] 1 (Ef K))(T:Txt mg):Fn P w K mg base "seek" ["begins","steps_from","is_end"] 10 (sr P w K mg base 8):=by
 refine EU.fn CT (fun _ _ _ _ _ _ us hl=>by obtain⟨_,_,_,rfl⟩:=iL hl;rfl) (fun vs H Q E h=>?_) (fun f cdv A outer s H vs Q E hr h=>?_)
 ·obtain⟨b,f1,f2,bvs,bs,U,stp,fin,rfl,_⟩:=h
  rfl
 ·obtain⟨b,f1,f2,bvs,bs,U,stp,fin,rfl,hb,pb,nd,hU,hul,F,q0,q1⟩:=h
  refine⟨_,(ai (ap (i:=3) CT.nd rfl (Or.inl rfl) gH) (ai (bW PassesOwn.never rfl (fH (pv 0)) (aS (i:=4) CT.nd rfl (Or.inl rfl)) (ak (dA (bT hr) (pv 3) (pv 4) (ax (ad aW (ad aW ag))) rfl))) (ai (ap (i:=5) CT.nd rfl (Or.inl rfl) (qK kC (by rfl) T.z_list v7 (ad (pv 0) ag))) (ai (ap (i:=6) CT.nd rfl (Or.inl rfl) af) (ai (dE PassesOwn.never (az dn (pv 6) (aT a6 (by rfl) T.z_len dL (ad (pv 5) ag)) (aE _)) (ai (ap (i:=4) CT.nd rfl (Or.inl rfl) (aw cr (pv 5) (pv 6) (fun _ _=>rfl))) (ai (aL (cW (mO (k:=8) (i:=2) (hr.mono (by decide)) rfl (Or.inl rfl) (ad (pv 4) ag))) (ak (ay (aA D3 (hr.mono (by decide)) (by rfl) (ad (pv 3) (ad (pv 4) ag))))) aF) (ai (bW PassesOwn.never rfl (fH (mO (k:=8) (i:=1) (hr.mono (by decide)) rfl (Or.inl rfl) (ad (pv 4) ag))) (aS (i:=7) CT.nd rfl (Or.inl rfl)) (ak (aL (g8 (kR (bT hr) (aw au (pv 7) af (fun _ _=>rfl)) (pv 3)) (by rfl)) (ai (dA (bT hr) (pv 3) (aw au (pv 7) af (fun _ _=>rfl)) (ax (ad (pv 4) (ad (aw au (pv 7) af (fun _ _=>rfl)) ag))) rfl) (ak (bD (dG PySem.F.plainAttrs_list PySem.F.slot_list_append PySem.F.type_list_append aZ (pv 5) (ad (aw au (pv 7) af (fun _ _=>rfl)) ag))))) aF))) (ak (xy (i:=6) CT.nd rfl (Or.inl rfl) af xU)))))) (ak (ay aW))))))),?_⟩;obtain⟨sp1,i1,c1⟩:=F.c1;obtain⟨sp2,i2,c2⟩:=F.c2;have FO:∀{f:Addr} {H':Hp},o6 H f->Same H H'->o6 H' f:=fun {f H'} ⟨o,fd,e,d⟩ s=>⟨o,fd,s _ _ e,d⟩;have bl:=Paired.length pb;refine fun d hd=>?_;have s1:Same H (upd H d (.dT [])):=Same.new hd;refine⟨_,rfl,b,rfl,⟨_,SqL.of (s1 _ _ hb)⟩,gL (K:=K) (xs:=bvs) (fun i σ H'=>∃spv,σ = [some (.ref b),some (.ref f1),some (.ref f2),some (.ref d),spv,none,none,none]∧Same H H'∧iz K H' d ((bs.take i).map fun s=>(s,none,.no))) ⟨_,rfl,s1,[],upd_same,.nil⟩ ?_ ?_ ?_⟩
  ·rintro i σ H' hi ⟨spv,rfl,s',_⟩
   exact SqL.of (s' _ _ hb)
  ·rintro i x σ H' hx ⟨spv,rfl,s',cm⟩
   obtain⟨s,hs,p,rfl,hp⟩:=cR pb i x hx;refine⟨sz (by simp),fun t H2 s2 f2 n2=>⟨_,rfl,_,rfl,?_⟩⟩;have hns:s∉(((bs.take i).map fun s=>((s,none,.no):En)).map (·.1)):=by
    rw[List.map_map];show s∉(bs.take i).map id;rw[List.map_id];intro z;obtain⟨j,hj⟩:=List.getElem?_of_mem z;have ⟨j1,j2⟩:=List.getElem?_eq_some_iff.mp hj;rw[List.length_take]at j1;rw[List.getElem?_take_of_lt (by omega)]at hj;have:=qR nd hs hj;omega
   have hlb:=kY nd hU;obtain⟨H3,dp,cm3,t3,o3⟩:=(cm.mono s2).add (s:=s) (pj:=none) (s2 _ _ (s' _ _ hp)) f2 (h:=.no) rfl hns (fun _=>rfl) (fun j z=>nomatch z) (by simp;omega)
   have s3:Same H H3:=fun x o e=>by
    rw[o3 x (fun z=>by rw[z,hd]at e;cases e)];exact s2 _ _ (s' _ _ e)
   refine⟨d,H3,rfl,dp,_,rfl,s3,?_⟩;rw[List.take_add_one,hs,List.map_append];exact cm3
  ·rintro σ H2 ⟨spv,rfl,s2,cm⟩
   rw[List.take_of_length_le (by omega)]at cm;refine⟨_,rfl,b,_,rfl,.inl (SqL.of (s2 _ _ hb)),fun r H3 s3 f3 n3=>?_⟩;have nr:H r=none:=s2.free n3;have rd:r≠d:=fun z=>by
    obtain⟨kvs,e1,_⟩:=cm;rw[z,e1]at n3;cases n3
   refine dC (fun σ H'=>∃(es:List En) (n:Nat) (spv stv:Option V) (rvs:List V),σ = [some (.ref b),some (.ref f1),some (.ref f2),some (.ref d),spv,some (.ref r),some (.int (n:Int)),stv]∧Same H H'∧iz K H' d es∧H' r=some (.lst rvs)∧Paired (fun (e:En) v=>bo H' v e.1) es rvs∧BH bs U stp fin es n∧es=bJ bs stp n)
    (fun σ _=>match σ with | [_,_,_,_,_,_,some (.int n),_]=>U.length - n.toNat|_=>0) ⟨_,0,_,_,_,rfl,s2.trans s3,cm.mono s3,f3,?_,BH.first nd hU,rfl⟩ ?_ ?_
   ·have:∀{bs:List aG} {bvs:List V},Paired (fun s v=>bo H v s) bs bvs->Paired (fun (e:En) v=>bo H3 v e.1) (bs.map fun s=>(s,none,.no)) bvs:=by
     intro bs bvs pb
     induction pb with
     | nil=>exact .nil
     | cons a r ih=>exact .cons (bo.mono a (s2.trans s3).t) ih
    exact this pb
   ·rintro σ H4 ⟨es,n,spv,stv,rvs,rfl,s4,cm4,f4,pr,go,esn⟩
    have el:=Paired.length pr;have gl:=go.len;refine⟨_,rfl,_,rfl,r,_,rfl,.inl (SqL.of f4),_,_,rfl,rfl,_,rfl,aR (fun g1=>?_) (fun g1=>?_)⟩
    ·have g1:(n:Int)<(rvs.length:Int):=bz g1
     obtain⟨v,hv⟩:∃v,rvs[n]? = some v:=⟨rvs[n]'(by omega),by simp[show n<rvs.length by omega]⟩;obtain⟨e,he,hsp⟩:=cR pr n v hv;have eU:=go.inU e (List.mem_of_getElem? he);refine⟨_,rfl,_,rfl,r,_,_,_,rfl,rfl,SqL.of f4,eD hv,?_⟩;refine⟨f2,sp2,rfl,i2,FO F.o2 s4,_,rfl,FO F.o2 s4,c2 H4 v e.1 _ s4 hsp eU fun H5 s5=>⟨_,rfl,aR (fun g2=>?_) (fun g2=>?_)⟩⟩
     ·refine⟨_,rfl,_,rfl,d,v,es,n,e,rfl,cm4.mono s5,go.tree,he,hsp.mono s5.t,by omega,fun r' H' l s' p hl ra=>?_⟩
      obtain⟨w1,w2,e',w3,w4⟩:=vh (fin:=fin) go.grown p;rw[he]at w3;cases w3;exact q1 r' H' l ((s4.trans s5).trans s') ⟨w1,w2,_,w4,g2⟩ ⟨n,e,by rw[<- esn];exact he,g2,(fun i hi=>by
       have hl:=go.le;have hx:es[i]? = some (es[i]'(by omega)):=List.getElem?_eq_getElem (by omega);exact⟨_,by rw[<- esn];exact hx,(go.seen i _ hi hx).1⟩),by rw[<- esn];exact p⟩ (by omega) ra
     ·refine⟨f1,sp1,rfl,i1,FO F.o1 (s4.trans s5),_,rfl,FO F.o1 (s4.trans s5),c1 H5 v e.1 _ (s4.trans s5) (hsp.mono s5.t) eU fun rl H6 s6 n6 st=>?_⟩
      obtain⟨svs,hr6,ps⟩:=st;have sl:=Paired.length ps;have few:=F.few _ eU;have cm6:=(cm4.mono s5).mono s6;have rld:rl≠d:=fun z=>by
       obtain⟨kvs,e1,_⟩:=cm4.mono s5;rw[z,e1]at n6;cases n6
      have rlr:rl≠r:=fun z=>by
       rw[z,s5 _ _ f4]at n6;cases n6
      have pr6:Paired (fun (e:En) v=>bo H6 v e.1) es rvs:=Paired.mapP pr fun a b x=>x.mono (s5.t.trans s6.t);refine⟨rl,rfl,⟨_,SqL.of hr6⟩,gL (K:=K) (xs:=svs) (fun i σ H'=>∃(es':List En) (stv:Option V) (rvs:List V),σ = [some (.ref b),some (.ref f1),some (.ref f2),some (.ref d),some v,some (.ref r),some (.int (n:Int)),stv]∧Same H H'∧SameT H6 H'∧H' rl=some (.lst svs)∧iz K H' d es'∧H' r=some (.lst rvs)∧Paired (fun (e:En) v=>bo H' v e.1) es' rvs∧BH bs U stp fin es' n∧es'[n]? = some e∧es'=((stp e.1).take i).foldl (oV n) es∧∀(k:Nat) x,k<i->(stp e.1)[k]? = some x->x.1∈es'.map (·.1))
       ⟨es,_,rvs,rfl,(s4.trans s5).trans s6,SameT.refl,hr6,cm6,s6 _ _ (s5 _ _ f4),pr6,go,he,rfl,fun k x z=>absurd z (Nat.not_lt_zero _)⟩ ?_ ?_ ?_⟩
      ·rintro i σ H7 hi ⟨es',stv,rvs,rfl,s7,t7,h7,_⟩
       exact SqL.of h7
      ·rintro i x σ H7 hx ⟨es',stv,rvs,rfl,s7,t7,h7,cm7,f7,pr7,go7,he7,fo7,sn7⟩
       have el7:=Paired.length pr7;have gl7:=go7.len;obtain⟨y,hy,t,sv,hvv,rfl,ht,⟨p,rfl,hp⟩,lbv⟩:=cR ps i x hx;have ht7:=t7 _ _ ht;have hp7:=t7 _ _ hp;obtain⟨o,dg,iff⟩:=cm7.look hp7;refine⟨_,rfl,t,_,_,_,rfl,rfl,SqT.of ht7,rfl,_,rfl,d,o,rfl,dg,_,rfl,?_⟩;cases ho:o.isSome with
       | true =>
        refine ig ?_;refine⟨es',_,rvs,rfl,s7,t7,h7,cm7,f7,pr7,go7,he7,by rw[List.take_add_one,hy,Option.toList_some,List.foldl_append,<- fo7];exact(if_pos (iff.mp ho)).symm,fun k x hk hz=>?_⟩
        by_cases z:k=i
        ·subst z
         rw[hy]at hz;cases hz;exact iff.mp ho
        ·exact sn7 k x (by omega) hz
       | false =>
        have hnew:y.1∉es'.map (·.1):=fun z=>by rw[iff.mpr z]at ho;cases ho
        have hyU:=F.shut _ eU y (List.mem_of_getElem? hy);refine qY ?_;refine⟨_,rfl,_,rfl,t,_,_,_,rfl,rfl,SqT.of ht7,rfl,sz (by simp),fun x8 H8 s8 f8 n8=>⟨_,rfl,_,rfl,t,_,_,_,rfl,rfl,SqT.of (s8 _ _ ht7),rfl,?_⟩⟩;obtain⟨H9,dp,cm9,t9,o9⟩:=(cm7.mono s8).add (s:=y.1) (pj:=some n) (h:=y.2) (s8 _ _ hp7) f8 (lbv.mono (t7.trans s8.t)) hnew (fun z=>nomatch z) (fun j z=>by cases z;exact⟨e,he7,hsp.mono (((s5.t.trans s6.t).trans t7).trans s8.t)⟩) (by omega)
        refine⟨d,H9,rfl,dp,?_⟩;have f9:H9 r=some (.lst rvs):=(o9 r rd).trans (s8 _ _ f7);have T9:=s8.t.trans t9;refine⟨_,rfl,.inl ⟨rfl,_,SqL.of f9⟩,_,rfl,t,_,_,_,rfl,rfl,SqT.of (T9 _ _ ht7),rfl,r,_,_,rfl,rfl,f9,aM (by omega),fun H10 u=>?_⟩;have T10:=T9.trans u.t;have s10:Same H H10:=fun x o eo=>by
         refine u.at (fun z=>by rw[z,nr]at eo;cases eo) ?_;rw[o9 x (fun z=>by rw[z,hd]at eo;cases eo)];exact s8 _ _ (s7 _ _ eo)
        have cm10:iz K H10 d (es'++[(y.1,some n,y.2)]):=by
         obtain⟨kvs,k1,k2⟩:=cm9;exact⟨kvs,u.at (fun z=>rd z.symm) k1,Paired.mapP k2 fun a b x=>x.mono u.t fun _ _ h=>h⟩
        refine⟨es'++[(y.1,some n,y.2)],_,_,rfl,s10,t7.trans T10,u.at rlr ((o9 rl rld).trans (s8 _ _ h7)),cm10,u.now,Paired.snoc (Paired.mapP pr7 fun a b x=>x.mono T10) ⟨p,rfl,T10 _ _ hp7⟩,go7.add he7 (List.mem_of_getElem? hy) hyU hnew,?_,by rw[List.take_add_one,hy,Option.toList_some,List.foldl_append,<- fo7];exact(if_neg hnew).symm,fun k x hk hz=>?_⟩
        ·rw[List.getElem?_append_left (List.getElem?_eq_some_iff.mp he7).1]
         exact he7
        ·rw[List.map_append]
         by_cases z:k=i
         ·subst z
          rw[hy]at hz;cases hz;exact List.mem_append_right _ (by simp)
         ·exact List.mem_append_left _ (sn7 k x (by omega) hz)
      ·rintro σ H7 ⟨es',stv,rvs,rfl,s7,t7,h7,cm7,f7,pr7,go7,he7,fo7,sn7⟩
       refine⟨_,rfl,_,_,rfl,rfl,?_⟩;refine⟨⟨es',n+1,_,_,rvs,rfl,s7,cm7,f7,pr7,go7.next he7 g2 fun x hx=>?_,?_⟩,?_⟩
       ·obtain⟨k,hk⟩:=List.getElem?_of_mem hx
        exact sn7 k x (by have:=(List.getElem?_eq_some_iff.mp hk).1;omega) hk
       ·rw[fo7,List.take_of_length_le (by omega)]
        show _=match (bJ bs stp n)[n]? with
         | some e=>(stp e.1).foldl (oV n) (bJ bs stp n)
         | none=>bJ bs stp n
        rw[<- esn,he]
       ·have gl7:=go7.len
        have ln:=(List.getElem?_eq_some_iff.mp he7).1;show U.length - ((n:Int)+1).toNat<U.length - (n:Int).toNat;omega
    ·have g1:¬((n:Int)<(rvs.length:Int)):=fun z=>by rw[show decide ((n:Int)<(rvs.length:Int))=true from decide_eq_true z]at g1;cases g1
     exact q0 H4 s4 (go.shut (by omega))
   ·rintro σ H' Q1 Q2 hq ⟨v,e,w,e2,r,xs,h1,h2,i,j,h3,h4,k,ek,rr⟩
    exact⟨v,e,w,e2,r,xs,h1,h2,i,j,h3,h4,k,ek,hq _ _ rr⟩
def fi(qs1 qs2:Crn)(a b room:Int)(i j:Int):Bool:=match qs1[i.toNat]?,qs2[j.toNat]? with
 | some c,some d=>decide (lo c.2.1 c.2.2 d.2.1 d.2.2 a b<room)
 | _,_=>false
theorem vT{qs1 qs2:Crn}{a b room:Int}{i j:Nat}{c d:Addr×Int×Int}(hc:qs1[i]? = some c)(hd:qs2[j]? = some d):fi qs1 qs2 a b room i j=decide (lo c.2.1 c.2.2 d.2.1 d.2.2 a b<room):=by
 unfold fi;rw[Int.toNat_natCast,Int.toNat_natCast,hc,hd]
inductive Ft (vs:List V) (H:Hp) (Q:VK) (x_3:XK):Prop
 | mk:∀(l1 l2 sp:Addr) (qs1 qs2:Crn) (a b room:Int),(vs = [.ref l1,.ref l2,.ref sp,.int room])->(LineM H l1 qs1)->(LineM H l2 qs2)->((1≤qs1.length∧qs1.length≤20))->((1≤qs2.length∧qs2.length≤20))->(Sq H sp a b)->(∀d H',Same H H'->mo H' d (qs1.length - 1) (qs2.length - 1) (fi qs1 qs2 a b room)->Q (.ref d) H')->Ft vs H Q x_3
inductive DS (vs:List V) (H:Hp) (Q:VK) (x_3:XK):Prop
 | mk:∀(c:Addr) (i j:Int),(vs = [.ref c])->(H c=some (.tup [.int i,.int j]))->((0≤i∧i≤1000))->((0≤j∧j≤1000))->(∀(q:Pr) H',Same H H'->PrAt H' q->prC q (i,j)->Q (.ref q.p) H')->DS vs H Q x_3
theorem yW{H:Hp}{p x y:Addr}{i j:Int}(hp:H p=some (.tup [.ref x,.ref y]))(hx:H x=some (.tup [.int i,.int 1]))(hy:H y=some (.tup [.int j,.int 1]))(bi:0≤i∧i≤1000)(bj:0≤j∧j≤1000):PrAt H ⟨p,x,y,i,1,j,1⟩:=by
 have b1:∀{k:Int},0≤k∧k≤1000->aq k≤10:=fun {k} h=>eC (by omega) h.2;have one:aq (1:Int)≤60:=ar (b1 (k:=1) ⟨by decide,by decide⟩) (by decide);have lw:∀k:Int,EB k 1:=fun k=>⟨Int.le_refl 1,by simp⟩;exact⟨hp,hx,hy,lw i,lw j,bi.1,bj.1,ar (b1 bi) (by decide),one,ar (b1 bj) (by decide),one⟩
def xr(P:Int×Int->Bool):aG×V->Bool
 | ([.inl x,.inl y],_)=>P (x,y)
 | _=>false
theorem fX{P:Int×Int->Bool}:∀{l:List (Int×Int)},(kvF l).filter (xr P)=kvF (l.filter P)
 | []=>rfl
 | p::r=>by
  have ih:=fX (P:=P) (l:=r);unfold kvF at ih ⊢;rw[List.map_cons,List.filter_cons,List.filter_cons,ih];show(if P p=true then _ else _)=_
  split <;> rfl
theorem fS{α β γ:Type}{G:β->γ->Prop}{f:α->β}:∀{l:List α} {ys:List γ},Paired G (l.map f) ys->Paired (fun a y=>G (f a) y) l ys
 | [],_,h=>by cases h;exact .nil
 | a::r,_,h=>by
  cases h with
  | cons h1 h2=>exact .cons h1 (fS h2)
theorem gI{α β γ:Type}{G:β->γ->Prop}{f:α->β}:∀{l:List α} {ys:List γ},Paired (fun a y=>G (f a) y) l ys->Paired G (l.map f) ys
 | [],_,h=>by cases h;exact .nil
 | a::r,_,h=>by
  cases h with
  | cons h1 h2=>exact .cons h1 (gI h2)
theorem DD:zZ ["corner"] ["corner"] (am (top 46)):=smk
theorem gP(Bh:Df K mg "pair_at_corner" (top 46)):Fn P w K mg base "pair_at_corner" ["corner"] 1 DS:=by
 refine Bh.fn DD (fun _ _ _ _ _ _ us hl=>by obtain⟨_,rfl⟩:=d9 hl;rfl) (fun vs H Q E h=>?_) (fun f cdv A outer s H vs Q E hr h=>?_)
 ·obtain⟨c,i,j,rfl,_⟩:=h
  rfl
 ·obtain⟨c,i,j,rfl,hc,bi,bj,q⟩:=h
  refine⟨_,(ak (ay (@ax _ _ _ _ _ (@ad _ _ _ _ _ (@ax _ _ _ _ _ (@ad _ _ _ _ _ (aw au (pv 0) af (fun _ _=>rfl)) (@ad _ _ _ _ _ af ag (by rfl)) (by rfl))) (@ad _ _ _ _ _ (@ax _ _ _ _ _ (@ad _ _ _ _ _ (aw au (pv 0) af (fun _ _=>rfl)) (@ad _ _ _ _ _ af ag (by rfl)) (by rfl))) ag (by rfl)) (by rfl))))),?_⟩;refine⟨_,rfl,c,_,_,_,rfl,rfl,SqT.of hc,rfl,sz (by simp),fun x H1 s1 f1 n1=>?_⟩;refine⟨_,rfl,c,_,_,_,rfl,rfl,SqT.of (s1 _ _ hc),rfl,sz (by simp),fun y H2 s2 f2 n2=>⟨sz (by simp),fun p H3 s3 f3 n3=>?_⟩⟩;exact q ⟨p,x,y,i,1,j,1⟩ H3 ((s1.trans s2).trans s3) (yW f3 ((s2.trans s3) _ _ f1) (s3 _ _ f2) bi bj) ⟨rfl,rfl,rfl,rfl⟩
theorem AC:zZ ["one","other","square","room","far","i","corner","j","beside"] ["one","other","square","room"] (am (top 42)):=smk
theorem jR(Ce:Df K mg "far_corners" (top 42))(AD:Fn P w K mg base "leash_order" ["one","other","square"] 2 FF)(T:Txt mg):Fn P w K mg base "far_corners" ["one","other","square","room"] 3 Ft:=by
 refine Ce.fn AC (fun _ _ _ _ _ _ us hl=>by obtain⟨_,_,_,_,rfl⟩:=tQ hl;rfl) (fun vs H Q E h=>?_) (fun f cdv A outer s H vs Q E hr h=>?_)
 ·obtain⟨l1,l2,sp,qs1,qs2,a,b,room,rfl,_⟩:=h
  rfl
 ·obtain⟨l1,l2,sp,qs1,qs2,a,b,room,rfl,L1,L2',b1,b2,sq,q⟩:=h
  refine⟨_,(ai (ap (i:=4) AC.nd rfl (Or.inl rfl) gH) (ai (bW PassesOwn.never rfl (jb rfl T.z_enumerate (ad (pv 0) ag)) (hV rfl (bZ (aS (i:=5) AC.nd rfl (Or.inl rfl)) (bZ (aS (i:=6) AC.nd rfl (Or.inl rfl)) fI))) (ak (bW PassesOwn.never rfl (jb rfl T.z_enumerate (ad (pv 1) ag)) (hV rfl (bZ (aS (i:=7) AC.nd rfl (Or.inl rfl)) (bZ (aS (i:=8) AC.nd rfl (Or.inl rfl)) fI))) (ak (aL (az dn (aA AD (hr.mono (by decide)) (by rfl) (ad (pv 6) (ad (pv 8) (ad (pv 2) ag)))) (pv 3) (aE _)) (ak (dA (bT hr) (pv 4) (ax (ad (pv 5) (ad (pv 7) ag))) dH rfl)) aF))))) (ak (ay (xE (pv 4)))))),?_⟩;have hl1:(qs1.map fun (q:Addr×Int×Int)=>V.ref q.1).length=qs1.length:=List.length_map _;have hl2:(qs2.map fun (q:Addr×Int×Int)=>V.ref q.1).length=qs2.length:=List.length_map _;generalize hF:fi qs1 qs2 a b room=F at q;refine fun d hd=>?_;have s0:Same H (upd H d (.dT [])):=Same.new hd;refine⟨_,rfl,l1,rfl,⟨_,SqL.of (s0 _ _ L1.lst)⟩,gM (K:=K) (a:=l1) (xs:=qs1.map fun (q:Addr×Int×Int)=>V.ref q.1) (fun i σ H'=>∃(z5 z6 z7 z8:Option V),σ = [some (.ref l1),some (.ref l2),some (.ref sp),some (.int room),some (.ref d),z5,z6,z7,z8]∧Same H H'∧H' d=some (.dT (kvF (gf F qs2.length i))))
   ⟨_,_,_,_,rfl,s0,upd_same⟩ (fun i σ H' _ ⟨_,_,_,_,_,s',_⟩=>SqL.of (s' _ _ L1.lst)) ?_ ?_⟩
  ·rintro i x pp σ H1 H2 hx ⟨z5,z6,z7,z8,rfl,s1,e1⟩ s2 f2
   rw[List.getElem?_map]at hx;obtain⟨u,hu,rfl⟩:=Option.map_eq_some_iff.mp hx;have iu:=(List.getElem?_eq_some_iff.mp hu).1;have S2:=s1.trans s2;refine⟨pp,_,rfl,SqT.of f2,rfl,_,_,rfl,_,_,rfl,rfl,?_⟩;refine⟨_,rfl,l2,rfl,⟨_,SqL.of (S2 _ _ L2'.lst)⟩,gM (K:=K) (a:=l2) (xs:=qs2.map fun (q:Addr×Int×Int)=>V.ref q.1) (fun j σ H'=>∃(z7 z8:Option V),σ = [some (.ref l1),some (.ref l2),some (.ref sp),some (.int room),some (.ref d),some (.int (i:Int)),some (.ref u.1),z7,z8]∧Same H H'∧H' d=some (.dT (kvF (gf F qs2.length i++fP F i j))))
    ⟨_,_,rfl,S2,by rw[show fP F i 0 = [] from rfl,List.append_nil];exact s2 _ _ e1⟩ (fun i σ H' _ ⟨_,_,_,s',_⟩=>SqL.of (s' _ _ L2'.lst)) ?_ ?_⟩
   ·rintro j x pp σ H3 H4 hx ⟨z7,z8,rfl,s3,e3⟩ s4 f4
    rw[List.getElem?_map]at hx;obtain⟨v,hv,rfl⟩:=Option.map_eq_some_iff.mp hx;have jv:=(List.getElem?_eq_some_iff.mp hv).1;have S4:=s3.trans s4;have cu:=(L1.mono S4).crn u (List.mem_of_getElem? hu);have cv:=(L2'.mono S4).crn v (List.mem_of_getElem? hv);have e4:=s4 _ _ e3;have fa:F i j=decide (lo u.2.1 u.2.2 v.2.1 v.2.2 a b<room):=by rw[<- hF];exact vT hu hv
    refine⟨pp,_,rfl,SqT.of f4,rfl,_,_,rfl,_,_,rfl,rfl,?_⟩;refine⟨_,rfl,_,rfl,_,rfl,u.1,v.1,sp,_,_,_,_,_,_,rfl,⟨cu.1,fF cu.2.1,fF cu.2.2⟩,⟨cv.1,fF cv.2.1,fF cv.2.2⟩,sq.mono S4,_,rfl,_,_,rfl,rfl,_,rfl,aR (fun g=>?_) (fun g=>?_)⟩
    ·rw[<- fa]at g
     refine⟨_,rfl,_,rfl,_,rfl,sz (by simp),fun c H5 s5 f5 n5=>?_⟩;have e5:=s5 _ _ e4;have nk:((i:Int),(j:Int))∉gf F qs2.length i++fP F i j:=fun z=>by
      rcases List.mem_append.mp z with z|z
      ·have:=(jG.mp z).2.1
       dsimp only at this;omega
      ·have:=(gJ.mp z).2.2.1
       dsimp only at this;omega
     have nv:cT (kvF (gf F qs2.length i++fP F i j)) (ck i j)=none:=gu fun z=>nk (mY.mp z);have len:(kvF (gf F qs2.length i++fP F i j)).length<sizeLine:=by
      unfold kvF;rw[List.length_map,List.length_append];have h1:=jS (F:=F) (n:=qs2.length) (i:=i);have h2:=mI (F:=F) (i:=i) (k:=j);have h3:=Nat.mul_le_mul (show i≤20 by omega) b2.2;exact aM (by omega)
     refine⟨d,_,rfl,j6.t (k:=ck i j) e5 f5 len,_,_,rfl,?_,?_⟩
     ·exact fun x o e=>by
       rw[aH (fun z=>by rw[z,hd]at e;cases e)];exact s5 _ _ (S4 _ _ e)
     ·rw[upd_same,gF _ nv,g7,if_pos g]
      unfold kvF;rw[<- List.append_assoc,List.map_append (l₂:=[_])];rfl
    ·rw[<- fa]at g
     refine⟨_,_,rfl,S4,?_⟩;rw[g7,if_neg (by rw[g];exact Bool.false_ne_true),List.append_nil];exact e4
   ·rintro σ H3 ⟨z7,z8,rfl,s3,e3⟩
    rw[hl2,<- ip]at e3;exact⟨_,_,_,_,rfl,s3,e3⟩
  ·rintro σ H1 ⟨z5,z6,z7,z8,rfl,s1,e1⟩
   rw[hl1]at e1;refine⟨_,rfl,d,_,rfl,e1,fun o=>q d _ ?_ ⟨o,?_⟩⟩
   ·exact fun x o e=>by
     rw[aH (fun z=>by rw[z,hd]at e;cases e)];exact s1 _ _ e
   ·rw[upd_same]
    unfold ku;rw[show qs1.length - 1+1=qs1.length by omega,show qs2.length - 1+1=qs2.length by omega]
theorem sq0(x:Int):0≤x*x:=sqx x
structure Nm(K:W.Frag)(H:Hp)(p:Addr)(l:Int×Int×Int×Int):Prop where
 at_:TpK K H p [.int l.1,.int l.2.1,.int l.2.2.1,.int l.2.2.2]
 b0:aq l.1≤240
 b1:aq l.2.1≤2
 b2:aq l.2.2.1≤470
 b3:aq l.2.2.2≤240
 p2:0≤l.2.2.1
 p3:1≤l.2.2.2
theorem Nm.mono{K:W.Frag}{H H':Hp}{p:Addr}{l:Int×Int×Int×Int}(h:Nm K H p l)(s:Same H H'):Nm K H' p l:=⟨h.at_.mono s.t,h.b0,h.b1,h.b2,h.b3,h.p2,h.p3⟩
theorem tX{cx cy bx by_ ex ey x y:Int}(hne:¬[bx,by_] = [ex,ey])(hy:0<y):Gv (cI bx by_ ex ey) (rAl cx cy bx by_ ex ey) ((cx - bx)*(cx - bx)+(cy - by_)*(cy - by_)) (rBe cx cy bx by_ ex ey) x y (rAl cx cy bx by_ ex ey*y) (cI bx by_ ex ey*y) (rUn cx cy bx by_ ex ey x y):=by
 refine⟨?_,hy,?_,rfl,rfl,rfl⟩
 ·unfold cI
  have h1:=sq0 (ex - bx);have h2:=sq0 (ey - by_);have key:∀z:Int,z≠0->0<z*z:=fun z hz=>by
   rcases Int.lt_trichotomy z 0 with h|h|h
   ·exact Int.mul_pos_of_neg_of_neg h h
   ·exact absurd h hz
   ·exact Int.mul_pos h h
  by_cases h:ex - bx=0
  ·have h3:ey - by_≠0:=fun z=>hne (by rw[show bx=ex by omega,show by_=ey by omega])
   have:=key _ h3;omega
  ·have:=key _ h
   omega
 ·unfold rBe cI rAl
  grind
theorem y9{cx cy bx by_ x y:Int}:lo cx cy bx by_ x y=sg (x - ((cx - bx)*(cx - bx)+(cy - by_)*(cy - by_))*y):=by
 unfold lo;rw[show(bx - cx)*(bx - cx)=(cx - bx)*(cx - bx) by grind,show(by_ - cy)*(by_ - cy)=(cy - by_)*(cy - by_) by grind]
theorem flat{cx cy bx by_ ex ey:Int}(h:[bx,by_] = [ex,ey]):cI bx by_ ex ey=0∧rAl cx cy bx by_ ex ey=0:=by
 simp only[List.cons.injEq,and_true]at h;obtain⟨rfl,rfl⟩:=h;unfold cI rAl;rw[show bx - bx=0 by omega,show by_ - by_=0 by omega];simp
theorem kO{x:Int}:(sg x<0↔x<0)∧(sg x<1↔x≤0):=by
 rcases Int.lt_trichotomy x 0 with h|h|h
 ·rw[dM h];omega
 ·rw[jw h];omega
 ·rw[cF h];omega
theorem dD(x:Int):-1≤sg x∧sg x≤1:=by
 rcases Int.lt_trichotomy x 0 with h|h|h
 ·rw[dM h];omega
 ·rw[jw h];omega
 ·rw[cF h];omega
theorem uX(w m u n l:Int):-1≤bV w m u n l∧bV w m u n l≤1:=by
  unfold bV
  split
  · exact dD _
  · have pr:∀a b:Int,-1≤a->a≤1->-1≤b->b≤1->-1≤a*b∧a*b≤1:=fun a b h1 h2 h3 h4=>by
      have:a = -1∨a=0∨a=1:=by omega
      rcases this with rfl|rfl|rfl <;> omega
    unfold swr;have s1:=dD w
    first
      | (split
         · have s2:=dD (sg (w*w - m*m*u - n*n*l)+sg (-2*m*n))
           exact pr _ _ s1.1 s1.2 (dD _).1 (dD _).2
         · exact pr _ _ s1.1 s1.2 (pr _ _ (dD _).1 (dD _).2 (dD _).1 (dD _).2).1 (pr _ _ (dD _).1 (dD _).2 (dD _).1 (dD _).2).2)
      | exact pr _ _ s1.1 s1.2 (dD _).1 (dD _).2
theorem yT(a0 a1 a2 a3 b0 b1 b2 b3:Int):-1≤ro a0 a1 a2 a3 b0 b1 b2 b3∧ro a0 a1 a2 a3 b0 b1 b2 b3≤1:=uX _ _ _ _ _
structure GB(P L U:Int):Prop where
 u:0<U
 e:P - L<0∨(P - L)*(P - L)<U
 b:0<P∨P*P<U
section
variable {A B C be x y P L U:Int}
theorem _root_.Sp5.Gv.open1(g:Gv A B C be x y P L U):¬(sg U<1∨ro 1 0 0 1 P (-1) U L<1∨ro P 1 U L 0 0 0 1<1)↔GB P L U:=by
 constructor
 ·intro n
  have u:0<U:=by
   by_cases h:U≤0
   ·exact absurd (.inl (kO.2.mpr h)) n
   ·omega
  refine⟨u,?_,?_⟩
  ·by_cases z:ro 1 0 0 1 P (-1) U L<1
   ·exact absurd (.inr (.inl z)) n
   ·rw[dh P (-1) U L 1 0 0 1,g.lowE]at z
    exact(lV (by omega)).2.2.mp (by omega)
  ·by_cases z:ro P 1 U L 0 0 0 1<1
   ·exact absurd (.inr (.inr z)) n
   ·rw[g.highB]at z
    exact(lU (by omega)).2.2.mp (by omega)
 ·rintro⟨u,e,b⟩ n
  rcases n with n|n|n
  ·have:=kO.2.mp n
   omega
  ·rw[dh P (-1) U L 1 0 0 1,g.lowE]at n
   have:=(lV (W:=P - L) (U:=U) (by omega)).2.2.mpr e;omega
  ·rw[g.highB]at n
   have:=(lU (W:=P) (U:=U) (by omega)).2.2.mpr b;omega
end
theorem uw{A B y U:Int}(ba:aq A≤103)(bb:aq B≤103)(by_:aq y≤130)(bu:aq U≤470)(u0:0≤U)(l0:1≤A*y) :
  (aq (dQ (B*y) U (A*y)).1≤240∧aq (dQ (B*y) U (A*y)).2.1≤2∧aq (dQ (B*y) U (A*y)).2.2.1≤470∧aq (dQ (B*y) U (A*y)).2.2.2≤240∧0≤(dQ (B*y) U (A*y)).2.2.1∧1≤(dQ (B*y) U (A*y)).2.2.2) ∧
  (aq (cS (B*y) U (A*y)).1≤240∧aq (cS (B*y) U (A*y)).2.1≤2∧aq (cS (B*y) U (A*y)).2.2.1≤470∧aq (cS (B*y) U (A*y)).2.2.2≤240∧0≤(cS (B*y) U (A*y)).2.2.1∧1≤(cS (B*y) U (A*y)).2.2.2):=by
 have b1:aq (B*y)≤240:=ar (bits_mul bb by_) (by decide);have b2:aq (A*y)≤240:=ar (bits_mul ba by_) (by decide);constructor
 ·unfold dQ
  split
  ·decide
  ·exact⟨b1,(by show aq (-1)≤2;decide),bu,b2,u0,l0⟩
 ·unfold cS
  split
  ·decide
  ·exact⟨b1,(by show aq 1≤2;decide),bu,b2,u0,l0⟩
theorem uR{cx cy bx by_ ex ey x y:Int}(w1:aq (ex - bx)≤51)(w2:aq (ey - by_)≤51)(w3:aq (cx - bx)≤51)(w4:aq (cy - by_)≤51)(hx:aq x≤230)(hy:aq y≤130):aq (rUn cx cy bx by_ ex ey x y)≤470:=by
 unfold rUn;have bl:aq (cI bx by_ ex ey)≤103:=cM (bits_mul w1 w1) (bits_mul w2 w2);have bb:aq (rBe cx cy bx by_ ex ey)≤103:=ce (bits_mul w3 w2) (bits_mul w4 w1);exact ar (bits_mul hy (ce (n:=336) (ar (bits_mul hx bl) (by decide)) (bits_mul (bits_mul hy bb) bb))) (by decide)
def dX(cx cy bx by_ ex ey x y room:Int):Option (N4×N4):=if pwN cx cy bx by_ ex ey x y room=true then none else
 some (if decide ([bx,by_] = [ex,ey])=true then (0,0,0,1) else dQ (rAl cx cy bx by_ ex ey*y) (rUn cx cy bx by_ ex ey x y) (cI bx by_ ex ey*y),if decide ([bx,by_] = [ex,ey])=true then (1,0,0,1) else cS (rAl cx cy bx by_ ex ey*y) (rUn cx cy bx by_ ex ey x y) (cI bx by_ ex ey*y))
def wth(cx cy bx by_ ex ey a b:Int):Int:=cI bx by_ ex ey*a*a - 2*rAl cx cy bx by_ ex ey*a*b+((cx - bx)*(cx - bx)+(cy - by_)*(cy - by_))*b*b
theorem x6{a b:Int}(ha:0≤a)(hab:a≤b):d5 (some ((0,0,0,1),(1,0,0,1))) a b=true:=by
 unfold d5;dsimp only;rw[w5,p8.1,p8.2,Bool.and_eq_true,decide_eq_true_eq,decide_eq_true_eq];refine⟨pL.mpr (by omega),?_⟩;have:0≤sg (b - a):=by
  rcases Int.lt_or_eq_of_le (show 0≤b - a by omega) with z|z
  ·rw[cF z];decide
  ·rw[<- z];decide
 omega
theorem xq{x:Int}:(0≤sg x↔0≤x)∧(1≤sg x↔0<x):=by
 have:=kO (x:=x);omega
theorem k8{cx cy bx by_ ex ey x y a b:Int}(hy:0<y)(ha:0≤a)(hab:a≤b)(hb:0<b) :
  d5 (dX cx cy bx by_ ex ey x y 0) a b=decide (wth cx cy bx by_ ex ey a b*y≤x*(b*b))∧(wth cx cy bx by_ ex ey a b*y<x*(b*b)->d5 (dX cx cy bx by_ ex ey x y 1) a b=true)∧(xc (dX cx cy bx by_ ex ey x y 1) a b=true->wth cx cy bx by_ ex ey a b*y<x*(b*b)):=by
 have bb:0<b*b:=Int.mul_pos hb hb;unfold dX wth
 by_cases hs:[bx,by_] = [ex,ey]
 ·obtain⟨e1,e2⟩:=flat (cx:=cx) (cy:=cy) hs
  rw[e1,e2,decide_eq_true hs,if_pos rfl,if_pos rfl];unfold pwN;rw[if_pos hs,if_pos hs,y9];generalize (cx - bx)*(cx - bx)+(cy - by_)*(cy - by_)=C;have k:=xq (x:=x - C*y);have p:=lM (k:=b*b) (z:=x - C*y) bb;have e:b*b*(x - C*y)=x*(b*b) - (0*a*a - 2*0*a*b+C*b*b)*y:=by grind
  rw[e]at p;have f:=x6 ha hab;refine⟨?_,fun h=>?_,fun h=>?_⟩
  ·by_cases z:sg (x - C*y)≥0
   ·rw[decide_eq_true z,if_neg (by decide),f,eq_comm,decide_eq_true_eq]
    omega
   ·rw[decide_eq_false z,if_pos (by decide),eq_comm]
    exact decide_eq_false (by omega)
  ·rw[decide_eq_true (show sg (x - C*y)≥1 by omega),if_neg (by decide)]
   exact f
  ·by_cases z:sg (x - C*y)≥1
   ·omega
   ·rw[decide_eq_false z,if_pos (by decide)]at h
    cases h
 ·have gv:=tX (cx:=cx) (cy:=cy) (x:=x) hs hy
  rw[decide_eq_false hs,if_neg (show ¬(false=true) by decide),if_neg (show ¬(false=true) by decide)];have ct:=gv.ct a b;have w0:=sqx (rAl cx cy bx by_ ex ey*y*b - a*(cI bx by_ ex ey*y));unfold pwN;rw[if_neg hs,if_neg hs];refine⟨?_,fun h=>?_,fun h=>?_⟩
  ·by_cases z:sg (rUn cx cy bx by_ ex ey x y)<0∨ro 1 0 0 1 (rAl cx cy bx by_ ex ey*y) (-1) (rUn cx cy bx by_ ex ey x y) (cI bx by_ ex ey*y)<0∨ro (rAl cx cy bx by_ ex ey*y) 1 (rUn cx cy bx by_ ex ey x y) (cI bx by_ ex ey*y) 0 0 0 1<0
   ·rw[if_pos (by simp only[Bool.or_eq_true,decide_eq_true_eq];exact z),eq_comm]
    have fr:=gv.far (gv.shut' z) ha hab hb;exact decide_eq_false (by omega)
   ·rw[if_neg (by simp only[Bool.or_eq_true,decide_eq_true_eq];exact z)]
    have o:=gv.shut z;have bu:0≤b*b*rUn cx cy bx by_ ex ey x y:=Int.mul_nonneg (by omega) o.u;have l1:=(gv.low_le o.u ha hb).1;have h1:=(gv.high_ge o.u hab hb).1;unfold d5;dsimp only;rw[Bool.eq_iff_iff,Bool.and_eq_true,decide_eq_true_eq,decide_eq_true_eq,decide_eq_true_eq,l1,h1,<- ct.1];generalize rAl cx cy bx by_ ex ey*y*b - a*(cI bx by_ ex ey*y)=W at *;generalize b*b*rUn cx cy bx by_ ex ey x y=V at *;constructor
    ·rintro⟨q1,q2⟩
     rcases Int.lt_trichotomy W 0 with w|w|w
     ·omega
     ·rw[w];omega
     ·omega
    ·intro q
     exact⟨fun ⟨_,q2⟩=>by omega,fun ⟨_,q2⟩=>by omega⟩
  ·have hw:=ct.2.mpr h
   have u0:0<rUn cx cy bx by_ ex ey x y:=by
    have:=lM (k:=b*b) (z:=rUn cx cy bx by_ ex ey x y) bb;omega
   have wge:=gv.wge (a:=a) hab;have wle:=gv.wle (b:=b) ha;have o:GB (rAl cx cy bx by_ ex ey*y) (cI bx by_ ex ey*y) (rUn cx cy bx by_ ex ey x y):=by
    refine⟨u0,?_,?_⟩
    ·by_cases z:rAl cx cy bx by_ ex ey*y - cI bx by_ ex ey*y<0
     ·exact .inl z
     ·have s1:=kM (u:=b*(rAl cx cy bx by_ ex ey*y - cI bx by_ ex ey*y)) (Int.mul_nonneg (by omega) (by omega)) wge
      rw[kZ]at s1;exact .inr (Int.lt_of_mul_lt_mul_left (a:=b*b) (by omega) (by omega))
    ·by_cases z:0<rAl cx cy bx by_ ex ey*y
     ·exact .inl z
     ·have s1:=kM (u:=b * -(rAl cx cy bx by_ ex ey*y)) (v:=-(rAl cx cy bx by_ ex ey*y*b - a*(cI bx by_ ex ey*y))) (Int.mul_nonneg (by omega) (by omega)) (by rw[Int.mul_neg];omega)
      rw[kZ,Int.neg_mul_neg,Int.neg_mul_neg]at s1;exact .inr (Int.lt_of_mul_lt_mul_left (a:=b*b) (by omega) (by omega))
   have n:=gv.open1.mpr o;rw[if_neg (by simp only[Bool.or_eq_true,decide_eq_true_eq];exact n)];unfold d5;dsimp only;rw[Bool.and_eq_true,decide_eq_true_eq,decide_eq_true_eq,(gv.low_le (Int.le_of_lt u0) ha hb).1,(gv.high_ge (Int.le_of_lt u0) hab hb).1];exact⟨fun ⟨_,q2⟩=>by omega,fun ⟨_,q2⟩=>by omega⟩
  ·by_cases z:sg (rUn cx cy bx by_ ex ey x y)<1∨ro 1 0 0 1 (rAl cx cy bx by_ ex ey*y) (-1) (rUn cx cy bx by_ ex ey x y) (cI bx by_ ex ey*y)<1∨ro (rAl cx cy bx by_ ex ey*y) 1 (rUn cx cy bx by_ ex ey x y) (cI bx by_ ex ey*y) 0 0 0 1<1
   ·rw[if_pos (by simp only[Bool.or_eq_true,decide_eq_true_eq];exact z)]at h
    cases h
   ·rw[if_neg (by simp only[Bool.or_eq_true,decide_eq_true_eq];exact z)]at h
    have o:=gv.open1.mp z;have ou:=o.u;unfold xc at h;dsimp only at h;rw[Bool.and_eq_true,decide_eq_true_eq,decide_eq_true_eq]at h;have l2:=(gv.low_le (Int.le_of_lt ou) ha hb).2 h.1;have h2:=(gv.high_ge (Int.le_of_lt ou) hab hb).2 h.2;exact ct.2.mp (by omega)
def dZ(K:W.Frag)(H:Hp)(v:V)(o:Option (N4×N4)):Prop:=match o with
 | none=>v = .non
 | some (l,m)=>∃t p q:Addr,v = .ref t∧H t=some (.tup [.ref p,.ref q])∧Nm K H p l∧Nm K H q m
theorem dZ.mono{K:W.Frag}{H H':Hp}{v:V}{o:Option (N4×N4)}(h:dZ K H v o)(s:Same H H'):dZ K H' v o:=by
 cases o with
 | none=>exact h
 | some lm =>
  obtain⟨t,p,q,e,f,n1,n2⟩:=h;exact⟨t,p,q,e,s _ _ f,n1.mono s,n2.mono s⟩
theorem uh{K:W.Frag}{H:Hp}{v:V}{cx cy bx by_ ex ey x y room:Int}(hr:room=0∨room=1)(hy:0<y)(bx':aq x≤230)(byy:aq y≤130)(w1:aq (ex - bx)≤51)(w2:aq (ey - by_)≤51)(w3:aq (cx - bx)≤51)(w4:aq (cy - by_)≤51)
  (h:Pw K H v (pwN cx cy bx by_ ex ey x y room) (decide ([bx,by_] = [ex,ey])) (rAl cx cy bx by_ ex ey*y) (rUn cx cy bx by_ ex ey x y) (cI bx by_ ex ey*y)):dZ K H v (dX cx cy bx by_ ex ey x y room):=by
 unfold dX;rcases h with⟨rfl,hN⟩|⟨hN,t,p,q,ln,hn,rfl,et,al,ah,e1,e2⟩
 ·rw[if_pos hN]
  rfl
 ·rw[if_neg (by rw[hN];decide)]
  have key:(aq ln.1≤240∧aq ln.2.1≤2∧aq ln.2.2.1≤470∧aq ln.2.2.2≤240∧0≤ln.2.2.1∧1≤ln.2.2.2)∧(aq hn.1≤240∧aq hn.2.1≤2∧aq hn.2.2.1≤470∧aq hn.2.2.2≤240∧0≤hn.2.2.1∧1≤hn.2.2.2):=by
   by_cases hs:[bx,by_] = [ex,ey]
   ·rw[decide_eq_true hs,if_pos rfl]at e1 e2
    subst e1 e2;decide
   ·rw[decide_eq_false hs,if_neg (by decide)]at e1 e2
    subst e1 e2;have gv:=tX (cx:=cx) (cy:=cy) (x:=x) hs hy;have u0:0≤rUn cx cy bx by_ ex ey x y:=by
     unfold pwN at hN;rw[if_neg hs,Bool.or_eq_false_iff,decide_eq_false_iff_not]at hN;have:=kO (x:=rUn cx cy bx by_ ex ey x y);rcases hr with rfl|rfl <;> omega
    exact uw (cM (bits_mul w1 w1) (bits_mul w2 w2)) (cM (bits_mul w3 w1) (bits_mul w4 w2)) byy (uR w1 w2 w3 w4 bx' byy) u0 (Int.mul_pos gv.pa hy)
  rw[<- e1,<- e2];exact⟨t,p,q,rfl,et,⟨al,key.1.1,key.1.2.1,key.1.2.2.1,key.1.2.2.2.1,key.1.2.2.2.2.1,key.1.2.2.2.2.2⟩,⟨ah,key.2.1,key.2.2.1,key.2.2.2.1,key.2.2.2.2.1,key.2.2.2.2.2.1,key.2.2.2.2.2.2⟩⟩
def dk(k i j:Int):aG:=[.inl k,.inl i,.inl j]
theorem oW{k i j k' i' j':Int}(h:dk k i j=dk k' i' j'):k=k'∧i=i'∧j=j':=by
 unfold dk at h;simp only[List.cons.injEq,Sum.inl.injEq,and_true]at h;exact h
def br(d:Addr)(H H':Hp):Prop:=∀b o,b≠d->H b=some o->H' b=some o
theorem br.of{d:Addr}{H H':Hp}(s:Same H H'):br d H H':=fun b o _ e=>s b o e
theorem br.trans{d:Addr}{H H1 H2:Hp}(a:br d H H1)(b:br d H1 H2):br d H H2:=fun c o n e=>b c o n (a c o n e)
theorem br.upd{d:Addr}{H:Hp}{o:HO}:br d H (upd H d o):=fun b o' n e=>by rw[aH n];exact e
theorem br.t{d:Addr}{H H':Hp}(b:br d H H')(hd:∀xs,H d≠some (.tup xs)):SameT H H':=fun x xs e=>b x _ (fun z=>hd xs (by rw[<- z];exact e)) e
theorem br.same{d:Addr}{H0 H H':Hp}(b:br d H H')(s:Same H0 H)(h:H0 d=none):Same H0 H':=fun c o e=>b c o (fun z=>by rw[z,h]at e;cases e) (s c o e)
def NoT(o:HO):Prop:=(∀xs,o≠.tup xs)∧∀ob xs,o≠.frz ob (.tup xs)
theorem lE{K:W.Frag}{H H':Hp}{a d:Addr}{xs:List V}{od:HO}(h:TpK K H a xs)(b:br d H H')(hd:H d=some od)(n:NoT od):TpK K H' a xs:=h.imp_left fun h=>b _ _ (fun z=>n.1 xs (by rw[z,hd]at h;cases h;rfl)) h
theorem dZ.but{K:W.Frag}{H H':Hp}{v:V}{o:Option (N4×N4)}{d:Addr}{od:HO}(h:dZ K H v o)(b:br d H H')(hd:H d=some od)(n:NoT od):dZ K H' v o:=by
 cases o with
 | none=>exact h
 | some lm =>
  obtain⟨t,p,q,e,f,n1,n2⟩:=h;exact⟨t,p,q,e,b _ _ (fun z=>n.1 _ (by rw[z,hd]at f;cases f;rfl)) f,⟨lE n1.at_ b hd n,n1.b0,n1.b1,n1.b2,n1.b3,n1.p2,n1.p3⟩,⟨lE n2.at_ b hd n,n2.b0,n2.b1,n2.b2,n2.b3,n2.p2,n2.p3⟩⟩
theorem lW{kvs:List (List Key×V)}:NoT (.dT kvs):=⟨(fun _ z=>by cases z),(fun _ _ z=>by cases z)⟩
structure AN(K:W.Frag)(H:Hp)(d:Addr)(G:Int->Int->Int->Option (N4×N4))(D:Int->Int->Int->Prop)(n:Nat):Prop where
 ex:∃kvs:List (List Key×V),H d=some (.dT kvs)∧kvs.length=n∧(∀k i j,D k i j->∃v,cT kvs (dk k i j)=some v∧dZ K H v (G k i j))∧∀k i j,¬D k i j->cT kvs (dk k i j)=none
theorem AN.mono{K:W.Frag}{H H':Hp}{d:Addr}{G:Int->Int->Int->Option (N4×N4)}{D:Int->Int->Int->Prop}{n:Nat}(h:AN K H d G D n)(s:Same H H'):AN K H' d G D n:=by
 obtain⟨kvs,e,l,a,b⟩:=h.ex;exact⟨kvs,s _ _ e,l,fun k i j x=>let ⟨v,e,g⟩:=a k i j x;⟨v,e,g.mono s⟩,b⟩
theorem AN.congr{K:W.Frag}{H:Hp}{d:Addr}{G:Int->Int->Int->Option (N4×N4)}{D D':Int->Int->Int->Prop}{n n':Nat}(h:AN K H d G D n)(e:∀k i j,D k i j↔D' k i j)(en:n=n'):AN K H d G D' n':=by
 subst en;obtain⟨kvs,e',l,a,b⟩:=h.ex;exact⟨kvs,e',l,fun k i j x=>a k i j ((e k i j).mpr x),fun k i j x=>b k i j fun y=>x ((e k i j).mp y)⟩
theorem rs0{A p q:Prop}{z:Int}{j:Nat}:((A∨(p∧q∧0≤z∧z<(j:Int)))∨(p∧q∧z=(j:Int)))↔A∨(p∧q∧0≤z∧z<((j+1:Nat):Int)):=by
 constructor
 ·rintro((h|⟨a,b,c,d⟩)|⟨a,b,c⟩)
  ·exact .inl h
  ·exact .inr ⟨a,b,c,by clear a b c;omega⟩
  ·exact .inr ⟨a,b,by clear a b;omega,by clear a b;omega⟩
 ·rintro(h|⟨a,b,c,d⟩)
  ·exact .inl (.inl h)
  ·rcases Int.lt_or_eq_of_le (show z≤(j:Int) by clear a b c;omega) with e|e
   ·exact .inl (.inr ⟨a,b,c,e⟩)
   ·exact .inr ⟨a,b,e⟩
theorem rs1{A p q:Prop}{z:Int}{j:Nat}:((A∨(p∧q∧0≤z∧z<(j:Int)))∨(p∧z=(j:Int)∧q))↔A∨(p∧q∧0≤z∧z<((j+1:Nat):Int)):=by
 rw[and_comm (a:=z=(j:Int)) (b:=q)];exact rs0
theorem re0{p:Prop}{x y M:Int}{i c:Nat}(e:(c:Int)=M):((p∧(0≤x∧x<(i:Int))∧0≤y∧y<M)∨(p∧x=(i:Int)∧0≤y∧y<(c:Int)))↔p∧(0≤x∧x<((i+1:Nat):Int))∧0≤y∧y<M:=by
 subst e;constructor
 ·rintro(⟨a,b,c⟩|⟨a,b,c⟩)
  ·exact⟨a,⟨b.1,by clear a c;omega⟩,c⟩
  ·exact⟨a,⟨by clear a c;omega,by clear a c;omega⟩,c⟩
 ·rintro⟨a,b,c⟩
  rcases Int.lt_or_eq_of_le (show x≤(i:Int) by clear a c;omega) with e|e
  ·exact .inl ⟨a,⟨b.1,e⟩,c⟩
  ·exact .inr ⟨a,e,c⟩
theorem re1{A p:Prop}{x y M:Int}{j c:Nat}(e:(c:Int)=M):((A∨(p∧(0≤x∧x<M)∧0≤y∧y<(j:Int)))∨(p∧y=(j:Int)∧0≤x∧x<(c:Int)))↔A∨(p∧(0≤x∧x<M)∧0≤y∧y<((j+1:Nat):Int)):=by
 subst e;constructor
 ·rintro((h|⟨a,b,c⟩)|⟨a,b,c⟩)
  ·exact .inl h
  ·exact .inr ⟨a,b,c.1,by clear a b;omega⟩
  ·exact .inr ⟨a,c,by clear a c;omega,by clear a c;omega⟩
 ·rintro(h|⟨a,b,c⟩)
  ·exact .inl (.inl h)
  ·rcases Int.lt_or_eq_of_le (show y≤(j:Int) by clear a b;omega) with e|e
   ·exact .inl (.inr ⟨a,b,c.1,e⟩)
   ·exact .inr ⟨a,e,b⟩
theorem p7{x n:Int}:x<n↔x≤n - 1:=by omega
theorem AN.put{K:W.Frag}{H:Hp}{d t:Addr}{G:Int->Int->Int->Option (N4×N4)}{D:Int->Int->Int->Prop}{n:Nat}{k i j:Int}{v:V}(h:AN K H d G D n)(ht:H t=some (.tup ((dk k i j).map kV)))(g:dZ K H v (G k i j))(new:¬D k i j)(hn:n<1000) :
  ∃H',j6 H d (.ref t) v H'∧AN K H' d G (fun k' i' j'=>D k' i' j'∨(k'=k∧i'=i∧j'=j)) (n+1)∧br d H H':=by
 obtain⟨kvs,e,l,a,b⟩:=h.ex;refine⟨_,j6.t (k:=dk k i j) (v:=v) e ht (by have:=aM (n:=kvs.length) (by omega);exact this),⟨_,upd_same,?_,fun k' i' j' x=>?_,fun k' i' j' x=>?_⟩,br.upd⟩
 ·rw[gF _ (b k i j new),List.length_append,l];rfl
 ·rw[gs]
  by_cases z:dk k' i' j'=dk k i j
  ·rw[if_pos z]
   obtain⟨rfl,rfl,rfl⟩:=oW z;exact⟨v,rfl,g.but br.upd e lW⟩
  ·rw[if_neg z]
   rcases x with x|⟨rfl,rfl,rfl⟩
   ·obtain⟨v',e',g'⟩:=a k' i' j' x
    exact⟨v',e',g'.but br.upd e lW⟩
   ·exact absurd rfl z
 ·rw[gs,if_neg (fun z=>x (.inr (oW z)))]
  exact b k' i' j' fun y=>x (.inl y)
theorem AN.get{K:W.Frag}{H:Hp}{d t:Addr}{G:Int->Int->Int->Option (N4×N4)}{D:Int->Int->Int->Prop}{n:Nat}{k i j:Int}(h:AN K H d G D n)(ht:H t=some (.tup ((dk k i j).map kV))):∃o,fB H d (.ref t) o∧(D k i j->∃v,o=some v∧dZ K H v (G k i j))∧(¬D k i j->o=none):=by
 obtain⟨kvs,e,l,a,b⟩:=h.ex;exact⟨_,fB.t e ht,a k i j,b k i j⟩
def DIn(n m:Int)(k i j:Int):Prop:=(k=0∧(0≤i∧i≤n)∧0≤j∧j<m)∨(k=1∧(0≤i∧i<n)∧0≤j∧j≤m)
def cnX(qs:Crn)(i:Int):Int:=(qs.getD i.toNat (0,0,0)).2.1
def cnY(qs:Crn)(i:Int):Int:=(qs.getD i.toNat (0,0,0)).2.2
def cL(qs rs:Crn)(a b room:Int)(k i j:Int):Option (N4×N4) :=
 if k=0 then dX (cnX qs i) (cnY qs i) (cnX rs j) (cnY rs j) (cnX rs (j+1)) (cnY rs (j+1)) a b room
 else dX (cnX rs j) (cnY rs j) (cnX qs i) (cnY qs i) (cnX qs (i+1)) (cnY qs (i+1)) a b room
def j5(K:W.Frag)(H:Hp)(d:Addr)(n m:Int)(G:Int->Int->Int->Option (N4×N4)):Prop:=∃c,AN K H d G (DIn n m) c
theorem j5.mono{K:W.Frag}{H H':Hp}{d:Addr}{n m:Int}{G:Int->Int->Int->Option (N4×N4)}(h:j5 K H d n m G)(s:Same H H'):j5 K H' d n m G:=let ⟨c,x⟩:=h;⟨c,x.mono s⟩
def dbl(qs:Crn):Crn:=if qs.length=1 then qs++qs else qs
theorem me{qs:Crn}(h:1≤qs.length∧qs.length≤10):2≤(dbl qs).length∧(dbl qs).length≤10:=by
 unfold dbl
 split
 ·rw[List.length_append];omega
 ·omega
theorem _root_.Sp7.LineM.cn{H:Hp}{l:Addr}{qs:Crn}(L:LineM H l qs){i:Int}(h0:0≤i)(h1:i<(qs.length:Int)):∃p,atI (qs.map fun (q:Addr×Int×Int)=>V.ref q.1) i=some (.ref p)∧Cn H p (cnX qs i) (cnY qs i):=by
 have hi:i.toNat<qs.length:=by omega
 have e:qs.getD i.toNat (0,0,0)=qs[i.toNat]:=by rw[List.getD_eq_getElem?_getD,List.getElem?_eq_getElem hi];rfl
 have c:=L.crn _ (List.getElem_mem hi);refine⟨qs[i.toNat].1,?_,?_⟩
 ·have:atI (qs.map fun (q:Addr×Int×Int)=>V.ref q.1) ((i.toNat:Nat):Int)=some (.ref qs[i.toNat].1):=eD (by rw[List.getElem?_map,List.getElem?_eq_getElem hi];rfl)
  rw[show((i.toNat:Nat):Int)=i by omega]at this;exact this
 ·unfold cnX cnY
  rw[e];exact⟨c.1,fF c.2.1,fF c.2.2⟩
theorem qi{K:W.Frag}{H:Hp}{v:V}{p q r s:Addr}{cx cy bx by_ ex ey a b room:Int}(hr:room=0∨room=1)(hb:0<b)(c1:Cn H p cx cy)(c2:Cn H q bx by_)(c3:Cn H r ex ey)(sq:Sq H s a b)
  (h:Pw K H v (pwN cx cy bx by_ ex ey a b room) (decide ([bx,by_] = [ex,ey])) (rAl cx cy bx by_ ex ey*b) (rUn cx cy bx by_ ex ey a b) (cI bx by_ ex ey*b)):dZ K H v (dX cx cy bx by_ ex ey a b room) :=
 uh hr hb sq.ba sq.bb (ce c3.bx c2.bx) (ce c3.by_ c2.by_) (ce c1.bx c2.bx) (ce c1.by_ c2.by_) h
inductive Fj (vs:List V) (H:Hp) (Q:VK) (x_3:XK):Prop
 | mk:∀(l:Addr) (qs:Crn),(vs = [.ref l])->(LineM H l qs)->((1≤qs.length∧qs.length≤10))->(∀r H',Same H H'->LineM H' r (dbl qs)->Q (.ref r) H')->Fj vs H Q x_3
inductive El (K:W.Frag) (vs:List V) (H:Hp) (Q:VK) (x_3:XK):Prop
 | mk:∀(l1 l2 sp:Addr) (qs rs:Crn) (a b room:Int),(vs = [.ref l1,.ref l2,.ref sp,.int room])->(LineM H l1 qs)->(LineM H l2 rs)->((2≤qs.length∧qs.length≤10))->((2≤rs.length∧rs.length≤10))->((Sq H sp a b∧0<b))->((room=0∨room=1))->(∀d H',Same H H'->H d=none->j5 K H' d ((qs.length:Int) - 1) ((rs.length:Int) - 1) (cL qs rs a b room)->Q (.ref d) H')->El K vs H Q x_3
structure Aj(K:W.Frag)(C:Addr)(H:Hp)(f:Addr)(n m:Nat)(room:Int)(G:Int->Int->Int->Option (N4×N4))(F:Int->Int->Bool):Prop where
 ex:∃dx lt d fr,H f=some (.ins C dx [("room",.int room),("last",.ref lt),("doors",.ref d),("far",.ref fr)])∧H lt=some (.tup [.int (n:Int),.int (m:Int)])∧j5 K H d n m G∧mo H fr n m F
theorem Aj.mono{K:W.Frag}{C:Addr}{H H':Hp}{f:Addr}{n m:Nat}{room:Int}{G:Int->Int->Int->Option (N4×N4)}{F:Int->Int->Bool}(h:Aj K C H f n m room G F)(s:Same H H'):Aj K C H' f n m room G F:=by
 obtain⟨dx,lt,d,fr,h1,h2,h3,h4⟩:=h.ex;exact⟨dx,lt,d,fr,s _ _ h1,s _ _ h2,h3.mono s,h4.mono s⟩
def cE(qs:Crn):Nat:=(dbl qs).length - 1
inductive DU (K:W.Frag) (C:Addr) (vs:List V) (H:Hp) (Q:VK) (x_3:XK):Prop
 | mk:∀(f dx l1 l2 sp:Addr) (qs rs:Crn) (a b room:Int),(vs = [.ref f,.ref l1,.ref l2,.ref sp,.int room])->(H f=some (.ins C dx []))->(LineM H l1 qs)->(LineM H l2 rs)->((1≤qs.length∧qs.length≤10))->((1≤rs.length∧rs.length≤10))->((Sq H sp a b∧0<b))->((room=0∨room=1))->(∀H',br f H H'->Aj K C H' f (cE qs) (cE rs) room (cL (dbl qs) (dbl rs) a b room) (fi (dbl qs) (dbl rs) a b room)->Q .non H')->DU K C vs H Q x_3
theorem DB:zZ ["line"] ["line"] (am (top 40)):=smk
theorem gN(Bf:Df K mg "with_a_stretch" (top 40))(T:Txt mg):Fn P w K mg base "with_a_stretch" ["line"] 1 Fj:=by
 refine Bf.fn DB (fun _ _ _ _ _ _ us hl=>by obtain⟨_,rfl⟩:=d9 hl;rfl) (fun vs H Q E h=>?_) (fun f cdv A outer s H vs Q E hr h=>?_)
 ·obtain⟨l,qs,rfl,_⟩:=h
  rfl
 ·obtain⟨l,qs,rfl,L,hl,k⟩:=h
  refine⟨_,(ak (ay (eV (az bS (aT a6 (by rfl) T.z_len dL (ad (pv 0) ag)) af (aE _)) (ao jc (pv 0) (pv 0)) (pv 0)))),?_⟩;have hll:(qs.map fun (q:Addr×Int×Int)=>V.ref q.1).length=qs.length:=List.length_map _;unfold dbl at k;refine⟨_,rfl,l,_,rfl,.inl (SqL.of L.lst),rfl,_,rfl,?_⟩;rw[hll,di];refine aR (fun c=>?_) (fun c=>?_)
  ·have c:qs.length=1:=by have:((qs.length:Nat):Int)=1:=bz c;omega
   rw[if_pos c]at k;refine⟨_,rfl,_,rfl,l,l,_,_,rfl,rfl,L.lst,L.lst,sz (by simp;omega),fun r H1 s1 f1 _=>k r H1 s1 ⟨by rw[f1,List.map_append],fun q hq=>?_⟩⟩;rcases List.mem_append.mp hq with h|h
   ·exact(L.mono s1).crn q h
   ·exact(L.mono s1).crn q h
  ·have c:¬qs.length=1:=fun z=>bU c (by rw[z];rfl)
   rw[if_neg c]at k;exact⟨_,rfl,k l H (Same.refl _) L⟩
theorem AF:zZ ["one","other","square","room","doors","i","corner","j"] ["one","other","square","room"] (am (top 41)):=smk
theorem nO(Dt:Df K mg "doors_of" (top 41))(V_UPRIGHT:∃tk,mg "UPRIGHT" = some (.int 0 tk))(V_LEVEL:∃tk,mg "LEVEL" = some (.int 1 tk))(Bn:Fn P w K mg base "part_within" ["corner","begin","end","square","room"] 5 (Fm K))(AT:Fn P w K mg base "last_of" ["line"] 1 Ek)(T:Txt mg):Fn P w K mg base "doors_of" ["one","other","square","room"] 6 (El K):=by
 refine Dt.fn AF (fun _ _ _ _ _ _ us hl=>by obtain⟨_,_,_,_,rfl⟩:=tQ hl;rfl) (fun vs H Q E h=>?_) (fun f cdv A outer s H vs Q E hr h=>?_)
 ·obtain⟨l1,l2,sp,qs,rs,a,b,room,rfl,_⟩:=h
  rfl
 ·obtain⟨l1,l2,sp,qs,rs,a,b,room,rfl,L1,L2,hq,hr',⟨sq,hb⟩,hroom,k⟩:=h
  obtain⟨tU,Ae⟩:=V_UPRIGHT;obtain⟨tL,AQ⟩:=V_LEVEL;refine⟨_,(ai (ap (i:=4) AF.nd rfl (Or.inl rfl) gH) (ai (bW PassesOwn.never rfl (jb rfl T.z_enumerate (ad (pv 0) ag)) (hV rfl (bZ (aS (i:=5) AF.nd rfl (Or.inl rfl)) (bZ (aS (i:=6) AF.nd rfl (Or.inl rfl)) fI))) (ak (bW PassesOwn.never rfl (cf rfl T.z_range (ad (aA AT (hr.mono (by decide)) (by rfl) (ad (pv 1) ag)) ag)) (aS (i:=7) AF.nd rfl (Or.inl rfl)) (ak (dA (bT hr) (pv 4) (ax (ad (aJ (v:=.int 0) (by rfl) Ae ⟨_,rfl⟩) (ad (pv 5) (ad (pv 7) ag)))) (aA Bn (hr.mono (by decide)) (by rfl) (ad (pv 6) (ad (aw cr (pv 1) (pv 7) (fun _ _=>rfl)) (ad (aw cr (pv 1) (ao aP (pv 7) af) (fun _ _=>rfl)) (ad (pv 2) (ad (pv 3) ag)))))) rfl))))) (ai (bW PassesOwn.never rfl (jb rfl T.z_enumerate (ad (pv 1) ag)) (hV rfl (bZ (aS (i:=7) AF.nd rfl (Or.inl rfl)) (bZ (aS (i:=6) AF.nd rfl (Or.inl rfl)) fI))) (ak (bW PassesOwn.never rfl (cf rfl T.z_range (ad (aA AT (hr.mono (by decide)) (by rfl) (ad (pv 0) ag)) ag)) (aS (i:=5) AF.nd rfl (Or.inl rfl)) (ak (dA (bT hr) (pv 4) (ax (ad (aJ (v:=.int 1) (by rfl) AQ ⟨_,rfl⟩) (ad (pv 5) (ad (pv 7) ag)))) (aA Bn (hr.mono (by decide)) (by rfl) (ad (pv 6) (ad (aw cr (pv 0) (pv 5) (fun _ _=>rfl)) (ad (aw cr (pv 0) (ao aP (pv 5) af) (fun _ _=>rfl)) (ad (pv 2) (ad (pv 3) ag)))))) rfl))))) (ak (ay (pv 4)))))),?_⟩;have hl1:(qs.map fun (q:Addr×Int×Int)=>V.ref q.1).length=qs.length:=List.length_map _;have hl2:(rs.map fun (q:Addr×Int×Int)=>V.ref q.1).length=rs.length:=List.length_map _;generalize hG:cL qs rs a b room=G at k;have G0:∀i j:Int,G 0 i j=dX (cnX qs i) (cnY qs i) (cnX rs j) (cnY rs j) (cnX rs (j+1)) (cnY rs (j+1)) a b room:=fun i j=>by rw[<- hG];rfl
  have G1:∀i j:Int,G 1 i j=dX (cnX rs j) (cnY rs j) (cnX qs i) (cnY qs i) (cnX qs (i+1)) (cnY qs (i+1)) a b room:=fun i j=>by rw[<- hG];rfl
  refine fun d hd=>?_;have s0:Same H (upd H d (.dT [])):=Same.new hd;refine⟨_,rfl,l1,rfl,⟨_,SqL.of (s0 _ _ L1.lst)⟩,gM (K:=K) (a:=l1) (xs:=qs.map fun (q:Addr×Int×Int)=>V.ref q.1) (fun i σ H'=>∃(z5 z6 z7:Option V),σ = [some (.ref l1),some (.ref l2),some (.ref sp),some (.int room),some (.ref d),z5,z6,z7]∧Same H H'∧AN K H' d G (fun k' i' j'=>k'=0∧(0≤i'∧i'<(i:Int))∧0≤j'∧j'<(rs.length:Int) - 1) (i*(rs.length - 1)))
   ⟨_,_,_,rfl,s0,[],upd_same,(by simp),fun k' i' j' h=>by omega,fun _ _ _ _=>rfl⟩ (fun i σ H' _ ⟨_,_,_,_,s',_⟩=>SqL.of (s' _ _ L1.lst)) ?_ ?_⟩
  ·rintro i x pp σ H1 H2 hx ⟨z5,z6,z7,rfl,s1,e1⟩ s2 f2
   have hi:=(List.getElem?_eq_some_iff.mp hx).1;rw[hl1]at hi;obtain⟨pc,ac,c1⟩:=L1.cn (i:=(i:Int)) (by omega) (by omega);obtain rfl:x = .ref pc:=by
    have:=eD hx;rw[ac]at this;cases this;rfl
   have S2:=s1.trans s2;refine⟨pp,_,rfl,SqT.of f2,rfl,_,_,rfl,_,_,rfl,rfl,?_⟩;refine⟨_,rfl,l2,_,rfl,S2 _ _ L2.lst,_,rfl,by omega,by omega,?_⟩;have en:(((rs.map fun (q:Addr×Int×Int)=>V.ref q.1).length:Nat):Int) - 1=((rs.length - 1:Nat):Int):=by omega
   rw[en,Int.toNat_natCast];refine cw (n:=rs.length - 1) (lo:=0) (fun j σ H'=>∃(z7:Option V),σ = [some (.ref l1),some (.ref l2),some (.ref sp),some (.int room),some (.ref d),some (.int (i:Int)),some (.ref pc),z7]∧Same H H'∧AN K H' d G (fun k' i' j'=>(k'=0∧(0≤i'∧i'<(i:Int))∧0≤j'∧j'<(rs.length:Int) - 1)∨(k'=0∧i'=(i:Int)∧0≤j'∧j'<(j:Int))) (i*(rs.length - 1)+j))
    ⟨_,rfl,S2,(e1.mono s2).congr (fun k' i' j'=>⟨.inl,fun h=>h.elim id fun z=>absurd z.2.2 (by omega)⟩) rfl⟩ ?_ ?_
   ·rintro j σ H3 hj ⟨z7,rfl,s3,e3⟩
    rw[Int.zero_add];obtain⟨pb,ab,c2⟩:=L2.cn (i:=(j:Int)) (by omega) (by omega);obtain⟨pe,ae,c3⟩:=L2.cn (i:=(j:Int)+1) (by omega) (by omega);have S3:=SqL.of (K:=K) (s3 _ _ L2.lst);refine⟨_,rfl,_,rfl,_,rfl,l2,_,_,_,rfl,rfl,S3,ab,_,rfl,_,rfl,_,_,rfl,rfl,l2,_,_,_,rfl,rfl,S3,ae,_,rfl,_,rfl,pc,pb,pe,sp,_,_,_,_,_,_,a,b,room,rfl,c1.mono s3,c2.mono s3,c3.mono s3,sq.mono s3,fun v H4 s4 pw=>?_⟩;have S4:=s3.trans s4;refine⟨_,rfl,_,rfl,_,rfl,sz (by simp),fun t H5 s5 f5 _=>?_⟩;have S5:=S4.trans s5;have gv:dZ K H5 v (G 0 i j):=by
     rw[G0];exact(qi hroom hb (c1.mono S4) (c2.mono S4) (c3.mono S4) (sq.mono S4) pw).mono s5
    obtain⟨H6,dp,e6,b6⟩:=((e3.mono s4).mono s5).put (k:=0) (i:=(i:Int)) (j:=(j:Int)) f5 gv (by omega) (by
     have:=Nat.mul_le_mul (show i≤10 by omega) (show rs.length - 1≤9 by omega);omega)
    exact⟨d,H6,rfl,dp,_,rfl,b6.same S5 hd,e6.congr (fun _ _ _=>rs0) (by omega)⟩
   ·rintro σ H3 ⟨z7,rfl,s3,e3⟩
    exact⟨_,_,_,rfl,s3,e3.congr (fun _ _ _=>re0 (by omega)) (by rw[Nat.add_mul,Nat.one_mul])⟩
  ·rintro σ H1 ⟨z5,z6,z7,rfl,s1,e1⟩
   rw[hl1]at e1;refine⟨_,rfl,l2,rfl,⟨_,SqL.of (s1 _ _ L2.lst)⟩,gM (K:=K) (a:=l2) (xs:=rs.map fun (q:Addr×Int×Int)=>V.ref q.1) (fun j σ H'=>∃(z5 z6 z7:Option V),σ = [some (.ref l1),some (.ref l2),some (.ref sp),some (.int room),some (.ref d),z5,z6,z7]∧Same H H'∧AN K H' d G (fun k' i' j'=>(k'=0∧(0≤i'∧i'<(qs.length:Int))∧0≤j'∧j'<(rs.length:Int) - 1)∨(k'=1∧(0≤i'∧i'<(qs.length:Int) - 1)∧0≤j'∧j'<(j:Int))) (qs.length*(rs.length - 1)+j*(qs.length - 1)))
    ⟨_,_,_,rfl,s1,e1.congr (fun k' i' j'=>⟨.inl,fun h=>h.elim id fun z=>absurd z.2.2 (by omega)⟩) (by simp)⟩ (fun i σ H' _ ⟨_,_,_,_,s',_⟩=>SqL.of (s' _ _ L2.lst)) ?_ ?_⟩
   ·rintro j x pp σ H1 H2 hx ⟨z5,z6,z7,rfl,s1,e1⟩ s2 f2
    have hj:=(List.getElem?_eq_some_iff.mp hx).1;rw[hl2]at hj;obtain⟨pc,ac,c1⟩:=L2.cn (i:=(j:Int)) (by omega) (by omega);obtain rfl:x = .ref pc:=by
     have:=eD hx;rw[ac]at this;cases this;rfl
    have S2:=s1.trans s2;refine⟨pp,_,rfl,SqT.of f2,rfl,_,_,rfl,_,_,rfl,rfl,?_⟩;refine⟨_,rfl,l1,_,rfl,S2 _ _ L1.lst,_,rfl,by omega,by omega,?_⟩;have en:(((qs.map fun (q:Addr×Int×Int)=>V.ref q.1).length:Nat):Int) - 1=((qs.length - 1:Nat):Int):=by omega
    rw[en,Int.toNat_natCast];refine cw (n:=qs.length - 1) (lo:=0) (fun i σ H'=>∃(z5:Option V),σ = [some (.ref l1),some (.ref l2),some (.ref sp),some (.int room),some (.ref d),z5,some (.ref pc),some (.int (j:Int))]∧Same H H'∧AN K H' d G (fun k' i' j'=>((k'=0∧(0≤i'∧i'<(qs.length:Int))∧0≤j'∧j'<(rs.length:Int) - 1)∨(k'=1∧(0≤i'∧i'<(qs.length:Int) - 1)∧0≤j'∧j'<(j:Int)))∨(k'=1∧j'=(j:Int)∧0≤i'∧i'<(i:Int))) (qs.length*(rs.length - 1)+j*(qs.length - 1)+i))
     ⟨_,rfl,S2,(e1.mono s2).congr (fun k' i' j'=>⟨.inl,fun h=>h.elim id fun z=>absurd z.2.2 (by omega)⟩) rfl⟩ ?_ ?_
    ·rintro i σ H3 hi ⟨z7,rfl,s3,e3⟩
     rw[Int.zero_add];obtain⟨pb,ab,c2⟩:=L1.cn (i:=(i:Int)) (by omega) (by omega);obtain⟨pe,ae,c3⟩:=L1.cn (i:=(i:Int)+1) (by omega) (by omega);have S3:=SqL.of (K:=K) (s3 _ _ L1.lst);refine⟨_,rfl,_,rfl,_,rfl,l1,_,_,_,rfl,rfl,S3,ab,_,rfl,_,rfl,_,_,rfl,rfl,l1,_,_,_,rfl,rfl,S3,ae,_,rfl,_,rfl,pc,pb,pe,sp,_,_,_,_,_,_,a,b,room,rfl,c1.mono s3,c2.mono s3,c3.mono s3,sq.mono s3,fun v H4 s4 pw=>?_⟩;have S4:=s3.trans s4;refine⟨_,rfl,_,rfl,_,rfl,sz (by simp),fun t H5 s5 f5 _=>?_⟩;have S5:=S4.trans s5;have gv:dZ K H5 v (G 1 i j):=by
      rw[G1];exact(qi hroom hb (c1.mono S4) (c2.mono S4) (c3.mono S4) (sq.mono S4) pw).mono s5
     obtain⟨H6,dp,e6,b6⟩:=((e3.mono s4).mono s5).put (k:=1) (i:=(i:Int)) (j:=(j:Int)) f5 gv (by omega) (by
      have:=Nat.mul_le_mul (show qs.length≤10 by omega) (show rs.length - 1≤9 by omega);have:=Nat.mul_le_mul (show j≤10 by omega) (show qs.length - 1≤9 by omega);omega)
     exact⟨d,H6,rfl,dp,_,rfl,b6.same S5 hd,e6.congr (fun _ _ _=>rs1) (by omega)⟩
    ·rintro σ H3 ⟨z7,rfl,s3,e3⟩
     exact⟨_,_,_,rfl,s3,e3.congr (fun _ _ _=>re1 (by omega)) (by rw[Nat.add_mul,Nat.one_mul];omega)⟩
   ·rintro σ H2 ⟨z5,z6,z7,rfl,s2,e2⟩
    rw[hl2]at e2;exact⟨_,rfl,k d H2 s2 hd ⟨_,e2.congr (fun k' i' j'=>by unfold DIn;rw[<- p7,<- p7]) rfl⟩⟩
theorem vB{C dx:Addr}{fs:List (Str×V)}:NoT (.ins C dx fs):=⟨(fun _ z=>by cases z),(fun _ _ z=>by cases z)⟩
theorem dS{H H':Hp}{l f C dx:Addr}{qs:Crn}{fs:List (Str×V)}(L:LineM H l qs)(b:br f H H')(hf:H f=some (.ins C dx fs)):LineM H' l qs :=
 ⟨b _ _ (fun z=>by have:=L.lst;rw[z,hf]at this;cases this) L.lst,fun q hq=>⟨b _ _ (fun z=>by have:=(L.crn q hq).1;rw[z,hf]at this;cases this) (L.crn q hq).1,(L.crn q hq).2⟩⟩
theorem fC{H H':Hp}{p f C dx:Addr}{xs:List V}{fs:List (Str×V)}(h:H p=some (.tup xs))(b:br f H H')(hf:H f=some (.ins C dx fs)):H' p=some (.tup xs):=b _ _ (fun z=>by rw[z,hf]at h;cases h) h
theorem lj{K:W.Frag}{H H':Hp}{d f C dx:Addr}{n m:Int}{G:Int->Int->Int->Option (N4×N4)}{fs:List (Str×V)}(h:j5 K H d n m G)(b:br f H H')(hf:H f=some (.ins C dx fs)):j5 K H' d n m G:=by
 obtain⟨c,⟨kvs,e,l,a,z⟩⟩:=h;exact⟨c,⟨kvs,b _ _ (fun y=>by rw[y,hf]at e;cases e) e,l,fun k i j x=>let ⟨v,e,g⟩:=a k i j x;⟨v,e,g.but b hf vB⟩,z⟩⟩
theorem vS{H H':Hp}{d f C dx:Addr}{m n:Nat}{F:Int->Int->Bool}{fs:List (Str×V)}(h:mo H d m n F)(b:br f H H')(hf:H f=some (.ins C dx fs)):mo H' d m n F:=by
 obtain⟨o,e⟩:=h;exact⟨o,b _ _ (fun y=>by rw[y,hf]at e;cases e) e⟩
theorem BG:zZ ["self","one","other","square","room","first","second"] ["self","one","other","square","room"] (am (vC 43 0)):=smk
theorem iW(BZ:GE K C_Field "__init__" "Field.__init__" (vC 43 0))(z9:Dy K mg "Field" C_Field)(n_room:aI K C_Field "room")(n_last:aI K C_Field "last")(n_doors:aI K C_Field "doors")(n_far:aI K C_Field "far")(AJ:Fn P w K mg base "with_a_stretch" ["line"] 1 Fj)(AT:Fn P w K mg base "last_of" ["line"] 1 Ek)(Dg:Fn P w K mg base "doors_of" ["one","other","square","room"] 6 (El K))(B9:Fn P w K mg base "far_corners" ["one","other","square","room"] 3 Ft)(T:Txt mg):Mt P w K mg base C_Field "__init__" ["self","one","other","square","room"] 7 (DU K C_Field):=by
 refine BZ.mt BG (fun _ _ _ _ _ _ us hl=>by obtain⟨_,_,_,_,_,rfl⟩:=vF hl;rfl) (fun vs H Q E h=>?_) (fun f cdv A outer s H vs Q E hr h=>?_)
 ·obtain⟨f,dx,l1,l2,sp,qs,rs,a,b,room,rfl,_⟩:=h
  rfl
 ·obtain⟨f,dx,l1,l2,sp,qs,rs,a,b,room,rfl,hf,L1,L2,hq,hr',⟨sq,hb⟩,hroom,k⟩:=h
  refine⟨_,(ai (ap (i:=5) BG.nd rfl (Or.inl rfl) (aA AJ (hr.mono (by decide)) (by rfl) (ad (pv 1) ag))) (ai (ap (i:=6) BG.nd rfl (Or.inl rfl) (aA AJ (hr.mono (by decide)) (by rfl) (ad (pv 2) ag))) (ai (lL (pv 0) (pv 4) rfl) (ai (lL (pv 0) (ax (ad (aA AT (hr.mono (by decide)) (by rfl) (ad (pv 5) ag)) (ad (aA AT (hr.mono (by decide)) (by rfl) (ad (pv 6) ag)) ag))) rfl) (ai (lL (pv 0) (aA Dg (hr.mono (by decide)) (by rfl) (ad (pv 5) (ad (pv 6) (ad (pv 3) (ad (pv 4) ag))))) rfl) (ak (lL (pv 0) (aA B9 (hr.mono (by decide)) (by rfl) (ad (pv 5) (ad (pv 6) (ad (pv 3) (ad (pv 4) ag))))) rfl))))))),?_⟩;have dq:=me hq;have dr:=me hr';have h1:((dbl qs).map fun (q:Addr×Int×Int)=>V.ref q.1).length=(dbl qs).length:=List.length_map _;have h2:((dbl rs).map fun (q:Addr×Int×Int)=>V.ref q.1).length=(dbl rs).length:=List.length_map _;refine⟨_,rfl,l1,qs,rfl,L1,hq,fun r1 H1 s1 F1=>?_⟩;refine⟨_,rfl,l2,rs,rfl,L2.mono s1,hr',fun r2 H2 s2 F2=>?_⟩;have S2:=s1.trans s2;have f2:=S2 _ _ hf;refine⟨_,rfl,_,rfl,f,C_Field,dx,[],rfl,f2,z9.cls,n_room,by simp,?_⟩;have b3:br f H2 (upd H2 f (.ins C_Field dx (cV "room" (.int room) []))):=br.upd;have f3:(upd H2 f (.ins C_Field dx (cV "room" (.int room) []))) f=some (.ins C_Field dx [("room",.int room)]):=upd_same;have A3:=dS (F1.mono s2) b3 f2;have B3:=dS F2 b3 f2;have Q3:Sq (upd H2 f (.ins C_Field dx (cV "room" (.int room) []))) sp a b:=⟨fC (S2 _ _ sq.at_) b3 f2,sq.ba,sq.bb⟩;generalize upd H2 f (.ins C_Field dx (cV "room" (.int room) []))=H3 at b3 f3 A3 B3 Q3;refine⟨_,rfl,r1,_,rfl,A3.lst,_,rfl,r2,_,rfl,B3.lst,sz (by simp),fun lt H4 s4 f4 n4=>?_⟩;have f4':=s4 _ _ f3;refine⟨_,rfl,f,C_Field,dx,_,rfl,f4',z9.cls,n_last,by simp,?_⟩;have b5:br f H4 (upd H4 f (.ins C_Field dx (cV "last" (.ref lt) [("room",.int room)]))):=br.upd;have f5:(upd H4 f (.ins C_Field dx (cV "last" (.ref lt) [("room",.int room)]))) f=some (.ins C_Field dx [("room",.int room),("last",.ref lt)]):=upd_same;have A5:=dS (A3.mono s4) b5 f4';have B5:=dS (B3.mono s4) b5 f4';have Q5:Sq (upd H4 f (.ins C_Field dx (cV "last" (.ref lt) [("room",.int room)]))) sp a b:=⟨fC (s4 _ _ Q3.at_) b5 f4',sq.ba,sq.bb⟩;have T5:=fC f4 b5 f4';generalize upd H4 f (.ins C_Field dx (cV "last" (.ref lt) [("room",.int room)]))=H5 at b5 f5 A5 B5 Q5 T5;refine⟨_,rfl,_,rfl,_,rfl,_,rfl,r1,r2,sp,dbl qs,dbl rs,a,b,room,rfl,A5,B5,dq,dr,⟨Q5,hb⟩,hroom,fun d H6 s6 nd D6=>?_⟩;have f6:=s6 _ _ f5;refine⟨_,rfl,f,C_Field,dx,_,rfl,f6,z9.cls,n_doors,by simp,?_⟩;have b7:br f H6 (upd H6 f (.ins C_Field dx (cV "doors" (.ref d) [("room",.int room),("last",.ref lt)]))):=br.upd;have f7:(upd H6 f (.ins C_Field dx (cV "doors" (.ref d) [("room",.int room),("last",.ref lt)]))) f=some (.ins C_Field dx [("room",.int room),("last",.ref lt),("doors",.ref d)]):=upd_same;have A7:=dS (A5.mono s6) b7 f6;have B7:=dS (B5.mono s6) b7 f6;have Q7:Sq (upd H6 f (.ins C_Field dx (cV "doors" (.ref d) [("room",.int room),("last",.ref lt)]))) sp a b:=⟨fC (s6 _ _ Q5.at_) b7 f6,sq.ba,sq.bb⟩;have T7:=fC (s6 _ _ T5) b7 f6;have D7:=lj D6 b7 f6;generalize upd H6 f (.ins C_Field dx (cV "doors" (.ref d) [("room",.int room),("last",.ref lt)]))=H7 at b7 f7 A7 B7 Q7 T7 D7;refine⟨_,rfl,_,rfl,_,rfl,_,rfl,r1,r2,sp,dbl qs,dbl rs,a,b,room,rfl,A7,B7,⟨by omega,by omega⟩,⟨by omega,by omega⟩,Q7,fun fr H8 s8 D8=>?_⟩;have f8:=s8 _ _ f7;refine⟨_,rfl,f,C_Field,dx,_,rfl,f8,z9.cls,n_far,by simp,?_⟩;have b9:br f H8 (upd H8 f (.ins C_Field dx (cV "far" (.ref fr) [("room",.int room),("last",.ref lt),("doors",.ref d)]))):=br.upd;have e1:(((dbl qs).length:Nat):Int) - 1=((cE qs:Nat):Int):=by unfold cE;omega
  have e2:(((dbl rs).length:Nat):Int) - 1=((cE rs:Nat):Int):=by unfold cE;omega
  refine k _ ((br.of S2).trans (b3.trans ((br.of s4).trans (b5.trans ((br.of s6).trans (b7.trans ((br.of s8).trans b9))))))) ⟨dx,lt,d,fr,upd_same,?_,?_,vS D8 b9 f8⟩
  ·have:=fC (s8 _ _ T7) b9 f8
   rw[h1,h2,e1,e2]at this;exact this
  ·have:=lj (D7.mono s8) b9 f8
   rw[e1,e2]at this;exact this
theorem Nm.rt{K:W.Frag}{H:Hp}{p:Addr}{l:N4}(h:Nm K H p l):Rt K H p l.1 l.2.1 l.2.2.1 l.2.2.2:=⟨h.at_.sq,ar h.b0 (by decide),ar h.b1 (by decide),ar h.b2 (by decide),ar h.b3 (by decide)⟩
inductive Gr:N4->N4->Prop
 | flat:Gr (0,0,0,1) (1,0,0,1)
 | gate {P U L:Int} (hL:0<L) (hU:0≤U) (h1:0≤ro 1 0 0 1 P (-1) U L) (h2:0≤ro P 1 U L 0 0 0 1):Gr (dQ P U L) (cS P U L)
theorem tY{cx cy bx by_ ex ey x y room:Int}{l m:N4}(hr:room=0∨room=1)(hy:0<y)(h:dX cx cy bx by_ ex ey x y room=some (l,m)):Gr l m:=by
 unfold dX at h
 by_cases hN:pwN cx cy bx by_ ex ey x y room=true
 ·rw[if_pos hN]at h
  cases h
 ·rw[if_neg hN]at h
  have hN:pwN cx cy bx by_ ex ey x y room=false:=by simpa using hN
  injection h with h;injection h with e1 e2
  by_cases hs:[bx,by_] = [ex,ey]
  ·rw[decide_eq_true hs,if_pos rfl]at e1 e2
   rw[<- e1,<- e2];exact .flat
  ·rw[decide_eq_false hs,if_neg (by decide)]at e1 e2
   have gv:=tX (cx:=cx) (cy:=cy) (x:=x) hs hy;rw[<- e1,<- e2];unfold pwN at hN;rw[if_neg hs,Bool.or_eq_false_iff,decide_eq_false_iff_not,Bool.or_eq_false_iff,decide_eq_false_iff_not,decide_eq_false_iff_not]at hN;have:=kO (x:=rUn cx cy bx by_ ex ey x y);exact .gate gv.lpos (by rcases hr with rfl|rfl <;> omega) (by rcases hr with rfl|rfl <;> omega) (by rcases hr with rfl|rfl <;> omega)
structure FD(H:Hp)(q:Pr):Prop where
 p_:H q.p=some (.tup [.ref q.x,.ref q.y])
 x_:H q.x=some (.tup [.int q.a,.int q.b])
 y_:H q.y=some (.tup [.int q.c,.int q.d])
 lx:EB q.a q.b
 ly:EB q.c q.d
 nx:0≤q.a
 ny:0≤q.c
 ba:aq q.a≤5300
 bb:aq q.b≤5300
 bc:aq q.c≤5300
 bd:aq q.d≤5300
theorem FD.t{H H':Hp}{q:Pr}(h:FD H q)(s:SameT H H'):FD H' q:=⟨s _ _ h.p_,s _ _ h.x_,s _ _ h.y_,h.lx,h.ly,h.nx,h.ny,h.ba,h.bb,h.bc,h.bd⟩
theorem _root_.Wk.PrAt.two{H:Hp}{q:Pr}(h:PrAt H q):FD H q:=⟨h.p_,h.x_,h.y_,h.lx,h.ly,h.nx,h.ny,ar h.ba (by decide),ar h.bb (by decide),ar h.bc (by decide),ar h.bd (by decide)⟩
structure E8(H:Hp)(l:Addr)(ps:List Pr):Prop where
 lst:H l=some (.lst (prs ps))
 pr:∀q∈ps,FD H q
theorem E8.mono{H H':Hp}{l:Addr}{ps:List Pr}(h:E8 H l ps)(s:Same H H'):E8 H' l ps:=⟨s _ _ h.lst,fun q hq=>(h.pr q hq).t s.t⟩
def uy(k i j t u:Int)(q:Pr):Prop:=(k=0∧q.a=i∧q.b=1∧q.c=j*u+t∧q.d=u)∨(k=1∧q.a=i*u+t∧q.b=u∧q.c=j∧q.d=1)
inductive E2 (vs:List V) (H:Hp) (Q:VK) (x_3:XK):Prop
 | mk:∀(t p:Addr) (k i j a b:Int),(vs = [.ref t,.ref p])->(H t=some (.tup ((dk k i j).map kV)))->((k=0∨k=1))->((0≤i∧i≤1000))->((0≤j∧j≤1000))->((Fg H p a b 2600∧0≤a∧a≤b))->(∀(q:Pr) H',Same H H'->FD H' q->uy k i j a b q->Q (.ref q.p) H')->E2 vs H Q x_3
theorem jH{a b n:Int}(h:EB a b):EB (n*b+a) b:=by
 refine⟨h.pos,?_⟩;have:=h.one;rw[Int.add_comm,Int.mul_comm];rw[Int.gcd_add_mul_left_left];exact this
theorem DW:zZ ["door","part"] ["door","part"] (am (top 48)):=smk
theorem iS(BV:Df K mg "pair_in_door" (top 48))(V_UPRIGHT:∃tk,mg "UPRIGHT" = some (.int 0 tk))(Ev:Fn P w K mg base "plus" ["a","b"] 3 (Fv (fun a b c d=>a*d+c*b) (fun a b c d=>b*d))):Fn P w K mg base "pair_in_door" ["door","part"] 4 E2:=by
 refine BV.fn DW (fun _ _ _ _ _ _ us hl=>by obtain⟨_,_,rfl⟩:=dw hl;rfl) (fun vs H Q E h=>?_) (fun f cdv A outer s H vs Q E hr h=>?_)
 ·obtain⟨t,p,k,i,j,a,b,rfl,_⟩:=h
  rfl
 ·obtain⟨t,p,k,i,j,a,b,rfl,ht,hk,bi,bj,⟨fr,a0,ab⟩,kq⟩:=h
  obtain⟨tU,Ae⟩:=V_UPRIGHT;refine⟨_,(ai (aL (az bS (aw au (pv 0) af (fun _ _=>rfl)) (aJ (v:=.int 0) (by rfl) Ae ⟨_,rfl⟩) (aE _)) (ak (ay (@ax _ _ _ _ _ (@ad _ _ _ _ _ (@ax _ _ _ _ _ (@ad _ _ _ _ _ (aw au (pv 0) af (fun _ _=>rfl)) (@ad _ _ _ _ _ af ag (by rfl)) (by rfl))) (@ad _ _ _ _ _ (aA Ev (hr.mono (by decide)) (by rfl) (ad (ax (ad (aw au (pv 0) af (fun _ _=>rfl)) (ad af ag))) (ad (pv 1) ag))) ag (by rfl)) (by rfl))))) aF) (ak (ay (@ax _ _ _ _ _ (@ad _ _ _ _ _ (aA Ev (hr.mono (by decide)) (by rfl) (ad (ax (ad (aw au (pv 0) af (fun _ _=>rfl)) (ad af ag))) (ad (pv 1) ag))) (@ad _ _ _ _ _ (@ax _ _ _ _ _ (@ad _ _ _ _ _ (aw au (pv 0) af (fun _ _=>rfl)) (@ad _ _ _ _ _ af ag (by rfl)) (by rfl))) ag (by rfl)) (by rfl)))))),?_⟩;have ht:H t=some (.tup [.int k,.int i,.int j]):=ht;have hb:=fr.low.pos;have T:=fun {H':Hp} (s:Same H H')=>SqT.of (K:=K) (s _ _ ht);have one:aq (1:Int)≤2600:=by decide
  have sm:∀{x:Int},0≤x∧x≤1000->aq x≤2600:=fun h=>ar (eC (by omega) h.2) (by decide);have lw:∀x:Int,EB x 1:=fun x=>⟨Int.le_refl 1,by simp⟩;have sum:∀{x y z:Int},DP (x*b+a*1) (1*b) y z->y=x*b+a∧z=b:=fun {x y z} f=>by
   have e:=f.eq;rw[Int.mul_one,Int.one_mul]at e;exact fV f.low (jH fr.low) (by rw[<- e])
  refine⟨_,rfl,t,_,_,_,rfl,rfl,T (Same.refl _),rfl,rfl,_,rfl,?_⟩;rw[di];refine aR (fun c=>?_) (fun c=>?_)
  ·have c:k=0:=bz c
   subst c;refine⟨_,rfl,t,_,_,_,rfl,rfl,T (Same.refl _),rfl,sz (by simp),fun x H1 s1 f1 _=>?_⟩;refine⟨_,rfl,t,_,_,_,rfl,rfl,T s1,rfl,sz (by simp),fun y H2 s2 f2 _=>?_⟩;have S2:=s1.trans s2;refine⟨_,rfl,y,p,j,1,a,b,2600,rfl,⟨f2,lw j,sm bj,one⟩,fr.mono S2,by decide,by omega,fun r s' w' H3 ff f3 s3=>?_⟩;obtain⟨rfl,rfl⟩:=sum ff;refine⟨sz (by simp),fun o H4 s4 f4 _=>kq ⟨o,x,r,i,1,j*w'+a,w'⟩ H4 ((S2.trans s3).trans s4) ⟨f4,s4 _ _ (s3 _ _ (s2 _ _ f1)),s4 _ _ f3.at_,lw i,jH fr.low,bi.1,Int.add_nonneg (Int.mul_nonneg bj.1 (by omega)) a0,ar (sm bi) (by decide),(show aq (1:Int)≤5300 by decide),ar f3.ba (by decide),ar f3.bb (by decide)⟩ (.inl ⟨rfl,rfl,rfl,rfl,rfl⟩)⟩
  ·have c:¬k=0:=bU c
   have c:k=1:=by omega
   subst c;refine⟨_,rfl,t,_,_,_,rfl,rfl,T (Same.refl _),rfl,sz (by simp),fun x H1 s1 f1 _=>?_⟩;refine⟨_,rfl,x,p,i,1,a,b,2600,rfl,⟨f1,lw i,sm bi,one⟩,fr.mono s1,by decide,by omega,fun r s' w' H2 ff f2 s2=>?_⟩;obtain⟨rfl,rfl⟩:=sum ff;have S2:=s1.trans s2;refine⟨_,rfl,t,_,_,_,rfl,rfl,T S2,rfl,sz (by simp),fun y H3 s3 f3 _=>?_⟩;refine⟨sz (by simp),fun o H4 s4 f4 _=>kq ⟨o,r,y,i*w'+a,w',j,1⟩ H4 ((S2.trans s3).trans s4) ⟨f4,s4 _ _ (s3 _ _ f2.at_),s4 _ _ f3,jH fr.low,lw j,Int.add_nonneg (Int.mul_nonneg bi.1 (by omega)) a0,bj.1,ar f2.ba (by decide),ar f2.bb (by decide),ar (sm bj) (by decide),(show aq (1:Int)≤5300 by decide)⟩ (.inr ⟨rfl,rfl,rfl,rfl,rfl⟩)⟩
def wOn:Str:="on"
def bH:Str:="part"
abbrev Dor:=Int×Int×Int
def dkD(x:Dor):aG:=dk x.1 x.2.1 x.2.2
theorem jj{x y:Dor}(h:dkD x=dkD y):x=y:=by
 obtain⟨e1,e2,e3⟩:=oW h;exact Prod.ext e1 (Prod.ext e2 e3)
def AhV(H:Hp)(v:V):Option Dor->Prop
 | none=>v = .non
 | some x=>∃t,v = .ref t∧H t=some (.tup ((dkD x).map kV))
theorem AhV.t{H H':Hp}{v:V}{o:Option Dor}(h:AhV H v o)(s:SameT H H'):AhV H' v o:=by
 cases o with
 | none=>exact h
 | some x =>
  obtain⟨t,e,f⟩:=h;exact⟨t,e,s _ _ f⟩
def RvV(K:W.Frag)(H:Hp)(v:V)(r:Rv):Prop:=∃(t p q:Addr) (w:V),v = .ref t∧H t=some (.tup [.ref p,.ref q,w])∧Nm K H p r.lo∧Nm K H q r.hi∧AhV H w r.ah
theorem RvV.mono{K:W.Frag}{H H':Hp}{v:V}{r:Rv}(h:RvV K H v r)(s:Same H H'):RvV K H' v r:=by
 obtain⟨t,p,q,w,e,f,n1,n2,a⟩:=h;exact⟨t,p,q,w,e,s _ _ f,n1.mono s,n2.mono s,a.t s.t⟩
theorem Nm.but{K:W.Frag}{H H':Hp}{p d:Addr}{l:N4}{od:HO}(h:Nm K H p l)(b:br d H H')(hd:H d=some od)(n:NoT od):Nm K H' p l:=⟨lE h.at_ b hd n,h.b0,h.b1,h.b2,h.b3,h.p2,h.p3⟩
theorem RvV.but{K:W.Frag}{H H':Hp}{v:V}{r:Rv}{d:Addr}{kvs:List (List Key×V)}(h:RvV K H v r)(b:br d H H')(hd:H d=some (.dT kvs)):RvV K H' v r:=by
 obtain⟨t,p,q,w,e,f,n1,n2,a⟩:=h;have T:SameT H H':=b.t fun xs z=>by rw[hd]at z;cases z
 exact⟨t,p,q,w,e,T _ _ f,n1.but b hd lW,n2.but b hd lW,a.t T⟩
abbrev RF:=Dor->Option Rv
structure Bs(K:W.Frag)(H:Hp)(d:Addr)(R:RF)(c:Nat):Prop where
 ex:∃kvs:List (List Key×V),H d=some (.dT kvs)∧kvs.length≤c∧(∀x r,R x=some r->∃v,cT kvs (dkD x)=some v∧RvV K H v r)∧∀x,R x=none->cT kvs (dkD x)=none
theorem Bs.mono{K:W.Frag}{H H':Hp}{d:Addr}{R:RF}{c:Nat}(h:Bs K H d R c)(s:Same H H'):Bs K H' d R c:=by
 obtain⟨kvs,e,l,a,b⟩:=h.ex;exact⟨kvs,s _ _ e,l,fun x r h=>let ⟨v,e,g⟩:=a x r h;⟨v,e,g.mono s⟩,b⟩
theorem Bs.congr{K:W.Frag}{H:Hp}{d:Addr}{R R':RF}{c c':Nat}(h:Bs K H d R c)(e:∀x,R x=R' x)(hc:c≤c'):Bs K H d R' c':=by
 obtain⟨kvs,e',l,a,b⟩:=h.ex;exact⟨kvs,e',by omega,fun x r h=>a x r ((e x).trans h),fun x h=>b x ((e x).trans h)⟩
noncomputable def fO(R:RF)(x:Dor)(o:Option Rv):RF:=fun y=>@ite _ (y=x) (Classical.propDecidable _) o (R y)
theorem dB{R:RF}{x:Dor}{o:Option Rv}(h:R x=o):∀y,R y=fO R x o y:=fun y=>by
 unfold fO
 split
 ·rename_i e;rw[e];exact h
 ·rfl
theorem Bs.put{K:W.Frag}{H:Hp}{d t:Addr}{R:RF}{c:Nat}{x:Dor}{v:V}{r:Rv}(h:Bs K H d R c)(ht:H t=some (.tup ((dkD x).map kV)))(g:RvV K H v r)(new:R x=none)(hc:c<1000) :
  ∃H',j6 H d (.ref t) v H'∧Bs K H' d (fO R x (some r)) (c+1)∧br d H H':=by
 obtain⟨kvs,e,l,a,b⟩:=h.ex;have hn:=b x new;refine⟨_,j6.t (k:=dkD x) (v:=v) e ht (by have:=aM (n:=kvs.length) (by omega);exact this),⟨_,upd_same,?_,fun y r' hy=>?_,fun y hy=>?_⟩,br.upd⟩
 ·rw[gF _ hn,List.length_append]
  exact Nat.add_le_add_right l 1
 ·rw[gs]
  unfold fO at hy
  by_cases z:y=x
  ·rw[if_pos z]at hy
   cases hy;rw[if_pos (by rw[z])];exact⟨v,rfl,g.but br.upd e⟩
  ·rw[if_neg z]at hy
   rw[if_neg (fun w=>z (jj w))];obtain⟨v',e',g'⟩:=a y r' hy;exact⟨v',e',g'.but br.upd e⟩
 ·unfold fO at hy
  by_cases z:y=x
  ·rw[if_pos z]at hy
   cases hy
  ·rw[if_neg z]at hy
   rw[gs,if_neg (fun w=>z (jj w))];exact b y hy
theorem Bs.get{K:W.Frag}{H:Hp}{d t:Addr}{R:RF}{c:Nat}{x:Dor}(h:Bs K H d R c)(ht:H t=some (.tup ((dkD x).map kV))):∃o,fB H d (.ref t) o∧((∃r v,R x=some r∧o=some v∧RvV K H v r)∨(R x=none∧o=none)):=by
 obtain⟨kvs,e,l,a,b⟩:=h.ex;refine⟨_,fB.t e ht,?_⟩;cases hr:R x with
 | none=>exact .inr ⟨rfl,b x hr⟩
 | some r =>
  obtain⟨v,e',g⟩:=a x r hr;exact .inl ⟨r,v,rfl,e',g⟩
def bgR(wy:Str)(G:GF)(F:Int->Int->Bool)(m:Nat)(j:Nat):Option Rv :=
 if wy=wOn then (if j=0∧F 0 0=false then some ⟨(0,0,0,1),(0,0,0,1),none⟩ else none)
 else if j<m then (G 0 0 (j:Int)).map fun p=>⟨p.1,p.2,none⟩ else none
def bgD(wy:Str)(G:GF)(F:Int->Int->Bool)(m:Nat)(x:Dor):Option Rv:=if x.1=0∧x.2.1=0∧0≤x.2.2 then bgR wy G F m x.2.2.toNat else none
inductive Gh (K:W.Frag) (C:Addr) (vs:List V) (H:Hp) (Q:VK) (x_3:XK):Prop
 | mk:∀(fo:Addr) (n m:Nat) (room:Int) (G:GF) (F:Int->Int->Bool) (wy:Str),(vs = [.ref fo,.str wy])->(Aj K C H fo n m room G F)->((1≤n∧n≤20))->((1≤m∧m≤20))->((wy=wOn∨wy=bH))->(∀d H',Same H H'->H d=none->Bs K H' d (bgD wy G F m) 30->Q (.ref d) H')->Gh K C vs H Q x_3
inductive Gf (vs:List V) (H:Hp) (Q:VK) (x_3:XK):Prop
 | mk:∀(sd i j:Int),(vs = [.int sd,.int i,.int j])->((sd=0∨sd=1))->(∀t H',Same H H'->H' t=some (.tup ((dkD (if sd=0 then (0,i+1,j) else (1,i,j+1))).map kV))->Q (.ref t) H')->Gf vs H Q x_3
inductive F5 (K:W.Frag) (C:Addr) (vs:List V) (H:Hp) (Q:VK) (x_3:XK):Prop
 | mk:∀(fo d t ts tt:Addr) (n m:Nat) (room:Int) (G:GF) (F:Int->Int->Bool) (R:RF) (c:Nat) (x xs xt:Dor),(vs = [.ref fo,.ref d,.ref t,.ref ts,.ref tt])->(Aj K C H fo n m room G F)->(Bs K H d R c)->((H t=some (.tup ((dkD x).map kV))∧H ts=some (.tup ((dkD xs).map kV))∧H tt=some (.tup ((dkD xt).map kV))))->(DIn n m x.1 x.2.1 x.2.2)->(R x=none)->(c<900)->(∀H',br d H H'->Bs K H' d (fO R x (pas (G x.1 x.2.1 x.2.2) (R xs) (R xt) xs xt)) (c+1)->Q .non H')->F5 K C vs H Q x_3
theorem Nm.rt'{K:W.Frag}{H:Hp}{p:Addr}{l:N4}(h:Nm K H p l):Rt K H p l.1 l.2.1 l.2.2.1 l.2.2.2:=⟨h.at_.sq,ar h.b0 (by decide),ar h.b1 (by decide),ar h.b2 (by decide),ar h.b3 (by decide)⟩
theorem ES:zZ ["side","i","j"] ["side","i","j"] (am (top 64)):=smk
theorem nQ(Du:Df K mg "door_out" (top 64))(V_UPRIGHT:∃tk,mg "UPRIGHT" = some (.int 0 tk))(V_LEVEL:∃tk,mg "LEVEL" = some (.int 1 tk)):Fn P w K mg base "door_out" ["side","i","j"] 1 Gf:=by
 refine Du.fn ES (fun _ _ _ _ _ _ us hl=>by obtain⟨_,_,_,rfl⟩:=iL hl;rfl) (fun vs H Q E h=>?_) (fun f cdv A outer s H vs Q E hr h=>?_)
 ·obtain⟨sd,i,j,rfl,_⟩:=h
  rfl
 ·obtain⟨sd,i,j,rfl,hs,k⟩:=h
  obtain⟨tU,Ae⟩:=V_UPRIGHT;obtain⟨tL,AQ⟩:=V_LEVEL;refine⟨_,(ak (ay (eV (az bS (pv 0) (aJ (v:=.int 0) (by rfl) Ae ⟨_,rfl⟩) (aE _)) (ax (ad (aJ (v:=.int 0) (by rfl) Ae ⟨_,rfl⟩) (ad (ao aP (pv 1) af) (ad (pv 2) ag)))) (ax (ad (aJ (v:=.int 1) (by rfl) AQ ⟨_,rfl⟩) (ad (pv 1) (ad (ao aP (pv 2) af) ag))))))),?_⟩;refine⟨_,rfl,rfl,_,rfl,?_⟩;rw[di];refine aR (fun c=>?_) (fun c=>?_)
  ·have c:=bz c
   rw[if_pos c]at k;exact⟨_,rfl,_,_,rfl,rfl,_,rfl,sz (by simp),fun t H1 s1 f1 _=>k t H1 s1 f1⟩
  ·have c:=bU c
   rw[if_neg c]at k;exact⟨_,rfl,_,rfl,_,_,rfl,rfl,sz (by simp),fun t H1 s1 f1 _=>k t H1 s1 f1⟩
theorem AX:zZ ["field","reached","door","straight","turned","part","low"] ["field","reached","door","straight","turned"] (am (top 65)):=smk
theorem iR(BU:Df K mg "pass_through" (top 65))(z9:Dy K mg "Field" C_Field)(n_room:aI K C_Field "room")(n_last:aI K C_Field "last")(n_doors:aI K C_Field "doors")(n_far:aI K C_Field "far")(Ab:Fn P w K mg base "root_order" ["one","other"] 4 (EJ K))(T:Txt mg):Fn P w K mg base "pass_through" ["field","reached","door","straight","turned"] 5 (F5 K C_Field):=by
 refine BU.fn AX (fun _ _ _ _ _ _ us hl=>by obtain⟨_,_,_,_,_,rfl⟩:=vF hl;rfl) (fun vs H Q E h=>?_) (fun f cdv A outer s H vs Q E hr h=>?_)
 ·obtain⟨fo,d,t,ts,tt,n,m,room,G,F,R,c,x,xs,xt,rfl,_⟩:=h
  rfl
 ·obtain⟨fo,d,t,ts,tt,n,m,room,G,F,R,c,x,xs,xt,rfl,fa,rp,⟨ht,hts,htt⟩,hd,new,hc,k⟩:=h
  refine⟨_,(ai (ap (i:=5) AX.nd rfl (Or.inl rfl) (cP (bT hr) (bR (pv 0) rfl) (pv 2) (fun _ _=>rfl))) (ai (aL (az fU (pv 5) aW (aE _)) (ak pQ) aF) (ai (aL (g8 (lR (bT hr) (pv 4) (pv 1)) (by rfl)) (ai (dA (bT hr) (pv 1) (pv 2) (ax (ad (aw au (pv 5) af (fun _ _=>rfl)) (ad (aw au (pv 5) af (fun _ _=>rfl)) (ad (pv 4) ag)))) rfl) (ak pQ)) aF) (ak (aL (g8 (lR (bT hr) (pv 3) (pv 1)) (by rfl)) (ai (ap (i:=6) AX.nd rfl (Or.inl rfl) (aw au (pv 5) af (fun _ _=>rfl))) (ai (aL (az dn (aA Ab (hr.mono (by decide)) (by rfl) (ad (pv 6) (ad (aw au (cP (bT hr) (pv 1) (pv 3) (fun _ _=>rfl)) af (fun _ _=>rfl)) ag))) af (aE _)) (ak (ap (i:=6) AX.nd rfl (Or.inl rfl) (aw au (cP (bT hr) (pv 1) (pv 3) (fun _ _=>rfl)) af (fun _ _=>rfl)))) aF) (ak (aL (az mR (aA Ab (hr.mono (by decide)) (by rfl) (ad (pv 6) (ad (aw au (pv 5) af (fun _ _=>rfl)) ag))) af (aE _)) (ak (dA (bT hr) (pv 1) (pv 2) (ax (ad (pv 6) (ad (aw au (pv 5) af (fun _ _=>rfl)) (ad (pv 3) ag)))) rfl)) aF)))) aF))))),?_⟩;obtain⟨dx,lt,d0,fr,hf,hl,⟨cc,dd⟩,_⟩:=fa.ex;obtain⟨o,dg,hv,_⟩:=dd.get (k:=x.1) (i:=x.2.1) (j:=x.2.2) ht;obtain⟨v,rfl,gv⟩:=hv hd;refine⟨_,rfl,fo,C_Field,dx,_,_,rfl,hf,z9.cls,n_doors,rfl,_,rfl,d0,_,rfl,dg,?_⟩;cases hg:G x.1 x.2.1 x.2.2 with
  | none =>
   rw[hg]at gv k;have gv:v = .non:=gv;rw[gv];refine⟨_,rfl,rfl,_,rfl,bL rfl ?_⟩;exact k H (fun _ _ _ e=>e) (rp.congr (dB new) (by omega))
  | some p =>
   rw[hg]at gv k;obtain⟨tg,p1,p2,rfl,eg,g1,g2⟩:=gv;have pk:pas (some p) (R xs) (R xt) xs xt=if (R xt).isSome=true then some ⟨p.1,p.2,some xt⟩ else match R xs with
    | none=>none
    | some r=>if ro4 (mxN p.1 r.lo) p.2≤0 then some ⟨mxN p.1 r.lo,p.2,some xs⟩ else none:=rfl
   rw[pk]at k;refine⟨_,rfl,rfl,_,rfl,bw (by simp) ?_⟩;obtain⟨ot,dgt,hot⟩:=rp.get htt;refine⟨_,rfl,_,rfl,d,ot,rfl,dgt,_,rfl,?_⟩;rcases hot with⟨rt,vt,hrt,rfl,_⟩|⟨hrt,rfl⟩
   ·refine bL rfl ?_
    rw[hrt,if_pos (show(some rt).isSome=true from rfl)]at k;refine⟨_,rfl,tg,_,_,_,rfl,rfl,SqT.of eg,rfl,_,rfl,tg,_,_,_,rfl,rfl,SqT.of eg,rfl,_,rfl,sz (by simp),fun tv H1 s1 f1 n1=>?_⟩;obtain⟨H2,dp,rp2,b2⟩:=(rp.mono s1).put (r:=⟨p.1,p.2,some xt⟩) (s1 _ _ ht) ⟨tv,p1,p2,.ref tt,rfl,f1,g1.mono s1,g2.mono s1,tt,rfl,s1 _ _ htt⟩ new (by omega);refine⟨_,rfl,_,rfl,d,H2,rfl,dp,?_⟩;exact k H2 ((br.of s1).trans b2) rp2
   ·refine bw rfl ?_
    rw[hrt,if_neg (by decide)]at k;obtain⟨os,dgs,hos⟩:=rp.get hts;refine⟨_,rfl,_,rfl,d,os,rfl,dgs,_,rfl,?_⟩;rcases hos with⟨rs,vs,hrs,rfl,tvs,q1,q2,qw,rfl,evs,m1,m2,_⟩|⟨hrs,rfl⟩
    ·refine bL rfl ?_
     rw[hrs]at k;have k:∀(H':Hp),br d H H'->Bs K H' d (fO R x (if ro4 (mxN p.1 rs.lo) p.2≤0 then some ⟨mxN p.1 rs.lo,p.2,some xs⟩ else none)) (c+1)->Q .non H':=k
     refine⟨_,rfl,tg,_,_,_,rfl,rfl,SqT.of eg,rfl,?_⟩;refine⟨_,rfl,_,rfl,_,rfl,d,_,rfl,dgs,tvs,_,_,_,rfl,rfl,SqT.of evs,rfl,_,_,_,_,_,_,_,_,_,_,rfl,g1.rt',m1.rt',_,_,rfl,rfl,_,rfl,aR (fun c1=>?_) (fun c1=>?_)⟩
     ·have em:mxN p.1 rs.lo=rs.lo:=if_pos (bz c1)
      refine⟨_,rfl,_,rfl,d,_,rfl,dgs,tvs,_,_,_,rfl,rfl,SqT.of evs,rfl,?_⟩;refine⟨_,rfl,_,rfl,tg,_,_,_,rfl,rfl,SqT.of eg,rfl,_,_,_,_,_,_,_,_,_,_,rfl,m1.rt',g2.rt',_,_,rfl,rfl,_,rfl,aR (fun c2=>?_) (fun c2=>?_)⟩
      ·have c2:ro4 (mxN p.1 rs.lo) p.2≤0:=by rw[em];exact bz c2
       rw[if_pos c2]at k;refine⟨_,rfl,_,rfl,tg,_,_,_,rfl,rfl,SqT.of eg,rfl,_,rfl,sz (by simp),fun tv H1 s1 f1 n1=>?_⟩;obtain⟨H2,dp,rp2,b2⟩:=(rp.mono s1).put (r:=⟨mxN p.1 rs.lo,p.2,some xs⟩) (s1 _ _ ht) ⟨tv,q1,p2,.ref ts,rfl,f1,by show Nm K H1 _ (mxN p.1 rs.lo);rw[em];exact m1.mono s1,g2.mono s1,ts,rfl,s1 _ _ hts⟩ new (by omega);refine⟨_,rfl,_,rfl,d,H2,rfl,dp,?_⟩;exact k H2 ((br.of s1).trans b2) rp2
      ·have c2:¬ro4 (mxN p.1 rs.lo) p.2≤0:=by rw[em];exact bU c2
       rw[if_neg c2]at k;exact k H (fun _ _ _ e=>e) (rp.congr (dB new) (by omega))
     ·have em:mxN p.1 rs.lo=p.1:=if_neg (bU c1)
      refine⟨_,rfl,_,rfl,tg,_,_,_,rfl,rfl,SqT.of eg,rfl,_,_,_,_,_,_,_,_,_,_,rfl,g1.rt',g2.rt',_,_,rfl,rfl,_,rfl,aR (fun c2=>?_) (fun c2=>?_)⟩
      ·have c2:ro4 (mxN p.1 rs.lo) p.2≤0:=by rw[em];exact bz c2
       rw[if_pos c2]at k;refine⟨_,rfl,_,rfl,tg,_,_,_,rfl,rfl,SqT.of eg,rfl,_,rfl,sz (by simp),fun tv H1 s1 f1 n1=>?_⟩;obtain⟨H2,dp,rp2,b2⟩:=(rp.mono s1).put (r:=⟨mxN p.1 rs.lo,p.2,some xs⟩) (s1 _ _ ht) ⟨tv,p1,p2,.ref ts,rfl,f1,by show Nm K H1 _ (mxN p.1 rs.lo);rw[em];exact g1.mono s1,g2.mono s1,ts,rfl,s1 _ _ hts⟩ new (by omega);refine⟨_,rfl,_,rfl,d,H2,rfl,dp,?_⟩;exact k H2 ((br.of s1).trans b2) rp2
      ·have c2:¬ro4 (mxN p.1 rs.lo) p.2≤0:=by rw[em];exact bU c2
       rw[if_neg c2]at k;exact k H (fun _ _ _ e=>e) (rp.congr (dB new) (by omega))
    ·refine bw rfl ?_
     rw[hrs]at k;exact k H (fun _ _ _ e=>e) (rp.congr (dB new) (by omega))
theorem ds{a b:Str}{c:Bool}(h:decide (V.str a=V.str b)=c):decide (a=b)=c:=by
 rw[<- h]
 by_cases z:a=b
 ·rw[decide_eq_true z,decide_eq_true (by rw[z])]
 ·rw[decide_eq_false z,decide_eq_false (fun w=>z (V.str.inj w))]
theorem xa{G:GF}{F:Int->Int->Bool}{m:Nat}:∀x:Dor,fO (fun _=>none) (0,0,0) (if F 0 0=false then some ⟨(0,0,0,1),(0,0,0,1),none⟩ else none) x=bgD wOn G F m x:=fun x=>by
 have e2:∀j,bgR wOn G F m j=if j=0∧F 0 0=false then some ⟨(0,0,0,1),(0,0,0,1),none⟩ else none:=fun j=>if_pos rfl
 by_cases h:x=(0,0,0)
 ·subst h
  have e:bgD wOn G F m (0,0,0)=bgR wOn G F m 0:=if_pos ⟨rfl,rfl,Int.le_refl 0⟩;rw[e,e2];unfold fO;rw[if_pos rfl]
  by_cases f:F 0 0=false
  ·rw[if_pos f,if_pos ⟨rfl,f⟩]
  ·rw[if_neg f,if_neg (fun z=>f z.2)]
 ·unfold fO
  rw[if_neg h];unfold bgD
  by_cases z:x.1=0∧x.2.1=0∧0≤x.2.2
  ·rw[if_pos z,e2,if_neg (fun y=>h (Prod.ext z.1 (Prod.ext z.2.1 (by have:=y.1;have:=z.2.2;show x.2.2=0;omega))))]
  ·rw[if_neg z]
def bgP(G:GF)(j0:Nat)(x:Dor):Option Rv:=if (x.1=0∧x.2.1=0)∧0≤x.2.2∧x.2.2<(j0:Int) then (G 0 0 x.2.2).map fun p=>⟨p.1,p.2,none⟩ else none
theorem ol{G:GF}{j:Nat}:∀x:Dor,fO (bgP G j) (0,0,(j:Int)) ((G 0 0 (j:Int)).map fun p=>⟨p.1,p.2,none⟩) x=bgP G (j+1) x:=fun x=>by
 unfold fO
 by_cases h:x=(0,0,(j:Int))
 ·rw[if_pos h,h]
  unfold bgP;rw[if_pos ⟨⟨rfl,rfl⟩,by show(0:Int)≤j;omega,by show(j:Int)<((j+1:Nat):Int);omega⟩]
 ·rw[if_neg h]
  unfold bgP
  by_cases z:(x.1=0∧x.2.1=0)∧0≤x.2.2∧x.2.2<(j:Int)
  ·rw[if_pos z,if_pos ⟨z.1,z.2.1,by omega⟩]
  ·rw[if_neg z,if_neg (fun y=>z ⟨y.1,y.2.1,?_⟩)]
   have:x.2.2≠(j:Int):=fun w=>h (Prod.ext y.1.1 (Prod.ext y.1.2 w));omega
theorem wm{G:GF}{F:Int->Int->Bool}{m:Nat}:∀x:Dor,bgP G m x=bgD bH G F m x:=fun x=>by
 unfold bgP bgD bgR;rw[if_neg (show ¬bH=wOn by decide +kernel)]
 by_cases z:x.1=0∧x.2.1=0∧0≤x.2.2
 ·rw[if_pos z,show((x.2.2.toNat:Nat):Int)=x.2.2 by omega]
  by_cases y:x.2.2<(m:Int)
  ·rw[if_pos ⟨⟨z.1,z.2.1⟩,z.2.2,y⟩,if_pos (by omega)]
  ·rw[if_neg (fun w=>y w.2.2),if_neg (by omega)]
 ·rw[if_neg z,if_neg (fun w=>z ⟨w.1.1,w.1.2,w.2.1⟩)]
theorem tj{K:W.Frag}{p:Addr}(h:∀H,TpK K H p [.int 0,.int 0,.int 0,.int 1])(H:Hp):Nm K H p (0,0,0,1):=⟨h H,by decide,by decide,by decide,by decide,by decide,by decide⟩
theorem vk{K:W.Frag}{H:Hp}{d:Addr}:Bs K (upd H d (.dT [])) d (fun _=>none) 0:=⟨[],upd_same,Nat.le_refl _,(fun _ _ z=>by cases z),fun _ _=>rfl⟩
theorem AI:zZ ["field","way","reached","j","part"] ["field","way"] (am (top 63)):=smk
theorem gR{pB:Addr}(Bj:Df K mg "doors_at_begin" (top 63))(z9:Dy K mg "Field" C_Field)(n_room:aI K C_Field "room")(n_last:aI K C_Field "last")(n_doors:aI K C_Field "doors")(n_far:aI K C_Field "far")(V_UPRIGHT:∃tk,mg "UPRIGHT" = some (.int 0 tk))(V_LEVEL:∃tk,mg "LEVEL" = some (.int 1 tk))(BC:mg "BEGIN" = some (.ref pB))(hB:∀H,TpK K H pB [.int 0,.int 0,.int 0,.int 1])(T:Txt mg):Fn P w K mg base "doors_at_begin" ["field","way"] 2 (Gh K C_Field):=by
 refine Bj.fn AI (fun _ _ _ _ _ _ us hl=>by obtain⟨_,_,rfl⟩:=dw hl;rfl) (fun vs H Q E h=>?_) (fun f cdv A outer s H vs Q E hr h=>?_)
 ·obtain⟨fo,n,m,room,G,F,wy,rfl,_⟩:=h
  rfl
 ·obtain⟨fo,n,m,room,G,F,wy,rfl,fa,⟨hn,hn20⟩,⟨hm,hm20⟩,hw,k⟩:=h
  obtain⟨tU,Ae⟩:=V_UPRIGHT;obtain⟨tL,AQ⟩:=V_LEVEL;refine⟨_,(ai (ap (i:=2) AI.nd rfl (Or.inl rfl) gH) (ai (aL (az bS (pv 1) db (aE _)) (ai (aL (g8 (kR (bT hr) (ax (ad af (ad af ag))) (bR (pv 0) rfl)) (by rfl)) (ak (dA (bT hr) (pv 2) (ax (ad (aJ (v:=.int 0) (by rfl) Ae ⟨_,rfl⟩) (ad af (ad af ag)))) (ax (ad (aJ (v:=.ref _) (by rfl) BC rfl) (ad (aJ (v:=.ref _) (by rfl) BC rfl) (ad aW ag)))) rfl)) aF) (ak (ay (pv 2)))) aF) (ai (bW PassesOwn.never rfl (cf rfl T.z_range (ad (aw au (bR (pv 0) rfl) af (fun _ _=>rfl)) ag)) (aS (i:=3) AI.nd rfl (Or.inl rfl)) (ai (ap (i:=4) AI.nd rfl (Or.inl rfl) (cP (bT hr) (bR (pv 0) rfl) (ax (ad (aJ (v:=.int 0) (by rfl) Ae ⟨_,rfl⟩) (ad af (ad (pv 3) ag)))) (fun _ _=>rfl))) (ak (aL (az fJ (pv 4) aW (aE _)) (ak (dA (bT hr) (pv 2) (ax (ad (aJ (v:=.int 0) (by rfl) Ae ⟨_,rfl⟩) (ad af (ad (pv 3) ag)))) (ax (ad (aw au (pv 4) af (fun _ _=>rfl)) (ad (aw au (pv 4) af (fun _ _=>rfl)) (ad aW ag)))) rfl)) aF)))) (ak (ay (pv 2)))))),?_⟩;refine fun d hd=>?_;have s0:Same H (upd H d (.dT [])):=Same.new hd;have r0:Bs K (upd H d (.dT [])) d (fun _=>none) 0:=vk;generalize upd H d (.dT [])=H0 at s0 r0;have fa0:=fa.mono s0;obtain⟨dx,lt,d0,fr,hf,hl,⟨cc,dd⟩,fd⟩:=fa0.ex;refine⟨_,rfl,rfl,_,rfl,aR (fun c=>?_) (fun c=>?_)⟩
  ·have c:wy=wOn:=bz (ds c)
   subst c;refine⟨sz (by simp),fun p0 H2 s2 f2 n2=>⟨_,rfl,fo,C_Field,dx,_,_,rfl,s2 _ _ hf,z9.cls,n_far,rfl,?_⟩⟩;obtain⟨o,dg,ho⟩:=(fd.mono s2).get (x:=0) (y:=0) f2;refine⟨fr,o,rfl,dg,_,rfl,?_⟩;have S2:=s0.trans s2;have r2:=r0.mono s2;have nB:=tj (K:=K) hB;cases f0:F 0 0 with
   | true =>
    have e:o.isSome=true:=by rw[ho];exact decide_eq_true (du.mpr ⟨by decide,by omega,by decide,by omega,f0⟩)
    rw[e];refine bw rfl ?_;exact⟨_,rfl,k d H2 S2 hd (r2.congr (fun x=>(dB (R:=fun _=>none) (x:=(0,0,0)) (o:=none) rfl x).trans (by rw[<- xa,if_neg (by rw[f0];decide)])) (by omega))⟩
   | false =>
    have e:o.isSome=false:=by rw[ho];exact decide_eq_false fun z=>by have:=(du.mp z).2.2.2.2;rw[f0]at this;cases this
    rw[e];refine bL rfl ?_;refine⟨sz (by simp),fun tv H3 s3 f3 n3=>⟨_,rfl,sz (by simp),fun tk H4 s4 f4 n4=>?_⟩⟩;obtain⟨H5,dp,rp5,b5⟩:=((r2.mono s3).mono s4).put (x:=(0,0,0)) (r:=⟨(0,0,0,1),(0,0,0,1),none⟩) f4 ⟨tv,pB,pB,.non,rfl,s4 _ _ f3,nB _,nB _,rfl⟩ rfl (by decide);refine⟨d,H5,rfl,dp,?_⟩;exact⟨_,rfl,k d H5 (b5.same (S2.trans (s3.trans s4)) hd) hd (rp5.congr (fun x=>by rw[<- xa,if_pos f0]) (by omega))⟩
  ·have c:¬wy=wOn:=bU (ds c)
   have c:wy=bH:=hw.resolve_left c;subst c;have L:=SqT.of (K:=K) hl;have e62:(2:Int)^62=4611686018427387904:=by decide
   refine⟨_,rfl,fo,C_Field,dx,_,_,rfl,hf,z9.cls,n_last,rfl,lt,_,_,_,rfl,rfl,L,rfl,_,rfl,by omega,by omega,?_⟩;rw[Int.toNat_natCast];refine cw (n:=m) (lo:=0) (fun j σ H'=>∃(z3 z4:Option V),σ = [some (.ref fo),some (.str bH),some (.ref d),z3,z4]∧Same H H'∧Bs K H' d (bgP G j) j)
    ⟨_,_,rfl,s0,r0.congr (fun x=>by unfold bgP;rw[if_neg (by omega)]) (Nat.le_refl _)⟩ ?_ ?_
   ·rintro j σ H1 hj ⟨z3,z4,rfl,s1,r1⟩
    rw[Int.zero_add];obtain⟨dx,lt,d0,fr,hf,hl,⟨cc,dd⟩,fd⟩:=(fa.mono s1).ex;refine⟨_,rfl,fo,C_Field,dx,_,_,rfl,hf,z9.cls,n_doors,rfl,_,rfl,sz (by simp),fun tk H2 s2 f2 n2=>?_⟩;have S2:=s1.trans s2;obtain⟨o,dg,hv,_⟩:=(dd.mono s2).get (k:=0) (i:=0) (j:=(j:Int)) f2;obtain⟨v,rfl,gv⟩:=hv (.inl ⟨rfl,⟨by decide,by omega⟩,by omega,by omega⟩);have new:bgP G j (0,0,(j:Int))=none:=if_neg fun z=>by have:=z.2.2;omega
    refine⟨d0,_,rfl,dg,?_⟩;cases hg:G 0 0 (j:Int) with
    | none =>
     rw[hg]at gv;have gv:v = .non:=gv;rw[gv];refine⟨_,rfl,rfl,_,rfl,bw (by simp) ⟨_,_,rfl,S2,(r1.mono s2).congr (fun x=>?_) (by omega)⟩⟩;rw[<- ol,hg];exact dB new x
    | some p =>
     rw[hg]at gv;obtain⟨tg,p1,p2,rfl,eg,g1,g2⟩:=gv;refine⟨_,rfl,rfl,_,rfl,bL (by simp) ?_⟩;refine⟨_,rfl,tg,_,_,_,rfl,rfl,SqT.of eg,rfl,_,rfl,tg,_,_,_,rfl,rfl,SqT.of eg,rfl,sz (by simp),fun tv H3 s3 f3 n3=>⟨_,rfl,_,rfl,sz (by simp),fun tk' H4 s4 f4 n4=>?_⟩⟩;obtain⟨H5,dp,rp5,b5⟩:=(((r1.mono s2).mono s3).mono s4).put (x:=(0,0,(j:Int))) (r:=⟨p.1,p.2,none⟩) f4 ⟨tv,p1,p2,.non,rfl,s4 _ _ f3,(g1.mono s3).mono s4,(g2.mono s3).mono s4,rfl⟩ new (by omega);refine⟨d,H5,rfl,dp,_,_,rfl,b5.same (S2.trans (s3.trans s4)) hd,rp5.congr (fun x=>?_) (by omega)⟩;rw[<- ol,hg];rfl
   ·rintro σ H1 ⟨z3,z4,rfl,s1,r1⟩
    exact⟨_,rfl,k d H1 s1 hd (r1.congr wm (by omega))⟩
def RR(wy:Str)(G:GF)(F:Int->Int->Bool)(n m:Nat)(x:Dor):Option Rv :=
 if x.1=0∧(0≤x.2.1∧x.2.1≤(n:Int))∧0≤x.2.2∧x.2.2<(m:Int) then Uc G (bgR wy G F m) x.2.1.toNat x.2.2.toNat
 else if x.1=1∧(0≤x.2.1∧x.2.1<(n:Int))∧0≤x.2.2∧x.2.2≤(m:Int) then Lc G (Uc G (bgR wy G F m) x.2.1.toNat) x.2.1.toNat x.2.2.toNat else none
def dnP(i su sl:Int)(x:Dor):Prop:=(x.1=0∧(x.2.1≤i∨(x.2.1=i+1∧x.2.2<su)))∨(x.1=1∧(x.2.1<i∨(x.2.1=i∧x.2.2≤sl)))
noncomputable def RS(wy:Str)(G:GF)(F:Int->Int->Bool)(n m:Nat)(i su sl:Int)(x:Dor):Option Rv:=@ite _ (dnP i su sl x) (Classical.propDecidable _) (RR wy G F n m x) none
section
variable {wy:Str} {G:GF} {F:Int->Int->Bool} {n m:Nat}
theorem o0{i j:Nat}(hi:i≤n)(hj:j<m):RR wy G F n m (0,(i:Int),(j:Int))=Uc G (bgR wy G F m) i j:=by
 unfold RR;rw[if_pos ⟨rfl,⟨by show(0:Int)≤i;omega,by show(i:Int)≤n;omega⟩,by show(0:Int)≤j;omega,by show(j:Int)<m;omega⟩];rfl
theorem rO{i j:Nat}(hi:i<n)(hj:j≤m):RR wy G F n m (1,(i:Int),(j:Int))=Lc G (Uc G (bgR wy G F m) i) i j:=by
 unfold RR;rw[if_neg (fun z=>absurd z.1 (show ¬(1:Int)=0 by decide)),if_pos ⟨rfl,⟨by show(0:Int)≤i;omega,by show(i:Int)<n;omega⟩,by show(0:Int)≤j;omega,by show(j:Int)≤m;omega⟩];rfl
theorem eI{i su sl:Int}{x:Dor}(h:dnP i su sl x):RS wy G F n m i su sl x=RR wy G F n m x:=by unfold RS;rw[if_pos h]
theorem iy{i su sl:Int}{x:Dor}(h:¬dnP i su sl x):RS wy G F n m i su sl x=none:=by unfold RS;rw[if_neg h]
theorem oZ{i su sl i' su' sl':Int}{x:Dor}(h:dnP i su sl x↔dnP i' su' sl' x):RS wy G F n m i su sl x=RS wy G F n m i' su' sl' x:=by
 by_cases z:dnP i su sl x
 ·rw[eI z,eI (h.mp z)]
 ·rw[iy z,iy (fun w=>z (h.mpr w))]
theorem fN{x:Dor}(h:¬DIn n m x.1 x.2.1 x.2.2):RR wy G F n m x=none:=by
 unfold RR;rw[if_neg (fun z=>h (.inl ⟨z.1,z.2⟩)),if_neg (fun z=>h (.inr ⟨z.1,z.2⟩))]
theorem gX{i su sl:Int}{x:Dor}(h:RR wy G F n m x=none):RS wy G F n m i su sl x=none:=by
 by_cases z:dnP i su sl x
 ·rw[eI z,h]
 ·exact iy z
theorem uP{x:Dor}(h1:x.1=1)(h2:x.2.2=0):RR wy G F n m x=none:=by
 unfold RR;rw[if_neg (fun z=>by have:=z.1;omega)]
 split
 ·rw[h2];rfl
 ·rfl
theorem uO(h1:1≤m):∀x:Dor,bgD wy G F m x=RS wy G F n m 0 0 0 x:=fun x=>by
 have hm:∀j,¬j<m->bgR wy G F m j=none:=fun j hj=>by
  unfold bgR
  by_cases c:wy=wOn
  ·rw[if_pos c,if_neg (by omega)]
  ·rw[if_neg c,if_neg hj]
 unfold bgD
 by_cases A:x.1=0∧x.2.1=0∧0≤x.2.2
 ·rw[if_pos A]
  by_cases B:x.2.2<(m:Int)
  ·rw[eI (.inl ⟨A.1,.inl (by omega)⟩)]
   unfold RR;rw[if_pos ⟨A.1,⟨by omega,by omega⟩,A.2.2,B⟩,A.2.1];rfl
  ·rw[hm _ (by omega),gX (fN ?_)]
   rintro(⟨_,_,_,h⟩|⟨h,_⟩) <;> omega
 ·rw[if_neg A]
  by_cases z:dnP 0 0 0 x
  ·rw[eI z]
   by_cases D:DIn n m x.1 x.2.1 x.2.2
   ·rcases D with⟨d1,d2,d3,d4⟩|⟨d1,d2,d3,d4⟩
    ·refine absurd ⟨d1,?_,d3⟩ A
     rcases z with⟨_,z|z⟩|⟨z,_⟩ <;> omega
    ·rw[uP d1]
     rcases z with⟨z,_⟩|⟨_,z|z⟩ <;> omega
   ·rw[fN D]
  ·rw[iy z]
theorem zu{i j:Nat}(hi:i<n)(hj:j<m):∀x:Dor,fO (RS wy G F n m i j j) (0,(i:Int)+1,(j:Int)) (pas (G 0 ((i:Int)+1) (j:Int)) (RS wy G F n m i j j (0,(i:Int),(j:Int))) (RS wy G F n m i j j (1,(i:Int),(j:Int))) (0,(i:Int),(j:Int)) (1,(i:Int),(j:Int))) x=RS wy G F n m i ((j:Int)+1) j x:=fun x=>by
 have e1:RS wy G F n m i j j (0,(i:Int),(j:Int))=Uc G (bgR wy G F m) i j:=(eI (.inl ⟨rfl,.inl (Int.le_refl _)⟩)).trans (o0 (by omega) hj);have e2:RS wy G F n m i j j (1,(i:Int),(j:Int))=Lc G (Uc G (bgR wy G F m) i) i j:=(eI (.inr ⟨rfl,.inr ⟨rfl,Int.le_refl _⟩⟩)).trans (rO hi (by omega));rw[e1,e2];unfold fO
 by_cases h:x=(0,(i:Int)+1,(j:Int))
 ·rw[if_pos h,h,eI (.inl ⟨rfl,.inr ⟨rfl,by show(j:Int)<(j:Int)+1;omega⟩⟩)]
  have:=o0 (wy:=wy) (G:=G) (F:=F) (n:=n) (m:=m) (i:=i+1) (j:=j) (by omega) hj;rw[show((i:Int)+1)=((i+1:Nat):Int) by omega,this];rfl
 ·rw[if_neg h]
  refine oZ ?_;unfold dnP;constructor
  ·rintro(⟨a,b⟩|b)
   ·exact .inl ⟨a,b.imp_right fun c=>⟨c.1,by omega⟩⟩
   ·exact .inr b
  ·rintro(⟨a,b|⟨b,c⟩⟩|b)
   ·exact .inl ⟨a,.inl b⟩
   ·refine .inl ⟨a,.inr ⟨b,?_⟩⟩
    have:x.2.2≠(j:Int):=fun w=>h (Prod.ext a (Prod.ext b w));omega
   ·exact .inr b
theorem wA{i j:Nat}(hi:i<n)(hj:j<m):∀x:Dor,fO (RS wy G F n m i ((j:Int)+1) j) (1,(i:Int),(j:Int)+1) (pas (G 1 (i:Int) ((j:Int)+1)) (RS wy G F n m i ((j:Int)+1) j (1,(i:Int),(j:Int))) (RS wy G F n m i ((j:Int)+1) j (0,(i:Int),(j:Int))) (1,(i:Int),(j:Int)) (0,(i:Int),(j:Int))) x=RS wy G F n m i ((j:Int)+1) ((j:Int)+1) x:=fun x=>by
 have e1:RS wy G F n m i ((j:Int)+1) j (0,(i:Int),(j:Int))=Uc G (bgR wy G F m) i j:=(eI (.inl ⟨rfl,.inl (Int.le_refl _)⟩)).trans (o0 (by omega) hj);have e2:RS wy G F n m i ((j:Int)+1) j (1,(i:Int),(j:Int))=Lc G (Uc G (bgR wy G F m) i) i j:=(eI (.inr ⟨rfl,.inr ⟨rfl,Int.le_refl _⟩⟩)).trans (rO hi (by omega));rw[e1,e2];unfold fO
 by_cases h:x=(1,(i:Int),(j:Int)+1)
 ·have e3:RS wy G F n m i ((j:Int)+1) ((j:Int)+1) (1,(i:Int),(j:Int)+1)=RR wy G F n m (1,(i:Int),(j:Int)+1):=eI (.inr ⟨rfl,.inr ⟨rfl,Int.le_refl _⟩⟩)
  rw[if_pos h,h,e3];have:=rO (wy:=wy) (G:=G) (F:=F) (n:=n) (m:=m) (i:=i) (j:=j+1) hi (by omega);rw[show((j:Int)+1)=((j+1:Nat):Int) by omega,this];rfl
 ·rw[if_neg h]
  refine oZ ?_;unfold dnP;constructor
  ·rintro(b|⟨a,b⟩)
   ·exact .inl b
   ·exact .inr ⟨a,b.imp_right fun c=>⟨c.1,by omega⟩⟩
  ·rintro(b|⟨a,b|⟨b,c⟩⟩)
   ·exact .inl b
   ·exact .inr ⟨a,.inl b⟩
   ·refine .inr ⟨a,.inr ⟨b,?_⟩⟩
    have:x.2.2≠(j:Int)+1:=fun w=>h (Prod.ext a (Prod.ext b w));omega
theorem wB{i:Nat}:∀x:Dor,RS wy G F n m i m m x=RS wy G F n m ((i+1:Nat):Int) 0 0 x:=fun x=>by
 by_cases D:DIn n m x.1 x.2.1 x.2.2
 ·by_cases z:x.1=1∧x.2.2=0
  ·rw[gX (uP z.1 z.2),gX (uP z.1 z.2)]
  ·refine oZ ?_
   unfold dnP;rcases D with⟨d1,d2,d3,d4⟩|⟨d1,d2,d3,d4⟩
   ·constructor
    ·rintro(⟨_,h|h⟩|⟨h,_⟩)
     ·exact .inl ⟨d1,.inl (by omega)⟩
     ·exact .inl ⟨d1,.inl (by omega)⟩
     ·omega
    ·rintro(⟨_,h|h⟩|⟨h,_⟩)
     ·rcases Int.lt_or_le x.2.1 ((i+1:Nat):Int) with w|w
      ·exact .inl ⟨d1,.inl (by omega)⟩
      ·exact .inl ⟨d1,.inr ⟨by omega,d4⟩⟩
     ·omega
     ·omega
   ·constructor
    ·rintro(⟨h,_⟩|⟨_,h|h⟩)
     ·omega
     ·exact .inr ⟨d1,.inl (by omega)⟩
     ·exact .inr ⟨d1,.inl (by omega)⟩
    ·rintro(⟨h,_⟩|⟨_,h|h⟩)
     ·omega
     ·rcases Int.lt_or_le x.2.1 (i:Int) with w|w
      ·exact .inr ⟨d1,.inl w⟩
      ·exact .inr ⟨d1,.inr ⟨by omega,d4⟩⟩
     ·exact absurd ⟨d1,by omega⟩ z
 ·rw[gX (fN D),gX (fN D)]
theorem yt:∀x:Dor,RS wy G F n m n 0 0 x=RR wy G F n m x:=fun x=>by
 by_cases z:DIn n m x.1 x.2.1 x.2.2
 ·refine eI ?_
  rcases z with⟨a,b⟩|⟨a,b⟩
  ·exact .inl ⟨a,.inl b.1.2⟩
  ·exact .inr ⟨a,.inl b.1.2⟩
 ·rw[fN z]
  unfold RS
  split
  ·exact fN z
  ·rfl
end
inductive Ge (K:W.Frag) (C:Addr) (vs:List V) (H:Hp) (Q:VK) (x_3:XK):Prop
 | mk:∀(fo:Addr) (n m:Nat) (room:Int) (G:GF) (F:Int->Int->Bool) (wy:Str),(vs = [.ref fo,.str wy])->(Aj K C H fo n m room G F)->((1≤n∧n≤20))->((1≤m∧m≤20))->((wy=wOn∨wy=bH))->(∀d H',Same H H'->H d=none->Bs K H' d (RR wy G F n m) 900->Q (.ref d) H')->Ge K C vs H Q x_3
theorem AA:zZ ["field","way","reached","i","j","side"] ["field","way"] (am (top 66)):=smk
theorem io(Bz:Df K mg "doors_reached" (top 66))(z9:Dy K mg "Field" C_Field)(n_room:aI K C_Field "room")(n_last:aI K C_Field "last")(n_doors:aI K C_Field "doors")(n_far:aI K C_Field "far")(V_UPRIGHT:∃tk,mg "UPRIGHT" = some (.int 0 tk))(V_LEVEL:∃tk,mg "LEVEL" = some (.int 1 tk))(Be:Fn P w K mg base "doors_at_begin" ["field","way"] 2 (Gh K C_Field))(Dh:Fn P w K mg base "door_out" ["side","i","j"] 1 Gf)(BK:Fn P w K mg base "pass_through" ["field","reached","door","straight","turned"] 5 (F5 K C_Field))(T:Txt mg):Fn P w K mg base "doors_reached" ["field","way"] 6 (Ge K C_Field):=by
 refine Bz.fn AA (fun _ _ _ _ _ _ us hl=>by obtain⟨_,_,rfl⟩:=dw hl;rfl) (fun vs H Q E h=>?_) (fun f cdv A outer s H vs Q E hr h=>?_)
 ·obtain⟨fo,n,m,room,G,F,wy,rfl,_⟩:=h
  rfl
 ·obtain⟨fo,n,m,room,G,F,wy,rfl,fa,⟨hn,hn20⟩,⟨hm,hm20⟩,hw,k⟩:=h
  obtain⟨tU,Ae⟩:=V_UPRIGHT;obtain⟨tL,AQ⟩:=V_LEVEL;refine⟨_,(ai (ap (i:=2) AA.nd rfl (Or.inl rfl) (aA Be (hr.mono (by decide)) (by rfl) (ad (pv 0) (ad (pv 1) ag)))) (ai (bW PassesOwn.never rfl (cf rfl T.z_range (ad (aw au (bR (pv 0) rfl) af (fun _ _=>rfl)) ag)) (aS (i:=3) AA.nd rfl (Or.inl rfl)) (ak (bW PassesOwn.never rfl (cf rfl T.z_range (ad (aw au (bR (pv 0) rfl) af (fun _ _=>rfl)) ag)) (aS (i:=4) AA.nd rfl (Or.inl rfl)) (ak (bW PassesOwn.never rfl (xB (ax (ad (aJ (v:=.int 0) (by rfl) Ae ⟨_,rfl⟩) (ad (aJ (v:=.int 1) (by rfl) AQ ⟨_,rfl⟩) ag)))) (aS (i:=5) AA.nd rfl (Or.inl rfl)) (ak (bD (aA BK (hr.mono (by decide)) (by rfl) (ad (pv 0) (ad (pv 2) (ad (aA Dh (hr.mono (by decide)) (by rfl) (ad (pv 5) (ad (pv 3) (ad (pv 4) ag)))) (ad (ax (ad (pv 5) (ad (pv 3) (ad (pv 4) ag)))) (ad (ax (ad (ao aO af (pv 5)) (ad (pv 3) (ad (pv 4) ag)))) ag))))))))))))) (ak (ay (pv 2))))),?_⟩;refine⟨_,rfl,_,rfl,fo,n,m,room,G,F,wy,rfl,fa,⟨hn,hn20⟩,⟨hm,hm20⟩,hw,fun d H1 s1 nd rp1=>?_⟩;obtain⟨dx,lt,d0,fr,hf,hl,_,_⟩:=fa.ex;have FL:∀{H':Hp},Same H H'->SqT K H' lt [.int (n:Int),.int (m:Int)]:=fun s=>SqT.of (s _ _ hl);have cb:∀{i j:Nat},i<n->j<m->i*(2*m)+2*j+2≤800:=fun {i j} hi hj=>by
   have h1:i*(2*m)≤19*(2*m):=Nat.mul_le_mul_right _ (by omega);omega
  refine⟨_,rfl,fo,C_Field,dx,_,_,rfl,s1 _ _ hf,z9.cls,n_last,rfl,lt,_,_,_,rfl,rfl,FL s1,rfl,_,rfl,by omega,by omega,?_⟩;rw[Int.toNat_natCast];refine cw (n:=n) (lo:=0) (fun i σ H'=>∃(z3 z4 z5:Option V),σ = [some (.ref fo),some (.str wy),some (.ref d),z3,z4,z5]∧Same H H'∧Bs K H' d (RS wy G F n m i 0 0) (30+i*(2*m)))
   ⟨_,_,_,rfl,s1,rp1.congr (uO hm) (by omega)⟩ ?_ ?_
  ·rintro i σ H2 hi ⟨z3,z4,z5,rfl,s2,rp2⟩
   rw[Int.zero_add];refine⟨_,rfl,fo,C_Field,dx,_,_,rfl,s2 _ _ hf,z9.cls,n_last,rfl,lt,_,_,_,rfl,rfl,FL s2,rfl,_,rfl,by omega,by omega,?_⟩;rw[Int.toNat_natCast];refine cw (n:=m) (lo:=0) (fun j σ H'=>∃(z4 z5:Option V),σ = [some (.ref fo),some (.str wy),some (.ref d),some (.int (i:Int)),z4,z5]∧Same H H'∧Bs K H' d (RS wy G F n m i j j) (30+i*(2*m)+2*j))
    ⟨_,_,rfl,s2,rp2⟩ ?_ ?_
   ·rintro j σ H3 hj ⟨z4,z5,rfl,s3,rp3⟩
    rw[Int.zero_add];have hc:=cb hi hj;refine⟨sz (by simp),fun tp H4 s4 f4 n4=>?_⟩;have ndp:d≠tp:=fun z=>by
     obtain⟨kvs,e,_⟩:=rp3.ex;rw[z,n4]at e;cases e
    refine⟨tp,rfl,⟨_,SqT.of f4⟩,vO (K:=K) (a:=tp) (xs:=[.int 0,.int 1]) (fun s σ H'=>∃(z5:Option V),σ = [some (.ref fo),some (.str wy),some (.ref d),some (.int (i:Int)),some (.int (j:Int)),z5]∧Same H H'∧H' tp=some (.tup [.int 0,.int 1])∧Bs K H' d (RS wy G F n m i ((j:Int)+(if 1≤s then 1 else 0)) ((j:Int)+(if 2≤s then 1 else 0))) (30+i*(2*m)+2*j+s))
     ⟨_,rfl,s3.trans s4,f4,(rp3.mono s4).congr (fun x=>by rw[if_neg (by decide),if_neg (by decide),Int.add_zero]) (by omega)⟩ (fun i σ H' _ ⟨_,_,_,e,_⟩=>SqT.of e) ?_ ?_⟩
    ·rintro s x σ H5 hx ⟨z5,rfl,s5,f5,rp5⟩
     obtain⟨sd,rfl,hsd⟩:∃sd:Int,x = .int sd∧((s=0∧sd=0)∨(s=1∧sd=1)):=by
      match s,hx with
      | 0,h=>cases h;exact⟨0,rfl,.inl ⟨rfl,rfl⟩⟩
      | 1,h=>cases h;exact⟨1,rfl,.inr ⟨rfl,rfl⟩⟩
      | s+2,h=>simp at h
     refine⟨_,rfl,_,rfl,_,rfl,_,rfl,_,rfl,sd,(i:Int),(j:Int),rfl,by omega,fun t H6 s6 f6=>?_⟩;refine⟨_,rfl,_,rfl,_,rfl,sz (by simp),fun ts H7 s7 f7 n7=>?_⟩;refine⟨_,rfl,_,_,rfl,rfl,_,rfl,_,rfl,sz (by simp),fun tt H8 s8 f8 n8=>?_⟩;have S8:=s6.trans (s7.trans s8);have fin:∀{su sl:Int} {H':Hp},br d H8 H'->Bs K H' d (RS wy G F n m i su sl) (30+i*(2*m)+2*j+(s+1))->su=(j:Int)+(if 1≤s+1 then 1 else 0)->sl=(j:Int)+(if 2≤s+1 then 1 else 0)->∃(z5:Option V),[some (V.ref fo),some (V.str wy),some (V.ref d),some (V.int (i:Int)),some (V.int (j:Int)),some (V.int sd)] = [some (.ref fo),some (.str wy),some (.ref d),some (.int (i:Int)),some (.int (j:Int)),z5]∧Same H H'∧H' tp=some (.tup [.int 0,.int 1])∧Bs K H' d (RS wy G F n m i ((j:Int)+(if 1≤s+1 then 1 else 0)) ((j:Int)+(if 2≤s+1 then 1 else 0))) (30+i*(2*m)+2*j+(s+1)):=fun {su sl H'} b r e1 e2=>by
      subst e1;subst e2;exact⟨_,rfl,b.same (s5.trans S8) nd,b _ _ ndp.symm (S8 _ _ f5),r⟩
     rcases hsd with⟨rfl,rfl⟩|⟨rfl,rfl⟩
     ·refine⟨fo,d,t,ts,tt,n,m,room,G,F,_,_,(0,(i:Int)+1,(j:Int)),(0,(i:Int),(j:Int)),(1,(i:Int),(j:Int)),rfl,fa.mono (s5.trans S8),(rp5.mono S8).congr (R':=RS wy G F n m i j j) (fun x=>by rw[if_neg (by decide),if_neg (by decide),Int.add_zero]) (Nat.le_refl _),⟨(s7.trans s8) _ _ f6,s8 _ _ f7,f8⟩,.inl ⟨rfl,⟨by show(0:Int)≤(i:Int)+1;omega,by show(i:Int)+1≤n;omega⟩,by show(0:Int)≤j;omega,by show(j:Int)<m;omega⟩,iy ?_,by omega,fun H9 b9 r9=>?_⟩
      ·rintro(⟨_,h|⟨_,h⟩⟩|⟨h,_⟩)
       ·have h:(i:Int)+1≤i:=h
        omega
       ·have h:(j:Int)<j:=h
        omega
       ·cases h
      ·exact fin b9 (r9.congr (zu hi hj) (by omega)) (by rw[if_pos (by decide)]) (by rw[if_neg (by decide),Int.add_zero])
     ·refine⟨fo,d,t,ts,tt,n,m,room,G,F,_,_,(1,(i:Int),(j:Int)+1),(1,(i:Int),(j:Int)),(0,(i:Int),(j:Int)),rfl,fa.mono (s5.trans S8),(rp5.mono S8).congr (R':=RS wy G F n m i ((j:Int)+1) j) (fun x=>by rw[if_pos (by decide),if_neg (by decide),Int.add_zero]) (Nat.le_refl _),⟨(s7.trans s8) _ _ f6,s8 _ _ f7,f8⟩,.inr ⟨rfl,⟨by show(0:Int)≤(i:Int);omega,by show(i:Int)<n;omega⟩,by show(0:Int)≤(j:Int)+1;omega,by show(j:Int)+1≤m;omega⟩,iy ?_,by omega,fun H9 b9 r9=>?_⟩
      ·rintro(⟨h,_⟩|⟨_,h|⟨_,h⟩⟩)
       ·cases h
       ·have h:(i:Int)<i:=h
        omega
       ·have h:(j:Int)+1≤j:=h
        omega
      ·exact fin b9 (r9.congr (wA hi hj) (by omega)) (by rw[if_pos (by decide)]) (by rw[if_pos (by decide)])
    ·rintro σ H5 ⟨z5,rfl,s5,f5,rp5⟩
     exact⟨_,_,rfl,s5,rp5.congr (fun x=>by rw[if_pos (by simp),if_pos (by simp)];rfl) (by simp only[List.length_cons,List.length_nil];omega)⟩
   ·rintro σ H3 ⟨z4,z5,rfl,s3,rp3⟩
    exact⟨_,_,_,rfl,s3,rp3.congr wB (by rw[Nat.add_mul];omega)⟩
  ·rintro σ H2 ⟨z3,z4,z5,rfl,s2,rp2⟩
   refine⟨_,rfl,k d H2 s2 nd (rp2.congr yt ?_)⟩;have h1:n*(2*m)≤20*(2*m):=Nat.mul_le_mul_right _ (by omega);omega
def dz(K:W.Frag)(H:Hp)(e:aG×Lb)(v:V):Prop:=∃t sv hv,v = .ref t∧H t=some (.tup [sv,hv])∧bo H sv e.1∧iY K H hv e.2
theorem dz.mono{K:W.Frag}{H H':Hp}{e:aG×Lb}{v:V}(h:dz K H e v)(s:SameT H H'):dz K H' e v:=by
 obtain⟨t,sv,hv,h1,h2,h3,h4⟩:=h;exact⟨t,sv,hv,h1,s _ _ h2,h3.mono s,h4.mono s⟩
def rz(room:Int)(gx gy:Option (N4×N4)):Option (N4×N4):=match gx,gy with
 | some p,some q=>if ro4 p.2 q.1≥room then none else some (p.2,q.1)
 | _,_=>none
inductive E6 (K:W.Frag) (C:Addr) (vs:List V) (H:Hp) (Q:VK) (x_3:XK):Prop
 | mk:∀(fo t1 t2:Addr) (n m:Nat) (room:Int) (G:GF) (F:Int->Int->Bool) (x y:Dor),(vs = [.ref fo,.ref t1,.ref t2])->(Aj K C H fo n m room G F)->((H t1=some (.tup ((dkD x).map kV))∧H t2=some (.tup ((dkD y).map kV))))->(DIn n m x.1 x.2.1 x.2.2)->(DIn n m y.1 y.2.1 y.2.2)->((rz room (G x.1 x.2.1 x.2.2) (G y.1 y.2.1 y.2.2)=none->Q .non H))->(∀l,rz room (G x.1 x.2.1 x.2.2) (G y.1 y.2.1 y.2.2)=some l->∀(t p q:Addr) (H':Hp),Same H H'->H' t=some (.tup [.ref p,.ref q])->Nm K H' p l.1->Nm K H' q l.2->Q (.ref t) H')->E6 K C vs H Q x_3
theorem B8:zZ ["field","low_door","high_door","low","high"] ["field","low_door","high_door"] (am (top 55)):=smk
theorem jQ(Cd:Df K mg "gap_between" (top 55))(z9:Dy K mg "Field" C_Field)(n_room:aI K C_Field "room")(n_last:aI K C_Field "last")(n_doors:aI K C_Field "doors")(n_far:aI K C_Field "far")(Ab:Fn P w K mg base "root_order" ["one","other"] 4 (EJ K))(T:Txt mg):Fn P w K mg base "gap_between" ["field","low_door","high_door"] 5 (E6 K C_Field):=by
 refine Cd.fn B8 (fun _ _ _ _ _ _ us hl=>by obtain⟨_,_,_,rfl⟩:=iL hl;rfl) (fun vs H Q E h=>?_) (fun f cdv A outer s H vs Q E hr h=>?_)
 ·obtain⟨fo,t1,t2,n,m,room,G,F,x,y,rfl,_⟩:=h
  rfl
 ·obtain⟨fo,t1,t2,n,m,room,G,F,x,y,rfl,fa,⟨h1,h2⟩,d1,d2,k0,k1⟩:=h
  refine⟨_,(ai (ap (i:=3) B8.nd rfl (Or.inl rfl) (cP (bT hr) (bR (pv 0) rfl) (pv 1) (fun _ _=>rfl))) (ai (ap (i:=4) B8.nd rfl (Or.inl rfl) (cP (bT hr) (bR (pv 0) rfl) (pv 2) (fun _ _=>rfl))) (ai (aL (eT (az fU (pv 3) aW (aE _)) (eT (az fU (pv 4) aW (aE _)) (eS (az kX (aA Ab (hr.mono (by decide)) (by rfl) (ad (aw au (pv 3) af (fun _ _=>rfl)) (ad (aw au (pv 4) af (fun _ _=>rfl)) ag))) (bR (pv 0) rfl) (aE _))))).pt (ak (ay aW)) aF) (ak (ay (ax (ad (aw au (pv 3) af (fun _ _=>rfl)) (ad (aw au (pv 4) af (fun _ _=>rfl)) ag)))))))),?_⟩;obtain⟨dx,lt,d0,fr,hf,hl,⟨cc,dd⟩,_⟩:=fa.ex;obtain⟨o1,dg,hv1,_⟩:=dd.get (k:=x.1) (i:=x.2.1) (j:=x.2.2) h1;obtain⟨v1,rfl,gv1⟩:=hv1 d1;obtain⟨o2,dg2,hv2,_⟩:=dd.get (k:=y.1) (i:=y.2.1) (j:=y.2.2) h2;obtain⟨v2,rfl,gv2⟩:=hv2 d2;refine⟨_,rfl,fo,C_Field,dx,_,_,rfl,hf,z9.cls,n_doors,rfl,_,rfl,d0,_,rfl,dg,?_⟩;refine⟨_,rfl,fo,C_Field,dx,_,_,rfl,hf,z9.cls,n_doors,rfl,_,rfl,d0,_,rfl,dg2,?_⟩;cases e1:G x.1 x.2.1 x.2.2 with
  | none =>
   rw[e1]at gv1 k0;have gv1:v1 = .non:=gv1;rw[gv1];exact⟨_,rfl,rfl,_,rfl,bL rfl (k0 rfl)⟩
  | some p =>
   rw[e1]at gv1 k0 k1;obtain⟨tg,p1,p2,rfl,eg,g1,g2⟩:=gv1;refine⟨_,rfl,rfl,_,rfl,bw (by simp) ?_⟩;cases e2:G y.1 y.2.1 y.2.2 with
   | none =>
    rw[e2]at gv2 k0;have gv2:v2 = .non:=gv2;rw[gv2];exact⟨_,rfl,rfl,_,rfl,bL rfl (k0 rfl)⟩
   | some q =>
    rw[e2]at gv2 k0 k1;obtain⟨tg2,q1,q2,rfl,eg2,f1,f2⟩:=gv2;refine⟨_,rfl,rfl,_,rfl,bw (by simp) ?_⟩;refine⟨_,rfl,tg,_,_,_,rfl,rfl,SqT.of eg,rfl,_,rfl,tg2,_,_,_,rfl,rfl,SqT.of eg2,rfl,_,_,_,_,_,_,_,_,_,_,rfl,g2.rt',f1.rt',_,rfl,fo,C_Field,dx,_,_,rfl,hf,z9.cls,n_room,rfl,_,_,rfl,rfl,_,rfl,aR (fun c=>?_) (fun c=>?_)⟩
    ·exact k0 (if_pos (bz c))
    ·refine⟨_,rfl,tg,_,_,_,rfl,rfl,SqT.of eg,rfl,_,rfl,tg2,_,_,_,rfl,rfl,SqT.of eg2,rfl,sz (by simp),fun t H1 s1 f3 n1=>?_⟩
     exact k1 _ (if_neg (bU c)) t p2 q1 H1 s1 f3 (g2.mono s1) (f1.mono s1)
def dnE(room:Int)(G:GF)(i j:Int)(k:Nat):Option (aG×Lb):=(rz room (G 0 i j) (G 0 (k:Int) j)).map fun l=>(ck (k:Int) j,.bend (dk 0 i j) (dk 0 (k:Int) j) l.1 l.2)
def dnS(room:Int)(G:GF)(i j:Int):List (aG×Lb):=if j - 1<0 then [] else match G 0 i (j - 1) with
 | none=>[(ck i (j - 1),.no)]
 | some _=>(List.range i.toNat).filterMap (dnE room G i (j - 1))
def ovE(room:Int)(G:GF)(i j:Int)(k:Nat):Option (aG×Lb):=(rz room (G 1 i (j+1+(k:Int))) (G 1 i j)).map fun l=>(ck (i+1) (j+1+(k:Int)),.bend (dk 1 i j) (dk 1 i (j+1+(k:Int))) l.1 l.2)
def ovS(room:Int)(G:GF)(n m:Nat)(i j:Int):List (aG×Lb):=if i=(n:Int) then [] else match G 1 i j with
 | none=>[(ck (i+1) j,.no)]
 | some _=>(List.range ((m:Int) - j).toNat).filterMap (ovE room G i j)
def bkS(F:Int->Int->Bool)(n m:Nat)(i j:Int):List (aG×Lb):=((ku n m F).filter fun p=>decide (p.1≤i) && decide (p.2≥j)).map fun p=>(ck p.1 p.2,.no)
structure FX(K:W.Frag)(H H':Hp)(sl:Addr)(l:List (aG×Lb))(c:Nat):Prop where
 sm:Same H H'
 nr:H sl=none
 ex:∃vs,H' sl=some (.lst vs)∧Paired (dz K H') l vs∧vs.length≤c
theorem FX.mono{K:W.Frag}{H H1 H2:Hp}{sl:Addr}{l:List (aG×Lb)}{c c':Nat}(J:FX K H H1 sl l c)(s:Same H1 H2)(hc:c≤c'):FX K H H2 sl l c':=by
 obtain⟨vs,e,p,n⟩:=J.ex;exact⟨J.sm.trans s,J.nr,vs,s _ _ e,Paired.mapP p fun a b x=>x.mono s.t,by omega⟩
theorem FX.add{K:W.Frag}{H H1 H2:Hp}{sl t:Addr}{l:List (aG×Lb)}{c:Nat}{e:aG×Lb}{vs:List V}(J:FX K H H1 sl l c)(hv:H1 sl=some (.lst vs))(st:dz K H1 e (.ref t))(u:EH H1 H2 sl vs (vs++[.ref t])):FX K H H2 sl (l++[e]) (c+1):=by
 obtain⟨vs',e',p,n⟩:=J.ex;rw[hv]at e';cases e';refine⟨fun b o h=>u.at (fun z=>by rw[z,J.nr]at h;cases h) (J.sm b o h),J.nr,_,u.now,?_,by rw[List.length_append,List.length_singleton];omega⟩;exact Paired.snoc (Paired.mapP p fun a b x=>x.mono u.t) (st.mono u.t)
inductive Gd (K:W.Frag) (C:Addr) (vs:List V) (H:Hp) (Q:VK) (x_3:XK):Prop
 | mk:∀(fo c:Addr) (n m:Nat) (room:Int) (G:GF) (F:Int->Int->Bool) (i j:Int),(vs = [.ref fo,.ref c])->(Aj K C H fo n m room G F)->(H c=some (.tup [.int i,.int j]))->(((0≤i∧i≤(n:Int))∧n≤20))->(((0≤j∧j≤(m:Int))∧m≤20))->(∀r H',Same H H'->H r=none->(∃vs,H' r=some (.lst vs)∧Paired (dz K H') (dnS room G i j) vs∧vs.length≤30)->Q (.ref r) H')->Gd K C vs H Q x_3
inductive F8 (K:W.Frag) (C:Addr) (vs:List V) (H:Hp) (Q:VK) (x_3:XK):Prop
 | mk:∀(fo c:Addr) (n m:Nat) (room:Int) (G:GF) (F:Int->Int->Bool) (i j:Int),(vs = [.ref fo,.ref c])->(Aj K C H fo n m room G F)->(H c=some (.tup [.int i,.int j]))->(((0≤i∧i≤(n:Int))∧n≤20))->(((0≤j∧j≤(m:Int))∧m≤20))->(∀r H',Same H H'->H r=none->(∃vs,H' r=some (.lst vs)∧Paired (dz K H') (ovS room G n m i j) vs∧vs.length≤30)->Q (.ref r) H')->F8 K C vs H Q x_3
theorem jh{α:Type}{f:Nat->Option α}{k:Nat}:(List.range (k+1)).filterMap f=(List.range k).filterMap f++(f k).toList:=by
 rw[List.range_succ,List.filterMap_append];cases h:f k <;> simp[h]
theorem Aq:zZ ["field","corner","i","j","door","steps","k","beside","gap"] ["field","corner"] (am (top 56)):=smk
theorem kg(Cy:Df K mg "steps_down" (top 56))(z9:Dy K mg "Field" C_Field)(n_room:aI K C_Field "room")(n_last:aI K C_Field "last")(n_doors:aI K C_Field "doors")(n_far:aI K C_Field "far")(V_UPRIGHT:∃tk,mg "UPRIGHT" = some (.int 0 tk))(V_LEVEL:∃tk,mg "LEVEL" = some (.int 1 tk))(AE:Fn P w K mg base "gap_between" ["field","low_door","high_door"] 5 (E6 K C_Field))(T:Txt mg):Fn P w K mg base "steps_down" ["field","corner"] 6 (Gd K C_Field):=by
 refine Cy.fn Aq (fun _ _ _ _ _ _ us hl=>by obtain⟨_,_,rfl⟩:=dw hl;rfl) (fun vs H Q E h=>?_) (fun f cdv A outer s H vs Q E hr h=>?_)
 ·obtain⟨fo,c,n,m,room,G,F,i,j,rfl,_⟩:=h
  rfl
 ·obtain⟨fo,c,n,m,room,G,F,i,j,rfl,fa,hc,⟨⟨i0,i1⟩,hn⟩,⟨⟨j0,j1⟩,hm⟩,k⟩:=h
  obtain⟨tU,Ae⟩:=V_UPRIGHT;obtain⟨tL,AQ⟩:=V_LEVEL;refine⟨_,(ai (ap (i:=2) Aq.nd rfl (Or.inl rfl) (aw au (pv 1) af (fun _ _=>rfl))) (ai (ap (i:=3) Aq.nd rfl (Or.inl rfl) (ao aO (aw au (pv 1) af (fun _ _=>rfl)) af)) (ai (aL (az dn (pv 3) af (aE _)) (ak (ay (aX ag))) aF) (ai (ap (i:=4) Aq.nd rfl (Or.inl rfl) (ax (ad (aJ (v:=.int 0) (by rfl) Ae ⟨_,rfl⟩) (ad (pv 2) (ad (pv 3) ag))))) (ai (aL (az fU (cP (bT hr) (bR (pv 0) rfl) (pv 4) (fun _ _=>rfl)) aW (aE _)) (ak (ay (@aX _ _ _ _ (@ad _ _ _ _ _ (@ax _ _ _ _ _ (@ad _ _ _ _ _ (@ax _ _ _ _ _ (@ad _ _ _ _ _ (pv 2) (@ad _ _ _ _ _ (pv 3) ag (by rfl)) (by rfl))) (@ad _ _ _ _ _ aW ag (by rfl)) (by rfl))) ag (by rfl))))) aF) (ai (ap (i:=5) Aq.nd rfl (Or.inl rfl) (aX ag)) (ai (bW PassesOwn.never rfl (cf rfl T.z_range (ad (pv 2) ag)) (aS (i:=6) Aq.nd rfl (Or.inl rfl)) (ai (ap (i:=7) Aq.nd rfl (Or.inl rfl) (ax (ad (aJ (v:=.int 0) (by rfl) Ae ⟨_,rfl⟩) (ad (pv 6) (ad (pv 3) ag))))) (ai (ap (i:=8) Aq.nd rfl (Or.inl rfl) (aA AE (hr.mono (by decide)) (by rfl) (ad (pv 0) (ad (pv 4) (ad (pv 7) ag))))) (ak (aL (az fJ (pv 8) aW (aE _)) (ak (bD (dG PySem.F.plainAttrs_list PySem.F.slot_list_append PySem.F.type_list_append aZ (pv 5) (ad (@ax _ _ _ _ _ (@ad _ _ _ _ _ (@ax _ _ _ _ _ (@ad _ _ _ _ _ (pv 6) (@ad _ _ _ _ _ (pv 3) ag (by rfl)) (by rfl))) (@ad _ _ _ _ _ (@ax _ _ _ _ _ (@ad _ _ _ _ _ (pv 4) (@ad _ _ _ _ _ (pv 7) (@ad _ _ _ _ _ (pv 8) ag (by rfl)) (by rfl)) (by rfl))) ag (by rfl)) (by rfl))) ag)))) aF))))) (ak (ay (pv 5)))))))))),?_⟩;obtain⟨dx,lt,d0,fr,hf,hl,⟨cc,dd⟩,_⟩:=fa.ex;have e62:(2:Int)^62=4611686018427387904:=by decide
  refine⟨_,rfl,c,_,_,_,rfl,rfl,SqT.of hc,rfl,?_⟩;refine⟨_,rfl,c,_,_,_,rfl,rfl,SqT.of hc,rfl,_,_,rfl,rfl,?_⟩;unfold dnS at k;refine⟨_,rfl,_,_,rfl,rfl,_,rfl,aR (fun h=>?_) (fun h=>?_)⟩
  ·rw[if_pos (bz h)]at k
   exact⟨sz (by simp),fun r H1 s1 f1 n1=>k r H1 s1 n1 ⟨[],f1,.nil,by simp⟩⟩
  have h:=bU h;rw[if_neg h]at k;have din:DIn n m 0 i (j - 1):=.inl ⟨rfl,⟨i0,i1⟩,by omega,by omega⟩;refine⟨_,rfl,_,rfl,sz (by simp),fun td H1 s1 f1 n1=>?_⟩;obtain⟨o,dg,hv,_⟩:=(dd.mono s1).get (k:=0) (i:=i) (j:=(j - 1)) f1;obtain⟨v,rfl,gv⟩:=hv din;refine⟨_,rfl,fo,C_Field,dx,_,_,rfl,s1 _ _ hf,z9.cls,n_doors,rfl,_,rfl,d0,_,rfl,dg,rfl,_,rfl,?_⟩;cases hg:G 0 i (j - 1) with
  | none =>
   rw[hg]at gv k;have gv:v = .non:=gv;rw[gv];refine bL rfl ?_;refine⟨_,rfl,_,rfl,sz (by simp),fun a H2 s2 f2 n2=>⟨sz (by simp),fun t H3 s3 f3 n3=>⟨sz (by simp),fun r H4 s4 f4 n4=>?_⟩⟩⟩;exact k r H4 (s1.trans (s2.trans (s3.trans s4))) ((s1.trans (s2.trans s3)).free n4) ⟨_,f4,.cons ⟨t,.ref a,.non,rfl,s4 _ _ f3,⟨a,rfl,(s3.trans s4) _ _ f2⟩,rfl⟩ .nil,by simp⟩
  | some pg =>
   rw[hg]at gv k;obtain⟨tg,p1,p2,rfl,eg,g1,g2⟩:=gv;refine bw (by simp) ?_;refine⟨sz (by simp),fun sl H2 s2 f2 n2=>?_⟩;have S2:=s1.trans s2;have nsl:H sl=none:=s1.free n2;refine⟨_,rfl,_,rfl,by omega,by omega,?_⟩;refine cw (n:=i.toNat) (lo:=0) (fun k σ H'=>∃(z6 z7 z8:Option V),σ = [some (.ref fo),some (.ref c),some (.int i),some (.int (j - 1)),some (.ref td),some (.ref sl),z6,z7,z8]∧FX K H H' sl ((List.range k).filterMap (dnE room G i (j - 1))) k∧H' td=some (.tup ((dkD (0,i,(j - 1))).map kV)))
    ⟨_,_,_,rfl,⟨S2,nsl,[],f2,.nil,by simp⟩,s2 _ _ f1⟩ ?_ ?_
   ·rintro k' σ H3 hk ⟨z6,z7,z8,rfl,J,ft⟩
    rw[Int.zero_add];have S3:=J.sm;refine⟨_,rfl,_,rfl,sz (by simp),fun tb H4 s4 f4 n4=>?_⟩;have J4:=J.mono s4 (Nat.le_refl _);refine⟨_,rfl,_,rfl,_,rfl,fo,td,tb,n,m,room,G,F,(0,i,(j - 1)),(0,(k':Int),j - 1),rfl,fa.mono J4.sm,⟨s4 _ _ ft,f4⟩,din,(.inl ⟨rfl,⟨by show(0:Int)≤k';omega,by show(k':Int)≤n;omega⟩,by show 0≤j - 1;omega,by show j - 1<(m:Int);omega⟩),fun hn=>?_,fun l hs t p q H5 s5 f5 m1 m2=>?_⟩
    ·refine⟨_,rfl,rfl,_,rfl,bw (by simp) ⟨_,_,_,rfl,?_,s4 _ _ ft⟩⟩
     rw[jh,show dnE room G i (j - 1) k'=none by unfold dnE;rw[hn];rfl,Option.toList_none,List.append_nil];exact J4.mono (Same.refl _) (by omega)
    ·have J5:=J4.mono s5 (Nat.le_refl _)
     refine⟨_,rfl,rfl,_,rfl,bL (by simp) ?_⟩;obtain⟨vs,ev,_,lv⟩:=J5.ex;refine⟨_,rfl,.inl ⟨rfl,_,SqL.of ev⟩,_,rfl,_,rfl,sz (by simp),fun a H6 s6 f6 n6=>⟨_,rfl,_,rfl,_,rfl,sz (by simp),fun b H7 s7 f7 n7=>⟨sz (by simp),fun e H8 s8 f8 n8=>?_⟩⟩⟩;have S8:=s6.trans (s7.trans s8);have J8:=J5.mono S8 (Nat.le_refl _);have ev8:=S8 _ _ ev;refine⟨sl,_,_,rfl,rfl,ev8,aM (by omega),fun H9 u=>⟨_,_,_,rfl,?_,u.t _ _ (S8 _ _ (s5 _ _ (s4 _ _ ft)))⟩⟩;have T5:∀{z:Addr} {xs:List V},H5 z=some (.tup xs)->H8 z=some (.tup xs):=fun e=>S8 _ _ e;have st:dz K H8 (ck (k':Int) (j - 1),.bend (dkD (0,i,(j - 1))) (dkD (0,(k':Int),j - 1)) l.1 l.2) (.ref e):=⟨e,.ref a,.ref b,rfl,f8,⟨a,rfl,(s7.trans s8) _ _ f6⟩,⟨b,td,tb,t,p,q,rfl,s8 _ _ f7,T5 (s5 _ _ (s4 _ _ ft)),T5 (s5 _ _ f4),T5 f5,m1.at_.mono S8.t,m2.at_.mono S8.t⟩⟩;have:=J8.add ev8 st u;rw[jh,show dnE room G i (j - 1) k'=some (ck (k':Int) (j - 1),.bend (dkD (0,i,(j - 1))) (dkD (0,(k':Int),j - 1)) l.1 l.2) by unfold dnE;rw[hs];rfl,Option.toList_some];exact this
   ·rintro σ H3 ⟨z6,z7,z8,rfl,J,_⟩
    exact⟨_,rfl,k sl H3 J.sm nsl (let ⟨vs,e,p,n⟩:=J.ex;⟨vs,e,p,by omega⟩)⟩
theorem Ap:zZ ["field","corner","i","j","door","steps","k","above","gap"] ["field","corner"] (am (top 57)):=smk
theorem kb(Cv:Df K mg "steps_over" (top 57))(z9:Dy K mg "Field" C_Field)(n_room:aI K C_Field "room")(n_last:aI K C_Field "last")(n_doors:aI K C_Field "doors")(n_far:aI K C_Field "far")(V_UPRIGHT:∃tk,mg "UPRIGHT" = some (.int 0 tk))(V_LEVEL:∃tk,mg "LEVEL" = some (.int 1 tk))(AE:Fn P w K mg base "gap_between" ["field","low_door","high_door"] 5 (E6 K C_Field))(T:Txt mg):Fn P w K mg base "steps_over" ["field","corner"] 6 (F8 K C_Field):=by
 refine Cv.fn Ap (fun _ _ _ _ _ _ us hl=>by obtain⟨_,_,rfl⟩:=dw hl;rfl) (fun vs H Q E h=>?_) (fun f cdv A outer s H vs Q E hr h=>?_)
 ·obtain⟨fo,c,n,m,room,G,F,i,j,rfl,_⟩:=h
  rfl
 ·obtain⟨fo,c,n,m,room,G,F,i,j,rfl,fa,hc,⟨⟨i0,i1⟩,hn⟩,⟨⟨j0,j1⟩,hm⟩,k⟩:=h
  obtain⟨tU,Ae⟩:=V_UPRIGHT;obtain⟨tL,AQ⟩:=V_LEVEL;refine⟨_,(ai (ap (i:=2) Ap.nd rfl (Or.inl rfl) (aw au (pv 1) af (fun _ _=>rfl))) (ai (ap (i:=3) Ap.nd rfl (Or.inl rfl) (aw au (pv 1) af (fun _ _=>rfl))) (ai (aL (az bS (pv 2) (aw au (bR (pv 0) rfl) af (fun _ _=>rfl)) (aE _)) (ak (ay (aX ag))) aF) (ai (ap (i:=4) Ap.nd rfl (Or.inl rfl) (ax (ad (aJ (v:=.int 1) (by rfl) AQ ⟨_,rfl⟩) (ad (pv 2) (ad (pv 3) ag))))) (ai (aL (az fU (cP (bT hr) (bR (pv 0) rfl) (pv 4) (fun _ _=>rfl)) aW (aE _)) (ak (ay (@aX _ _ _ _ (@ad _ _ _ _ _ (@ax _ _ _ _ _ (@ad _ _ _ _ _ (@ax _ _ _ _ _ (@ad _ _ _ _ _ (ao aP (pv 2) af) (@ad _ _ _ _ _ (pv 3) ag (by rfl)) (by rfl))) (@ad _ _ _ _ _ aW ag (by rfl)) (by rfl))) ag (by rfl))))) aF) (ai (ap (i:=5) Ap.nd rfl (Or.inl rfl) (aX ag)) (ai (bW PassesOwn.never rfl (qI rfl T.z_range (ad (ao aP (pv 3) af) (ad (ao aP (aw au (bR (pv 0) rfl) af (fun _ _=>rfl)) af) ag))) (aS (i:=6) Ap.nd rfl (Or.inl rfl)) (ai (ap (i:=7) Ap.nd rfl (Or.inl rfl) (ax (ad (aJ (v:=.int 1) (by rfl) AQ ⟨_,rfl⟩) (ad (pv 2) (ad (pv 6) ag))))) (ai (ap (i:=8) Ap.nd rfl (Or.inl rfl) (aA AE (hr.mono (by decide)) (by rfl) (ad (pv 0) (ad (pv 7) (ad (pv 4) ag))))) (ak (aL (az fJ (pv 8) aW (aE _)) (ak (bD (dG PySem.F.plainAttrs_list PySem.F.slot_list_append PySem.F.type_list_append aZ (pv 5) (ad (@ax _ _ _ _ _ (@ad _ _ _ _ _ (@ax _ _ _ _ _ (@ad _ _ _ _ _ (ao aP (pv 2) af) (@ad _ _ _ _ _ (pv 6) ag (by rfl)) (by rfl))) (@ad _ _ _ _ _ (@ax _ _ _ _ _ (@ad _ _ _ _ _ (pv 4) (@ad _ _ _ _ _ (pv 7) (@ad _ _ _ _ _ (pv 8) ag (by rfl)) (by rfl)) (by rfl))) ag (by rfl)) (by rfl))) ag)))) aF))))) (ak (ay (pv 5)))))))))),?_⟩;obtain⟨dx,lt,d0,fr,hf,hl,⟨cc,dd⟩,_⟩:=fa.ex;have e62:(2:Int)^62=4611686018427387904:=by decide
  refine⟨_,rfl,c,_,_,_,rfl,rfl,SqT.of hc,rfl,?_⟩;refine⟨_,rfl,c,_,_,_,rfl,rfl,SqT.of hc,rfl,?_⟩;unfold ovS at k;refine⟨_,rfl,_,rfl,fo,C_Field,dx,_,_,rfl,hf,z9.cls,n_last,rfl,lt,_,_,_,rfl,rfl,SqT.of hl,rfl,rfl,_,rfl,?_⟩;rw[di];refine aR (fun h=>?_) (fun h=>?_)
  ·rw[if_pos (bz h)]at k
   exact⟨sz (by simp),fun r H1 s1 f1 n1=>k r H1 s1 n1 ⟨[],f1,.nil,by simp⟩⟩
  have h:=bU h;rw[if_neg h]at k;have din:DIn n m 1 i j:=.inr ⟨rfl,⟨i0,by omega⟩,j0,j1⟩;refine⟨_,rfl,_,rfl,sz (by simp),fun td H1 s1 f1 n1=>?_⟩;obtain⟨o,dg,hv,_⟩:=(dd.mono s1).get (k:=1) (i:=i) (j:=j) f1;obtain⟨v,rfl,gv⟩:=hv din;refine⟨_,rfl,fo,C_Field,dx,_,_,rfl,s1 _ _ hf,z9.cls,n_doors,rfl,_,rfl,d0,_,rfl,dg,rfl,_,rfl,?_⟩;cases hg:G 1 i j with
  | none =>
   rw[hg]at gv k;have gv:v = .non:=gv;rw[gv];refine bL rfl ?_;refine⟨_,rfl,_,_,rfl,rfl,_,rfl,sz (by simp),fun a H2 s2 f2 n2=>⟨sz (by simp),fun t H3 s3 f3 n3=>⟨sz (by simp),fun r H4 s4 f4 n4=>?_⟩⟩⟩;exact k r H4 (s1.trans (s2.trans (s3.trans s4))) ((s1.trans (s2.trans s3)).free n4) ⟨_,f4,.cons ⟨t,.ref a,.non,rfl,s4 _ _ f3,⟨a,rfl,(s3.trans s4) _ _ f2⟩,rfl⟩ .nil,by simp⟩
  | some pg =>
   rw[hg]at gv k;obtain⟨tg,p1,p2,rfl,eg,g1,g2⟩:=gv;refine bw (by simp) ?_;refine⟨sz (by simp),fun sl H2 s2 f2 n2=>?_⟩;have S2:=s1.trans s2;have nsl:H sl=none:=s1.free n2;refine⟨_,rfl,_,_,rfl,rfl,_,rfl,fo,C_Field,dx,_,_,rfl,S2 _ _ hf,z9.cls,n_last,rfl,lt,_,_,_,rfl,rfl,SqT.of (S2 _ _ hl),rfl,_,_,rfl,rfl,_,_,rfl,?_⟩;have en:((m:Int)+1 - (j+1)).toNat=((m:Int) - j).toNat:=by congr 1;omega
   refine⟨by rw[e62];omega,cw (n:=((m:Int)+1 - (j+1)).toNat) (lo:=j+1) (fun k σ H'=>∃(z6 z7 z8:Option V),σ = [some (.ref fo),some (.ref c),some (.int i),some (.int j),some (.ref td),some (.ref sl),z6,z7,z8]∧FX K H H' sl ((List.range k).filterMap (ovE room G i j)) k∧H' td=some (.tup ((dkD (1,i,j)).map kV)))
    ⟨_,_,_,rfl,⟨S2,nsl,[],f2,.nil,by simp⟩,s2 _ _ f1⟩ ?_ ?_⟩
   ·rintro k' σ H3 hk ⟨z6,z7,z8,rfl,J,ft⟩
    have hk:k'<((m:Int) - j).toNat:=by omega
    have S3:=J.sm;refine⟨_,rfl,_,rfl,sz (by simp),fun tb H4 s4 f4 n4=>?_⟩;have J4:=J.mono s4 (Nat.le_refl _);refine⟨_,rfl,_,rfl,_,rfl,fo,tb,td,n,m,room,G,F,(1,i,j+1+(k':Int)),(1,i,j),rfl,fa.mono J4.sm,⟨f4,s4 _ _ ft⟩,.inr ⟨rfl,⟨i0,by omega⟩,by show 0≤j+1+(k':Int);omega,by show j+1+(k':Int)≤m;omega⟩,din,fun hn=>?_,fun l hs t p q H5 s5 f5 m1 m2=>?_⟩
    ·refine⟨_,rfl,rfl,_,rfl,bw (by simp) ⟨_,_,_,rfl,?_,s4 _ _ ft⟩⟩
     rw[jh,show ovE room G i j k'=none by unfold ovE;rw[hn];rfl,Option.toList_none,List.append_nil];exact J4.mono (Same.refl _) (by omega)
    ·have J5:=J4.mono s5 (Nat.le_refl _)
     refine⟨_,rfl,rfl,_,rfl,bL (by simp) ?_⟩;obtain⟨vs,ev,_,lv⟩:=J5.ex;refine⟨_,rfl,.inl ⟨rfl,_,SqL.of ev⟩,_,rfl,_,_,rfl,rfl,_,rfl,sz (by simp),fun a H6 s6 f6 n6=>⟨_,rfl,_,rfl,_,rfl,sz (by simp),fun b H7 s7 f7 n7=>⟨sz (by simp),fun e H8 s8 f8 n8=>?_⟩⟩⟩;have S8:=s6.trans (s7.trans s8);have J8:=J5.mono S8 (Nat.le_refl _);have ev8:=S8 _ _ ev;refine⟨sl,_,_,rfl,rfl,ev8,aM (by omega),fun H9 u=>⟨_,_,_,rfl,?_,u.t _ _ (S8 _ _ (s5 _ _ (s4 _ _ ft)))⟩⟩;have T5:∀{z:Addr} {xs:List V},H5 z=some (.tup xs)->H8 z=some (.tup xs):=fun e=>S8 _ _ e;have st:dz K H8 (ck (i+1) (j+1+(k':Int)),.bend (dkD (1,i,j)) (dkD (1,i,j+1+(k':Int))) l.1 l.2) (.ref e):=⟨e,.ref a,.ref b,rfl,f8,⟨a,rfl,(s7.trans s8) _ _ f6⟩,⟨b,td,tb,t,p,q,rfl,s8 _ _ f7,T5 (s5 _ _ (s4 _ _ ft)),T5 (s5 _ _ f4),T5 f5,m1.at_.mono S8.t,m2.at_.mono S8.t⟩⟩;have:=J8.add ev8 st u;rw[jh,show ovE room G i j k'=some (ck (i+1) (j+1+(k':Int)),.bend (dkD (1,i,j)) (dkD (1,i,j+1+(k':Int))) l.1 l.2) by unfold ovE;rw[hs];rfl,Option.toList_some];exact this
   ·rintro σ H3 ⟨z6,z7,z8,rfl,J,_⟩
    rw[en]at J;exact⟨_,rfl,k sl H3 J.sm nsl (let ⟨vs,e,p,n⟩:=J.ex;⟨vs,e,p,by omega⟩)⟩
inductive Gi (K:W.Frag) (C:Addr) (vs:List V) (H:Hp) (Q:VK) (x_3:XK):Prop
 | mk:∀(fo c:Addr) (n m:Nat) (room:Int) (G:GF) (F:Int->Int->Bool) (i j:Int),(vs = [.ref fo,.ref c])->(Aj K C H fo n m room G F)->(H c=some (.tup [.int i,.int j]))->((n≤20∧m≤20))->(∀r H',Same H H'->H r=none->(∃vs,H' r=some (.lst vs)∧Paired (dz K H') (bkS F n m i j) vs∧vs.length<900)->Q (.ref r) H')->Gi K C vs H Q x_3
def lG(room:Int)(G:GF)(F:Int->Int->Bool)(n m:Nat):aG->List (aG×Lb)
 | [.inl i,.inl j]=>(dnS room G i j++ovS room G n m i j)++bkS F n m i j
 | _=>[]
inductive F4 (K:W.Frag) (C:Addr) (vs:List V) (H:Hp) (Q:VK) (x_3:XK):Prop
 | mk:∀(fo c:Addr) (n m:Nat) (room:Int) (G:GF) (F:Int->Int->Bool) (i j:Int),(vs = [.ref fo,.ref c])->(Aj K C H fo n m room G F)->(H c=some (.tup [.int i,.int j]))->(((0≤i∧i≤(n:Int))∧n≤20))->(((0≤j∧j≤(m:Int))∧m≤20))->(∀r H',Same H H'->H r=none->qv K H' r (lG room G F n m (ck i j))->Q (.ref r) H')->F4 K C vs H Q x_3
theorem d7{α β:Type}{R:α->β->Prop}:∀{a a':List α} {b b':List β},Paired R a b->Paired R a' b'->Paired R (a++a') (b++b'):=by
 intro a a' b b' h k
 induction h with
 | nil=>exact k
 | cons x _ ih=>exact .cons x ih
theorem mQ{α γ β:Type}{R:γ->β->Prop}{f:α->γ}:∀{l:List α} {m:List β},Paired (fun a b=>R (f a) b) l m->Paired R (l.map f) m:=by
 intro l m h
 induction h with
 | nil=>exact .nil
 | cons a _ ih=>exact .cons a ih
def lcE:Nat->Expr->List Scope
 | 0,_=>[]
 | n+1,e=>match e with
  | .ListComp _ _ sc _=>[sc]
  | .Call f as _ _=>lcE n f++as.flatMap (lcE n)
  | .BoolOp _ vs _=>vs.flatMap (lcE n)
  | .UnaryOp _ a _=>lcE n a
  | .Compare a _ bs _=>lcE n a++bs.flatMap (lcE n)
  | _=>[]
def lcS:Nat->Stmt->List Scope
 | 0,_=>[]
 | n+1,s=>match s with
  | .Return (some e) _=>lcE 6 e
  | .Assign _ e _=>lcE 6 e
  | .Expr e _=>lcE 6 e
  | .If c b e _=>lcE 6 c++(b.flatMap (lcS n)++e.flatMap (lcS n))
  | .For _ _ b _ _=>b.flatMap (lcS n)
  | _=>[]
def lcA(s:Stmt)(i:Nat):Scope:=((aK s).flatMap (lcS 4)).getD i { kind:=.function,names:=[],isGenerator:=false,isCoroutine:=false }
theorem Ep:zZ ["field","corner"] ["field","corner"] (am (top 58)):=smk
theorem kh(Cz:Df K mg "steps_back" (top 58))(z9:Dy K mg "Field" C_Field)(n_room:aI K C_Field "room")(n_last:aI K C_Field "last")(n_doors:aI K C_Field "doors")(n_far:aI K C_Field "far"):Fn P w K mg base "steps_back" ["field","corner"] 1 (Gi K C_Field):=by
 refine Cz.fn Ep (fun _ _ _ _ _ _ us hl=>by obtain⟨_,_,rfl⟩:=dw hl;rfl) (fun vs H Q E h=>?_) (fun f cdv A outer s H vs Q E hr h=>?_)
 ·obtain⟨fo,c,n,m,room,G,F,i,j,rfl,_⟩:=h
  rfl
 ·obtain⟨fo,c,n,m,room,G,F,i,j,rfl,fa,hc,⟨hn20,hm20⟩,kq⟩:=h
  have CN:DN (bE CX0 P w K mg base ["field","corner"] "steps_back" (am (top 58)) f cdv A outer s H E).nox (lcA (top 58) 0) [("corner",s.heap.objs.size+1)] ["found"] [("corner",1)] :=
   ⟨by rfl,rfl,by decide +kernel,by decide +kernel,(fun x hx=>by simp only[List.mem_cons,List.not_mem_nil,or_false]at hx;subst hx;rfl),(fun p hp=>by simp only[List.mem_cons,List.not_mem_nil,or_false]at hp;subst hp;rfl),by rfl,by decide +kernel,(fun p hp=>by simp only[List.mem_cons,List.not_mem_nil,or_false]at hp;subst hp;exact⟨rfl,rfl,.inr (.inl rfl),rfl,rfl⟩),⟨rfl,rfl⟩,rfl⟩
  refine⟨_,(ak (ay (sS rfl CN (pT (bR (pv 0) rfl)) (fun fp s₀ H₀=>(aS (i:=0) CN.nd rfl (Or.inl rfl) (Or.inr rfl))) (fun fp s₀ H₀=>(lK (PW.pt (jz (az mR (aw (eB (K:=K) rfl) (pv 0) af (fun _ _=>rfl)) (aw (eB (K:=K) rfl) (pv 1) af (fun _ _=>rfl)) (aE _)) (i9 (az kX (aw (eB (K:=K) rfl) (pv 0) af (fun _ _=>rfl)) (aw (eB (K:=K) rfl) (pv 1) af (fun _ _=>rfl)) (aE _))))))) (fun fp s₀ H₀=>(ax (ad (pv 0) (ad aW ag))))))),?_⟩;obtain⟨dx,lt,d,fr,hf,hl,_,fd⟩:=fa.ex;obtain⟨o,ed⟩:=id fd;have fl:=jT (F:=F) hn20 hm20;refine⟨_,rfl,fo,C_Field,dx,_,_,rfl,hf,z9.cls,n_far,rfl,fr,o,_,rfl,ed,jX (k:=1) ed (by unfold kvF;rw[List.length_map];omega) (xr fun p=>decide (p.1≤i) && decide (p.2≥j)) (fun e y H'=>dz K H' (e.1,.no) y) (fun e v H H' st h=>h.mono st) ?_ ?_⟩
  ·intro k e b H2 τ Kc Kn he hb s2 hτ kc kn
   obtain⟨τ0,rfl⟩:∃τ0,τ = [τ0]:=d9 hτ;have he':=List.mem_of_getElem? he;unfold kvF at he';obtain⟨p,hp,rfl⟩:=List.mem_map.mp he';obtain⟨x,y⟩:=p;have kc':(decide (x≤i) && decide (y≥j))=true->∀(y':V) H4,Same H2 H4->dz K H4 (ck x y,.no) y'->Kc y' H4:=kc;have kn':(decide (x≤i) && decide (y≥j))=false->∀H4,Same H2 H4->Kn H4:=kn;have hb:H2 b=some (.tup [.int x,.int y]):=hb;have hc2:=s2 _ _ hc;refine⟨⟨[some (.ref b)],rfl,rfl⟩,?_⟩;refine⟨_,rfl,b,_,_,_,rfl,rfl,SqT.of hb,rfl,_,rfl,c,_,_,_,rfl,rfl,SqT.of hc2,rfl,_,_,rfl,rfl,_,rfl,aR (fun c1=>?_) (fun c1=>?_)⟩
   ·refine⟨_,rfl,b,_,_,_,rfl,rfl,SqT.of hb,rfl,_,rfl,c,_,_,_,rfl,rfl,SqT.of hc2,rfl,_,_,rfl,rfl,_,rfl,aR (fun c2=>?_) (fun c2=>?_)⟩
    ·refine⟨_,rfl,sz (by simp),fun t H3 s3 f3 n3=>?_⟩
     exact kc' (by rw[c1,c2];rfl) _ H3 s3 ⟨t,.ref b,.non,rfl,f3,⟨b,rfl,s3 _ _ hb⟩,rfl⟩
    ·exact kn' (by rw[c1,c2];rfl) H2 (Same.refl _)
   ·exact kn' (by rw[c1];rfl) H2 (Same.refl _)
  ·intro r ys H3 nr s3 f3 pr
   rw[fX]at pr;have pr':Paired (dz K H3) (bkS F n m i j) ys:=by
    unfold bkS;exact mQ (f:=fun (p:Int×Int)=>((ck p.1 p.2,Lb.no):aG×Lb)) (fS (f:=fun (p:Int×Int)=>(ck p.1 p.2,V.bl true)) pr)
   refine kq r H3 s3 nr ⟨ys,f3,pr',?_⟩;rw[<- Paired.length pr'];unfold bkS;rw[List.length_map];exact Nat.lt_of_le_of_lt (List.length_filter_le _ _) fl
theorem Eo:zZ ["field","corner"] ["field","corner"] (am (top 59)):=smk
theorem kf(Cw:Df K mg "steps_from" (top 59))(Ck:Fn P w K mg base "steps_down" ["field","corner"] 6 (Gd K C_Field))(Ci:Fn P w K mg base "steps_over" ["field","corner"] 6 (F8 K C_Field))(Cl:Fn P w K mg base "steps_back" ["field","corner"] 1 (Gi K C_Field)):Fn P w K mg base "steps_from" ["field","corner"] 7 (F4 K C_Field):=by
 refine Cw.fn Eo (fun _ _ _ _ _ _ us hl=>by obtain⟨_,_,rfl⟩:=dw hl;rfl) (fun vs H Q E h=>?_) (fun f cdv A outer s H vs Q E hr h=>?_)
 ·obtain⟨fo,c,n,m,room,G,F,i,j,rfl,_⟩:=h
  rfl
 ·obtain⟨fo,c,n,m,room,G,F,i,j,rfl,fa,hc,hi,hj,kq⟩:=h
  refine⟨_,(ak (ay (ao jc (ao jc (aA Ck (hr.mono (by decide)) (by rfl) (ad (pv 0) (ad (pv 1) ag))) (aA Ci (hr.mono (by decide)) (by rfl) (ad (pv 0) (ad (pv 1) ag)))) (aA Cl (hr.mono (by decide)) (by rfl) (ad (pv 0) (ad (pv 1) ag)))))),?_⟩;refine⟨_,rfl,_,rfl,fo,c,n,m,room,G,F,i,j,rfl,fa,hc,hi,hj,fun r1 H1 s1 n1 ⟨v1,e1,p1,l1⟩=>?_⟩;refine⟨_,rfl,_,rfl,fo,c,n,m,room,G,F,i,j,rfl,fa.mono s1,s1 _ _ hc,hi,hj,fun r2 H2 s2 n2 ⟨v2,e2,p2,l2⟩=>?_⟩;refine⟨r1,r2,v1,v2,rfl,rfl,s2 _ _ e1,e2,sz (by omega),fun r3 H3 s3 e3 n3=>?_⟩;have S3:=s1.trans (s2.trans s3);refine⟨_,rfl,_,rfl,fo,c,n,m,room,G,F,i,j,rfl,fa.mono S3,S3 _ _ hc,⟨hi.2,hj.2⟩,fun r4 H4 s4 n4 ⟨v4,e4,p4,l4⟩=>?_⟩;refine⟨r3,r4,v1++v2,v4,rfl,rfl,s4 _ _ e3,e4,sz (by rw[List.length_append];omega),fun r5 H5 s5 e5 n5=>?_⟩;have S5:=s3.trans (s4.trans s5);have S:Same H H5:=s1.trans (s2.trans S5);refine kq r5 H5 S ((S3.trans s4).free n5) ⟨_,e5,?_⟩;exact d7 (d7 (Paired.mapP p1 fun a b x=>dz.mono x (s2.trans S5).t) (Paired.mapP p2 fun a b x=>dz.mono x S5.t)) (Paired.mapP p4 fun a b x=>dz.mono x s5.t)
theorem fQ{z:Int}:sg z≤0↔z≤0:=by
 unfold sg
 (repeat' split) <;> omega
theorem a9{z:Int}(h:z≤0):ssq z = -(z*z):=by
 unfold ssq;rcases Int.lt_or_eq_of_le h with z'|z'
 ·rw[if_pos z',Int.mul_neg]
 ·rw[z'];rfl
theorem bM{z:Int}(h:0≤z):ssq z=z*z:=by
 unfold ssq;rw[if_neg (by omega)]
theorem dm{a b:Int}(h0:0≤a)(h:a≤b):a*a≤b*b:=Int.mul_le_mul h h h0 (by omega)
theorem oE{a0 a2 a3 b0 b2 b3 x y:Int}(ha:0<a3)(hb:0<b3)(a2n:0≤a2)(b2n:0≤b2)(hw:a0*b3 - b0*a3=x*b3 - y*a3)(hx:x≤0∨x*x≤a2)(hy:0≤y∨y*y≤b2):ro a0 (-1) a2 a3 b0 1 b2 b3≤0:=by
 unfold ro;rw[hw];have e1:(-1:Int)*b3 = -b3:=by omega
 have e2:-(1:Int)*a3 = -a3:=by omega
 rw[e1,e2];obtain⟨α,α0,αx,αs⟩:∃α:Int,0≤α∧x*b3≤α∧α*α≤b3*b3*a2:=by
  rcases Int.lt_or_le 0 x with z|z
  ·have hx:x*x≤a2:=hx.resolve_left (by omega)
   refine⟨x*b3,Int.mul_nonneg (by omega) (by omega),Int.le_refl _,?_⟩;have:=Int.mul_le_mul_of_nonneg_left hx (show 0≤b3*b3 from Int.mul_nonneg (by omega) (by omega));have e:x*b3*(x*b3)=b3*b3*(x*x):=by grind
   omega
  ·exact⟨0,Int.le_refl _,Int.mul_nonpos_of_nonpos_of_nonneg z (by omega),by rw[Int.mul_zero];exact Int.mul_nonneg (Int.mul_nonneg (by omega) (by omega)) a2n⟩
 obtain⟨β,β0,βy,βs⟩:∃β:Int,0≤β∧-(y*a3)≤β∧β*β≤a3*a3*b2:=by
  rcases Int.lt_or_le y 0 with z|z
  ·have hy:y*y≤b2:=hy.resolve_left (by omega)
   have yn:y*a3≤0:=Int.mul_nonpos_of_nonpos_of_nonneg (by omega) (by omega);refine⟨-(y*a3),by omega,Int.le_refl _,?_⟩;have:=Int.mul_le_mul_of_nonneg_left hy (show 0≤a3*a3 from Int.mul_nonneg (by omega) (by omega));have e:-(y*a3) * -(y*a3)=a3*a3*(y*y):=by grind
   omega
  ·have:0≤y*a3:=Int.mul_nonneg z (by omega)
   exact⟨0,Int.le_refl _,by omega,by rw[Int.mul_zero];exact Int.mul_nonneg (Int.mul_nonneg (by omega) (by omega)) b2n⟩
 have wl:x*b3 - y*a3≤α+β:=by omega
 generalize x*b3 - y*a3=w at *;unfold bV;have n1:ssq (-b3)*a2+ssq (-a3)*b2 = -(b3*b3*a2+a3*a3*b2):=by
  rw[a9 (show -b3≤0 by omega),a9 (show -a3≤0 by omega)]
  grind
 rw[n1];have X0:0≤b3*b3*a2:=Int.mul_nonneg (Int.mul_nonneg (by omega) (by omega)) a2n;have Y0:0≤a3*a3*b2:=Int.mul_nonneg (Int.mul_nonneg (by omega) (by omega)) b2n;have sN:sg (-(b3*b3*a2+a3*a3*b2))≤0:=fQ.mpr (by omega)
 split
 ·rename_i c
  rcases Int.lt_or_le 0 w with z|z
  ·have sw:sg w=1:=cF z
   rw[sw,Int.one_mul]at c;have s0:¬-(b3*b3*a2+a3*a3*b2)<0:=fun h=>by rw[dM h]at c;omega
   have hX:b3*b3*a2=0:=by omega
   have hY:a3*a3*b2=0:=by omega
   have hα:α=0:=by
    rcases Int.lt_or_eq_of_le α0 with h|h
    ·have:=Int.mul_pos h h;omega
    ·exact h.symm
   have hβ:β=0:=by
    rcases Int.lt_or_eq_of_le β0 with h|h
    ·have:=Int.mul_pos h h;omega
    ·exact h.symm
   omega
  ·exact fQ.mpr (by have:=fQ.mpr z;omega)
 ·rename_i c
  have z:0<w:=by
   rcases Int.lt_or_le 0 w with z|z
   ·exact z
   ·exact absurd (Int.mul_nonneg_of_nonpos_of_nonpos (fQ.mpr z) sN) (by omega)
  rw[cF z,Int.one_mul];unfold swr;refine fQ.mpr ?_;have e3:w*w - -b3 * -b3*a2 - -a3 * -a3*b2=w*w - b3*b3*a2 - a3*a3*b2:=by grind
  have e4:-2 * -b3 * -a3 = -(2*b3*a3):=by grind
  have e5:ssq (-(2*b3*a3))*(a2*b2) = -(4*(b3*b3*a2)*(a3*a3*b2)):=by
   rw[a9 (by have:=Int.mul_nonneg (show 0≤2*b3 by omega) (show 0≤a3 by omega);omega)]
   grind
  rw[e3,e4,e5];have w2:=dm (show 0≤w by omega) wl;have ex:(α+β)*(α+β)=α*α+β*β+2*(α*β):=by grind
  have ab0:=Int.mul_nonneg α0 β0;generalize b3*b3*a2=X at *;generalize a3*a3*b2=Y at *;have zl:w*w - X - Y≤2*(α*β):=by omega
  have XY:α*β*(α*β)≤X*Y:=by
   have:=Int.mul_le_mul αs βs (Int.mul_nonneg β0 β0) X0;have e:α*β*(α*β)=α*α*(β*β):=by grind
   omega
  rcases Int.lt_or_le 0 (w*w - X - Y) with z2|z2
  ·rw[bM (by omega)]
   have:=dm (show 0≤w*w - X - Y by omega) zl;have e:2*(α*β)*(2*(α*β))=4*(α*β*(α*β)):=by grind
   have e':4*X*Y=4*(X*Y):=by grind
   omega
  ·rw[a9 z2]
   have h1:0≤(w*w - X - Y)*(w*w - X - Y):=Int.mul_nonneg_of_nonpos_of_nonpos z2 z2;have h2:=Int.mul_nonneg X0 Y0;have e':4*X*Y=4*(X*Y):=by grind
   omega
inductive Fe:N4->Prop
 | b:Fe (0,0,0,1)
 | n {P U L:Int} (hL:0<L) (hU:0≤U) (h:P - L≤0∨(P - L)*(P - L)≤U) (z:0≤P∧U≤P*P):Fe (P,-1,U,L)
inductive Ff:N4->Prop
 | e:Ff (1,0,0,1)
 | n {P U L:Int} (hL:0<L) (hU:0≤U) (h:0≤P∨P*P≤U) (z:P - L≤0∧U≤(P - L)*(P - L)):Ff (P,1,U,L)
theorem wL{P U L:Int}(hU:0≤U)(h:0≤ro 1 0 0 1 P (-1) U L):P - L≤0∨(P - L)*(P - L)≤U:=by
 rw[dh P (-1) U L 1 0 0 1,bO,Int.mul_one,Int.one_mul,show -1*(1:Int) = -1 from rfl]at h;have:=mt (lV (W:=P - L) hU).1.mpr (by omega);omega
theorem wK{P U L:Int}(hU:0≤U)(h:0≤ro P 1 U L 0 0 0 1):0≤P∨P*P≤U:=by
 rw[bO,Int.mul_one,Int.zero_mul,Int.sub_zero,show(1:Int)*1=1 from rfl]at h;have:=mt (lU (W:=P) hU).1.mpr (by omega);omega
theorem xL{P U L:Int}(hU:0≤U)(h:¬ro P (-1) U L 0 0 0 1<0):0≤P∧U≤P*P:=by
 rw[bO,Int.mul_one,Int.zero_mul,Int.sub_zero,show -1*(1:Int) = -1 from rfl]at h;have:=mt (lV (W:=P) hU).2.2.mpr h;omega
theorem xV{P U L:Int}(hU:0≤U)(h:¬ro P 1 U L 1 0 0 1>0):P - L≤0∧U≤(P - L)*(P - L):=by
 rw[bO,Int.mul_one,Int.one_mul,show(1:Int)*1=1 from rfl]at h;have:=mt (lU (W:=P - L) hU).2.2.mpr h;omega
theorem cJ{l m:N4}(g:Gr l m):Fe l∧Ff m:=by
 cases g with
 | flat=>exact⟨.b,.e⟩
 | gate hL hU h1 h2 =>
  refine⟨?_,?_⟩
  ·unfold dQ
   split
   ·exact .b
   ·rename_i c
    exact .n hL hU (wL hU h1) (xL hU c)
  ·unfold cS
   split
   ·exact .e
   ·rename_i c
    exact .n hL hU (wK hU h2) (xV hU c)
def GGk(G:GF):Prop:=∀k i j l h,G k i j=some (l,h)->Gr l h
theorem eZ{qs rs:Crn}{a b room:Int}(hr:room=0∨room=1)(hb:0<b):GGk (cL qs rs a b room):=by
 intro k i j l h e;unfold cL at e
 split at e
 ·exact tY hr hb e
 ·exact tY hr hb e
theorem xM{x y x' y' a b:Int}:lo x y x' y' a b<0↔a<((x' - x)*(x' - x)+(y' - y)*(y' - y))*b:=by
 unfold lo;have:=(kO (x:=a - ((x' - x)*(x' - x)+(y' - y)*(y' - y))*b)).1;omega
theorem uu{qs rs:Crn}{a b:Int}{i j:Int}(hi:0≤i∧i<(qs.length:Int))(hj:0≤j∧j<(rs.length:Int)):fi qs rs a b 0 i j=decide (a<((cnX rs j - cnX qs i)*(cnX rs j - cnX qs i)+(cnY rs j - cnY qs i)*(cnY rs j - cnY qs i))*b):=by
 have hi':i.toNat<qs.length:=by omega
 have hj':j.toNat<rs.length:=by omega
 have e1:qs[i.toNat]? = some (qs.getD i.toNat (0,0,0)):=by rw[List.getD_eq_getElem?_getD,List.getElem?_eq_getElem hi'];rfl
 have e2:rs[j.toNat]? = some (rs.getD j.toNat (0,0,0)):=by rw[List.getD_eq_getElem?_getD,List.getElem?_eq_getElem hj'];rfl
 unfold fi;rw[e1,e2];dsimp only;have:=xM (x:=cnX qs i) (y:=cnY qs i) (x':=cnX rs j) (y':=cnY rs j) (a:=a) (b:=b)
 by_cases h:a<((cnX rs j - cnX qs i)*(cnX rs j - cnX qs i)+(cnY rs j - cnY qs i)*(cnY rs j - cnY qs i))*b
 ·rw[decide_eq_true h]
  exact decide_eq_true (this.mpr h)
 ·rw[decide_eq_false h]
  exact decide_eq_false (fun z=>h (this.mp z))
theorem qb{P U L:Int}(hU:0≤U)(h:P - L≤0∨(P - L)*(P - L)≤U):ro P (-1) U L 1 0 0 1≤0:=by
 rw[bO,Int.mul_one,Int.one_mul,show -1*(1:Int) = -1 from rfl];have:=mt (lV (W:=P - L) hU).1.mp (by omega);omega
theorem jK{P U L:Int}(hU:0≤U)(h:0≤P∨P*P≤U):ro 0 0 0 1 P 1 U L≤0:=by
 rw[dh P 1 U L 0 0 0 1,bO,Int.mul_one,Int.zero_mul,Int.sub_zero,show(1:Int)*1=1 from rfl];have:=mt (lU (W:=P) hU).1.mp (by omega);omega
theorem jf{l m:N4}(g:Gr l m):ro4 l m≤0:=by
 cases g with
 | flat=>decide
 | @gate P U L hL hU h1 h2 =>
  unfold dQ cS
  split
  ·split
   ·decide
   ·exact jK hU (wK hU h2)
  ·split
   ·exact qb hU (wL hU h1)
   ·exact oE (x:=0) (y:=0) hL hL hU hU (by omega) (.inl (Int.le_refl _)) (.inl (Int.le_refl _))
theorem xg{l m:N4}(hl:Fe l)(hm:Ff m)(w:gtB m 1 1<1):ro4 l m≤0:=by
 cases hm with
 | e=>cases hl with
  | b=>decide
  | n _ hU h _=>exact qb hU h
 | @n P U L hL hU h _ =>
  have w:ro 1 0 0 1 P 1 U L<1:=w;cases hl with
  | b=>exact jK hU h
  | @n P' U' L' hL' hU' h' _ =>
   refine oE (x:=P' - L') (y:=P - L) hL' hL hU' hU (by grind) h' ?_;rw[dh P 1 U L 1 0 0 1,bO,Int.mul_one,Int.one_mul,show(1:Int)*1=1 from rfl]at w;have:=mt (lU (W:=P - L) hU).1.mpr (by omega);omega
theorem yk{l m:N4}(hl:Fe l)(hm:Ff m)(w:ltB l 0 1<1):ro4 l m≤0:=by
 cases hl with
 | b=>cases hm with
  | e=>decide
  | n _ hU h _=>exact jK hU h
 | @n P U L hL hU h _ =>
  have w:ro P (-1) U L 0 0 0 1<1:=w;cases hm with
  | e=>exact qb hU h
  | @n P' U' L' hL' hU' h' _ =>
   refine oE (x:=P) (y:=P') hL hL' hU hU' rfl ?_ h';rw[bO,Int.mul_one,Int.zero_mul,Int.sub_zero,show -1*(1:Int) = -1 from rfl]at w;have:=mt (lV (W:=P) hU).1.mpr (by omega);omega
theorem o7{o:Option (N4×N4)}{t u:Int}(h:d5 o t u=true):∃p,o=some p∧ltB p.1 t u<1∧gtB p.2 t u<1:=by
 cases o with
 | none=>cases h
 | some p =>
  have h:(decide (ltB p.1 t u<1) && decide (gtB p.2 t u<1))=true:=h;rw[Bool.and_eq_true,decide_eq_true_eq,decide_eq_true_eq]at h;exact⟨p,rfl,h.1,h.2⟩
section
variable {qs rs:Crn} {a b:Int} {n m:Nat}
theorem uf(hb:0<b)(en:qs.length=n+1)(em:rs.length=m+1)(i j:Nat)(hi:i≤n)(hj:j<m)(f:fi qs rs a b 0 (i:Int) ((j+1:Nat):Int)=false):∃p,cL qs rs a b 0 0 (i:Int) (j:Int)=some p∧∀(k:Nat) p',cL qs rs a b 0 0 (k:Int) (j:Int)=some p'->ro4 p'.1 p.2≤0:=by
 have gg:GGk (cL qs rs a b 0):=eZ (.inl rfl) hb;have w:=(k8 (cx:=cnX qs i) (cy:=cnY qs i) (bx:=cnX rs j) (by_:=cnY rs j) (ex:=cnX rs ((j:Int)+1)) (ey:=cnY rs ((j:Int)+1)) (x:=a) (y:=b) (a:=1) (b:=1) hb (by decide) (by decide) (by decide)).1;rw[uu (by omega) (by omega)]at f;have f:=of_decide_eq_false f;have ej:((j+1:Nat):Int)=(j:Int)+1:=by omega
 rw[ej]at f;have e1:wth (cnX qs i) (cnY qs i) (cnX rs j) (cnY rs j) (cnX rs ((j:Int)+1)) (cnY rs ((j:Int)+1)) 1 1=(cnX rs ((j:Int)+1) - cnX qs i)*(cnX rs ((j:Int)+1) - cnX qs i)+(cnY rs ((j:Int)+1) - cnY qs i)*(cnY rs ((j:Int)+1) - cnY qs i):=by unfold wth cI rAl;grind
 rw[e1,decide_eq_true (by omega)]at w;obtain⟨p,hp,_,h2⟩:=o7 w;refine⟨p,hp,fun k p' hp'=>?_⟩;exact xg (cJ (gg _ _ _ _ _ hp')).1 (cJ (gg 0 i j _ _ hp)).2 h2
theorem ug(hb:0<b)(en:qs.length=n+1)(em:rs.length=m+1)(i j:Nat)(hi:i<n)(hj:j≤m)(f:fi qs rs a b 0 (i:Int) (j:Int)=false):∃p,cL qs rs a b 0 1 (i:Int) (j:Int)=some p∧∀(k:Nat) p',cL qs rs a b 0 1 (i:Int) (k:Int)=some p'->ro4 p.1 p'.2≤0:=by
 have gg:GGk (cL qs rs a b 0):=eZ (.inl rfl) hb;have w:=(k8 (cx:=cnX rs j) (cy:=cnY rs j) (bx:=cnX qs i) (by_:=cnY qs i) (ex:=cnX qs ((i:Int)+1)) (ey:=cnY qs ((i:Int)+1)) (x:=a) (y:=b) (a:=0) (b:=1) hb (by decide) (by decide) (by decide)).1;rw[uu (by omega) (by omega)]at f;have f:=of_decide_eq_false f;have e1:wth (cnX rs j) (cnY rs j) (cnX qs i) (cnY qs i) (cnX qs ((i:Int)+1)) (cnY qs ((i:Int)+1)) 0 1=(cnX rs j - cnX qs i)*(cnX rs j - cnX qs i)+(cnY rs j - cnY qs i)*(cnY rs j - cnY qs i):=by unfold wth;grind
 rw[e1,decide_eq_true (by omega)]at w;obtain⟨p,hp,h1,_⟩:=o7 w;have hp:cL qs rs a b 0 1 (i:Int) (j:Int)=some p:=hp;refine⟨p,hp,fun k p' hp'=>?_⟩;exact yk (cJ (gg _ _ _ _ _ hp)).1 (cJ (gg _ _ _ _ _ hp')).2 h1
end
def kE(wy:Str)(n m:Nat)(F:Int->Int->Bool):List (Int×Int):=(ku n m F).filter fun p=>decide (p.2=(m:Int)) || (decide (wy≠bH) && decide (p.1=0))
def rD(wy:Str)(n:Nat):aG->Bool
 | [.inl i,.inl j]=>decide (j=0) || (decide (wy≠bH) && decide (i=(n:Int)))
 | _=>false
def NoW(wy:Str)(n m:Nat)(G:GF)(F:Int->Int->Bool):Prop:=(wy=wOn->F n m=true∨(RR wy G F n m (0,((n - 1:Nat):Int),((m - 1:Nat):Int))=none∧RR wy G F n m (1,((n - 1:Nat):Int),((m - 1:Nat):Int))=none))∧(wy=bH->∀j:Nat,j<m->RR wy G F n m (0,(n:Int),(j:Int))=none)
theorem dj:¬wOn=bH:=by decide +kernel
theorem vA{qs rs:Crn}{a b:Int}{n m:Nat}{wy:Str}(hb:0<b)(en:qs.length=n+1)(em:rs.length=m+1)(hn:1≤n)(hm:1≤m)(hw:wy=wOn∨wy=bH)(W:NoW wy n m (cL qs rs a b 0) (fi qs rs a b 0)):¬wv ((kE wy n m (fi qs rs a b 0)).map fun p=>ck p.1 p.2) (lG 0 (cL qs rs a b 0) (fi qs rs a b 0) n m) (rD wy n):=by
 rintro⟨R,r0,r1,r2⟩;have gg:GGk (cL qs rs a b 0):=eZ (.inl rfl) hb;have GT:=uf (a:=a) hb en em;have GL:=ug (a:=a) hb en em;generalize cL qs rs a b 0=G at *;generalize fi qs rs a b 0=F at *
 let S:Nat->Nat->Prop:=fun p q=>(p≤n∧q≤m)∧ck (p:Int) (q:Int)∈R
 have beg:∀p q:Nat,p≤n->q≤m->F p q=true->(q=m∨(wy≠bH∧p=0))->S p q:=fun p q hp hq f h=>by
  refine⟨⟨hp,hq⟩,r0 _ (List.mem_map.mpr ⟨((p:Int),(q:Int)),List.mem_filter.mpr ⟨du.mpr ⟨by omega,by omega,by omega,by omega,f⟩,?_⟩,rfl⟩)⟩;rcases h with h|⟨h1,h2⟩
  ·rw[decide_eq_true (show((p:Int),(q:Int)).2=(m:Int) by rw[h]),Bool.true_or]
  ·rw[decide_eq_true h1,decide_eq_true (show((p:Int),(q:Int)).1=0 by rw[h2];rfl),Bool.true_and,Bool.or_true]
 have stp:∀{i j:Nat} {e:aG×Lb},S i j->e∈(dnS 0 G i j++ovS 0 G n m i j)++bkS F n m i j->e.1∈R:=fun s h=>r1 _ s.2 _ h;have bk:∀i j p q:Nat,S i j->p≤i->j≤q->q≤m->F p q=true->S p q:=fun i j p q s h1 h2 h3 f=>by
  have hi:=s.1.1;refine⟨⟨by omega,h3⟩,stp (e:=(ck (p:Int) (q:Int),.no)) s (List.mem_append_right _ (List.mem_map.mpr ⟨((p:Int),(q:Int)),List.mem_filter.mpr ⟨du.mpr ⟨by omega,by omega,by omega,by omega,f⟩,?_⟩,rfl⟩))⟩;rw[decide_eq_true (show((p:Int),(q:Int)).1≤(i:Int) from Int.ofNat_le.mpr h1),decide_eq_true (show((p:Int),(q:Int)).2≥(j:Int) from Int.ofNat_le.mpr h2)];rfl
 have e0:∀i j:Nat,S i j->j≠0∧(wy≠bH->i≠n):=fun i j s=>by
  have h:(decide ((j:Int)=0) || (decide (wy≠bH) && decide ((i:Int)=(n:Int))))=false:=r2 _ s.2;rw[Bool.or_eq_false_iff,decide_eq_false_iff_not]at h;refine⟨fun z=>h.1 (by rw[z];rfl),fun hp z=>?_⟩;rw[decide_eq_true hp,Bool.true_and,decide_eq_false_iff_not]at h;exact h.2 (by rw[z])
 have D:C7 n m G (fun i j=>F i j) S (fun p q=>(∃p' q',p≤p'∧q'≤q∧S p' q')∨(wy≠bH∧p=0∧1≤q)):=by
  refine⟨fun x y q h t=>?_,fun p q q' h t=>?_,fun p q hp hq t f=>?_,fun p q s=>.inl ⟨p,q,Nat.le_refl _,Nat.le_refl _,s⟩,fun p hp f=>beg p m hp (Nat.le_refl _) f (.inl rfl),?_,?_,?_,?_,fun k i j p h=>jf (gg k i j _ _ h),GT,GL⟩
  ·rcases t with⟨p',q',h1,h2,s⟩|⟨h1,h2,h3⟩
   ·exact .inl ⟨p',q',by omega,h2,s⟩
   ·exact .inr ⟨h1,by omega,h3⟩
  ·rcases t with⟨p',q'',h1,h2,s⟩|⟨h1,h2,h3⟩
   ·exact .inl ⟨p',q'',h1,by omega,s⟩
   ·exact .inr ⟨h1,h2,by omega⟩
  ·rcases t with⟨p',q',h1,h2,s⟩|⟨h1,h2,h3⟩
   ·exact bk p' q' p q s h1 h2 hq f
   ·exact beg p q hp hq f (.inr ⟨h1,h2⟩)
  ·intro i j hi hj s g
   refine⟨⟨hi,by omega⟩,stp (e:=(ck (i:Int) (j:Int),.no)) s (List.mem_append_left _ (List.mem_append_left _ ?_))⟩;unfold dnS;rw[if_neg (by omega),show((j+1:Nat):Int) - 1=(j:Int) by omega,g];exact List.mem_singleton.mpr rfl
  ·intro i j k p p' hi hj s hk g g' lt
   refine⟨⟨by omega,by omega⟩,stp (e:=(ck (k:Int) (j:Int),.bend (dk 0 i j) (dk 0 (k:Int) j) p.2 p'.1)) s (List.mem_append_left _ (List.mem_append_left _ ?_))⟩;unfold dnS;rw[if_neg (by omega),show((j+1:Nat):Int) - 1=(j:Int) by omega,g];refine List.mem_filterMap.mpr ⟨k,List.mem_range.mpr (by omega),?_⟩;unfold dnE;rw[g,g'];show(if ro4 p.2 p'.1≥0 then none else some (p.2,p'.1)).map _=_
   rw[if_neg (by omega)];rfl
  ·intro i j hi hj s g
   refine⟨⟨by omega,hj⟩,?_⟩;have:=stp (e:=(ck ((i:Int)+1) (j:Int),.no)) s (List.mem_append_left _ (List.mem_append_right _ (by
    unfold ovS;rw[if_neg (by omega),g];exact List.mem_singleton.mpr rfl)))
   rw[show((i+1:Nat):Int)=(i:Int)+1 by omega];exact this
  ·intro i j k p p' hi hk hkm s g g' lt
   refine⟨⟨by omega,hkm⟩,?_⟩;have ek:(j:Int)+1+((k - j - 1:Nat):Int)=(k:Int):=by omega
   have:=stp (e:=(ck ((i:Int)+1) (k:Int),.bend (dk 1 i j) (dk 1 i (k:Int)) p'.2 p.1)) s (List.mem_append_left _ (List.mem_append_right _ (by
    unfold ovS;rw[if_neg (by omega),g];refine List.mem_filterMap.mpr ⟨k - j - 1,List.mem_range.mpr (by omega),?_⟩;unfold ovE;rw[ek,g,g'];show(if ro4 p'.2 p.1≥0 then none else some (p'.2,p.1)).map _=_
    rw[if_neg (by omega)];rfl)))
   rw[show((i+1:Nat):Int)=(i:Int)+1 by omega];exact this
 have n00:¬((∃p' q',0≤p'∧q'≤0∧S p' q')∨(wy≠bH∧0=0∧1≤0)):=by
  rintro(⟨p',q',_,h,s⟩|⟨_,_,h⟩)
  ·exact(e0 p' q' s).1 (by omega)
  ·omega
 rcases hw with rfl|rfl
 ·have F0:F 0 0=false:=by
   cases f:F 0 0 with
   | false=>rfl
   | true=>exact absurd rfl (e0 0 0 (beg 0 0 (by omega) (by omega) f (.inr ⟨dj,rfl⟩))).1
  have h0:bgR wOn G F m 0=some ⟨(0,0,0,1),(0,0,0,1),none⟩:=by
   unfold bgR;rw[if_pos rfl,if_pos ⟨rfl,F0⟩]
  have L:=D.last (bg:=bgR wOn G F m) (j0:=0) ⟨by omega,n00,.inl (.inr ⟨dj,rfl,Nat.le_refl _⟩)⟩ h0 (fun b _ _ _ p hp=>by
   show ro4 (0,0,0,1) p.2≤0;have:=(cJ (gg _ _ _ _ _ hp)).2;generalize p.2=z at this;cases this with
   | e=>decide
   | n _ hU h _=>exact jK hU h) hn (fun q=>by
   rintro(⟨p',q',h1,_,s⟩|⟨_,h,_⟩)
   ·exact(e0 p' q' s).2 dj (by have:=s.1.1;omega)
   ·omega)
  rcases W.1 rfl with f|⟨w1,w2⟩
  ·exact(e0 n m (beg n m (Nat.le_refl _) (Nat.le_refl _) f (.inl rfl))).2 dj rfl
  ·rw[o0 (by omega) (by omega)]at w1
   rw[rO (by omega) (by omega)]at w2;rcases L with L|L
   ·rw[w1]at L;cases L
   ·rw[w2]at L;cases L
 ·obtain⟨j0,_,a0⟩:=mU D (i:=0) (j:=0) (by omega) n00
  obtain⟨p,hp,ok⟩:=D.openU (Nat.zero_le _) a0;have h0:bgR bH G F m j0=some ⟨p.1,p.2,none⟩:=by
   unfold bgR;rw[if_neg (fun z=>dj z.symm),if_pos a0.1];have hp:G 0 0 (j0:Int)=some p:=hp;rw[hp];rfl
  obtain⟨j,r,aj,hu,_⟩:=D.all a0 h0 ok n (Nat.le_refl _);have:=W.2 rfl j aj.1;rw[o0 (Nat.le_refl _) aj.1,hu]at this;cases this
theorem jm{x M:Int}{n:Nat}(h:aq x≤n)(e:((2^n:Nat):Int)≤M):-M≤x∧x≤M:=by
 have:=cp h;omega
theorem pZ{K:W.Frag}{H H':Hp}{p q:Addr}{l m:N4}(n1:Nm K H p l)(n2:Nm K H' q m)(h:ro4 l m<0):∀F G,Rm l.1 l.2.1 l.2.2.1 l.2.2.2 m.1 m.2.1 m.2.2.1 m.2.2.2 11 F G->F+1+2≤-G - 1:=by
 have ho:ro l.1 l.2.1 l.2.2.1 l.2.2.2 m.1 m.2.1 m.2.2.1 m.2.2.2 = -1:=by
  have h:ro l.1 l.2.1 l.2.2.1 l.2.2.2 m.1 m.2.1 m.2.2.1 m.2.2.2<0:=h;have:=(yT l.1 l.2.1 l.2.2.1 l.2.2.2 m.1 m.2.1 m.2.2.1 m.2.2.2).1;omega
 have w:aq (l.1*m.2.2.2 - m.1*l.2.2.2)≤484:=ar (ce (bits_mul n1.b0 n2.b3) (bits_mul n2.b0 n1.b3)) (by decide);have k1:aq (l.2.1*m.2.2.2*(l.2.1*m.2.2.2)*l.2.2.1)≤960:=ar (bits_mul (bits_mul (bits_mul n1.b1 n2.b3) (bits_mul n1.b1 n2.b3)) n1.b2) (by decide);have k2:aq (m.2.1*l.2.2.2*(m.2.1*l.2.2.2)*m.2.2.1)≤960:=ar (bits_mul (bits_mul (bits_mul n2.b1 n1.b3) (bits_mul n2.b1 n1.b3)) n2.b2) (by decide);have k4:aq (4*(l.2.2.2*m.2.2.2))≤500:=ar (bits_mul (m:=10) (by decide) (bits_mul n1.b3 n2.b3)) (by decide);have p3:0<l.2.2.2:=n1.p3;have q3:0<m.2.2.2:=n2.p3;exact Sp6.room (K:=2^584) (S:=2^1464) (M:=2^485) n1.p2 p3 n2.p2 q3 ho (by decide +kernel) (by show(2:Int)^2048=_;decide +kernel) ⟨by decide +kernel,by decide +kernel⟩ (jm w (by decide +kernel)) (jm k1 (by decide +kernel)).2 (jm k2 (by decide +kernel)).2 (jm k4 (by decide +kernel)).2
theorem xo{a k z:Int}(ha:a≠0)(h:a*a*k=z*z):∃r,0≤r∧r*r=k:=by
 have d:a.natAbs^2∣z.natAbs^2:=by
  refine⟨k.natAbs,?_⟩;have:=congrArg Int.natAbs h;rw[Int.natAbs_mul,Int.natAbs_mul,Int.natAbs_mul]at this;rw[Nat.pow_two,Nat.pow_two];exact this.symm
 obtain⟨c,hc⟩:=(Nat.pow_dvd_pow_iff (by decide)).mp d;refine⟨(c:Int),by omega,?_⟩;have e1:z*z=a*a*((c:Int)*c):=by
  have e2:z*z=((z.natAbs*z.natAbs:Nat):Int):=(Int.natAbs_mul_self).symm;have e3:a*a=((a.natAbs*a.natAbs:Nat):Int):=(Int.natAbs_mul_self).symm;rw[e2,e3,hc]
  push_cast
  grind
 have e4:a*a*k=a*a*((c:Int)*c):=by rw[h,e1]
 have hn:a*a≠0:=fun z=>by rcases Int.mul_eq_zero.mp z with z|z <;> exact ha z
 exact(Int.eq_of_mul_eq_mul_left hn e4).symm
theorem vd{P U L P' U' L':Int}(hL:0<L)(hL':0<L')(hU:0≤U)(hU':0≤U')(h:ro P (-1) U L P' 1 U' L'=0):∃R,0≤R∧R*R=U:=by
 unfold ro at h;have e1:(-1:Int)*L' = -L':=by omega
 have e2:-(1:Int)*L = -L:=by omega
 rw[e1,e2]at h;generalize P*L' - P'*L=D at h;unfold bV at h;have n1:ssq (-L')*U+ssq (-L)*U' = -(L'*L'*U+L*L*U'):=by
  rw[a9 (show -L'≤0 by omega),a9 (show -L≤0 by omega)]
  grind
 rw[n1]at h;have X0:0≤L'*L'*U:=Int.mul_nonneg (Int.mul_nonneg (by omega) (by omega)) hU;have Y0:0≤L*L*U':=Int.mul_nonneg (Int.mul_nonneg (by omega) (by omega)) hU';have z0:L'*L'*U=0->∃R,0≤R∧R*R=U:=fun z=>by
  have hn:L'*L'≠0:=fun y=>by rcases Int.mul_eq_zero.mp y with y|y <;> omega
  rcases Int.mul_eq_zero.mp z with y|y
  ·exact absurd y hn
  ·exact⟨0,by decide,by rw[y];rfl⟩
 have sg0:∀{x:Int},sg x=0->x=0:=fun {x} h=>by
  unfold sg at h
  split at h
  ·cases h
  ·split at h
   ·cases h
   ·omega
 split at h
 ·rename_i c
  have h':=sg0 h
  by_cases hN:L'*L'*U+L*L*U'=0
  ·exact z0 (by omega)
  ·have sN:sg (-(L'*L'*U+L*L*U')) = -1:=dM (by omega)
   rw[sN]at h' c;omega
 ·rename_i c
  have hD:0<D:=by
   rcases Int.lt_or_le 0 D with z|z
   ·exact z
   ·exact absurd (Int.mul_nonneg_of_nonpos_of_nonpos (fQ.mpr z) (fQ.mpr (show -(L'*L'*U+L*L*U')≤0 by omega))) (by omega)
  rw[cF hD,Int.one_mul]at h;unfold swr at h;have h:=sg0 h;have e3:D*D - -L' * -L'*U - -L * -L*U'=D*D - L'*L'*U - L*L*U':=by grind
  have e5:ssq (-2 * -L' * -L)*(U*U') = -(4*(L'*L'*U)*(L*L*U')):=by
   rw[show -2 * -L' * -L = -(2*L'*L) by grind,a9 (by have:=Int.mul_nonneg (show 0≤2*L' by omega) (show 0≤L by omega);omega)]
   grind
  rw[e3,e5]at h;have key:(2*D*L')*(2*D*L')*U=(D*D+L'*L'*U - L*L*U')*(D*D+L'*L'*U - L*L*U'):=by
   have e6:(2*D*L')*(2*D*L')*U=4*(D*D)*(L'*L'*U):=by grind
   rw[e6];generalize L'*L'*U=X at *;generalize L*L*U'=Y at *;have zz:(D*D - X - Y)*(D*D - X - Y)=4*X*Y:=by
    rcases Int.lt_or_le (D*D - X - Y) 0 with z|z
    ·rw[a9 (by omega)]at h
     have h1:0<(D*D - X - Y)*(D*D - X - Y):=Int.mul_pos_of_neg_of_neg z z;have h2:=Int.mul_nonneg X0 Y0;have e':4*X*Y=4*(X*Y):=by grind
     omega
    ·rw[bM z]at h
     omega
   generalize D*D=E at *
   grind
  have nz:2*D*L'≠0:=by
   have:=Int.mul_pos (show 0<2*D by omega) hL';omega
  exact xo nz key
def PG(l m:N4)(t u:Int):Prop :=
 if ro4 l (0,0,0,1)=0 then t=0∧u=1 else if ro4 m (1,0,0,1)=0 then t=1∧u=1
 else if ro4 l m=0 then ∃R,(0≤R∧R*R=l.2.1*l.2.1*l.2.2.1)∧DP (l.1+sg l.2.1*R) l.2.2.2 t u
 else Wi l.1 l.2.1 l.2.2.1 l.2.2.2 m.1 m.2.1 m.2.2.1 m.2.2.2 t u
theorem PG.uniq{l m:N4}{t u t' u':Int}(hl:0<l.2.2.2)(h:PG l m t u)(k:PG l m t' u'):t=t'∧u=u':=by
 unfold PG at h k
 by_cases c1:ro4 l (0,0,0,1)=0
 ·rw[if_pos c1]at h k
  exact⟨h.1.trans k.1.symm,h.2.trans k.2.symm⟩
 rw[if_neg c1]at h k
 by_cases c2:ro4 m (1,0,0,1)=0
 ·rw[if_pos c2]at h k
  exact⟨h.1.trans k.1.symm,h.2.trans k.2.symm⟩
 rw[if_neg c2]at h k
 by_cases c3:ro4 l m=0
 ·rw[if_pos c3]at h k
  obtain⟨R,⟨r0,r1⟩,f⟩:=h;obtain⟨R',⟨r0',r1'⟩,f'⟩:=k;have e:R=R':=by
   have e:=r1.trans r1'.symm;rcases Int.lt_trichotomy R R' with z|z|z
   ·have:=Int.mul_lt_mul' (Int.le_of_lt z) z r0 (by omega)
    omega
   ·exact z
   ·have:=Int.mul_lt_mul' (Int.le_of_lt z) z r0' (by omega)
    omega
  subst e;have g1:=f.eq;have g2:=f'.eq;refine fV f.low f'.low ?_;have:t*u'*l.2.2.2=t'*u*l.2.2.2:=by
   have e1:t*u'*l.2.2.2=t*l.2.2.2*u':=by grind
   have e2:t'*u*l.2.2.2=t'*l.2.2.2*u:=by grind
   rw[e1,e2,<- g1,<- g2]
   grind
  exact Int.eq_of_mul_eq_mul_right (by omega) this
 ·rw[if_neg c3]at h k
  exact h.uniq k
inductive F6 (K:W.Frag) (vs:List V) (H:Hp) (Q:VK) (x_3:XK):Prop
 | mk:∀(p q:Addr) (l m:N4),(vs = [.ref p,.ref q])->(Nm K H p l)->(Nm K H q m)->(ro4 l m≤0)->((l=(0,0,0,1)∨(Fe l∧Ff m)))->(∀(r:Addr) (t u:Int) (H':Hp),Same H H'->Fg H' r t u 2600->PG l m t u->0≤t->t≤u->Q (.ref r) H')->F6 K vs H Q x_3
theorem yx{P U L b0 b1 b2 b3 t u:Int}(hL:0<L)(hU:0≤U)(hu:0<u)(b2n:0≤b2)(b3p:0<b3)(z:0≤P∧U≤P*P)(w:Wi P (-1) U L b0 b1 b2 b3 t u):0≤t:=by
 obtain⟨m1,_⟩:=w.mid hU hL b2n b3p;rcases Int.lt_or_le t 0 with y|y
 ·exfalso
  have a1:=Int.mul_nonneg z.1 (show 0≤u by omega);have a2:0 < -(t*L):=by have:=Int.mul_neg_of_neg_of_pos y hL;omega
  rw[bM (show 0≤P*u - t*L by omega),a9 (show -1*u≤0 by omega)]at m1;have b1:=dm a1 (show P*u≤P*u - t*L by omega);have b2:=Int.mul_le_mul_of_nonneg_left z.2 (show 0≤u*u from Int.mul_nonneg (by omega) (by omega));have e1:-(-1*u*(-1*u))*U = -(u*u*U):=by grind
  have e2:u*u*(P*P)=P*u*(P*u):=by grind
  omega
 ·exact y
theorem yy{a0 a1 a2 a3 P U L t u:Int}(hL:0<L)(hU:0≤U)(hu:0<u)(a2n:0≤a2)(a3p:0<a3)(z:P - L≤0∧U≤(P - L)*(P - L))(w:Wi a0 a1 a2 a3 P 1 U L t u):t≤u:=by
 obtain⟨_,m2⟩:=w.mid a2n a3p hU hL;rcases Int.lt_or_le u t with y|y
 ·exfalso
  have a1:0≤u*(L - P):=Int.mul_nonneg (by omega) (by omega);have a2:u*(L - P)≤t*L - P*u:=by
   have:=Int.mul_le_mul_of_nonneg_right (show u≤t by omega) (show 0≤L by omega);have e:u*(L - P)=u*L - P*u:=by grind
   omega
  rw[bM (show 0≤t*L - P*u by omega),a9 (show -1*u≤0 by omega)]at m2;have b1:=dm a1 a2;have b2:=Int.mul_le_mul_of_nonneg_left z.2 (show 0≤u*u from Int.mul_nonneg (by omega) (by omega));have e1:-(-1*u*(-1*u))*U = -(u*u*U):=by grind
  have e2:u*u*((P - L)*(P - L))=u*(L - P)*(u*(L - P)):=by grind
  omega
 ·exact y
theorem EG:zZ ["low","high"] ["low","high"] (am (top 47)):=smk
theorem ma{C pB pE:Addr}(CZ:Df K mg "part_from" (top 47))(BC:mg "BEGIN" = some (.ref pB))(Ea:mg "END" = some (.ref pE))(hB:∀H,SqT K H pB [.int 0,.int 0,.int 0,.int 1])(hE:∀H,SqT K H pE [.int 1,.int 0,.int 0,.int 1])(Ab:Fn P w K mg base "root_order" ["one","other"] 4 (EJ K))(Au:Fx P w K mg base "root_between" ["one","other"] 5 [] (FE K C)):Fn P w K mg base "part_from" ["low","high"] 6 (F6 K):=by
 refine CZ.fn EG (fun _ _ _ _ _ _ us hl=>by obtain⟨_,_,rfl⟩:=dw hl;rfl) (fun vs H Q E h=>?_) (fun f cdv A outer s H vs Q E hr h=>?_)
 ·obtain⟨p,q,l,m,rfl,_⟩:=h
  rfl
 ·obtain⟨p,q,l,m,rfl,n1,n2,le,cs,k⟩:=h
  refine⟨_,(ai (aL (az bS (aA Ab (hr.mono (by decide)) (by rfl) (ad (pv 0) (ad (aJ (v:=.ref _) (by rfl) BC rfl) ag))) af (aE _)) (ak (ay (ax (ad af (ad af ag))))) aF) (ai (aL (az bS (aA Ab (hr.mono (by decide)) (by rfl) (ad (pv 1) (ad (aJ (v:=.ref _) (by rfl) Ea rfl) ag))) af (aE _)) (ak (ay (ax (ad af (ad af ag))))) aF) (ak (ay (eW Au (hr.mono (by decide)) (by rfl) (ad (pv 0) (ad (pv 1) ag))))))),?_⟩;have RB:∀H,Rt K H pB 0 0 0 1:=fun H=>⟨hB H,by decide,by decide,by decide,by decide⟩;have RE:∀H,Rt K H pE 1 0 0 1:=fun H=>⟨hE H,by decide,by decide,by decide,by decide⟩;refine⟨_,rfl,_,_,_,_,_,_,_,_,_,_,rfl,n1.rt,RB _,rfl,_,rfl,?_⟩;rw[di];refine aR (fun c1=>?_) (fun c1=>?_)
  ·have c1:ro4 l (0,0,0,1)=0:=bz c1
   exact⟨sz (by simp),fun r H1 s1 f1 _=>k r 0 1 H1 s1 ⟨f1,⟨by decide,by decide⟩,by decide,by decide⟩ (by unfold PG;rw[if_pos c1];exact⟨rfl,rfl⟩) (by decide) (by decide)⟩
  have c1:¬ro4 l (0,0,0,1)=0:=bU c1;refine⟨_,rfl,_,_,_,_,_,_,_,_,_,_,rfl,n2.rt,RE _,rfl,_,rfl,?_⟩;rw[di];refine aR (fun c2=>?_) (fun c2=>?_)
  ·have c2:ro4 m (1,0,0,1)=0:=bz c2
   exact⟨sz (by simp),fun r H1 s1 f1 _=>k r 1 1 H1 s1 ⟨f1,⟨by decide,by decide⟩,by decide,by decide⟩ (by unfold PG;rw[if_neg c1,if_pos c2];exact⟨rfl,rfl⟩) (by decide) (by decide)⟩
  have c2:¬ro4 m (1,0,0,1)=0:=bU c2;have pg:∀{t u:Int},PG l m t u↔if ro4 l m=0 then ∃R,(0≤R∧R*R=l.2.1*l.2.1*l.2.2.1)∧DP (l.1+sg l.2.1*R) l.2.2.2 t u else Wi l.1 l.2.1 l.2.2.1 l.2.2.2 m.1 m.2.1 m.2.2.1 m.2.2.2 t u:=fun {t u}=>by unfold PG;rw[if_neg c1,if_neg c2]
  rcases cs with rfl|⟨hl,hm⟩
  ·exact absurd (by decide) c1
  cases hl with
  | b=>exact absurd (by decide) c1
  | @n P U L hL hU h z=>cases hm with
   | e=>exact absurd (by decide) c2
   | @n P' U' L' hL' hU' h' z' =>
    refine⟨_,rfl,_,rfl,p,q,P,-1,U,L,P',1,U',L',240,235,11,2600,rfl,n1.rt,n2.rt,⟨hU,hL,hU',hL',n1.b0,ar n1.b1 (by decide),n1.b2,n2.b0,by decide,n2.b2,by decide,by decide⟩,⟨by decide,by decide,by decide⟩,fun y=>absurd le (by show ¬ro P (-1) U L P' 1 U' L'≤0;omega),fun y R r=>?_,fun y=>⟨pZ n1 n2 y,fun r t u H1 s1 f1 wi bt bu=>?_⟩⟩
    ·obtain⟨R0,r0,r1⟩:=vd hL hL' hU hU' y
     have eR:R=R0:=by
      have h1:=r.lo;have h2:=r.hi;have h3:=r.nn;have e:1*(-1 * -1*U)=R0*R0:=by rw[r1];grind
      rw[e]at h1 h2;rcases Int.lt_trichotomy R R0 with w|w|w
      ·have:=dm (show 0≤R+1 by omega) (show R+1≤R0 by omega)
       omega
      ·exact w
      ·have:=Int.mul_lt_mul' (Int.le_of_lt w) w r0 (by omega)
       omega
     subst eR;refine⟨fun w=>absurd (by rw[r1];grind) w,fun w r' t u H1 s1 f1 fr bt bu=>?_⟩;have hu:=fr.low.pos;have e:=fr.eq;have e:(P+sg (-1)*R)*u=t*L:=e;have sgm:P+sg (-1)*R=P - R:=by show P + -1*R=P - R;omega
     rw[sgm]at e;have rp:R≤P:=by
      rcases Int.lt_or_le P R with y|y
      ·have:=Int.mul_lt_mul' (Int.le_of_lt y) y z.1 (by omega)
       omega
      ·exact y
     have rl:P - R≤L:=by
      rcases h with h|h
      ·omega
      ·rcases Int.lt_or_le L (P - R) with y|y
       ·have:=dm (show 0≤R+1 by omega) (show R+1≤P - L by omega)
        have e':(R+1)*(R+1)=R*R+2*R+1:=by grind
        omega
       ·exact y
     refine k r' t u H1 s1 ⟨f1,fr.low,ar bt (by decide),ar bu (by decide)⟩ (pg.mpr (by rw[if_pos (show ro4 (P,-1,U,L) (P',1,U',L')=0 from y)];exact⟨R,⟨r0,by rw[r1];show U = -1 * -1*U;grind⟩,fr⟩)) ?_ ?_
     ·rcases Int.lt_or_le t 0 with y|y
      ·have h1:=Int.mul_nonneg (show 0≤P - R by omega) (show 0≤u by omega)
       have h2:=Int.mul_neg_of_neg_of_pos y hL;omega
      ·exact y
     ·rcases Int.lt_or_le u t with y|y
      ·have h1:=Int.mul_le_mul_of_nonneg_right rl (show 0≤u by omega)
       have h2:=Int.mul_lt_mul_of_pos_right y hL;have e':L*u=u*L:=Int.mul_comm _ _;omega
      ·exact y
    ·have hu:0<u:=by
      obtain⟨_,_,_,_,_,_,_,_,_,h5⟩:=id wi;exact h5.low.pos
     have hlw:EB t u:=by
      obtain⟨_,_,_,_,_,_,_,_,_,h5⟩:=id wi;exact h5.low
     exact k r t u H1 s1 ⟨f1,hlw,bt,bu⟩ (pg.mpr (by rw[if_neg (show ¬ro4 (P,-1,U,L) (P',1,U',L')=0 by have y:ro4 (P,-1,U,L) (P',1,U',L')<0:=y;omega)];exact wi)) (yx hL hU hu hU' hL' z wi) (yy hL' hU' hu hU hL z' wi)
theorem Nm.rt8{K:W.Frag}{H:Hp}{p:Addr}{l:N4}(h:Nm K H p l):GH K H p l.1 l.2.1 l.2.2.1 l.2.2.2:=⟨h.at_.sq,ar h.b0 (by decide),ar h.b1 (by decide),ar h.b2 (by decide),ar h.b3 (by decide)⟩
inductive F9 (K:W.Frag) (vs:List V) (H:Hp) (Q:VK) (x_3:XK):Prop
 | mk:∀(p q:Addr) (a b:Int) (m:N4),(vs = [.ref p,.ref q])->(H p=some (.tup [.int a,.int b]))->((aq a≤2600∧aq b≤2600))->(Nm K H q m)->(∀H',Same H H'->Q (.bl (decide (ro4 (a,0,0,b) m≤0))) H')->F9 K vs H Q x_3
theorem EO:zZ ["part","high"] ["part","high"] (am (top 68)):=smk
theorem nG(Dm:Df K mg "may_keep" (top 68))(E9:Fn P w K mg base "root_order" ["one","other"] 4 (EZ K)):Fn P w K mg base "may_keep" ["part","high"] 5 (F9 K):=by
 refine Dm.fn EO (fun _ _ _ _ _ _ us hl=>by obtain⟨_,_,rfl⟩:=dw hl;rfl) (fun vs H Q E h=>?_) (fun f cdv A outer s H vs Q E hr h=>?_)
 ·obtain⟨p,q,a,b,m,rfl,_⟩:=h
  rfl
 ·obtain⟨p,q,a,b,m,rfl,hp,⟨ba,bb⟩,nq,k⟩:=h
  have Ab:=E9;refine⟨_,(ak (ay (cY mR (aA Ab (hr.mono (by decide)) (by rfl) (ad (ax (ad (aw au (pv 0) af (fun _ _=>rfl)) (ad af (ad af (ad (aw au (pv 0) af (fun _ _=>rfl)) ag))))) (ad (pv 1) ag))) af (aE _)))),?_⟩;refine⟨_,rfl,p,_,_,_,rfl,rfl,SqT.of hp,rfl,_,rfl,p,_,_,_,rfl,rfl,SqT.of hp,rfl,sz (by simp),fun t H1 s1 f1 n1=>?_⟩;exact⟨_,rfl,_,_,_,_,_,_,_,_,_,_,rfl,⟨SqT.of f1,ar ba (by decide),by decide,by decide,ar bb (by decide)⟩,(nq.mono s1).rt8,_,_,rfl,rfl,k H1 s1⟩
def DrV(H:Hp)(x:Dor)(v:V):Prop:=∃t,v = .ref t∧H t=some (.tup ((dkD x).map kV))
theorem DrV.t{H H':Hp}{x:Dor}{v:V}(h:DrV H x v)(s:SameT H H'):DrV H' x v:=let ⟨t,e,f⟩:=h;⟨t,e,s _ _ f⟩
def iq(wy:Str)(n m:Nat):List Dor:=if wy=wOn then [(0,(n:Int) - 1,(m:Int) - 1),(1,(n:Int) - 1,(m:Int) - 1)] else (List.range m).map fun (j:Nat)=>(0,(n:Int),(j:Int))
inductive Gg (vs:List V) (H:Hp) (Q:VK) (x_3:XK):Prop
 | mk:∀(lt:Addr) (n m:Nat) (wy:Str),(vs = [.ref lt,.str wy])->(H lt=some (.tup [.int (n:Int),.int (m:Int)]))->(m≤20)->((wy=wOn∨wy=bH))->(∀r H',Same H H'->H r=none->(∃vs,H' r=some (.lst vs)∧Paired (DrV H') (iq wy n m) vs)->Q (.ref r) H')->Gg vs H Q x_3
theorem kT{α β:Type}{R:α->β->Prop}:∀{l:List α} {ys:List β},ys.length=l.length->(∀(i:Nat) y,ys[i]? = some y->∃x,l[i]? = some x∧R x y)->Paired R l ys
 | [],[],_,_=>.nil
 | a::l,y::ys,h,k=>by
  obtain⟨x,e,r⟩:=k 0 y rfl;cases e;exact .cons r (kT (by simpa using h) fun i z hz=>by
   obtain⟨x,e,r⟩:=k (i+1) z (by rw[List.getElem?_cons_succ];exact hz);rw[List.getElem?_cons_succ]at e;exact⟨x,e,r⟩)
theorem DY:zZ ["last","way"] ["last","way"] (am (top 67)):=smk
theorem iU(BX:Df K mg "doors_at_end" (top 67))(V_UPRIGHT:∃tk,mg "UPRIGHT" = some (.int 0 tk))(V_LEVEL:∃tk,mg "LEVEL" = some (.int 1 tk))(T:Txt mg):Fn P w K mg base "doors_at_end" ["last","way"] 1 Gg:=by
 refine BX.fn DY (fun _ _ _ _ _ _ us hl=>by obtain⟨_,_,rfl⟩:=dw hl;rfl) (fun vs H Q E h=>?_) (fun f cdv A outer s H vs Q E hr h=>?_)
 ·obtain⟨lt,n,m,wy,rfl,_⟩:=h
  rfl
 ·obtain⟨lt,n,m,wy,rfl,hl,hm20,hw,k⟩:=h
  have CN:DM (bE CX0 P w K mg base ["last","way"] "doors_at_end" (am (top 67)) f cdv A outer s H E).nox (lcA (top 67) 0) [("last",s.heap.objs.size+1)] "j" [("last",0)] :=
   ⟨by rfl,rfl,by decide +kernel,by decide +kernel,rfl,(fun p hp=>by simp only[List.mem_cons,List.not_mem_nil,or_false]at hp;rcases hp with rfl;rfl),by rfl,by decide +kernel,(fun p hp=>by simp only[List.mem_cons,List.not_mem_nil,or_false]at hp;rcases hp with rfl;exact⟨rfl,rfl,.inr (.inl rfl),rfl,rfl⟩),⟨rfl,rfl⟩,rfl⟩
  obtain⟨tU,Ae⟩:=V_UPRIGHT;obtain⟨tL,AQ⟩:=V_LEVEL;refine⟨_,(ai (aL (az bS (pv 1) db (aE _)) (ak (ay (@aX _ _ _ _ (@ad _ _ _ _ _ (@ax _ _ _ _ _ (@ad _ _ _ _ _ (aJ (v:=.int 0) (by rfl) Ae ⟨_,rfl⟩) (@ad _ _ _ _ _ (ao aO (aw au (pv 0) af (fun _ _=>rfl)) af) (@ad _ _ _ _ _ (ao aO (aw au (pv 0) af (fun _ _=>rfl)) af) ag (by rfl)) (by rfl)) (by rfl))) (@ad _ _ _ _ _ (@ax _ _ _ _ _ (@ad _ _ _ _ _ (aJ (v:=.int 1) (by rfl) AQ ⟨_,rfl⟩) (@ad _ _ _ _ _ (ao aO (aw au (pv 0) af (fun _ _=>rfl)) af) (@ad _ _ _ _ _ (ao aO (aw au (pv 0) af (fun _ _=>rfl)) af) ag (by rfl)) (by rfl)) (by rfl))) ag (by rfl)) (by rfl))))) aF) (ak (ay (jC rfl CN (cf rfl T.z_range (ad (aw au (pv 0) af (fun _ _=>rfl)) ag)) (fun fp s₀ H₀=>(ax (ad (aJ (v:=.int 0) (by rfl) Ae ⟨_,rfl⟩) (ad (aw (eB (K:=K) rfl) (pv 1) af (fun _ _=>rfl)) (ad (pv 0) ag))))))))),?_⟩;have L:∀{H':Hp},Same H H'->SqT K H' lt [.int (n:Int),.int (m:Int)]:=fun s=>SqT.of (s _ _ hl);refine⟨_,rfl,rfl,_,rfl,aR (fun c=>?_) (fun c=>?_)⟩
  ·have c:wy=wOn:=bz (ds c)
   unfold iq at k;rw[if_pos c]at k;refine⟨_,rfl,lt,_,_,_,rfl,rfl,L (Same.refl _),rfl,_,_,rfl,rfl,_,rfl,lt,_,_,_,rfl,rfl,L (Same.refl _),rfl,_,_,rfl,rfl,sz (by simp),fun t1 H1 s1 f1 n1=>?_⟩;refine⟨_,rfl,lt,_,_,_,rfl,rfl,L s1,rfl,_,_,rfl,rfl,_,rfl,lt,_,_,_,rfl,rfl,L s1,rfl,_,_,rfl,rfl,sz (by simp),fun t2 H2 s2 f2 n2=>⟨sz (by simp),fun r H3 s3 f3 n3=>?_⟩⟩;exact k r H3 (s1.trans (s2.trans s3)) ((s1.trans s2).free n3) ⟨_,f3,.cons ⟨t1,rfl,(s2.trans s3) _ _ f1⟩ (.cons ⟨t2,rfl,s3 _ _ f2⟩ .nil)⟩
  ·have c:¬wy=wOn:=bU (ds c)
   unfold iq at k;rw[if_neg c]at k;refine⟨_,rfl,lt,_,_,_,rfl,rfl,L (Same.refl _),rfl,_,rfl,by omega,by omega,?_⟩;rw[Int.toNat_natCast];refine vY (n:=m) (lo:=0) (by omega) (fun j v H'=>DrV H' (0,(n:Int),(j:Int)) v) (fun i v H H' st h=>h.t st) ?_ ?_
   ·intro j H2 Kc hj s2 kk
    refine⟨_,rfl,lt,_,_,_,rfl,rfl,L s2,rfl,_,rfl,sz (by simp),fun t H3 s3 f3 n3=>kk _ H3 s3 ⟨t,rfl,?_⟩⟩;rw[Int.zero_add]at f3;exact f3
   ·intro r ys H2 nr s2 f2 hl2 hv
    refine k r H2 s2 nr ⟨ys,f2,kT (by rw[List.length_map,List.length_range];exact hl2) fun i y hy=>⟨_,?_,hv i y hy⟩⟩;have hi:=(List.getElem?_eq_some_iff.mp hy).1;rw[List.getElem?_map,List.getElem?_range (by omega)];rfl
def iJ(bh:Option (Dor×Int×Int))(x:Dor)(r:Rv)(a b:Int):Prop:=match bh with
 | none=>PG r.lo r.hi a b
 | some z=>if z.1.1=x.1∧ro4 (z.2.1,0,0,z.2.2) r.hi≤0 then a=z.2.1∧b=z.2.2 else PG r.lo r.hi a b
inductive Bk (R:RF):Option (Dor×Int×Int)->Dor->List (Dor×Int×Int)->Prop
 | last {bh:Option (Dor×Int×Int)} {x:Dor} {r:Rv} {a b:Int} (h:R x=some r) (e:r.ah=none) (p:iJ bh x r a b):Bk R bh x [(x,a,b)]
 | more {bh:Option (Dor×Int×Int)} {x y:Dor} {r:Rv} {a b:Int} {l:List (Dor×Int×Int)} (h:R x=some r) (e:r.ah=some y) (p:iJ bh x r a b) (t:Bk R (some (x,a,b)) y l):Bk R bh x ((x,a,b)::l)
def fR(x:Dor):Nat:=(x.2.1+x.2.2).toNat
structure Gq(K:W.Frag)(R:RF):Prop where
 key:∀x r,R x=some r->(x.1=0∨x.1=1)∧(0≤x.2.1∧x.2.1≤1000)∧0≤x.2.2∧x.2.2≤1000
 le:∀x r,R x=some r->ro4 r.lo r.hi≤0
 ends:∀x r,R x=some r->r.lo=(0,0,0,1)∨(Fe r.lo∧Ff r.hi)
 ah:∀x r y,R x=some r->r.ah=some y->(R y).isSome=true∧fR y<fR x
theorem iJ.uniq{bh:Option (Dor×Int×Int)}{x:Dor}{r:Rv}{a b a' b':Int}(hl:0<r.lo.2.2.2)(h:iJ bh x r a b)(k:iJ bh x r a' b'):a=a'∧b=b':=by
 unfold iJ at h k;cases bh with
 | none=>exact PG.uniq hl h k
 | some z =>
  dsimp only at h k
  split at h
  ·rename_i c
   rw[if_pos c]at k;exact⟨h.1.trans k.1.symm,h.2.trans k.2.symm⟩
  ·rename_i c
   rw[if_neg c]at k;exact PG.uniq hl h k
theorem wS{l m:N4}(h:l=(0,0,0,1)∨(Fe l∧Ff m)):0<l.2.2.2:=by
 rcases h with rfl|⟨h,_⟩
 ·decide
 ·cases h with
  | b=>decide
  | n hL _ _ _=>exact hL
theorem Bk.uniq{K:W.Frag}{R:RF}(w:Gq K R){bh:Option (Dor×Int×Int)}{x:Dor}{l l':List (Dor×Int×Int)}(h:Bk R bh x l)(k:Bk R bh x l'):l=l':=by
 induction h generalizing l' with
 | last h e p =>
  cases k with
  | last h' e' p' =>
   rw[h]at h';cases h';obtain⟨rfl,rfl⟩:=iJ.uniq (wS (w.ends _ _ h)) p p';rfl
  | more h' e' p' t' =>
   rw[h]at h';cases h';rw[e]at e';cases e'
 | more h e p t ih =>
  cases k with
  | last h' e' p' =>
   rw[h]at h';cases h';rw[e]at e';cases e'
  | more h' e' p' t' =>
   rw[h]at h';cases h';rw[e]at e';cases e';obtain⟨rfl,rfl⟩:=iJ.uniq (wS (w.ends _ _ h)) p p';rw[ih t']
def iG(e:Dor×Int×Int)(q:Pr):Prop:=uy e.1.1 e.1.2.1 e.1.2.2 e.2.1 e.2.2 q
inductive Fo (K:W.Frag) (vs:List V) (H:Hp) (Q:VK) (x_3:XK):Prop
 | mk:∀(d t:Addr) (R:RF) (c:Nat) (x:Dor),(vs = [.ref d,.ref t])->(Bs K H d R c)->(Gq K R)->(H t=some (.tup ((dkD x).map kV)))->(((R x).isSome=true∧fR x<900))->(∀(r:Addr) (H':Hp) (l:List (Dor×Int×Int)) (ps:List Pr),Same H H'->H r=none->Bk R none x l->l.length≤fR x+1->E8 H' r ps->Paired iG l.reverse ps->Q (.ref r) H')->Fo K vs H Q x_3
def BeP(H':Hp)(bv pv:V):Option (Dor×Int×Int)->Prop
 | none=>bv = .non
 | some z=>DrV H' z.1 bv∧∃tp,pv = .ref tp∧Fg H' tp z.2.1 z.2.2 2600∧0≤z.2.1∧z.2.1≤z.2.2
def LeP(R:RF)(x:Dor)(don:List (Dor×Int×Int))(bh:Option (Dor×Int×Int)):Option Dor->Prop
 | none=>Bk R none x don
 | some y=>((R y).isSome=true∧don.length+fR y≤fR x)∧∀l,Bk R bh y l->Bk R none x (don++l)
structure BkJ(K:W.Frag)(R:RF)(x:Dor)(H H':Hp)(pl:Addr)(cv bv pv:V)(cur:Option Dor)(bh:Option (Dor×Int×Int))(don:List (Dor×Int×Int))(ps:List Pr):Prop where
 sm:Same H H'
 nr:H pl=none
 pp:E8 H' pl ps
 pr:Paired iG don ps
 cu:AhV H' cv cur
 be:BeP H' bv pv bh
 left:LeP R x don bh cur
theorem dN(ps:List Pr)(q:Pr):prs (ps++[q])=prs ps++[.ref q.p]:=by unfold prs;rw[List.map_append];rfl
theorem yo{K:W.Frag}{R:RF}(w:Gq K R){bh:Option (Dor×Int×Int)}{x:Dor}{l:List (Dor×Int×Int)}(h:Bk R bh x l):l.length≤fR x+1:=by
 induction h with
 | last _ _ _=>simp
 | more h e _ _ ih =>
  have:=(w.ah _ _ _ h e).2;rw[List.length_cons];omega
def muB(σ:St)(H:Hp):Nat:=match σ with
 | [_,some (.ref t),_,_,_,_,_]=>(match H t with
  | some (.tup [.int _,.int i,.int j])=>(i+j).toNat+1
  | _=>0)
 | _=>0
theorem jF{z0 z2 z3 z4 z5 z6:Option V}{H:Hp}{t:Addr}{y:Dor}(h:H t=some (.tup ((dkD y).map kV))):muB [z0,some (.ref t),z2,z3,z4,z5,z6] H=fR y+1:=by
 show(match H t with
  | some (.tup [.int _,.int i,.int j])=>(i+j).toNat+1
  | _=>0)=_
 rw[h];rfl
theorem Aw:zZ ["reached","door","pairs","behind","part","low","high"] ["reached","door"] (am (top 69)):=smk
theorem nu(Dk:Df K mg "pairs_to" (top 69))(Dd:Fn P w K mg base "may_keep" ["part","high"] 5 (F9 K))(CV:Fn P w K mg base "part_from" ["low","high"] 6 (F6 K))(An:Fn P w K mg base "pair_in_door" ["door","part"] 4 E2):Fn P w K mg base "pairs_to" ["reached","door"] 7 (Fo K):=by
 refine Dk.fn Aw (fun _ _ _ _ _ _ us hl=>by obtain⟨_,_,rfl⟩:=dw hl;rfl) (fun vs H Q E h=>?_) (fun f cdv A outer s H vs Q E hr h=>?_)
 ·obtain⟨d,t0,R,c,x,rfl,_⟩:=h
  rfl
 ·obtain⟨d,t0,R,c,x,rfl,rp,wf,ht0,⟨hsx,hrk⟩,k⟩:=h
  refine⟨_,(ai (ap (i:=2) Aw.nd rfl (Or.inl rfl) (aX ag)) (ai (ap (i:=3) Aw.nd rfl (Or.inl rfl) aW) (ai (ap (i:=4) Aw.nd rfl (Or.inl rfl) aW) (ai (dE PassesOwn.never (az fJ (pv 1) aW (aE _)) (ai (ap (i:=5) Aw.nd rfl (Or.inl rfl) (aw au (cP (bT hr) (pv 0) (pv 1) (fun _ _=>rfl)) af (fun _ _=>rfl))) (ai (ap (i:=6) Aw.nd rfl (Or.inl rfl) (aw au (cP (bT hr) (pv 0) (pv 1) (fun _ _=>rfl)) af (fun _ _=>rfl))) (ai (aL (eT (az fU (pv 3) aW (aE _)) (eT (az kW (aw au (pv 3) af (fun _ _=>rfl)) (aw au (pv 1) af (fun _ _=>rfl)) (aE _)) (eS (d6 (cW (aA Dd (hr.mono (by decide)) (by rfl) (ad (pv 4) (ad (pv 6) ag)))))))).pt (ak (ap (i:=4) Aw.nd rfl (Or.inl rfl) (aA CV (hr.mono (by decide)) (by rfl) (ad (pv 5) (ad (pv 6) ag))))) aF) (ai (bD (dG PySem.F.plainAttrs_list PySem.F.slot_list_append PySem.F.type_list_append aZ (pv 2) (ad (aA An (hr.mono (by decide)) (by rfl) (ad (pv 1) (ad (pv 4) ag))) ag))) (ai (ap (i:=3) Aw.nd rfl (Or.inl rfl) (pv 1)) (ak (ap (i:=1) Aw.nd rfl (Or.inl rfl) (aw au (cP (bT hr) (pv 0) (pv 1) (fun _ _=>rfl)) af (fun _ _=>rfl)))))))))) (ai (bD (oG PySem.F.plainAttrs_list PySem.F.slot_list_reverse PySem.F.type_list_reverse iB (pv 2))) (ak (ay (pv 2)))))))),?_⟩;refine⟨sz (by simp),fun pl H0 s0 f0 n0=>?_⟩;refine dC (fun σ H'=>∃(cv bv pv:V) (z5 z6:Option V) (cur:Option Dor) (bh:Option (Dor×Int×Int)) (don:List (Dor×Int×Int)) (ps:List Pr),σ = [some (.ref d),some cv,some (.ref pl),some bv,some pv,z5,z6]∧BkJ K R x H H' pl cv bv pv cur bh don ps) muB
   ⟨_,_,_,_,_,some x,none,[],[],rfl,s0,n0,⟨f0,fun q hq=>nomatch hq⟩,.nil,⟨t0,rfl,s0 _ _ ht0⟩,rfl,⟨⟨hsx,by simp⟩,fun l hl=>hl⟩⟩ ?_ ?_
  ·rintro σ H1 ⟨cv,bv,pv,z5,z6,cur,bh,don,ps,rfl,J⟩
   cases cur with
   | none =>
    have cu:cv = .non:=J.cu;subst cu;refine⟨_,rfl,rfl,_,rfl,bw (by simp) ?_⟩;refine⟨_,rfl,.inl ⟨rfl,_,SqL.of J.pp.lst⟩,pl,_,rfl,rfl,J.pp.lst,fun H2 u=>⟨_,rfl,?_⟩⟩;have hb:Bk R none x don:=J.left;refine k pl H2 don ps.reverse (fun b o e=>u.at (fun z=>by rw[z,J.nr]at e;cases e) (J.sm b o e)) J.nr hb ?_ ⟨by rw[u.now];unfold prs;rw[List.map_reverse],fun q hq=>(J.pp.pr q (List.mem_reverse.mp hq)).t u.t⟩ (jD J.pr);exact yo wf hb
   | some y =>
    obtain⟨t,rfl,ht⟩:=J.cu;refine⟨_,rfl,rfl,_,rfl,bL (by simp) ?_⟩;have hmu:=jF (z0:=some (.ref d)) (z2:=some (.ref pl)) (z3:=some bv) (z4:=some pv) (z5:=z5) (z6:=z6) ht;obtain⟨o,dg,ho⟩:=(rp.mono J.sm).get ht;have ly:=J.left.1;rcases ho with⟨r,v,hr,rfl,tv,p,q',w0,rfl,ev,n1,n2,_⟩|⟨hn,_⟩
    ·have wk:=wf.key y r hr
     refine⟨_,rfl,_,rfl,d,_,rfl,dg,tv,_,_,_,rfl,rfl,SqT.of ev,rfl,?_⟩;refine⟨_,rfl,_,rfl,d,_,rfl,dg,tv,_,_,_,rfl,rfl,SqT.of ev,rfl,?_⟩;cases bh with
     | none =>
      have be:bv = .non:=J.be;subst be;refine⟨_,rfl,rfl,_,rfl,bL rfl ?_⟩;refine⟨_,rfl,_,rfl,p,q',r.lo,r.hi,rfl,n1,n2,wf.le y r hr,wf.ends y r hr,fun tp a b H2 s2 fr pg a0 ab=>?_⟩;have S2':Same H H2:=J.sm.trans s2;have pp2:=J.pp.mono s2;refine⟨_,rfl,.inl ⟨rfl,_,SqL.of pp2.lst⟩,_,rfl,_,rfl,t,tp,y.1,y.2.1,y.2.2,a,b,rfl,s2 _ _ ht,wk.1,wk.2.1,wk.2.2,⟨fr,a0,ab⟩,fun q H3 s3 pq dp=>?_⟩;have pp3:=pp2.mono s3;refine⟨pl,_,_,rfl,rfl,pp3.lst,aM (by rw[cX];have:=Paired.length J.pr;omega),fun H4 u=>?_⟩;have S3:Same H H3:=S2'.trans s3;have S4:Same H H4:=fun b o e=>u.at (fun z=>by rw[z,J.nr]at e;cases e) (S3 b o e);have ht4:=u.t _ _ (s3 _ _ (s2 _ _ ht));obtain⟨o4,dg4,ho4⟩:=(rp.mono S4).get ht4;rcases ho4 with⟨r4,v4,hr4,rfl,tv4,q1,q2,w4,rfl,ev4,_,_,aw4⟩|⟨hn4,_⟩
      ·rw[hr]at hr4
       cases hr4;refine⟨_,rfl,_,rfl,_,rfl,d,_,rfl,dg4,tv4,_,_,_,rfl,rfl,SqT.of ev4,rfl,⟨_,_,_,_,_,r.ah,some (y,a,b),don++[(y,a,b)],ps++[q],rfl,⟨S4,J.nr,⟨by rw[u.now,dN],fun q' hq=>?_⟩,Paired.snoc J.pr dp,aw4,⟨⟨t,rfl,ht4⟩,tp,rfl,⟨u.t _ _ (s3 _ _ fr.at_),fr.low,fr.ba,fr.bb⟩,a0,ab⟩,?_⟩⟩,?_⟩
       ·rcases List.mem_append.mp hq with hq|hq
        ·exact(pp3.pr q' hq).t u.t
        ·rw[List.mem_singleton.mp hq]
         exact pq.t u.t
       ·cases ha:r.ah with
        | none=>exact J.left.2 _ (.last hr ha pg)
        | some y' =>
         have wa:=wf.ah y r y' hr ha;refine⟨⟨wa.1,by rw[List.length_append,List.length_singleton];have:=J.left.1.2;have:=wa.2;omega⟩,fun l hl=>?_⟩;rw[List.append_assoc];exact J.left.2 _ (.more hr ha pg hl)
       ·cases ha:r.ah with
        | none =>
         rw[ha]at aw4;have aw4:w4 = .non:=aw4;subst aw4;show 0<_;rw[hmu];omega
        | some y' =>
         rw[ha]at aw4;obtain⟨t',rfl,ht'⟩:=aw4;have wa:=wf.ah y r y' hr ha;rw[hmu];exact Nat.lt_of_le_of_lt (Nat.le_of_eq (jF ht')) (by omega)
      ·rw[hr]at hn4
       cases hn4
     | some z =>
      obtain⟨⟨tz,rfl,hz⟩,tq,rfl,fz,z0,z1⟩:=J.be;refine⟨_,rfl,rfl,_,rfl,bw (by simp) ?_⟩;refine⟨_,rfl,tz,_,_,_,rfl,rfl,SqT.of hz,rfl,_,rfl,t,_,_,_,rfl,rfl,SqT.of ht,rfl,rfl,_,rfl,?_⟩;have pk0:∀{a b:Int},¬(z.1.1=y.1∧ro4 (z.2.1,0,0,z.2.2) r.hi≤0)->PG r.lo r.hi a b->iJ (some z) y r a b:=fun {a b} hn h=>by
       unfold iJ;dsimp only;rw[if_neg hn];exact h
      refine aR (fun c1=>?_) (fun c1=>?_)
      ·have c1:¬z.1.1=y.1:=by
        have c1:(!decide (V.int z.1.1=V.int y.1))=true:=c1;rw[Bool.not_eq_true',di,decide_eq_false_iff_not]at c1;exact c1
       refine⟨_,rfl,_,rfl,p,q',r.lo,r.hi,rfl,n1,n2,wf.le y r hr,wf.ends y r hr,fun tp a b H2 s2 fr pg a0 ab=>?_⟩;have S2':Same H H2:=J.sm.trans s2;have pp2:=J.pp.mono s2;refine⟨_,rfl,.inl ⟨rfl,_,SqL.of pp2.lst⟩,_,rfl,_,rfl,t,tp,y.1,y.2.1,y.2.2,a,b,rfl,s2 _ _ ht,wk.1,wk.2.1,wk.2.2,⟨fr,a0,ab⟩,fun q H3 s3 pq dp=>?_⟩;have pp3:=pp2.mono s3;refine⟨pl,_,_,rfl,rfl,pp3.lst,aM (by rw[cX];have:=Paired.length J.pr;omega),fun H4 u=>?_⟩;have S3:Same H H3:=S2'.trans s3;have S4:Same H H4:=fun b o e=>u.at (fun z=>by rw[z,J.nr]at e;cases e) (S3 b o e);have ht4:=u.t _ _ (s3 _ _ (s2 _ _ ht));obtain⟨o4,dg4,ho4⟩:=(rp.mono S4).get ht4;rcases ho4 with⟨r4,v4,hr4,rfl,tv4,q1,q2,w4,rfl,ev4,_,_,aw4⟩|⟨hn4,_⟩
       ·rw[hr]at hr4
        cases hr4;refine⟨_,rfl,_,rfl,_,rfl,d,_,rfl,dg4,tv4,_,_,_,rfl,rfl,SqT.of ev4,rfl,⟨_,_,_,_,_,r.ah,some (y,a,b),don++[(y,a,b)],ps++[q],rfl,⟨S4,J.nr,⟨by rw[u.now,dN],fun q' hq=>?_⟩,Paired.snoc J.pr dp,aw4,⟨⟨t,rfl,ht4⟩,tp,rfl,⟨u.t _ _ (s3 _ _ fr.at_),fr.low,fr.ba,fr.bb⟩,a0,ab⟩,?_⟩⟩,?_⟩
        ·rcases List.mem_append.mp hq with hq|hq
         ·exact(pp3.pr q' hq).t u.t
         ·rw[List.mem_singleton.mp hq]
          exact pq.t u.t
        ·cases ha:r.ah with
         | none=>exact J.left.2 _ (.last hr ha (pk0 (fun w=>c1 w.1) pg))
         | some y' =>
          have wa:=wf.ah y r y' hr ha;refine⟨⟨wa.1,by rw[List.length_append,List.length_singleton];have:=J.left.1.2;have:=wa.2;omega⟩,fun l hl=>?_⟩;rw[List.append_assoc];exact J.left.2 _ (.more hr ha (pk0 (fun w=>c1 w.1) pg) hl)
        ·cases ha:r.ah with
         | none =>
          rw[ha]at aw4;have aw4:w4 = .non:=aw4;subst aw4;show 0<_;rw[hmu];omega
         | some y' =>
          rw[ha]at aw4;obtain⟨t',rfl,ht'⟩:=aw4;have wa:=wf.ah y r y' hr ha;rw[hmu];exact Nat.lt_of_le_of_lt (Nat.le_of_eq (jF ht')) (by omega)
       ·rw[hr]at hn4
        cases hn4
      ·have c1:z.1.1=y.1:=by
        have c1:(!decide (V.int z.1.1=V.int y.1))=false:=c1;rw[Bool.not_eq_false',di,decide_eq_true_eq]at c1;exact c1
       refine⟨_,rfl,_,rfl,tq,q',z.2.1,z.2.2,r.hi,rfl,fz.at_,⟨fz.ba,fz.bb⟩,n2,fun Hk sk=>⟨_,rfl,?_⟩⟩;refine aR (fun c2=>?_) (fun c2=>?_)
       ·have c2:¬ro4 (z.2.1,0,0,z.2.2) r.hi≤0:=by
         rw[Bool.not_eq_true',decide_eq_false_iff_not]at c2;exact c2
        refine⟨_,rfl,_,rfl,p,q',r.lo,r.hi,rfl,n1.mono sk,n2.mono sk,wf.le y r hr,wf.ends y r hr,fun tp a b H2 s2 fr pg a0 ab=>?_⟩;have S2':Same H H2:=J.sm.trans (sk.trans s2);have pp2:=J.pp.mono (sk.trans s2);refine⟨_,rfl,.inl ⟨rfl,_,SqL.of pp2.lst⟩,_,rfl,_,rfl,t,tp,y.1,y.2.1,y.2.2,a,b,rfl,(sk.trans s2) _ _ ht,wk.1,wk.2.1,wk.2.2,⟨fr,a0,ab⟩,fun q H3 s3 pq dp=>?_⟩;have pp3:=pp2.mono s3;refine⟨pl,_,_,rfl,rfl,pp3.lst,aM (by rw[cX];have:=Paired.length J.pr;omega),fun H4 u=>?_⟩;have S3:Same H H3:=S2'.trans s3;have S4:Same H H4:=fun b o e=>u.at (fun z=>by rw[z,J.nr]at e;cases e) (S3 b o e);have ht4:=u.t _ _ (s3 _ _ ((sk.trans s2) _ _ ht));obtain⟨o4,dg4,ho4⟩:=(rp.mono S4).get ht4;rcases ho4 with⟨r4,v4,hr4,rfl,tv4,q1,q2,w4,rfl,ev4,_,_,aw4⟩|⟨hn4,_⟩
        ·rw[hr]at hr4
         cases hr4;refine⟨_,rfl,_,rfl,_,rfl,d,_,rfl,dg4,tv4,_,_,_,rfl,rfl,SqT.of ev4,rfl,⟨_,_,_,_,_,r.ah,some (y,a,b),don++[(y,a,b)],ps++[q],rfl,⟨S4,J.nr,⟨by rw[u.now,dN],fun q' hq=>?_⟩,Paired.snoc J.pr dp,aw4,⟨⟨t,rfl,ht4⟩,tp,rfl,⟨u.t _ _ (s3 _ _ fr.at_),fr.low,fr.ba,fr.bb⟩,a0,ab⟩,?_⟩⟩,?_⟩
         ·rcases List.mem_append.mp hq with hq|hq
          ·exact(pp3.pr q' hq).t u.t
          ·rw[List.mem_singleton.mp hq]
           exact pq.t u.t
         ·cases ha:r.ah with
          | none=>exact J.left.2 _ (.last hr ha (pk0 (fun w=>c2 w.2) pg))
          | some y' =>
           have wa:=wf.ah y r y' hr ha;refine⟨⟨wa.1,by rw[List.length_append,List.length_singleton];have:=J.left.1.2;have:=wa.2;omega⟩,fun l hl=>?_⟩;rw[List.append_assoc];exact J.left.2 _ (.more hr ha (pk0 (fun w=>c2 w.2) pg) hl)
         ·cases ha:r.ah with
          | none =>
           rw[ha]at aw4;have aw4:w4 = .non:=aw4;subst aw4;show 0<_;rw[hmu];omega
          | some y' =>
           rw[ha]at aw4;obtain⟨t',rfl,ht'⟩:=aw4;have wa:=wf.ah y r y' hr ha;rw[hmu];exact Nat.lt_of_le_of_lt (Nat.le_of_eq (jF ht')) (by omega)
        ·rw[hr]at hn4
         cases hn4
       ·have c2:ro4 (z.2.1,0,0,z.2.2) r.hi≤0:=by
         rw[Bool.not_eq_false',decide_eq_true_eq]at c2;exact c2
        have fk:=fz.mono sk;have pk:iJ (some z) y r z.2.1 z.2.2:=by
         unfold iJ;dsimp only;rw[if_pos ⟨c1,c2⟩];exact⟨rfl,rfl⟩
        have S2':Same H Hk:=J.sm.trans sk;have pp2:=J.pp.mono sk;refine⟨_,rfl,.inl ⟨rfl,_,SqL.of pp2.lst⟩,_,rfl,_,rfl,t,tq,y.1,y.2.1,y.2.2,z.2.1,z.2.2,rfl,sk _ _ ht,wk.1,wk.2.1,wk.2.2,⟨fk,z0,z1⟩,fun q H3 s3 pq dp=>?_⟩;have pp3:=pp2.mono s3;refine⟨pl,_,_,rfl,rfl,pp3.lst,aM (by rw[cX];have:=Paired.length J.pr;omega),fun H4 u=>?_⟩;have S3:Same H H3:=S2'.trans s3;have S4:Same H H4:=fun b o e=>u.at (fun z=>by rw[z,J.nr]at e;cases e) (S3 b o e);have ht4:=u.t _ _ (s3 _ _ (sk _ _ ht));obtain⟨o4,dg4,ho4⟩:=(rp.mono S4).get ht4;rcases ho4 with⟨r4,v4,hr4,rfl,tv4,q1,q2,w4,rfl,ev4,_,_,aw4⟩|⟨hn4,_⟩
        ·rw[hr]at hr4
         cases hr4;refine⟨_,rfl,_,rfl,_,rfl,d,_,rfl,dg4,tv4,_,_,_,rfl,rfl,SqT.of ev4,rfl,⟨_,_,_,_,_,r.ah,some (y,z.2.1,z.2.2),don++[(y,z.2.1,z.2.2)],ps++[q],rfl,⟨S4,J.nr,⟨by rw[u.now,dN],fun q' hq=>?_⟩,Paired.snoc J.pr dp,aw4,⟨⟨t,rfl,ht4⟩,tq,rfl,⟨u.t _ _ (s3 _ _ fk.at_),fk.low,fk.ba,fk.bb⟩,z0,z1⟩,?_⟩⟩,?_⟩
         ·rcases List.mem_append.mp hq with hq|hq
          ·exact(pp3.pr q' hq).t u.t
          ·rw[List.mem_singleton.mp hq]
           exact pq.t u.t
         ·cases ha:r.ah with
          | none=>exact J.left.2 _ (.last hr ha pk)
          | some y' =>
           have wa:=wf.ah y r y' hr ha;refine⟨⟨wa.1,by rw[List.length_append,List.length_singleton];have:=J.left.1.2;have:=wa.2;omega⟩,fun l hl=>?_⟩;rw[List.append_assoc];exact J.left.2 _ (.more hr ha pk hl)
         ·cases ha:r.ah with
          | none =>
           rw[ha]at aw4;have aw4:w4 = .non:=aw4;subst aw4;show 0<_;rw[hmu];omega
          | some y' =>
           rw[ha]at aw4;obtain⟨t',rfl,ht'⟩:=aw4;have wa:=wf.ah y r y' hr ha;rw[hmu];exact Nat.lt_of_le_of_lt (Nat.le_of_eq (jF ht')) (by omega)
        ·rw[hr]at hn4
         cases hn4
    ·rw[hn]at ly
     cases ly.1
  ·rintro σ H' Q1 Q2 hq ⟨v,e,hs,k,ek,r⟩
   exact⟨v,e,hs,k,ek,hq _ _ r⟩
def OkR(r:Rv):Prop:=ro4 r.lo r.hi≤0∧(r.lo=(0,0,0,1)∨(Fe r.lo∧Ff r.hi))
theorem lS{gt:Option (N4×N4)}{st tu:Option Rv}{sd td:Dor}{r:Rv}(h:pas gt st tu sd td=some r):∃p,gt=some p∧r.hi=p.2∧((r.lo=p.1∧tu.isSome=true∧r.ah=some td)∨∃r',st=some r'∧(r.lo=p.1∨r.lo=r'.lo)∧ro4 r.lo r.hi≤0∧r.ah=some sd):=by
 cases gt with
 | none=>cases h
 | some p =>
  refine⟨p,rfl,?_⟩;unfold pas at h;dsimp only at h
  split at h
  ·rename_i c
   cases h;exact⟨rfl,.inl ⟨rfl,c,rfl⟩⟩
  ·cases st with
   | none=>cases h
   | some r' =>
    dsimp only at h
    split at h
    ·rename_i c
     cases h;exact⟨rfl,.inr ⟨r',rfl,tD _ _,c,rfl⟩⟩
    ·cases h
theorem sU{gt:Option (N4×N4)}{st tu:Option Rv}{sd td:Dor}{r:Rv}(gk:∀p,gt=some p->(Fe p.1∧Ff p.2)∧ro4 p.1 p.2≤0)(hs:∀r',st=some r'->OkR r')(h:pas gt st tu sd td=some r):OkR r:=by
 obtain⟨p,hp,eh,⟨el,_,_⟩|⟨r',hr',el,c,_⟩⟩:=lS h
 ·have k:=gk p hp
  refine⟨by rw[el,eh];exact k.2,.inr ?_⟩;rw[el,eh];exact k.1
 ·have k:=gk p hp
  refine⟨c,?_⟩;rcases el with el|el
  ·rw[el,eh]
   exact .inr k.1
  ·rw[el,eh]
   exact(hs r' hr').2.imp_right fun z=>⟨z.1,k.1.2⟩
section
variable {wy:Str} {G:GF} {F:Int->Int->Bool} {n m:Nat}
theorem wT(gg:GGk G){U:Nat->Option Rv}(hu:∀j r,U j=some r->OkR r){i:Nat}:∀j r,Lc G U i j=some r->OkR r
 | 0,_,h=>by cases h
 | j+1,r,h=>sU (fun p hp=>⟨cJ (gg _ _ _ _ _ hp),jf (gg _ _ _ _ _ hp)⟩) (fun r' h'=>wT gg hu j r' h') h
theorem zr(gg:GGk G){j:Nat}{r:Rv}(h:bgR wy G F m j=some r):OkR r:=by
 unfold bgR at h
 split at h
 ·split at h
  ·cases h
   exact⟨by decide,.inl rfl⟩
  ·cases h
 ·split at h
  ·obtain⟨p,hp,rfl⟩:=Option.map_eq_some_iff.mp h
   exact⟨jf (gg _ _ _ _ _ hp),.inr (cJ (gg _ _ _ _ _ hp))⟩
  ·cases h
theorem rT(gg:GGk G):∀i j r,Uc G (bgR wy G F m) i j=some r->OkR r
 | 0,j,r,h=>zr gg h
 | i+1,j,r,h=>sU (fun p hp=>⟨cJ (gg _ _ _ _ _ hp),jf (gg _ _ _ _ _ hp)⟩) (fun r' h'=>rT gg i j r' h') h
theorem zt{j:Nat}{r:Rv}(h:bgR wy G F m j=some r):r.ah=none:=by
 unfold bgR at h
 split at h
 ·split at h
  ·cases h;rfl
  ·cases h
 ·split at h
  ·obtain⟨p,hp,rfl⟩:=Option.map_eq_some_iff.mp h
   rfl
  ·cases h
theorem mn{x:Dor}{r:Rv}(h:RR wy G F n m x=some r):(∃i j:Nat,x=(0,(i:Int),(j:Int))∧i≤n∧j<m∧Uc G (bgR wy G F m) i j=some r)∨∃i j:Nat,x=(1,(i:Int),(j:Int))∧i<n∧j≤m∧Lc G (Uc G (bgR wy G F m) i) i j=some r:=by
 unfold RR at h
 split at h
 ·rename_i c
  exact .inl ⟨x.2.1.toNat,x.2.2.toNat,Prod.ext c.1 (Prod.ext (by show x.2.1=((x.2.1.toNat:Nat):Int);omega) (by show x.2.2=((x.2.2.toNat:Nat):Int);omega)),by omega,by omega,h⟩
 ·split at h
  ·rename_i c
   exact .inr ⟨x.2.1.toNat,x.2.2.toNat,Prod.ext c.1 (Prod.ext (by show x.2.1=((x.2.1.toNat:Nat):Int);omega) (by show x.2.2=((x.2.2.toNat:Nat):Int);omega)),by omega,by omega,h⟩
  ·cases h
theorem wG{K:W.Frag}(gg:GGk G)(hn:n≤20)(hm:m≤20):Gq K (RR wy G F n m):=by
 have ok:∀x r,RR wy G F n m x=some r->OkR r:=fun x r h=>by
  rcases mn h with⟨i,j,_,_,_,h⟩|⟨i,j,_,_,_,h⟩
  ·exact rT gg i j r h
  ·exact wT gg (fun j r h=>rT gg i j r h) j r h
 refine⟨fun x r h=>?_,fun x r h=>(ok x r h).1,fun x r h=>(ok x r h).2,fun x r y h ha=>?_⟩
 ·rcases mn h with⟨i,j,rfl,_,_,_⟩|⟨i,j,rfl,_,_,_⟩
  ·exact⟨.inl rfl,⟨by show(0:Int)≤i;omega,by show(i:Int)≤1000;omega⟩,by show(0:Int)≤j;omega,by show(j:Int)≤1000;omega⟩
  ·exact⟨.inr rfl,⟨by show(0:Int)≤i;omega,by show(i:Int)≤1000;omega⟩,by show(0:Int)≤j;omega,by show(j:Int)≤1000;omega⟩
 ·rcases mn h with⟨i,j,rfl,hi,hj,h⟩|⟨i,j,rfl,hi,hj,h⟩
  ·cases i with
   | zero=>rw[zt h]at ha;cases ha
   | succ i =>
    obtain⟨p,_,_,⟨_,ht,ea⟩|⟨r',hr',_,_,ea⟩⟩:=lS h
    ·rw[ea]at ha
     cases ha;exact⟨by rw[rO (by omega) (by omega)];exact ht,by unfold fR;show((i:Int)+j).toNat<(((i+1:Nat):Int)+j).toNat;omega⟩
    ·rw[ea]at ha
     cases ha;exact⟨by rw[o0 (by omega) (by omega),hr'];rfl,by unfold fR;show((i:Int)+j).toNat<(((i+1:Nat):Int)+j).toNat;omega⟩
  ·cases j with
   | zero=>cases h
   | succ j =>
    obtain⟨p,_,_,⟨_,ht,ea⟩|⟨r',hr',_,_,ea⟩⟩:=lS h
    ·rw[ea]at ha
     cases ha;exact⟨by rw[o0 (by omega) (by omega)];exact ht,by unfold fR;show((i:Int)+j).toNat<((i:Int)+((j+1:Nat):Int)).toNat;omega⟩
    ·rw[ea]at ha
     cases ha;exact⟨by rw[rO (by omega) (by omega),hr'];rfl,by unfold fR;show((i:Int)+j).toNat<((i:Int)+((j+1:Nat):Int)).toNat;omega⟩
end
def wq(wy:Str)(n m:Nat)(G:GF)(F:Int->Int->Bool)(ps:List Pr):Prop:=∃(x:Dor) (l:List (Dor×Int×Int)) (ps0:List Pr),((iq wy n m).filter fun x=>(RR wy G F n m x).isSome)[0]? = some x∧Bk (RR wy G F n m) none x l∧l.length≤60∧Paired iG l.reverse ps0∧((wy=wOn∧F n m=false∧∃q,ps=ps0++[q]∧prC q ((n:Int),(m:Int)))∨(wy=bH∧ps=ps0))
inductive F3 (K:W.Frag) (C:Addr) (vs:List V) (H:Hp) (Q:VK) (x_3:XK):Prop
 | mk:∀(fo:Addr) (n m:Nat) (room:Int) (G:GF) (F:Int->Int->Bool) (wy:Str),(vs = [.ref fo,.str wy])->(Aj K C H fo n m room G F)->((1≤n∧n≤20))->((1≤m∧m≤20))->((wy=wOn∨wy=bH))->(GGk G)->((∀H',Same H H'->NoW wy n m G F->Q .non H'))->(∀r H' ps,Same H H'->H r=none->wq wy n m G F ps->E8 H' r ps->Q (.ref r) H')->F3 K C vs H Q x_3
theorem AU:zZ ["field","way","reached","ends","walk"] ["field","way"] (am (top 70)):=smk
theorem iN(BQ:Df K mg "walk_through" (top 70))(z9:Dy K mg "Field" C_Field)(n_room:aI K C_Field "room")(n_last:aI K C_Field "last")(n_doors:aI K C_Field "doors")(n_far:aI K C_Field "far")(Bv:Fn P w K mg base "doors_reached" ["field","way"] 6 (Ge K C_Field))(BN:Fn P w K mg base "doors_at_end" ["last","way"] 1 Gg)(Dc:Fn P w K mg base "pairs_to" ["reached","door"] 7 (Fo K))(Al:Fn P w K mg base "pair_at_corner" ["corner"] 1 DS)(T:Txt mg):Fn P w K mg base "walk_through" ["field","way"] 8 (F3 K C_Field):=by
 refine BQ.fn AU (fun _ _ _ _ _ _ us hl=>by obtain⟨_,_,rfl⟩:=dw hl;rfl) (fun vs H Q E h=>?_) (fun f cdv A outer s H vs Q E hr h=>?_)
 ·obtain⟨fo,n,m,room,G,F,wy,rfl,_⟩:=h
  rfl
 ·obtain⟨fo,n,m,room,G,F,wy,rfl,fa,⟨hn,hn20⟩,⟨hm,hm20⟩,hw,gg,q0,q1⟩:=h
  have CN:DN (bE CX0 P w K mg base ["field","way","reached","ends","walk"] "walk_through" (am (top 70)) f cdv A outer s H E).nox (lcA (top 70) 0) [("reached",s.heap.objs.size+1)] ["door"] [("reached",2)] :=
   ⟨by rfl,rfl,by decide +kernel,by decide +kernel,(fun x hx=>by simp only[List.mem_cons,List.not_mem_nil,or_false]at hx;subst hx;rfl),(fun p hp=>by simp only[List.mem_cons,List.not_mem_nil,or_false]at hp;subst hp;rfl),by rfl,by decide +kernel,(fun p hp=>by simp only[List.mem_cons,List.not_mem_nil,or_false]at hp;subst hp;exact⟨rfl,rfl,.inr (.inl rfl),rfl,rfl⟩),⟨rfl,rfl⟩,rfl⟩
  obtain⟨dx,lt,d0,fr,hf,hl,_,fd⟩:=fa.ex;have wf:Gq K (RR wy G F n m):=wG gg hn20 hm20;have R1:∃u:TS,PSs (bE CX0 P w K mg base ["field","way","reached","ends","walk"] "walk_through" (am (top 70)) f cdv A outer s H E).nox ((aK (top 70)).drop 1) u∧∀(H1:Hp),Same H H1->(wy=wOn->F n m=false)->u { nx:=fun _ H'=>Q .non H',rt:=Q } [some (.ref fo),some (.str wy),none,none,none] H1:=by
   refine⟨_,(ai (ap (i:=2) AU.nd rfl (Or.inr rfl) (aA Bv (hr.mono (by decide)) (by rfl) (ad (pv 0) (ad (pv 1) ag)))) (ai (iA (j:=3) rfl CN AU.nd rfl rfl (fH (aA BN (hr.mono (by decide)) (by rfl) (ad (bR (pv 0) rfl) (ad (pv 1) ag)))) (fun fp s₀ H₀=>(aS (i:=0) CN.nd rfl (Or.inl rfl) (Or.inr rfl))) (fun fp s₀ H₀=>(lK (g8 (lR (bT hr) (pv 0) (pv 1)) (by rfl)))) (fun fp s₀ H₀=>(pv 0))) (ai (aL (az bS (aT a6 (by rfl) T.z_len dL (ad (pv 3) ag)) af (aE _)) (ak (ay aW)) aF) (ai (ap (i:=4) AU.nd rfl (Or.inl rfl) (aA Dc (hr.mono (by decide)) (by rfl) (ad (pv 2) (ad (aw cr (pv 3) af (fun _ _=>rfl)) ag)))) (ai (aL (az bS (pv 1) db (aE _)) (ak (bD (dG PySem.F.plainAttrs_list PySem.F.slot_list_append PySem.F.type_list_append aZ (pv 4) (ad (aA Al (hr.mono (by decide)) (by rfl) (ad (bR (pv 0) rfl) ag)) ag)))) aF) (ak (ay (pv 4)))))))),fun H1 S1 hF=>?_⟩;refine⟨_,rfl,_,rfl,fo,n,m,room,G,F,wy,rfl,fa.mono S1,⟨hn,hn20⟩,⟨hm,hm20⟩,hw,fun d H2 s2 nd rp2=>?_⟩;have S2:=S1.trans s2;refine⟨_,rfl,fo,C_Field,dx,_,_,rfl,S2 _ _ hf,z9.cls,n_last,rfl,_,rfl,lt,n,m,wy,rfl,S2 _ _ hl,hm20,hw,fun r3 H3 s3 n3 ⟨v3,e3,p3⟩=>?_⟩;have S3:=S2.trans s3;have rp3:=rp2.mono s3;have l3:=Paired.length p3;have le:(iq wy n m).length≤30:=by
    unfold iq
    split
    ·simp
    ·rw[List.length_map,List.length_range];omega
   refine⟨r3,rfl,⟨_,SqL.of e3⟩,rH (K:=K) (k:=1) e3 (by omega) (DrV H3) p3 (fun x=>(RR wy G F n m x).isSome) ?_ ?_⟩
   ·intro e x H4 τ Kc Kn he hre s4 hτ kc kn
    obtain⟨τ0,rfl⟩:∃τ0,τ = [τ0]:=d9 hτ;obtain⟨t,rfl,ht⟩:=hre;refine⟨⟨[some (.ref t)],rfl,rfl⟩,?_⟩;obtain⟨o,dg,ho⟩:=(rp3.mono s4).get (s4 _ _ ht);refine⟨_,rfl,_,rfl,d,o,rfl,dg,?_⟩;rcases ho with⟨r,v,hr,rfl,_⟩|⟨hr,rfl⟩
    ·exact⟨_,rfl,bL rfl ⟨_,rfl,kc (by rw[hr];rfl) H4 (Same.refl _)⟩⟩
    ·exact⟨_,rfl,bw rfl (kn (by rw[hr];rfl) H4 (Same.refl _))⟩
   ·intro r4 ys H4 nr4 s4 f4 pr4
    have S4:=S3.trans s4;have yl:=Paired.length pr4;refine⟨_,rfl,r4,_,rfl,.inl (SqL.of f4),rfl,_,rfl,?_⟩;rw[di];refine aR (fun c=>?_) (fun c=>?_)
    ·have c:ys.length=0:=by have:=bz c;omega
     have nil:∀x∈iq wy n m,RR wy G F n m x=none:=fun x hx=>by
      cases h:RR wy G F n m x with
      | none=>rfl
      | some r =>
       have:x∈(iq wy n m).filter fun x=>(RR wy G F n m x).isSome:=List.mem_filter.mpr ⟨hx,by rw[h];rfl⟩;have z:((iq wy n m).filter fun x=>(RR wy G F n m x).isSome) = []:=List.length_eq_zero_iff.mp (by omega);rw[z]at this;cases this
     refine q0 H4 S4 ⟨fun hw'=>.inr ?_,fun hw' j hj=>nil _ ?_⟩
     ·have e1:(n:Int) - 1=((n - 1:Nat):Int):=by omega
      have e2:(m:Int) - 1=((m - 1:Nat):Int):=by omega
      rw[<- e1,<- e2];unfold iq at nil;rw[if_pos hw']at nil;exact⟨nil _ List.mem_cons_self,nil _ (List.mem_cons_of_mem _ List.mem_cons_self)⟩
     ·unfold iq
      rw[if_neg (fun z=>dj (z.symm.trans hw'))];exact List.mem_map.mpr ⟨j,List.mem_range.mpr hj,rfl⟩
    ·have c:ys.length≠0:=fun z=>bU c (by rw[z];rfl)
     obtain⟨v0,hv0⟩:∃v0,ys[0]? = some v0:=⟨ys[0]'(by omega),List.getElem?_eq_getElem _⟩;obtain⟨x0,hx0,t0,rfl,ht0⟩:=cR pr4 0 v0 hv0;have mx:=List.mem_filter.mp (List.mem_of_getElem? hx0);have hsx:(RR wy G F n m x0).isSome=true:=mx.2;have rk:fR x0≤50:=by
      obtain⟨r,hr⟩:=Option.isSome_iff_exists.mp hsx;rcases mn hr with⟨i,j,rfl,_,_,_⟩|⟨i,j,rfl,_,_,_⟩
      ·unfold fR;show((i:Int)+j).toNat≤50;omega
      ·unfold fR;show((i:Int)+j).toNat≤50;omega
     refine⟨_,rfl,_,rfl,r4,_,_,_,rfl,rfl,SqL.of f4,eD (j:=0) hv0,d,t0,RR wy G F n m,900,x0,rfl,rp3.mono s4,wf,s4 _ _ ht0,⟨hsx,by omega⟩,fun r5 H5 l ps0 s5 n5 bk ln pp pr=>?_⟩;have S5:=S4.trans s5;have pl:=Paired.length pr;rw[List.length_reverse]at pl;refine⟨_,rfl,rfl,_,rfl,aR (fun c2=>?_) (fun c2=>?_)⟩
     ·have c2:wy=wOn:=bz (ds c2)
      refine⟨_,rfl,.inl ⟨rfl,_,SqL.of pp.lst⟩,_,rfl,fo,C_Field,dx,_,_,rfl,S5 _ _ hf,z9.cls,n_last,rfl,lt,(n:Int),(m:Int),rfl,S5 _ _ hl,⟨by omega,by omega⟩,⟨by omega,by omega⟩,fun q' H6 s6 pq cq=>?_⟩;have pp6:=pp.mono s6;refine⟨r5,_,_,rfl,rfl,pp6.lst,aM (by rw[cX];omega),fun H7 u=>⟨_,rfl,?_⟩⟩;have S6:=S5.trans s6;have nr5:H r5=none:=S4.free n5;refine q1 r5 H7 (ps0++[q']) (fun b o e=>u.at (fun z=>by rw[z,nr5]at e;cases e) (S6 b o e)) nr5 ⟨x0,l,ps0,hx0,bk,by omega,pr,.inl ⟨c2,hF c2,q',rfl,cq⟩⟩ ⟨by rw[u.now,dN],fun z hz=>?_⟩;rcases List.mem_append.mp hz with hz|hz
      ·exact(pp6.pr z hz).t u.t
      ·rw[List.mem_singleton.mp hz]
       exact pq.two.t u.t
     ·have c2:¬wy=wOn:=bU (ds c2)
      exact⟨_,rfl,q1 r5 H5 ps0 S5 (S4.free n5) ⟨x0,l,ps0,hx0,bk,by omega,pr,.inr ⟨hw.resolve_left c2,rfl⟩⟩ pp⟩
  obtain⟨u1,hu1,h1⟩:=R1;refine⟨_,(ai (aL (jz (az bS (pv 1) db (aE _)) (i9 (g8 (lR (bT hr) (bR (pv 0) rfl) (bR (pv 0) rfl)) (by rfl)))).pt (ak (ay aW)) aF) hu1),?_⟩;refine⟨_,rfl,rfl,_,rfl,aR (fun c=>?_) (fun c=>?_)⟩
  ·have c:wy=wOn:=bz (ds c)
   obtain⟨o',dg',ho'⟩:=fd.get (x:=(n:Int)) (y:=(m:Int)) hl;refine⟨_,rfl,fo,C_Field,dx,_,_,rfl,hf,z9.cls,n_last,rfl,_,rfl,fo,C_Field,dx,_,_,rfl,hf,z9.cls,n_far,rfl,fr,o',rfl,dg',_,rfl,aR (fun h=>?_) (fun h=>?_)⟩
   ·rw[ho',decide_eq_true_eq]at h
    exact q0 H (Same.refl _) ⟨fun _=>.inl (du.mp h).2.2.2.2,fun z=>absurd (c.symm.trans z) dj⟩
   ·rw[ho',decide_eq_false_iff_not]at h
    refine h1 H (Same.refl _) fun _=>?_;cases e:F n m with
    | false=>rfl
    | true=>exact absurd (du.mpr ⟨by omega,by omega,by omega,by omega,e⟩) h
  ·have c:¬wy=wOn:=bU (ds c)
   exact h1 H (Same.refl _) fun z=>absurd z c
inductive Fw (vs:List V) (H:Hp) (Q:VK) (x_3:XK):Prop
 | mk:∀(c lt:Addr) (x y n m:Int) (wy:Str),(vs = [.ref c,.ref lt,.str wy])->(H c=some (.tup [.int x,.int y]))->(H lt=some (.tup [.int n,.int m]))->(Q (.bl (decide (y=m) || (decide (wy≠bH) && decide (x=0)))) H)->Fw vs H Q x_3
inductive Fu (vs:List V) (H:Hp) (Q:VK) (x_3:XK):Prop
 | mk:∀(c lt:Addr) (x y n m:Int) (wy:Str),(vs = [.ref c,.ref lt,.str wy])->(H c=some (.tup [.int x,.int y]))->(H lt=some (.tup [.int n,.int m]))->(Q (.bl (decide (y=0) || (decide (wy≠bH) && decide (x=n)))) H)->Fu vs H Q x_3
theorem ds'{u v:Str}:decide (V.str u=V.str v)=decide (u=v):=(ds rfl).symm
theorem DZ:zZ ["corner","last","way"] ["corner","last","way"] (am (top 44)):=smk
theorem iV(BY:Df K mg "begins_fence" (top 44)):Fn P w K mg base "begins_fence" ["corner","last","way"] 1 Fw:=by
 refine BY.fn DZ (fun _ _ _ _ _ _ us hl=>by obtain⟨_,_,_,rfl⟩:=iL hl;rfl) (fun vs H Q E h=>?_) (fun f cdv A outer s H vs Q E hr h=>?_)
 ·obtain⟨c,lt,x,y,n,m,wy,rfl,_⟩:=h
  rfl
 ·obtain⟨c,lt,x,y,n,m,wy,rfl,hc,hl,q⟩:=h
  refine⟨_,(ak (ay (wN (cY bS (aw au (pv 0) af (fun _ _=>rfl)) (aw au (pv 1) af (fun _ _=>rfl)) (aE _)) (h8 (lQ (cY kW (pv 2) db (aE _)) (h8 (cY bS (aw au (pv 0) af (fun _ _=>rfl)) af (aE _)))))))),?_⟩;refine⟨_,rfl,c,_,_,_,rfl,rfl,SqT.of hc,rfl,_,rfl,lt,_,_,_,rfl,rfl,SqT.of hl,rfl,rfl,_,rfl,?_⟩;rw[di];refine aR (fun h1=>?_) (fun h1=>?_)
  ·rw[h1,Bool.true_or]at q
   exact q
  rw[h1,Bool.false_or]at q;refine⟨_,rfl,rfl,_,rfl,?_⟩;rw[show(!decide (V.str wy=V.str "part"))=decide (wy≠bH) by rw[ds',decide_not];rfl];refine aR (fun h2=>?_) (fun h2=>?_)
  ·rw[h2,Bool.true_and]at q
   refine⟨_,rfl,c,_,_,_,rfl,rfl,SqT.of hc,rfl,rfl,?_⟩;rw[di];exact q
  ·rw[h2,Bool.false_and]at q
   exact q
theorem Et:zZ ["corner","last","way"] ["corner","last","way"] (am (top 45)):=smk
theorem kr(CL:Df K mg "ends_fence" (top 45)):Fn P w K mg base "ends_fence" ["corner","last","way"] 1 Fu:=by
 refine CL.fn Et (fun _ _ _ _ _ _ us hl=>by obtain⟨_,_,_,rfl⟩:=iL hl;rfl) (fun vs H Q E h=>?_) (fun f cdv A outer s H vs Q E hr h=>?_)
 ·obtain⟨c,lt,x,y,n,m,wy,rfl,_⟩:=h
  rfl
 ·obtain⟨c,lt,x,y,n,m,wy,rfl,hc,hl,q⟩:=h
  refine⟨_,(ak (ay (wN (cY bS (aw au (pv 0) af (fun _ _=>rfl)) af (aE _)) (h8 (lQ (cY kW (pv 2) db (aE _)) (h8 (cY bS (aw au (pv 0) af (fun _ _=>rfl)) (aw au (pv 1) af (fun _ _=>rfl)) (aE _)))))))),?_⟩;refine⟨_,rfl,c,_,_,_,rfl,rfl,SqT.of hc,rfl,rfl,_,rfl,?_⟩;rw[di];refine aR (fun h1=>?_) (fun h1=>?_)
  ·rw[h1,Bool.true_or]at q
   exact q
  rw[h1,Bool.false_or]at q;refine⟨_,rfl,rfl,_,rfl,?_⟩;rw[show(!decide (V.str wy=V.str "part"))=decide (wy≠bH) by rw[ds',decide_not];rfl];refine aR (fun h2=>?_) (fun h2=>?_)
  ·rw[h2,Bool.true_and]at q
   refine⟨_,rfl,c,_,_,_,rfl,rfl,SqT.of hc,rfl,_,rfl,lt,_,_,_,rfl,rfl,SqT.of hl,rfl,rfl,?_⟩;rw[di];exact q
  ·rw[h2,Bool.false_and]at q
   exact q
structure FJ(l:N4):Prop where
 b0:aq l.1≤240
 b1:aq l.2.1≤2
 b2:aq l.2.2.1≤470
 b3:aq l.2.2.2≤240
 p2:0≤l.2.2.1
 p3:1≤l.2.2.2
theorem Nm.nb{K:W.Frag}{H:Hp}{p:Addr}{l:N4}(h:Nm K H p l):FJ l:=⟨h.b0,h.b1,h.b2,h.b3,h.p2,h.p3⟩
theorem FJ.nm{K:W.Frag}{H:Hp}{p:Addr}{l:N4}(h:FJ l)(t:TpK K H p (n4 l)):Nm K H p l:=⟨t,h.b0,h.b1,h.b2,h.b3,h.p2,h.p3⟩
def xT(x:Dor):Prop:=(x.1=0∨x.1=1)∧(0≤x.2.1∧x.2.1≤1000)∧0≤x.2.2∧x.2.2≤1000
def wD:Lb->Prop
 | .no=>True
 | .key _=>False
 | .bend d e l m=>∃x y:Dor,d=dkD x∧e=dkD y∧xT x∧xT y∧(Ff l∧Fe m)∧ro4 l m<0∧FJ l∧FJ m
def lB:Lb->List Pr->Prop
 | .bend d e l m,ps=>∃(x y:Dor) (t u:Int) (q1 q2:Pr),d=dkD x∧e=dkD y∧Wi l.1 l.2.1 l.2.2.1 l.2.2.2 m.1 m.2.1 m.2.2.1 m.2.2.2 t u∧iG (x,t,u) q1∧iG (y,t,u) q2∧ps = [q1,q2]
 | _,ps=>ps = []
inductive F7 (K:W.Frag) (vs:List V) (H:Hp) (Q:VK) (x_3:XK):Prop
 | mk:∀(v:V) (lb:Lb),(vs = [v])->(iY K H v lb)->(wD lb)->(∀(r:Addr) (H':Hp) (ps:List Pr),Same H H'->H r=none->lB lb ps->E8 H' r ps->Q (.ref r) H')->F7 K vs H Q x_3
theorem xW{P U L a0 a1 a2 a3 t u:Int}(hL:0<L)(hU:0≤U)(hu:0<u)(a2n:0≤a2)(a3p:0<a3)(h:0≤P∨P*P≤U)(w:Wi P 1 U L a0 a1 a2 a3 t u):0≤t:=by
 obtain⟨m1,_⟩:=w.mid hU hL a2n a3p;rcases Int.lt_or_le t 0 with y|y
 ·exfalso
  rw[bM (show 0≤1*u by omega)]at m1;have tl:t*L<0:=Int.mul_neg_of_neg_of_pos y hL;have e1:1*u*(1*u)*U=u*u*U:=by grind
  have u2:=Int.mul_nonneg (Int.mul_nonneg (show 0≤u by omega) (show 0≤u by omega)) hU;rcases h with h|h
  ·have:=Int.mul_nonneg h (show 0≤u by omega)
   rw[bM (show 0≤P*u - t*L by omega)]at m1;have:=sqx (P*u - t*L);omega
  ·rcases Int.lt_or_le (P*u - t*L) 0 with z|z
   ·rw[a9 (by omega)]at m1
    have b1:=dm (show 0≤-(P*u - t*L) by omega) (show -(P*u - t*L)≤-(P*u) by omega);have b2:=Int.mul_le_mul_of_nonneg_left h (show 0≤u*u from Int.mul_nonneg (by omega) (by omega));have e2:-(P*u) * -(P*u)=u*u*(P*P):=by grind
    have e3:-(P*u - t*L) * -(P*u - t*L)=(P*u - t*L)*(P*u - t*L):=by grind
    omega
   ·rw[bM z]at m1
    have:=sqx (P*u - t*L);omega
 ·exact y
theorem xX{a0 a1 a2 a3 P U L t u:Int}(hL:0<L)(hU:0≤U)(hu:0<u)(a2n:0≤a2)(a3p:0<a3)(h:P - L≤0∨(P - L)*(P - L)≤U)(w:Wi a0 a1 a2 a3 P (-1) U L t u):t≤u:=by
 obtain⟨_,m2⟩:=w.mid a2n a3p hU hL;rcases Int.lt_or_le u t with y|y
 ·exfalso
  rw[show - -1*u=u by omega,bM (show 0≤u by omega)]at m2;have tl:u*L<t*L:=Int.mul_lt_mul_of_pos_right y hL;have u2:=Int.mul_nonneg (Int.mul_nonneg (show 0≤u by omega) (show 0≤u by omega)) hU;have e0:(P - L)*u=P*u - u*L:=by grind
  rcases h with h|h
  ·have:=Int.mul_nonpos_of_nonpos_of_nonneg h (show 0≤u by omega)
   rw[bM (show 0≤t*L - P*u by omega)]at m2;have:=sqx (t*L - P*u);omega
  ·rcases Int.lt_or_le (t*L - P*u) 0 with z|z
   ·rw[a9 (by omega)]at m2
    have b1:=dm (show 0≤-(t*L - P*u) by omega) (show -(t*L - P*u)≤(P - L)*u by omega);have b2:=Int.mul_le_mul_of_nonneg_left h (show 0≤u*u from Int.mul_nonneg (by omega) (by omega));have e2:(P - L)*u*((P - L)*u)=u*u*((P - L)*(P - L)):=by grind
    have e3:-(t*L - P*u) * -(t*L - P*u)=(t*L - P*u)*(t*L - P*u):=by grind
    omega
   ·rw[bM z]at m2
    have:=sqx (t*L - P*u);omega
 ·exact y
theorem Br:zZ ["bend","gap","part"] ["bend"] (am (top 60)):=smk
theorem ik{C:Addr}(Bx:Df K mg "pairs_of_bend" (top 60))(Au:Fx P w K mg base "root_between" ["one","other"] 5 [] (FE K C))(An:Fn P w K mg base "pair_in_door" ["door","part"] 4 E2):Fn P w K mg base "pairs_of_bend" ["bend"] 7 (F7 K):=by
 refine Bx.fn Br (fun _ _ _ _ _ _ us hl=>by obtain⟨_,rfl⟩:=d9 hl;rfl) (fun vs H Q E h=>?_) (fun f cdv A outer s H vs Q E hr h=>?_)
 ·obtain⟨v,lb,rfl,_⟩:=h
  rfl
 ·obtain⟨v,lb,rfl,hv,ok,k⟩:=h
  refine⟨_,(ai (aL (az fU (pv 0) aW (aE _)) (ak (ay (aX ag))) aF) (ai (ap (i:=1) Br.nd rfl (Or.inl rfl) (aw au (pv 0) af (fun _ _=>rfl))) (ai (ap (i:=2) Br.nd rfl (Or.inl rfl) (eW Au (hr.mono (by decide)) (by rfl) (ad (aw au (pv 1) af (fun _ _=>rfl)) (ad (aw au (pv 1) af (fun _ _=>rfl)) ag)))) (ak (ay (aX (ad (aA An (hr.mono (by decide)) (by rfl) (ad (aw au (pv 0) af (fun _ _=>rfl)) (ad (pv 2) ag))) (ad (aA An (hr.mono (by decide)) (by rfl) (ad (aw au (pv 0) af (fun _ _=>rfl)) (ad (pv 2) ag))) ag)))))))),?_⟩;cases lb with
  | key d=>exact ok.elim
  | no =>
   have hv:v = .non:=hv;subst hv;exact⟨_,rfl,rfl,_,rfl,bL rfl ⟨sz (by simp),fun r H1 s1 f1 n1=>k r H1 [] s1 n1 rfl ⟨f1,fun q hq=>nomatch hq⟩⟩⟩
  | bend d e l m =>
   obtain⟨t,p,q,gp,a,b,rfl,ht,hp,hq,hg,ta,tb⟩:=hv;obtain⟨x,y,rfl,rfl,kx,ky,⟨hl,hm⟩,lt,b1,b2⟩:=ok;have nm1:Nm K H a l:=b1.nm ta;have nm2:Nm K H b m:=b2.nm tb;refine⟨_,rfl,rfl,_,rfl,bw (by simp) ?_⟩;refine⟨_,rfl,t,_,_,_,rfl,rfl,SqT.of ht,rfl,?_⟩;have rg:∀{t u:Int},Wi l.1 l.2.1 l.2.2.1 l.2.2.2 m.1 m.2.1 m.2.2.1 m.2.2.2 t u->0<u->0≤t∧t≤u:=fun {t u} w hu=>by
    cases hl with
    | e =>
     exfalso;cases hm with
     | b=>exact absurd lt (by decide)
     | n hL hU h _ =>
      have h1:=qb (L:=_) hU h;rw[gD]at lt;have h1:ro4 (_,-1,_,_) (1,0,0,1)≤0:=h1;omega
    | @n P U L hL hU h z=>cases hm with
     | b =>
      exfalso;have h1:ro4 (0,0,0,1) (P,1,U,L)≤0:=jK hU h;rw[gD]at lt;omega
     | @n P' U' L' hL' hU' h' z'=>exact⟨xW hL hU hu hU' hL' h w,xX hL' hU' hu hU hL h' w⟩
   refine⟨_,rfl,gp,_,_,_,rfl,rfl,SqT.of hg,rfl,_,rfl,gp,_,_,_,rfl,rfl,SqT.of hg,rfl,a,b,l.1,l.2.1,l.2.2.1,l.2.2.2,m.1,m.2.1,m.2.2.1,m.2.2.2,240,235,11,2600,rfl,nm1.rt,nm2.rt,⟨b1.p2,b1.p3,b2.p2,b2.p3,b1.b0,ar b1.b1 (by decide),b1.b2,b2.b0,ar b2.b1 (by decide),b2.b2,by decide,by decide⟩,⟨by decide,by decide,by decide⟩,(fun z=>by have lt:ro l.1 l.2.1 l.2.2.1 l.2.2.2 m.1 m.2.1 m.2.2.1 m.2.2.2<0:=lt;omega),(fun z=>by have lt:ro l.1 l.2.1 l.2.2.1 l.2.2.2 m.1 m.2.1 m.2.2.1 m.2.2.2<0:=lt;omega),fun _=>⟨pZ nm1 nm2 lt,fun tp t' u' H1 s1 f1 wi bt bu=>?_⟩⟩;have hlw:EB t' u':=by
    obtain⟨_,_,_,_,_,_,_,_,_,h5⟩:=id wi;exact h5.low
   have r2:=rg wi hlw.pos;have fr:Fg H1 tp t' u' 2600:=⟨f1,hlw,bt,bu⟩;refine⟨_,rfl,t,_,_,_,rfl,rfl,SqT.of (s1 _ _ ht),rfl,_,rfl,p,tp,x.1,x.2.1,x.2.2,t',u',rfl,s1 _ _ hp,kx.1,kx.2.1,kx.2.2,⟨fr,r2.1,r2.2⟩,fun q1 H2 s2 pq1 dp1=>?_⟩;have S2:=s1.trans s2;refine⟨_,rfl,t,_,_,_,rfl,rfl,SqT.of (S2 _ _ ht),rfl,_,rfl,q,tp,y.1,y.2.1,y.2.2,t',u',rfl,S2 _ _ hq,ky.1,ky.2.1,ky.2.2,⟨fr.mono s2,r2.1,r2.2⟩,fun q2 H3 s3 pq2 dp2=>⟨sz (by simp),fun r H4 s4 f4 n4=>?_⟩⟩;refine k r H4 [q1,q2] (S2.trans (s3.trans s4)) ((S2.trans s3).free n4) ⟨x,y,t',u',q1,q2,rfl,rfl,wi,dp1,dp2,rfl⟩ ⟨f4,fun z hz=>?_⟩;rcases List.mem_cons.mp hz with h|h
   ·rw[h]
    exact pq1.t (s3.trans s4).t
   ·rw[List.mem_singleton.mp h]
    exact pq2.t s4.t
theorem rn{room:Int}{gx gy:Option (N4×N4)}{l:N4×N4}(h:rz room gx gy=some l):∃p q,gx=some p∧gy=some q∧ro4 p.2 q.1<room∧l=(p.2,q.1):=by
 cases gx with
 | none=>cases h
 | some p=>cases gy with
  | none=>cases h
  | some q =>
   have h:(if ro4 p.2 q.1≥room then none else some (p.2,q.1))=some l:=h
   split at h
   ·cases h
   ·cases h
    exact⟨p,q,rfl,rfl,by omega,rfl⟩
def NbG(n m:Nat)(G:GF):Prop:=∀k i j l h,DIn n m k i j->G k i j=some (l,h)->FJ l∧FJ h
theorem Aj.nbg{K:W.Frag}{C:Addr}{H:Hp}{f:Addr}{n m:Nat}{room:Int}{G:GF}{F:Int->Int->Bool}(h:Aj K C H f n m room G F):NbG n m G:=by
 obtain⟨_,_,_,_,_,_,⟨_,d⟩,_⟩:=h.ex;obtain⟨_,_,_,a,_⟩:=d.ex;intro k i j l h di e;obtain⟨v,_,gv⟩:=a k i j di;rw[e]at gv;obtain⟨_,_,_,_,_,n1,n2⟩:=gv;exact⟨n1.nb,n2.nb⟩
theorem uj{n m:Nat}{G:GF}{k i j k' i' j':Int}{l:N4×N4}(gg:GGk G)(nb:NbG n m G)(dx:DIn n m k i j)(dy:DIn n m k' i' j')(h:rz 0 (G k i j) (G k' i' j')=some l):(Ff l.1∧Fe l.2)∧ro4 l.1 l.2<0∧FJ l.1∧FJ l.2:=by
 obtain⟨p,q,e1,e2,lt,rfl⟩:=rn h;exact⟨⟨(cJ (gg _ _ _ _ _ e1)).2,(cJ (gg _ _ _ _ _ e2)).1⟩,lt,(nb _ _ _ _ _ dx e1).2,(nb _ _ _ _ _ dy e2).1⟩
theorem jk{n m:Nat}{k i j:Int}(hn:n≤20)(hm:m≤20)(d:DIn n m k i j):xT (k,i,j):=by
 rcases d with⟨rfl,⟨h1,h2⟩,h3,h4⟩|⟨rfl,⟨h1,h2⟩,h3,h4⟩
 ·exact⟨.inl rfl,⟨h1,by show i≤1000;omega⟩,h3,by show j≤1000;omega⟩
 ·exact⟨.inr rfl,⟨h1,by show i≤1000;omega⟩,h3,by show j≤1000;omega⟩
theorem u4{n m:Nat}{G:GF}{F:Int->Int->Bool}(hn:n≤20)(hm:m≤20)(gg:GGk G)(nb:NbG n m G):∀s∈U n m,∀e∈lG 0 G F n m s,e.1∈U n m∧wD e.2:=by
 intro s hs e he;obtain⟨i,j,rfl,g1,g2,g3,g4⟩:=eY.mp hs;have he:e∈(dnS 0 G i j++ovS 0 G n m i j)++bkS F n m i j:=he;rcases List.mem_append.mp he with he|he
 ·rcases List.mem_append.mp he with he|he
  ·unfold dnS at he
   split at he
   ·cases he
   ·rename_i c
    split at he
    ·rw[List.mem_singleton.mp he]
     exact⟨eY.mpr ⟨_,_,rfl,g1,g2,by omega,by omega⟩,trivial⟩
    ·obtain⟨k,hk,he⟩:=List.mem_filterMap.mp he
     have hk:=List.mem_range.mp hk;unfold dnE at he;obtain⟨l,hl,rfl⟩:=Option.map_eq_some_iff.mp he;have dx:DIn n m 0 i (j - 1):=.inl ⟨rfl,⟨g1,g2⟩,by omega,by omega⟩;have dy:DIn n m 0 (k:Int) (j - 1):=.inl ⟨rfl,⟨by omega,by omega⟩,by omega,by omega⟩;exact⟨eY.mpr ⟨_,_,rfl,by omega,by omega,by omega,by omega⟩,(0,i,j - 1),(0,(k:Int),j - 1),rfl,rfl,jk hn hm dx,jk hn hm dy,uj gg nb dx dy hl⟩
  ·unfold ovS at he
   split at he
   ·cases he
   ·rename_i c
    split at he
    ·rw[List.mem_singleton.mp he]
     exact⟨eY.mpr ⟨_,_,rfl,by omega,by omega,g3,g4⟩,trivial⟩
    ·obtain⟨k,hk,he⟩:=List.mem_filterMap.mp he
     have hk:=List.mem_range.mp hk;unfold ovE at he;obtain⟨l,hl,rfl⟩:=Option.map_eq_some_iff.mp he;have dx:DIn n m 1 i j:=.inr ⟨rfl,⟨g1,by omega⟩,g3,g4⟩;have dy:DIn n m 1 i (j+1+(k:Int)):=.inr ⟨rfl,⟨g1,by omega⟩,by omega,by omega⟩;exact⟨eY.mpr ⟨_,_,rfl,by omega,by omega,by omega,by omega⟩,(1,i,j),(1,i,j+1+(k:Int)),rfl,rfl,jk hn hm dx,jk hn hm dy,uj gg nb dy dx hl⟩
 ·obtain⟨p,hp,rfl⟩:=List.mem_map.mp he
  obtain⟨h1,h2,h3,h4,_⟩:=du.mp (List.mem_filter.mp hp).1;exact⟨eY.mpr ⟨_,_,rfl,h1,h2,h3,h4⟩,trivial⟩
theorem u3{n m:Nat}{room:Int}{G:GF}{F:Int->Int->Bool}(hn:n≤20)(hm:m≤20):∀s∈U n m,(lG room G F n m s).length<1000:=by
 intro s hs;obtain⟨i,j,rfl,g1,g2,g3,g4⟩:=eY.mp hs;show((dnS room G i j++ovS room G n m i j)++bkS F n m i j).length<1000;have a:(dnS room G i j).length≤21:=by
  unfold dnS
  split
  ·exact Nat.zero_le _
  ·split
   ·show 1≤21;omega
   ·refine Nat.le_trans (List.length_filterMap_le _ _) ?_
    rw[List.length_range];omega
 have b:(ovS room G n m i j).length≤21:=by
  unfold ovS
  split
  ·exact Nat.zero_le _
  ·split
   ·show 1≤21;omega
   ·refine Nat.le_trans (List.length_filterMap_le _ _) ?_
    rw[List.length_range];omega
 have c:(bkS F n m i j).length<900:=by
  unfold bkS;rw[List.length_map];exact Nat.lt_of_le_of_lt (List.length_filter_le _ _) (jT hn hm)
 rw[List.length_append,List.length_append];omega
theorem oY{wy:Str}{n m:Nat}{F:Int->Int->Bool}:((kE wy n m F).map fun p=>ck p.1 p.2).Nodup:=by
 have nd:(kE wy n m F).Nodup:=by
  unfold kE ku;exact List.Pairwise.filter _ oU
 refine List.pairwise_map.mpr (List.Pairwise.imp (fun {a b} h z=>h ?_) nd);obtain⟨z1,z2⟩:=uF z;exact Prod.ext z1 z2
theorem uL{wy:Str}{n m:Nat}{F:Int->Int->Bool}:∀s∈(kE wy n m F).map fun p=>ck p.1 p.2,s∈U n m:=fun s hs=>by
 obtain⟨p,hp,rfl⟩:=List.mem_map.mp hs;obtain⟨g1,g2,g3,g4,_⟩:=du.mp (List.mem_filter.mp hp).1;exact eY.mpr ⟨_,_,rfl,g1,g2,g3,g4⟩
theorem vg{bs U:List aG}{stp:aG->List (aG×Lb)}{fin:aG->Bool}{l:List (aG×Lb)}(r:wx bs stp fin l)(hb:∀s∈bs,s∈U)(hs:∀s∈U,∀e∈stp s,e.1∈U∧wD e.2):∀(n:Nat) e,l[n]? = some e->e.1∈U∧wD e.2:=by
 have inU:=vj r hb (fun s h e he=>(hs s h e he).1);obtain⟨⟨s,r',rfl,h1⟩,h2,_⟩:=r;intro n;cases n with
 | zero=>intro e he;simp at he;subst he;exact⟨hb s h1,trivial⟩
 | succ k =>
  intro e he;have lt:=(List.getElem?_eq_some_iff.mp he).1;obtain⟨a,ha⟩:∃a,((s,Lb.no)::r')[k]? = some a:=⟨((s,Lb.no)::r')[k]'(by omega),by rw[List.getElem?_eq_getElem (by omega)]⟩;exact hs _ (inU k a ha) e (h2 k a e ha he)
theorem jy{p:Addr}{H H':Hp}{b:Addr}{ls:List (Pos×Str)}(s:dF p H H')(t:Tab H' p ls)(n:H' b=none):H b=none:=by
 cases e:H b with
 | none=>rfl
 | some o =>
  by_cases z:b=p
  ·obtain⟨ps,e1,_⟩:=t
   rw[z,e1]at n;cases n
  ·rw[s b o z e]at n
   cases n
def bC(H H':Hp):Prop:=∀b o,H b=some o->(∀ps,o≠.tbl ps)->H' b=some o
theorem bC.of{H H':Hp}(s:Same H H'):bC H H':=fun b o e _=>s b o e
theorem bC.refl(H:Hp):bC H H:=fun _ _ e _=>e
theorem bC.trans{H H1 H2:Hp}(a:bC H H1)(b:bC H1 H2):bC H H2:=fun c o e n=>b c o (a c o e n) n
theorem bC.t{H H':Hp}(s:bC H H'){b:Addr}{xs:List V}(e:H b=some (.tup xs)):H' b=some (.tup xs):=s b _ e fun ps q=>by cases q
theorem bC.l{H H':Hp}(s:bC H H'){b:Addr}{xs:List V}(e:H b=some (.lst xs)):H' b=some (.lst xs):=s b _ e fun ps q=>by cases q
theorem bC.line{H H':Hp}(s:bC H H'){l:Addr}{qs:Crn}(L:LineM H l qs):LineM H' l qs:=⟨s.l L.lst,fun q hq=>⟨s.t (L.crn q hq).1,(L.crn q hq).2⟩⟩
theorem bC.seq{H H':Hp}(s:bC H H'){l:Addr}{xs:List V}(L:SqL K H l xs):SqL K H' l xs:=by
 rcases L with(h|⟨o,h⟩)|h
 ·exact .inl (.inl (s.l h))
 ·exact .inl (.inr ⟨o,s _ _ h fun ps q=>by cases q⟩)
 ·exact .inr h
theorem dF.n{p:Addr}{H H':Hp}{ls:List (Pos×Str)}(s:dF p H H')(t:Tab H p ls):bC H H':=fun b o e n=>s.keep t e n
theorem mz{K:W.Frag}{H H':Hp}{a:Addr}{xs:List V}(h:TpK K H a xs)(k:∀b o,H b=some o->(∀z,o≠KnO z)->(∀ps,o≠.tbl ps)->H' b=some o):TpK K H' a xs:=h.imp_left fun h=>k _ _ h (fun z q=>by cases q) (fun z q=>by cases q)
theorem Aj.keep{K:W.Frag}{C:Addr}{H H':Hp}{f:Addr}{n m:Nat}{room:Int}{G:GF}{F:Int->Int->Bool}(h:Aj K C H f n m room G F)(k:∀b o,H b=some o->(∀z,o≠KnO z)->(∀ps,o≠.tbl ps)->H' b=some o):Aj K C H' f n m room G F:=by
 obtain⟨dx,lt,d,fr,h1,h2,⟨c,⟨kvs,e,l,a,z⟩⟩,⟨o,h4⟩⟩:=h.ex;refine⟨dx,lt,d,fr,k _ _ h1 (fun z q=>by cases q) (fun z q=>by cases q),k _ _ h2 (fun z q=>by cases q) (fun z q=>by cases q),⟨c,⟨kvs,k _ _ e (fun z q=>by cases q) (fun z q=>by cases q),l,fun kk i j x=>?_,z⟩⟩,⟨o,k _ _ h4 (fun z q=>by cases q) (fun z q=>by cases q)⟩⟩;obtain⟨v,ev,g⟩:=a kk i j x;refine⟨v,ev,?_⟩;cases hg:G kk i j with
 | none=>rw[hg]at g;exact g
 | some lm =>
  rw[hg]at g;obtain⟨t,p,q,e,f,n1,n2⟩:=g;exact⟨t,p,q,e,k _ _ f (fun z q=>by cases q) (fun z q=>by cases q),⟨mz n1.at_ k,n1.b0,n1.b1,n1.b2,n1.b3,n1.p2,n1.p3⟩,⟨mz n2.at_ k,n2.b0,n2.b1,n2.b2,n2.b3,n2.p2,n2.p3⟩⟩
def qP:Str:="fence_past"++".<locals>."++"<lambda>"
def laP:Expr:=qt ((aK (top 61)).getD 1 (.Pass ⟨0,0,0,0⟩)) 1
def lbP:Expr:=qt ((aK (top 61)).getD 1 (.Pass ⟨0,0,0,0⟩)) 2
def lsP:List (Pos×Str):=[(dJ laP,qP),(dJ lbP,qP)]
inductive Fh:List (aG×Lb)->List Pr->Prop
 | nil:Fh [] []
 | cons {e:aG×Lb} {l:List (aG×Lb)} {bs ps:List Pr} {q:Pr} (hb:lB e.2 bs) (hq:prC q (dec e.1)) (r:Fh l ps):Fh (e::l) (bs++q::ps)
theorem Fh.snoc{e:aG×Lb}{l:List (aG×Lb)}{bs ps:List Pr}{q:Pr}(h:Fh l ps)(hb:lB e.2 bs)(hq:prC q (dec e.1)):Fh (l++[e]) ((ps++bs)++[q]):=by
 induction h with
 | nil=>exact .cons hb hq .nil
 | cons hb' hq' _ ih =>
  have:=Fh.cons hb' hq' ih;simpa only[List.cons_append,List.append_assoc]using this
theorem uJ{lb:Lb}{ps:List Pr}(h:lB lb ps):ps.length≤2:=by
 cases lb with
 | bend d e l m =>
  obtain⟨_,_,_,_,_,_,_,_,_,_,_,rfl⟩:=h;exact Nat.le_refl _
 | no=>rw[show ps = [] from h];exact Nat.zero_le _
 | key d=>rw[show ps = [] from h];exact Nat.zero_le _
def zy(wy:Str)(n m:Nat)(G:GF)(F:Int->Int->Bool)(ps:List Pr):Prop:=∃lst,wx ((kE wy n m F).map fun p=>ck p.1 p.2) (lG 0 G F n m) (rD wy n) lst∧om ((kE wy n m F).map fun p=>ck p.1 p.2) (lG 0 G F n m) (rD wy n) lst∧lst.length≤100∧Fh lst ps∧ps.length≤300
inductive Ga (K:W.Frag) (C t:Addr) (vs:List V) (H:Hp) (Q:VK) (x_3:XK):Prop
 | mk:∀(fo:Addr) (n m:Nat) (G:GF) (F:Int->Int->Bool) (wy:Str),(vs = [.ref fo,.str wy])->(Tab H t lsP)->(Aj K C H fo n m 0 G F)->(((1≤n∧n≤9)∧1≤m∧m≤9))->(GGk G)->(¬wv ((kE wy n m F).map fun p=>ck p.1 p.2) (lG 0 G F n m) (rD wy n))->(∀r H' ps,H r=none->dF t H H'->Tab H' t lsP->zy wy n m G F ps->E8 H' r ps->Q (.ref r) H')->Ga K C t vs H Q x_3
theorem AH:zZ ["field","way","begins","row","pairs","corner","bend"] ["field","way"] (am (top 61)):=smk
theorem ko{t_fence_past:Addr}(CJ:GD K mg "fence_past" (top 61) t_fence_past)(z9:Dy K mg "Field" C_Field)(n_room:aI K C_Field "room")(n_last:aI K C_Field "last")(n_doors:aI K C_Field "doors")(n_far:aI K C_Field "far")(BF:wF K mg)(ET:Fn P w K mg base "seek" ["begins","steps_from","is_end"] 10 (sr P w K mg base 8))(Cj:Fn P w K mg base "steps_from" ["field","corner"] 7 (F4 K C_Field))(BO:Fn P w K mg base "begins_fence" ["corner","last","way"] 1 Fw)(Cu:Fn P w K mg base "ends_fence" ["corner","last","way"] 1 Fu)(Al:Fn P w K mg base "pair_at_corner" ["corner"] 1 DS)(Bt:Fn P w K mg base "pairs_of_bend" ["bend"] 7 (F7 K))(T:Txt mg):Fn P w K mg base "fence_past" ["field","way"] 11 (Ga K C_Field t_fence_past):=by
 refine CJ.fn AH (fun _ _ _ _ _ _ us hl=>by obtain⟨_,_,rfl⟩:=dw hl;rfl) (fun vs H Q E h=>?_) (fun f cdv A outer s H vs Q E CF hr h=>?_)
 ·obtain⟨fo,n,m,G,F,wy,rfl,_⟩:=h
  rfl
 ·obtain⟨fo,n,m,G,F,wy,rfl,tb,fa,⟨⟨hn,hn20⟩,hm,hm20⟩,gg,nsh,q1⟩:=h
  obtain⟨c,ec,CF⟩:=CF;have CL_a:closureFor (dW laP) (bE CX0 P w K mg base ["field","way","begins","row","pairs","corner","bend"] "fence_past" (am (top 61)) f cdv A outer s H E).nox.env=pure ([("field",s.heap.objs.size+1)]:List (Str×Addr)):=by rfl
  have CL_b:closureFor (dW lbP) (bE CX0 P w K mg base ["field","way","begins","row","pairs","corner","bend"] "fence_past" (am (top 61)) f cdv A outer s H E).nox.env=pure ([("way",s.heap.objs.size+2),("field",s.heap.objs.size+1)]:List (Str×Addr)):=by rfl
  have CM_a:(dJ laP,qP)∈lsP:=List.mem_cons_self;have CM_b:(dJ lbP,qP)∈lsP:=List.mem_cons_of_mem _ List.mem_cons_self;have CD_a:∀l∈lsP,l≠(dJ laP,qP)->¬(l.1.line=(dJ laP).line∧l.1.col=(dJ laP).col):=by
   intro l hl ne;rcases List.mem_cons.mp hl with rfl|hl
   ·exact absurd rfl ne
   ·rw[List.mem_singleton.mp hl]
    decide +kernel
  have CD_b:∀l∈lsP,l≠(dJ lbP,qP)->¬(l.1.line=(dJ lbP).line∧l.1.col=(dJ lbP).col):=by
   intro l hl ne;rcases List.mem_cons.mp hl with rfl|hl
   ·decide +kernel
   ·rw[List.mem_singleton.mp hl]at ne
    exact absurd rfl ne
  have CS:∀p∈[((s.heap.objs.size+1:Addr),0),(s.heap.objs.size+2,1)],∃y,(bE CX0 P w K mg base ["field","way","begins","row","pairs","corner","bend"] "fence_past" (am (top 61)) f cdv A outer s H E).nox.env.cells.lookup y=some p.1∧(bE CX0 P w K mg base ["field","way","begins","row","pairs","corner","bend"] "fence_past" (am (top 61)) f cdv A outer s H E).nox.N[p.2]? = some y∧(bE CX0 P w K mg base ["field","way","begins","row","pairs","corner","bend"] "fence_past" (am (top 61)) f cdv A outer s H E).nox.env.kindOf y=some .cell∧Vis (bE CX0 P w K mg base ["field","way","begins","row","pairs","corner","bend"] "fence_past" (am (top 61)) f cdv A outer s H E).nox.env.scope y:=by
   intro p hp;simp only[List.mem_cons,List.not_mem_nil,or_false]at hp;rcases hp with rfl|rfl
   ·exact⟨"field",rfl,rfl,rfl,.inr (.inl rfl)⟩
   ·exact⟨"way",rfl,rfl,rfl,.inr (.inl rfl)⟩
  have CB:DN (bE CX0 P w K mg base ["field","way","begins","row","pairs","corner","bend"] "fence_past" (am (top 61)) f cdv A outer s H E).nox (sy ((aK (top 61)).getD 0 (.Pass ⟨0,0,0,0⟩))) [("way",s.heap.objs.size+2),("field",s.heap.objs.size+1)] ["corner"] [("field",0),("way",1)] :=
   ⟨by rfl,rfl,by decide +kernel,by decide +kernel,(fun x hx=>by simp only[List.mem_cons,List.not_mem_nil,or_false]at hx;subst hx;rfl),(fun p hp=>by simp only[List.mem_cons,List.not_mem_nil,or_false]at hp;rcases hp with rfl|rfl <;> rfl),by rfl,by decide +kernel,(fun p hp=>by simp only[List.mem_cons,List.not_mem_nil,or_false]at hp;rcases hp with rfl|rfl <;> exact⟨rfl,rfl,.inr (.inl rfl),rfl,rfl⟩),⟨rfl,rfl⟩,rfl⟩
  refine⟨_,(ai (iA (j:=2) rfl CB AH.nd rfl rfl (pT (bR (pv 0) rfl)) (fun fp s₀ H₀=>(aS (i:=0) CB.nd rfl (Or.inl rfl) (Or.inr rfl))) (fun fp s₀ H₀=>(lK (cW (aA BO (hr.mono (by decide)) (by rfl) (ad (pv 0) (ad (pV (K:=K) rfl (pv 1) rfl) (ad (pv 2) ag))))))) (fun fp s₀ H₀=>(pv 0))) (ai (ap (i:=3) AH.nd rfl (Or.inl rfl) (xF ET (hr.mono (by decide)) (by rfl) (fun _=>rfl) CS (ad (pv 2) (ad (sR CL_a ec CF BF rfl rfl CM_a CD_a) (ad (sR CL_b ec CF BF rfl rfl CM_b CD_b) ag))))) (ai (ap (i:=4) AH.nd rfl (Or.inl rfl) (aX ag)) (ai (bW PassesOwn.never rfl (fH (pv 3)) (hV rfl (bZ (aS (i:=5) AH.nd rfl (Or.inl rfl)) (bZ (aS (i:=6) AH.nd rfl (Or.inl rfl)) fI))) (ai (bD (dG PySem.F.plainAttrs_list PySem.F.slot_list_extend PySem.F.type_list_extend oK (pv 4) (ad (aA Bt (hr.mono (by decide)) (by rfl) (ad (pv 6) ag)) ag))) (ak (bD (dG PySem.F.plainAttrs_list PySem.F.slot_list_append PySem.F.type_list_append aZ (pv 4) (ad (aA Al (hr.mono (by decide)) (by rfl) (ad (pv 5) ag)) ag)))))) (ak (ay (pv 4))))))),?_⟩;obtain⟨dx,lt,d,fr,hf,hl,_,fd⟩:=fa.ex;obtain⟨o,ed⟩:=id fd;have nb:=fa.nbg;refine⟨_,rfl,fo,C_Field,dx,_,_,rfl,hf,z9.cls,n_far,rfl,fr,o,_,rfl,ed,jX (k:=1) ed (by unfold kvF;rw[List.length_map];have:=jT (F:=F) (show n≤20 by omega) (show m≤20 by omega);omega) (xr fun p=>decide (p.2=(m:Int)) || (decide (wy≠bH) && decide (p.1=0))) (fun e y H'=>bo H' y e.1) (fun e v H H' st h=>h.mono st) ?_ ?_⟩
  ·intro k e b H2 τ Kc Kn he hb s2 hτ kc kn
   obtain⟨τ0,rfl⟩:∃τ0,τ = [τ0]:=d9 hτ;have he':=List.mem_of_getElem? he;unfold kvF at he';obtain⟨p,hp,rfl⟩:=List.mem_map.mp he';obtain⟨x,y⟩:=p;refine⟨⟨[some (.ref b)],rfl,rfl⟩,?_⟩;refine⟨_,rfl,_,rfl,fo,C_Field,dx,_,_,rfl,s2 _ _ hf,z9.cls,n_last,rfl,_,rfl,b,lt,x,y,n,m,wy,rfl,hb,s2 _ _ hl,_,rfl,aR (fun h=>?_) (fun h=>kn h H2 (Same.refl _))⟩;exact⟨_,rfl,kc h _ H2 (Same.refl _) ⟨b,rfl,hb⟩⟩
  intro bl bvs H3 nb3 S3 f3 prb;rw[fX]at prb;have pb3:Paired (fun s v=>bo H3 v s) ((kE wy n m F).map fun p=>ck p.1 p.2) bvs:=gI (fS (f:=fun (p:Int×Int)=>(ck p.1 p.2,V.bl true)) prb);have tb3:=tb.same S3;refine⟨_,rfl,tb3,fun la_ H4 P4 tb4 la4 nfa=>⟨tb4,fun lb_ H5 P5 tb5 lb5 nfb=>fun H6 s6 cells=>?_⟩⟩;have kp:∀{x:Addr} {ob:HO},H3 x=some ob->(∀ps,ob≠.tbl ps)->H6 x=some ob:=fun e n=>s6 _ _ (P5.keep tb4 (P4.keep tb3 e n) n);have c1:=cells (s.heap.objs.size+1,0) List.mem_cons_self (.ref fo) rfl;have c2:=cells (s.heap.objs.size+2,1) (List.mem_cons_of_mem _ List.mem_cons_self) (.str wy) rfl;have la6:=(la4.same fun x ob e=>P5.keep tb4 e (fun ps q=>by cases q)).same fun x ob e=>s6 _ _ e;have lb6:=lb5.same fun x ob e=>s6 _ _ e;have fa6:Aj K C_Field H6 fo n m 0 G F:=(fa.mono S3).keep fun b o e _ h2=>kp e h2;have AL:=u4 (F:=F) (show n≤20 by omega) (show m≤20 by omega) gg nb;have FN:GN P w K mg base 8 H6 la_ lb_ (U n m) (lG 0 G F n m) (rD wy n):=by
   refine⟨la6.obj,lb6.obj,?_,?_,fun s hs e he=>(AL s hs e he).1,u3 (by omega) (by omega)⟩
   ·obtain⟨pm,cc,ct,ea,ck6⟩:=la6
    have LN:FM "corner" (dW laP) [("field",s.heap.objs.size+1)]:=by
     refine⟨rfl,rfl,rfl,by decide +kernel,rfl,by rfl,?_,fun p hp=>?_,fun p hp q hq e=>?_⟩
     ·show(["corner","field"]:List Str).Nodup
      decide +kernel
     ·rw[List.mem_singleton.mp hp]
      rfl
     ·rw[List.mem_singleton.mp hp,List.mem_singleton.mp hq]
    refine⟨_,⟨_,["corner"],tS (P:=P) (w:=w) (K:=K) (mg:=mg) (base:=base) (x:="corner") (q:=qP) (params:=qd laP) (body:=qc laP) (scope:=dW laP) (pm:=pm) (ctv:=ct) (f:=la_) (c:=cc) (k:=7) LN (fun A2 o2 s2 H2 hr2=>aA Cj (hr2.mono (by decide)) (by rfl) (ad (pv 1) (ad (pv 0) ag))),.all fun us hl=>by obtain⟨_,rfl⟩:=d9 hl;rfl⟩,?_⟩;intro H' v sp Q' s' hv hU k;obtain⟨x,y,rfl,b1,b2,b3,b4⟩:=eY.mp hU;obtain⟨p,rfl,hp⟩:=hv;have cs:Paired (fun (p:Str×Addr) z=>cZ H' p.2 z) [("field",s.heap.objs.size+1)] [.ref fo]:=.cons (c1.mono s') .nil;have hC:=nZ cs;have CK:iH H' cc qP:=by
     obtain⟨o,vs,t,e,r⟩:=ck6;exact⟨o,vs,t,s' _ _ e,r⟩
    refine⟨.ref p,[.ref fo],rfl,s' _ _ ea,CK,cs,?_⟩;refine⟨_,rfl,_,rfl,fo,p,n,m,0,G,F,x,y,rfl,(fa6.mono s').keep fun b o e h1 _=>fm hC e h1,fm hC hp (fun z q=>by cases q),⟨⟨b1,b2⟩,by omega⟩,⟨⟨b3,b4⟩,by omega⟩,fun r H1 s1 nr st hC1=>?_⟩;refine k r _ (kQ s1) ?_ (qG hC1 st);obtain⟨vs,er,_⟩:=st;rw[cz fun z=>by rw[hC1 r z]at er;cases er]at nr;exact nr
   ·obtain⟨pm,cc,ct,ea,ck6⟩:=lb6
    have LN:FM "spot" (dW lbP) [("way",s.heap.objs.size+2),("field",s.heap.objs.size+1)]:=by
     refine⟨rfl,rfl,rfl,by decide +kernel,rfl,by rfl,?_,fun p hp=>?_,fun p hp q hq e=>?_⟩
     ·show(["spot","way","field"]:List Str).Nodup
      decide +kernel
     ·simp only[List.mem_cons,List.not_mem_nil,or_false]at hp
      rcases hp with rfl|rfl <;> rfl
     ·simp only[List.mem_cons,List.not_mem_nil,or_false]at hp hq
      rcases hp with rfl|rfl <;> rcases hq with rfl|rfl
      ·rfl
      ·exact absurd (show s.heap.objs.size+2=s.heap.objs.size+1 from e) (by omega)
      ·exact absurd (show s.heap.objs.size+1=s.heap.objs.size+2 from e) (by omega)
      ·rfl
    refine⟨_,⟨_,["spot"],tS (P:=P) (w:=w) (K:=K) (mg:=mg) (base:=base) (x:="spot") (q:=qP) (params:=qd lbP) (body:=qc lbP) (scope:=dW lbP) (pm:=pm) (ctv:=ct) (f:=lb_) (c:=cc) (k:=7) LN (fun A2 o2 s2 H2 hr2=>aA Cu (hr2.mono (by decide)) (by rfl) (ad (pv 0) (ad (pV (K:=K) rfl (pv 2) rfl) (ad (pv 1) ag)))),.all fun us hl=>by obtain⟨_,rfl⟩:=d9 hl;rfl⟩,?_⟩;intro H' v sp Q' s' hv hU k;obtain⟨x,y,rfl,_⟩:=eY.mp hU;obtain⟨p,rfl,hp⟩:=hv;have cs:Paired (fun (p:Str×Addr) z=>cZ H' p.2 z) [("way",s.heap.objs.size+2),("field",s.heap.objs.size+1)] [.str wy,.ref fo]:=.cons (c2.mono s') (.cons (c1.mono s') .nil);have hC:=nZ cs;have CK:iH H' cc qP:=by
     obtain⟨o,vs,t,e,r⟩:=ck6;exact⟨o,vs,t,s' _ _ e,r⟩
    obtain⟨dx',lt',d',fr',hf',hl',_,_⟩:=(fa6.mono s').ex;refine⟨.ref p,[.str wy,.ref fo],rfl,s' _ _ ea,CK,cs,?_⟩;exact⟨_,rfl,_,rfl,fo,C_Field,dx',_,_,rfl,fm hC hf' (fun z q=>by cases q),z9.cls,n_last,rfl,_,rfl,p,lt',x,y,n,m,wy,rfl,fm hC hp (fun z q=>by cases q),fm hC hl' (fun z q=>by cases q),fun hC1=>k _ (kQ (Same.refl _))⟩
  have SP5:dF t_fence_past H H5:=(S3.p.trans P4).trans P5;have pb6:Paired (fun s v=>bo H6 v s) ((kE wy n m F).map fun p=>ck p.1 p.2) bvs:=Paired.mapP pb3 fun a b ⟨p,e1,e2⟩=>⟨p,e1,kp e2 (fun ps q=>by cases q)⟩;have us:=wt (show n≤20 by omega) (show m≤20 by omega);refine⟨bl,la_,lb_,bvs,_,U n m,lG 0 G F n m,rD wy n,rfl,kp f3 (fun ps q=>by cases q),pb6,oY,uL,us,FN,?_,?_⟩
  ·intro H7 s7 sh
   exact(nsh sh).elim
  ·intro r H7 lst s7 road fnd hlen ra H8 k1 k2
   have S8:Same H5 H8:=fun x ob e=>k2 x ob e (s7 _ _ (s6 _ _ e));obtain⟨vs,hr8,pr8⟩:=vi (vI k1) ra;have vl:=Paired.length pr8;have ok:=vg road uL AL;have ul:(U n m).length≤100:=by
    rw[xf];have:=Nat.mul_le_mul (show n+1≤10 by omega) (show m+1≤10 by omega);omega
   refine⟨sz (by simp),fun pl H9 s9 f9 n9=>?_⟩;have nr:r≠pl:=fun z=>by rw[<- z,hr8]at n9;cases n9
   have w9:H9 pl=some (.lst (prs [])):=f9;refine⟨_,rfl,r,rfl,⟨_,SqL.of (s9 _ _ hr8)⟩,gL (K:=K) (a:=r) (xs:=vs) (fun i σ H'=>∃(ps':List Pr) (z5 z6:Option V),σ = [some (.ref fo),some (.str wy),some (.ref bl),some (.ref r),some (.ref pl),z5,z6]∧br pl H9 H'∧H' pl=some (.lst (prs ps'))∧Fh (lst.take i) ps'∧(∀q∈ps',FD H' q)∧ps'.length≤3*i)
    ⟨[],_,_,rfl,fun b o _ e=>e,w9,.nil,(fun q hq=>nomatch hq),Nat.le_refl _⟩ (fun i σ H' _ ⟨_,_,_,_,b',_⟩=>SqL.of (b' _ _ nr (s9 _ _ hr8))) ?_ ?_⟩
   ·rintro i x σ H10 hx ⟨ps',z5,z6,rfl,b10,w10,fl,pts,len⟩
    have il:=(List.getElem?_eq_some_iff.mp hx).1;obtain⟨e,he,t,sv,hv,rfl,ht,⟨c,rfl,hc⟩,hlb⟩:=cR pr8 i x hx;have noT:∀xs,H9 pl≠some (.tup xs):=fun xs z=>by rw[w9]at z;cases z
    have t10:SameT H8 H10:=s9.t.trans (b10.t noT);obtain⟨eu,el⟩:=ok i e he;obtain⟨x,y,ex,g1,g2,g3,g4⟩:=eY.mp eu;rw[ex]at hc;have lb10:=hlb.mono t10;have hvl:vs.length≤100:=by omega
    refine⟨t,_,rfl,SqT.of (t10 _ _ ht),rfl,_,_,rfl,_,_,rfl,rfl,?_⟩;refine⟨_,rfl,.inl ⟨rfl,_,SqL.of w10⟩,_,rfl,_,_,rfl,lb10,el,fun r2 H11 bs s11 n2 bp pb=>?_⟩;have bl2:=uJ bp;refine⟨pl,r2,_,_,rfl,rfl,s11 _ _ w10,pb.lst,Nat.le_trans (show(prs ps').length+(prs bs).length≤1000 by rw[cX,cX];omega) (by decide),fun H12 u12=>?_⟩;have w12:H12 pl=some (.lst (prs (ps'++bs))):=by
     rw[u12.now];unfold prs;rw[List.map_append]
    have t12:=t10.trans (s11.t.trans u12.t);refine⟨_,rfl,.inl ⟨rfl,_,SqL.of w12⟩,_,rfl,c,x,y,rfl,t12 _ _ hc,⟨g1,by omega⟩,⟨g3,by omega⟩,fun q H13 s13 pq cq=>?_⟩;refine⟨pl,_,_,rfl,rfl,s13 _ _ w12,aM (by rw[cX,List.length_append];omega),fun H14 u14=>?_⟩;refine⟨(ps'++bs)++[q],_,_,rfl,fun b' o' nb' e'=>u14.at nb' (s13 _ _ (u12.at nb' (s11 _ _ (b10 _ _ nb' e')))),?_,?_,fun q' hq'=>?_,?_⟩
    ·rw[u14.now,dN]
    ·rw[List.take_add_one,he]
     refine fl.snoc bp ?_;rw[ex];exact cq
    ·rcases List.mem_append.mp hq' with hq'|hq'
     ·have t14:SameT H12 H14:=s13.t.trans u14.t
      rcases List.mem_append.mp hq' with hq'|hq'
      ·exact(pts q' hq').t ((s11.t.trans u12.t).trans t14)
      ·exact(pb.pr q' hq').t (u12.t.trans t14)
     ·rw[List.mem_singleton.mp hq']
      exact pq.two.t u14.t
    ·rw[List.length_append,List.length_append,List.length_singleton]
     omega
   ·rintro σ H10 ⟨ps',z5,z6,rfl,b10,w10,fl,pts,len⟩
    rw[List.take_of_length_le (by omega)]at fl;have S10:Same H8 H10:=b10.same s9 n9;exact⟨_,rfl,q1 pl H10 ps' (jy (SP5.trans S8.p) (tb5.same S8) n9) ((SP5.trans S8.p).trans S10.p) (tb5.same (S8.trans S10)) ⟨lst,road,fnd,by omega,fl,by omega⟩ ⟨w10,pts⟩⟩
theorem pP{α:Type}{R:α->Pr->Prop}:∀{l:List α} {ys:List V},ys.length=l.length->(∀(i:Nat) y,ys[i]? = some y->∃q e,l[i]? = some e∧y=V.ref q.p∧R e q)->∃ps,ys=prs ps∧Paired R l ps
 | [],[],_,_=>⟨[],rfl,.nil⟩
 | e::l,y::ys,hl,h=>by
  obtain⟨q,e',h1,h2,h3⟩:=h 0 y rfl;cases h1;obtain⟨ps,h4,h5⟩:=pP (R:=R) (l:=l) (ys:=ys) (by simpa using hl) (fun i y hy=>h (i+1) y (by simpa using hy));exact⟨q::ps,by rw[h2,h4];rfl,.cons h3 h5⟩
 | [],_::_,hl,_=>by simp at hl
 | _::_,[],hl,_=>by simp at hl
def onB(n1:Bool)(a b a' b':Int):Prop:=if n1=true then a'=0∧b'=1 else a'=a∧b'=b
inductive Fq (vs:List V) (H:Hp) (Q:VK) (x_3:XK):Prop
 | mk:∀(l p:Addr) (qs:Crn) (a b:Int),(vs = [.ref l,.ref p])->(LineM H l qs)->((Fg H p a b 5300∧0≤a))->(∀(r:Addr) (a' b':Int) (H':Hp),Same H H'->Fg H' r a' b' 5300->0≤a'->onB (decide (qs.length=1)) a b a' b'->Q (.ref r) H')->Fq vs H Q x_3
def qN(o1 o2:Bool)(q q':Pr):Prop:=onB o1 q.a q.b q'.a q'.b∧onB o2 q.c q.d q'.c q'.d
inductive Ei (vs:List V) (H:Hp) (Q:VK) (x_3:XK):Prop
 | mk:∀(l1 l2 l:Addr) (qs rs:Crn) (ps:List Pr),(vs = [.ref l1,.ref l2,.ref l])->(LineM H l1 qs)->(LineM H l2 rs)->(E8 H l ps)->(ps.length<990)->(∀(r:Addr) (ps':List Pr) (H':Hp),H r=none->Same H H'->E8 H' r ps'->Paired (qN (decide (qs.length=1)) (decide (rs.length=1))) ps ps'->Q (.ref r) H')->Ei vs H Q x_3
theorem EM:zZ ["line","place"] ["line","place"] (am (top 49)):=smk
theorem nj(Dj:Df K mg "place_on" (top 49))(T:Txt mg):Fn P w K mg base "place_on" ["line","place"] 1 Fq:=by
 refine Dj.fn EM (fun _ _ _ _ _ _ us hl=>by obtain⟨_,_,rfl⟩:=dw hl;rfl) (fun vs H Q E h=>?_) (fun f cdv A outer s H vs Q E hr h=>?_)
 ·obtain⟨l,p,qs,a,b,rfl,_⟩:=h
  rfl
 ·obtain⟨l,p,qs,a,b,rfl,L,⟨fr,a0⟩,k⟩:=h
  refine⟨_,(ak (ay (eV (az bS (aT a6 (by rfl) T.z_len dL (ad (pv 0) ag)) af (aE _)) (ax (ad af (ad af ag))) (pv 1)))),?_⟩;have hll:(qs.map fun (q:Addr×Int×Int)=>V.ref q.1).length=qs.length:=List.length_map _;unfold onB at k;refine⟨_,rfl,l,_,rfl,.inl (SqL.of L.lst),rfl,_,rfl,?_⟩;rw[hll,di];refine aR (fun c=>?_) (fun c=>?_)
  ·have c:qs.length=1:=by have:((qs.length:Nat):Int)=1:=bz c;omega
   rw[decide_eq_true c]at k;exact⟨sz (by simp),fun r H1 s1 f1 _=>k r 0 1 H1 s1 ⟨f1,⟨by decide,by decide⟩,by decide,by decide⟩ (by decide) ⟨rfl,rfl⟩⟩
  ·have c:¬qs.length=1:=fun z=>bU c (by rw[z];rfl)
   rw[decide_eq_false c]at k;exact⟨_,rfl,k p a b H (Same.refl _) fr a0 ⟨rfl,rfl⟩⟩
theorem EN:zZ ["one","other","pairs"] ["one","other","pairs"] (am (top 50)):=smk
theorem nw(Dl:Df K mg "pairs_on" (top 50))(Cm:Fn P w K mg base "place_on" ["line","place"] 1 Fq)(T:Txt mg):Fn P w K mg base "pairs_on" ["one","other","pairs"] 2 Ei:=by
 refine Dl.fn EN (fun _ _ _ _ _ _ us hl=>by obtain⟨_,_,_,rfl⟩:=iL hl;rfl) (fun vs H Q E h=>?_) (fun f cdv A outer s H vs Q E hr h=>?_)
 ·obtain⟨l1,l2,l,qs,rs,ps,rfl,_⟩:=h
  rfl
 ·obtain⟨l1,l2,l,qs,rs,ps,rfl,L1,L2,PP,hlen,k⟩:=h
  have CN:DM (bE CX0 P w K mg base ["one","other","pairs"] "pairs_on" (am (top 50)) f cdv A outer s H E).nox (Sp7.retScope ((aK (top 50)).getD 0 (.Pass ⟨0,0,0,0⟩))) [("other",s.heap.objs.size+2),("one",s.heap.objs.size+1)] "pair" [("one",0),("other",1)] :=
   ⟨by rfl,rfl,by decide +kernel,by decide +kernel,rfl,(fun p hp=>by simp only[List.mem_cons,List.not_mem_nil,or_false]at hp;rcases hp with rfl|rfl <;> rfl),by rfl,by decide +kernel,(fun p hp=>by simp only[List.mem_cons,List.not_mem_nil,or_false]at hp;rcases hp with rfl|rfl <;> exact⟨rfl,rfl,.inr (.inl rfl),rfl,rfl⟩),⟨rfl,rfl⟩,rfl⟩
  refine⟨_,(ak (ay (jC rfl CN (fH (pv 2)) (fun fp s₀ H₀=>(ax (ad (aA Cm (hr.mono (by decide)) (by rfl) (ad (pv 1) (ad (aw (eB (K:=K) rfl) (pv 0) af (fun _ _=>rfl)) ag))) (ad (aA Cm (hr.mono (by decide)) (by rfl) (ad (pv 2) (ad (aw (eB (K:=K) rfl) (pv 0) af (fun _ _=>rfl)) ag))) ag))))))),?_⟩;refine⟨_,rfl,l,rfl,⟨_,SqL.of PP.lst⟩,yh (SqL.of PP.lst) (by rw[cX];omega) (fun i v H'=>∃(q':Pr) (q:Pr),ps[i]? = some q∧v = .ref q'.p∧(FD H' q'∧qN (decide (qs.length=1)) (decide (rs.length=1)) q q')) (fun i v H H' st ⟨q',q,x1,x2,x3,x4⟩=>⟨q',q,x1,x2,x3.t st,x4⟩) ?_ ?_⟩
  ·intro i x H2 Kc hx s2 kk
   obtain⟨q,hq,rfl⟩:=pR hx;have mq:=List.mem_of_getElem? hq;have pq:=(PP.pr q mq).t s2.t;have T:=fun {H':Hp} (s:Same H2 H')=>SqT.of (K:=K) (s _ _ pq.p_);refine⟨_,rfl,_,rfl,q.p,_,_,_,rfl,rfl,T (Same.refl _),rfl,l1,q.x,qs,q.a,q.b,rfl,L1.mono s2,⟨⟨pq.x_,pq.lx,pq.ba,pq.bb⟩,pq.nx⟩,fun r1 a' b' H3 s3 f3 a0 o1=>?_⟩;refine⟨_,rfl,_,rfl,q.p,_,_,_,rfl,rfl,T s3,rfl,l2,q.y,rs,q.c,q.d,rfl,L2.mono (s2.trans s3),⟨⟨s3 _ _ pq.y_,pq.ly,pq.bc,pq.bd⟩,pq.ny⟩,fun r2 c' d' H4 s4 f4 c0 o2=>⟨sz (by simp),fun o H5 s5 f5 n5=>?_⟩⟩;have g3:=(f3.mono s4).mono s5;have g4:=f4.mono s5;exact kk _ H5 ((s3.trans s4).trans s5) ⟨⟨o,r1,r2,a',b',c',d'⟩,q,hq,rfl,⟨f5,g3.at_,g4.at_,g3.low,g4.low,a0,c0,g3.ba,g3.bb,g4.ba,g4.bb⟩,o1,o2⟩
  ·intro lr ys H9 nl s9 f9 hly hr
   rw[cX]at hly;obtain⟨ps',rfl,hp⟩:=pP (R:=fun q q'=>FD H9 q'∧qN (decide (qs.length=1)) (decide (rs.length=1)) q q') (l:=ps) (ys:=ys) hly (fun i y hy=>let ⟨q',q,h1,h2,h3⟩:=hr i y hy;⟨q',q,h1,h2,h3⟩);exact k lr ps' H9 nl s9 ⟨f9,fun q hq=>by
    obtain⟨i,hi⟩:=List.mem_iff_getElem?.mp hq;obtain⟨e,_,h2⟩:=cR hp i q hi;exact h2.1⟩ (Paired.mapP hp fun a b x=>x.2)
def GoP(wy:Str)(qs rs:Crn)(a b:Int)(wk:Bool)(ps':List Pr):Prop:=∃ps,Paired (qN (decide (qs.length=1)) (decide (rs.length=1))) ps ps'∧(if wk=true then wq wy (cE qs) (cE rs) (cL (dbl qs) (dbl rs) a b 0) (fi (dbl qs) (dbl rs) a b 0) ps else (NoW wy (cE qs) (cE rs) (cL (dbl qs) (dbl rs) a b 0) (fi (dbl qs) (dbl rs) a b 0)∧zy wy (cE qs) (cE rs) (cL (dbl qs) (dbl rs) a b 0) (fi (dbl qs) (dbl rs) a b 0) ps))
def GoQ(C t:Addr)(wy:Str)(l1 l2:Addr)(x:V)(H:Hp)(Q:VK)(E:XK):Prop:=∃(qs rs:Crn),LineM H l1 qs∧LineM H l2 rs∧(1≤qs.length∧qs.length≤10)∧(1≤rs.length∧rs.length≤10)∧Bp H x ∧
 ((sqV H x=false∧E (.ref C) none H)∨(sqV H x=true∧∃(p:Addr) (a b:Int),x = .ref p∧(Sq H p a b∧0<b∧0≤a)∧Tab H t lsP∧∀(u r:Addr) (H':Hp) (ps:List Pr) (wk:Bool),H r=none->H u=none->u≠r->bC H H'->Tab H' t lsP->E8 H' r ps->H' u=some (.tup [.str (if wk=true then "walk" else "fence"),.ref r])->GoP wy qs rs a b wk ps->Q (.ref u) H'))
inductive E4 (C t:Addr) (vs:List V) (H:Hp) (Q:VK) (E:XK):Prop
 | mk:∀(l1 l2:Addr) (x:V) (wy:Str),(vs = [.ref l1,.ref l2,x,.str wy])->((wy=wOn∨wy=bH))->(GoQ C t wy l1 l2 x H Q E)->E4 C t vs H Q E
inductive DT (C t:Addr) (wy:Str) (vs:List V) (H:Hp) (Q:VK) (E:XK):Prop
 | mk:∀(l1 l2:Addr) (x:V),(vs = [.ref l1,.ref l2,x])->(GoQ C t wy l1 l2 x H Q E)->DT C t wy vs H Q E
theorem rQ{wy:Str}{n m:Nat}{G:GF}{F:Int->Int->Bool}{ps:List Pr}(h:wq wy n m G F ps):ps.length<990:=by
 obtain⟨_,l,ps0,_,_,hl,pp,h⟩:=h;have:=Paired.length pp;rw[List.length_reverse]at this;rcases h with⟨_,_,q,rfl,_⟩|⟨_,rfl⟩
 ·rw[List.length_append,List.length_singleton];omega
 ·omega
theorem fK{qs:Crn}(h:1≤qs.length∧qs.length≤10):(dbl qs).length=cE qs+1∧1≤cE qs∧cE qs≤9:=by
 have:=me h;unfold cE;omega
theorem Es:zZ ["one","other","square","way","field","walk"] ["one","other","square","way"] (am (top 72)):=smk
theorem ut{C_NoSquare t_fence_past:Addr}(EA:Df K mg "go_by" (top 72))(z9:Dy K mg "Field" C_Field)(Ba:Fx P w K mg base "look_at_square" ["square"] 3 [] (Ej C_NoSquare))(BP:Mt P w K mg base C_Field "__init__" ["self","one","other","square","room"] 7 (DU K C_Field))(BI:Fn P w K mg base "walk_through" ["field","way"] 8 (F3 K C_Field))(Ct:Fn P w K mg base "fence_past" ["field","way"] 11 (Ga K C_Field t_fence_past))(Co:Fn P w K mg base "pairs_on" ["one","other","pairs"] 2 Ei):Fx P w K mg base "go_by" ["one","other","square","way"] 12 [] (E4 C_NoSquare t_fence_past):=by
 refine EA.fx Es (fun _ _ _ _ _ _ us hl=>by obtain⟨_,_,_,_,rfl⟩:=tQ hl;rfl) (fun vs H Q E h=>?_) (fun f cdv A outer s H vs Q E hr h=>?_)
 ·obtain⟨l1,l2,x,wy,rfl,_⟩:=h
  rfl
 ·obtain⟨l1,l2,x,wy,rfl,hw,⟨qs,rs,L1,L2',b1,b2,th,q⟩⟩:=h
  refine⟨_,(ai (bD (mM Ba (hr.mono (by decide)) (by rfl) (ad (pv 2) ag))) (ai (xx (ap (i:=4) Es.nd rfl (Or.inl rfl) (yX z9 BP (hr.mono (by decide)) (by rfl) (ad (pv 0) (ad (pv 1) (ad (pv 2) (ad af ag))))))) (ai (ap (i:=5) Es.nd rfl (Or.inl rfl) (aA BI (hr.mono (by decide)) (by rfl) (ad (pv 4) (ad (pv 3) ag)))) (ai (aL (az fJ (pv 5) aW (aE _)) (ak (ay (ax (ad db (ad (aA Co (hr.mono (by decide)) (by rfl) (ad (pv 0) (ad (pv 1) (ad (pv 5) ag)))) ag))))) aF) (ak (ay (ax (ad db (ad (aA Co (hr.mono (by decide)) (by rfl) (ad (pv 0) (ad (pv 1) (ad (aA Ct (hr.mono (by decide)) (by rfl) (ad (pv 4) (ad (pv 3) ag))) ag)))) ag))))))))),?_⟩;rcases q with⟨sv,qe⟩|⟨sv,p,a,b,rfl,⟨sq,hb,ha⟩,tb,q⟩
  ·exact⟨_,rfl,x,rfl,th,fun _=>qe,fun z=>by rw[sv]at z;cases z⟩
  refine⟨_,rfl,.ref p,rfl,th,(fun z=>by rw[sv]at z;cases z),fun _=>?_⟩;obtain⟨d1,n1,n2⟩:=fK b1;obtain⟨d2,m1,m2⟩:=fK b2;refine⟨_,rfl,_,rfl,_,rfl,fun fo dx nf nd ne=>?_⟩;have sX:Same H (upd (upd H dx (.own fo)) fo (.ins C_Field dx [])):=(Same.new nd).trans (Same.new (by rw[aH (fun z=>ne z.symm)];exact nf));refine⟨fo,dx,l1,l2,p,qs,rs,a,b,0,rfl,upd_same,L1.mono sX,L2'.mono sX,b1,b2,⟨sq.mono sX,hb⟩,.inl rfl,fun H2 bt fa=>⟨rfl,?_⟩⟩;have S2:Same H H2:=fun c o e=>bt c o (fun z=>by rw[z,nf]at e;cases e) (sX c o e);have tb2:=tb.same S2;have gg:GGk (cL (dbl qs) (dbl rs) a b 0):=eZ (.inl rfl) hb;refine⟨_,rfl,_,rfl,fo,cE qs,cE rs,0,_,_,wy,rfl,fa,⟨n1,by omega⟩,⟨m1,by omega⟩,hw,gg,fun H3 s3 nh=>?_,fun r H3 ps s3 nr hwk pp=>?_⟩
  ·refine⟨_,rfl,rfl,_,rfl,ig ?_⟩
   have tb3:=tb2.same s3;refine⟨_,rfl,_,rfl,_,rfl,_,rfl,fo,cE qs,cE rs,_,_,wy,rfl,tb3,fa.mono s3,⟨⟨n1,n2⟩,m1,m2⟩,gg,vA hb d1 d2 n1 m1 hw nh,fun r H4 ps nr P4 tb4 hf pp=>?_⟩;have N4:=(bC.of (S2.trans s3)).trans (dF.n P4 tb3);refine⟨l1,l2,r,qs,rs,ps,rfl,N4.line L1,N4.line L2',pp,(by obtain⟨_,_,_,_,_,h⟩:=hf;omega),fun r' ps' H5 nr' s5 pp' on=>⟨sz (by simp),fun t H6 s6 f6 n6=>?_⟩⟩;have fr:∀{x:Addr},H4 x=none->H x=none:=fun h=>(S2.trans s3).free (jy P4 tb4 h);have S6:=s5.trans s6;exact q t r' H6 ps' false (fr nr') (fr (s5.free n6)) (fun z=>by rw[z,pp'.lst]at n6;cases n6) (N4.trans (bC.of S6)) (tb4.same S6) (pp'.mono s6) f6 ⟨ps,on,nh,hf⟩
  ·refine⟨_,rfl,rfl,_,rfl,qY ?_⟩
   have S3:=S2.trans s3;refine⟨_,rfl,_,rfl,_,rfl,l1,l2,r,qs,rs,ps,rfl,L1.mono S3,L2'.mono S3,pp,rQ hwk,fun r' ps' H4 nr' s4 pp' on=>⟨sz (by simp),fun t H5 s5 f5 n5=>?_⟩⟩;have S5:=s4.trans s5;exact q t r' H5 ps' true (S3.free nr') (S3.free (s4.free n5)) (fun z=>by rw[z,pp'.lst]at n5;cases n5) (bC.of (S3.trans S5)) (tb2.same (s3.trans S5)) (pp'.mono s5) f5 ⟨ps,on,hwk⟩
theorem FI:zZ ["one","other","square"] ["one","other","square"] (am (top 73)):=smk
theorem ur{C_NoSquare t_fence_past:Addr}(Ez:Df K mg "go_on" (top 73))(C6:Fx P w K mg base "go_by" ["one","other","square","way"] 12 [] (E4 C_NoSquare t_fence_past)):Fx P w K mg base "go_on" ["one","other","square"] 13 [] (DT C_NoSquare t_fence_past wOn):=by
 refine Ez.fx FI (fun _ _ _ _ _ _ us hl=>by obtain⟨_,_,_,rfl⟩:=iL hl;rfl) (fun vs H Q E h=>?_) (fun f cdv A outer s H vs Q E hr h=>?_)
 ·obtain⟨l1,l2,x,rfl,_⟩:=h
  rfl
 ·obtain⟨l1,l2,x,rfl,gq⟩:=h
  refine⟨_,(ak (ay (mM C6 (hr.mono (by decide)) (by rfl) (ad (pv 0) (ad (pv 1) (ad (pv 2) (ad db ag))))))),?_⟩;exact⟨_,rfl,_,rfl,_,rfl,l1,l2,x,wOn,rfl,.inl rfl,gq⟩
theorem Fc:zZ ["one","other","square"] ["one","other","square"] (am (top 74)):=smk
theorem oS{C_NoSquare t_fence_past:Addr}(DJ:Df K mg "go_part" (top 74))(C6:Fx P w K mg base "go_by" ["one","other","square","way"] 12 [] (E4 C_NoSquare t_fence_past)):Fx P w K mg base "go_part" ["one","other","square"] 13 [] (DT C_NoSquare t_fence_past bH):=by
 refine DJ.fx Fc (fun _ _ _ _ _ _ us hl=>by obtain⟨_,_,_,rfl⟩:=iL hl;rfl) (fun vs H Q E h=>?_) (fun f cdv A outer s H vs Q E hr h=>?_)
 ·obtain⟨l1,l2,x,rfl,_⟩:=h
  rfl
 ·obtain⟨l1,l2,x,rfl,gq⟩:=h
  refine⟨_,(ak (ay (mM C6 (hr.mono (by decide)) (by rfl) (ad (pv 0) (ad (pv 1) (ad (pv 2) (ad db ag))))))),?_⟩;exact⟨_,rfl,_,rfl,_,rfl,l1,l2,x,bH,rfl,.inr rfl,gq⟩
def Pol(H:Hp)(p:Addr):Prop:=∃n:Int,H p=some (.lst [.int n])
theorem Pol.same{H H':Hp}{p:Addr}(h:Pol H p)(s:Same H H'):Pol H' p:=by
 obtain⟨n,e⟩:=h;exact⟨n,s _ _ e⟩
theorem Pol.ne{H:Hp}{p q:Addr}(h:Pol H p)(n:H q=none):q≠p:=by
 obtain⟨m,e⟩:=h;exact(aQ e n).symm
theorem Pol.t{H H':Hp}{p:Addr}(h:Pol H p)(b:But p H H'):SameT H H':=fun c xs e=>b c _ (fun z=>by
 obtain⟨m,e'⟩:=h;rw[z,e']at e;cases e) e
inductive EK (K:W.Frag) (vs:List V) (H:Hp) (Q:VK) (x_3:XK):Prop
 | mk:∀(sa:Addr) (ss:List Int) (k:Int),(vs = [.ref sa,.int k])->(SqL K H sa (ss.map V.int))->((0≤k∧k≤1000))->(∀(p:Addr) H',Same H H'->H p=none->Pol H' p->Q (.ref p) H')->EK K vs H Q x_3
inductive Dz (vs:List V) (H:Hp) (Q:VK) (x_3:XK):Prop
 | mk:∀(p:Addr) (m:Int),(vs = [.ref p,.int m])->(Pol H p)->((0<m∧aq m≤8000))->(∀(r:Int) H',0≤r->r<m->But p H H'->Pol H' p->Q (.int r) H')->Dz vs H Q x_3
inductive EL (vs:List V) (H:Hp) (Q:VK) (x_3:XK):Prop
 | mk:∀(p:Addr) (k:Int),(vs = [.ref p,.int k])->(Pol H p)->(∀(q:Addr×Int×Int) H',But p H H'->Pol H' p->H q.1=none->H' q.1=some (.tup [.int q.2.1,.int q.2.2])->Sm q.2.1->Sm q.2.2->Q (.ref q.1) H')->EL vs H Q x_3
inductive E3 (vs:List V) (H:Hp) (Q:VK) (x_3:XK):Prop
 | mk:∀(p:Addr) (m:Int),(vs = [.ref p,.int m])->(Pol H p)->((1≤m∧m≤10))->(∀(l:Addr) (qs:Crn) H',But p H H'->Pol H' p->H l=none->LineM H' l qs->1≤qs.length->(qs.length:Int)≤m->Q (.ref l) H')->E3 vs H Q x_3
inductive Fk (vs:List V) (H:Hp) (Q:VK) (x_3:XK):Prop
 | mk:∀(p l0:Addr) (qs0:Crn) (m:Int),(vs = [.ref p,.ref l0,.int m])->(Pol H p)->(LineM H l0 qs0)->(l0≠p)->((1≤qs0.length∧(qs0.length:Int)≤m))->((1≤m∧m≤10))->(∀(l:Addr) (qs:Crn) H',But p H H'->Pol H' p->H l=none->LineM H' l qs->1≤qs.length->(qs.length:Int)≤m->Q (.ref l) H')->Fk vs H Q x_3
theorem vZ{n:Nat}{lo:Int}{fv:List (Str×Nat)}{te:TE}{σ:St}{H1:Hp}{Q:VK}{p:Addr}(hlen:n<1000)(hp:Pol H1 p)(R:Nat->V->Hp->Prop)(hR:∀i v H H',SameT H H'->R i v H->R i v H')
  (hs:∀i H2 (Kc:VK),i<n->But p H1 H2->Pol H2 p->(∀y H4,But p H2 H4->Pol H4 p->R i y H4->Kc y H4)->te (some (.int (lo+i))::fvs fv σ) H2 Kc)
  (hd:∀l ys H',H1 l=none->But p H1 H'->Pol H' p->H' l=some (.lst ys)->ys.length=n->(∀i y,ys[i]? = some y->R i y H')->Q (.ref l) H') :
  mw (Itr lo n) fv te σ H1 Q:=by
 intro l hl;have ne:=hp.ne hl;have pu:∀{H:Hp} {ys:List V},Pol H p->Pol (upd H l (.lst ys)) p:=fun ⟨m,e⟩=>⟨m,by rw[aH ne.symm];exact e⟩;refine jW (n:=n) (lo:=lo) (l:=l) (fv:=fv) (Qp:=fun H2=>Q (.ref l) H2) (fun i acc H2=>acc.length=i∧But p H1 H2∧Pol H2 p∧H2 l=some (.lst acc)∧∀j y,acc[j]? = some y->R j y H2)
  ⟨rfl,But.of (Same.new hl),pu hp,upd_same,fun j y h=>by simp at h⟩ ?_ ?_ ?_
 ·rintro i acc H2 hi ⟨e1,bt,po,e3,_⟩
  exact⟨e3,aM (by omega)⟩
 ·rintro i acc H2 Kc hx ⟨e1,bt,po,e3,hr⟩ kk
  refine hs i H2 Kc hx bt po fun y H4 b4 p4 ry=>kk y H4 (b4 _ _ ne e3) ⟨by simp[e1],fun c o n e=>?_,pu p4,upd_same,fun j z hz=>?_⟩
  ·rw[aH (aQ e hl)]
   exact b4 c o n (bt c o n e)
  have t4:=SameT.upd (ys:=acc++[y]) (b4 _ _ ne e3);rcases Nat.lt_trichotomy j acc.length with h|h|h
  ·rw[List.getElem?_append_left h]at hz
   exact hR _ _ _ _ ((po.t b4).trans t4) (hr j z hz)
  ·subst h
   rw[List.getElem?_append_right (Nat.le_refl _),Nat.sub_self]at hz;cases hz;rw[e1];exact hR _ _ _ _ t4 ry
  ·rw[List.getElem?_eq_none (by simp;omega)]at hz
   cases hz
 ·rintro acc H2 ⟨e1,bt,po,e3,hr⟩
  exact hd l acc H2 hl bt po e3 e1 hr
theorem Ay:zZ ["script","k","cell","number","found","turn"] ["script","k"] (am (top 76)):=smk
theorem nJ(Do:Df K mg "_law_pool" (top 76))(T:Txt mg):Fn P w K mg base "_law_pool" ["script","k"] 1 (EK K):=by
 refine Do.fn Ay (fun _ _ _ _ _ _ us hl=>by obtain⟨_,_,rfl⟩:=dw hl;rfl) (fun vs H Q E h=>?_) (fun f cdv A outer s H vs Q E hr h=>?_)
 ·obtain⟨sa,ss,k,rfl,_⟩:=h
  rfl
 ·obtain⟨sa,ss,k,rfl,hS,⟨h0,h1⟩,q⟩:=h
  have R:∃u,PSs (bE CX0 P w K mg base ["script","k","cell","number","found","turn"] "_law_pool" (am (top 76)) f cdv A outer s H E).nox ((aK (top 76)).drop 2) u∧∀(c:Int) (z3 z4 z5:Option V),u { nx:=fun _ H'=>Q .non H',rt:=Q } [some (.ref sa),some (.int k),some (.int c),z3,z4,z5] H:=by
   refine⟨_,(ai (aL (az kX (pv 2) (ao d8 af af) (aE _)) (ak (ay (aX (ad (ao fT (pv 2) (ao aB (ao aB (ao d8 af af) (ao d8 af af)) (ao d8 af af))) ag)))) aF) (ai (ap (i:=3) Ay.nd rfl (Or.inl rfl) (ao fT (ao aP (ao aP (ao aP (pv 2) (ao aB (ao aB af (pv 1)) (pv 1))) (ao aB af (pv 1))) af) af)) (ai (ap (i:=4) Ay.nd rfl (Or.inl rfl) af) (ai (bW PassesOwn.never rfl (cf rfl T.z_range (ad af ag)) (aS (i:=5) Ay.nd rfl (Or.inl rfl)) (ai (ap (i:=3) Ay.nd rfl (Or.inl rfl) (ao fT (ao aP (ao aP (ao aB (pv 3) af) (ao aB af (pv 5))) af) af)) (ai (ap (i:=3) Ay.nd rfl (Or.inl rfl) (ao fT (ao aB (pv 3) (pv 3)) af)) (ak (ap (i:=4) Ay.nd rfl (Or.inl rfl) (ao aP (ao aB (pv 4) af) (ao fT (ao aP (ao aB (pv 3) af) (pv 1)) af))))))) (ak (ay (aX (ad (pv 4) ag)))))))),fun c z3 z4 z5=>?_⟩;refine⟨_,rfl,_,_,rfl,rfl,⟨by decide,by decide,by decide⟩,_,_,rfl,rfl,_,rfl,aR (fun c1=>?_) (fun c1=>?_)⟩
   ·refine⟨_,rfl,_,_,rfl,rfl,⟨by decide,by decide⟩,_,_,rfl,rfl,⟨by decide,by decide⟩,_,_,rfl,rfl,CM.b (m:=400) (n:=400) (by decide) (by decide) (by decide) (by decide),_,_,rfl,rfl,⟨by decide,by decide⟩,_,_,rfl,rfl,CM.b (m:=800) (n:=400) (by decide) (by decide) (by decide) (by decide),_,_,rfl,rfl,(by show(0:Int)<10^60*10^60*10^60;decide +kernel),sz (by simp),fun p H2 s2 f2 n2=>q p H2 s2 n2 ⟨_,f2⟩⟩
   refine⟨_,rfl,_,rfl,_,_,rfl,rfl,CM.l ⟨by decide,by decide⟩,_,rfl,_,_,rfl,rfl,CM.r (wR (by omega) (by omega)),_,_,rfl,rfl,_,rfl,_,_,rfl,rfl,CM.l ⟨by decide,by decide⟩,_,_,rfl,rfl,_,_,rfl,rfl,_,_,rfl,rfl,(by show(0:Int)<2147483647;decide),?_⟩;have r0:=Int.emod_nonneg (c+104729*k*k+7*k+11) (show(2147483647:Int)≠0 by decide);have r1:=Int.emod_lt_of_pos (c+104729*k*k+7*k+11) (show(0:Int)<2147483647 by decide);refine⟨12,rfl,by decide,by decide,cw (n:=12) (lo:=0) (fun i σ H2=>∃(n f:Int) (z:Option V),σ = [some (.ref sa),some (.int k),some (.int c),some (.int n),some (.int f),z]∧(0≤n∧n<2147483647)∧H2=H) ⟨_,_,_,rfl,⟨r0,r1⟩,rfl⟩ ?_ ?_⟩
   ·rintro i σ H2 hi ⟨n,f,z,rfl,⟨n0,n1⟩,rfl⟩
    refine⟨_,rfl,_,_,rfl,rfl,CM.r ⟨by decide,by decide⟩,_,rfl,_,_,rfl,rfl,CM.l ⟨by decide,by decide⟩,_,_,rfl,rfl,_,_,rfl,rfl,_,_,rfl,rfl,(by show(0:Int)<2147483629;decide),?_⟩;have m0:=Int.emod_nonneg (n*48271+7919*(0+(i:Int))+3) (show(2147483629:Int)≠0 by decide);have m1:=Int.emod_lt_of_pos (n*48271+7919*(0+(i:Int))+3) (show(0:Int)<2147483629 by decide);refine⟨_,rfl,_,rfl,_,_,rfl,rfl,CM.l (by rw[show(2:Int)^64=18446744073709551616 by decide];omega),_,_,rfl,rfl,(by show(0:Int)<2147483587;decide),?_⟩;dsimp only;generalize hn:(n*48271+7919*(0+(i:Int))+3) % 2147483629=a;have k0:=Int.emod_nonneg (a*a) (show(2147483587:Int)≠0 by decide);have k1:=Int.emod_lt_of_pos (a*a) (show(0:Int)<2147483587 by decide);refine⟨_,rfl,_,_,rfl,rfl,CM.r ⟨by decide,by decide⟩,_,rfl,_,_,rfl,rfl,CM.r ⟨by decide,by decide⟩,_,rfl,_,_,rfl,rfl,_,_,rfl,rfl,(by show(0:Int)<2147483587;decide),_,_,rfl,rfl,_,_,_,rfl,⟨k0,by omega⟩,rfl⟩
   ·rintro σ H2 ⟨n,f,z,rfl,_,rfl⟩
    exact⟨_,rfl,sz (by simp),fun p H3 s3 f3 n3=>q p H3 s3 n3 ⟨_,f3⟩⟩
  obtain⟨u,hu,ru⟩:=R;refine⟨_,(ai (ap (i:=2) Ay.nd rfl (Or.inl rfl) af) (ai (aL (az dn (pv 1) (aT a6 (by rfl) T.z_len dL (ad (pv 0) ag)) (aE _)) (ak (ap (i:=2) Ay.nd rfl (Or.inl rfl) (aw cr (pv 0) (pv 1) (fun _ _=>rfl)))) aF) hu)),?_⟩;refine⟨_,rfl,_,rfl,sa,_,rfl,.inl hS,_,_,rfl,rfl,_,rfl,aR (fun h1=>?_) (fun h1=>?_)⟩
  ·have h1:k<(((ss.map V.int).length:Nat):Int):=bz h1
   rw[List.length_map]at h1;exact⟨_,rfl,_,rfl,sa,_,_,_,rfl,rfl,hS,yq k.toNat (by omega) (by omega),ru _ _ _ _⟩
  ·exact ru _ _ _ _
theorem DX:zZ ["pool","many","digit"] ["pool","many"] (am (top 77)):=smk
theorem nI(Dn:Df K mg "_law_take" (top 77)):Fn P w K mg base "_law_take" ["pool","many"] 1 Dz:=by
 refine Dn.fn DX (fun _ _ _ _ _ _ us hl=>by obtain⟨_,_,rfl⟩:=dw hl;rfl) (fun vs H Q E h=>?_) (fun f cdv A outer s H vs Q E hr h=>?_)
 ·obtain⟨p,m,rfl,_⟩:=h
  rfl
 ·obtain⟨p,m,rfl,⟨n,e⟩,⟨hm,bm⟩,q⟩:=h
  refine⟨_,(ai (ap (i:=2) DX.nd rfl (Or.inl rfl) (ao fT (aw cr (pv 0) af (fun _ _=>rfl)) (pv 1))) (ai (xz (ao dP (aw cr (pv 0) af (fun _ _=>rfl)) (pv 1)) (xD (pv 0) af qE)) (ak (ay (pv 2))))),?_⟩;refine⟨_,rfl,p,_,_,_,rfl,rfl,SqL.of e,rfl,_,rfl,_,_,rfl,rfl,hm,?_⟩;refine⟨_,rfl,p,_,_,_,rfl,rfl,SqL.of e,rfl,_,rfl,_,_,rfl,rfl,⟨hm,bm⟩,_,rfl,p,_,_,0,rfl,rfl,e,rfl,fun H2 u=>?_⟩;exact⟨_,rfl,q _ _ (Int.emod_nonneg _ (by omega)) (Int.emod_lt_of_pos _ hm) (fun b o nb e=>u.at nb e) ⟨_,u.now⟩⟩
theorem Dx:zZ ["pool","kind","most"] ["pool","kind"] (am (top 78)):=smk
theorem kl(CG:Df K mg "_law_corner" (top 78))(Ac:Fn P w K mg base "_law_take" ["pool","many"] 1 Dz):Fn P w K mg base "_law_corner" ["pool","kind"] 2 EL:=by
 refine CG.fn Dx (fun _ _ _ _ _ _ us hl=>by obtain⟨_,_,rfl⟩:=dw hl;rfl) (fun vs H Q E h=>?_) (fun f cdv A outer s H vs Q E hr h=>?_)
 ·obtain⟨p,kd,rfl,_⟩:=h
  rfl
 ·obtain⟨p,kd,rfl,po,k⟩:=h
  refine⟨_,(ai (aL (az bS (pv 1) af (aE _)) (ak (ay (ax (ad (ao aO (aA Ac (hr.mono (by decide)) (by rfl) (ad (pv 0) (ad af ag))) af) (ad (ao aO (aA Ac (hr.mono (by decide)) (by rfl) (ad (pv 0) (ad af ag))) af) ag))))) aF) (ai (aL (az bS (pv 1) af (aE _)) (ak (ay (ax (ad (aA Ac (hr.mono (by decide)) (by rfl) (ad (pv 0) (ad af ag))) (ad af ag))))) aF) (ai (aL (az bS (pv 1) af (aE _)) (ak (ay (ax (ad (ao aO (aA Ac (hr.mono (by decide)) (by rfl) (ad (pv 0) (ad af ag))) af) (ad (ao aO (aA Ac (hr.mono (by decide)) (by rfl) (ad (pv 0) (ad af ag))) af) ag))))) aF) (ai (ap (i:=2) Dx.nd rfl (Or.inl rfl) (ao aO (ao d8 af af) af)) (ak (ay (ax (ad (ao aO (aA Ac (hr.mono (by decide)) (by rfl) (ad (pv 0) (ad (ao aP (ao aB af (pv 2)) af) ag))) (pv 2)) (ad (ao aO (aA Ac (hr.mono (by decide)) (by rfl) (ad (pv 0) (ad (ao aP (ao aB af (pv 2)) af) ag))) (pv 2)) ag))))))))),?_⟩;have e12:((10:Int)^(12:Int).toNat)=1000000000000:=by decide +kernel
  have fin:∀{H2:Hp} (x y:Int),But p H H2->Pol H2 p->Sm x->Sm y->∀(r:Addr) H3,Same H2 H3->H3 r=some (.tup [.int x,.int y])->H2 r=none->Q (.ref r) H3:=fun {H2} x y b2 p2 hx hy r H3 s3 f3 n3=>k (r,x,y) H3 (b2.trans (.of s3)) (p2.same s3) (b2.none (p2.ne n3) n3) f3 hx hy;refine⟨_,rfl,rfl,_,rfl,aR (fun c=>?_) (fun c=>?_)⟩
  ·refine⟨_,rfl,p,5,rfl,po,⟨by decide,by decide⟩,fun r1 H1 a1 b1 t1 p1=>⟨_,_,rfl,rfl,?_⟩⟩
   exact⟨_,rfl,p,5,rfl,p1,⟨by decide,by decide⟩,fun r2 H2 a2 b2 t2 p2=>⟨_,_,rfl,rfl,sz (by simp),fun r H3 s3 f3 n3=>fin (r1 - 2) (r2 - 2) (t1.trans t2) p2 (by unfold Sm ic;omega) (by unfold Sm ic;omega) r H3 s3 f3 n3⟩⟩
  refine⟨_,rfl,rfl,_,rfl,aR (fun c=>?_) (fun c=>?_)⟩
  ·exact⟨_,rfl,p,7,rfl,po,⟨by decide,by decide⟩,fun r1 H1 a1 b1 t1 p1=>⟨sz (by simp),fun r H3 s3 f3 n3=>fin r1 0 t1 p1 (by unfold Sm ic;omega) (by unfold Sm ic;omega) r H3 s3 f3 n3⟩⟩
  refine⟨_,rfl,rfl,_,rfl,aR (fun c=>?_) (fun c=>?_)⟩
  ·refine⟨_,rfl,p,41,rfl,po,⟨by decide,by decide⟩,fun r1 H1 a1 b1 t1 p1=>⟨_,_,rfl,rfl,?_⟩⟩
   exact⟨_,rfl,p,41,rfl,p1,⟨by decide,by decide⟩,fun r2 H2 a2 b2 t2 p2=>⟨_,_,rfl,rfl,sz (by simp),fun r H3 s3 f3 n3=>fin (r1 - 20) (r2 - 20) (t1.trans t2) p2 (by unfold Sm ic;omega) (by unfold Sm ic;omega) r H3 s3 f3 n3⟩⟩
  refine⟨_,_,rfl,rfl,⟨by decide,by decide,by decide⟩,_,_,rfl,rfl,?_⟩;dsimp only;rw[e12];refine⟨_,rfl,_,rfl,_,_,rfl,rfl,CM.l ⟨by decide,by decide⟩,_,_,rfl,rfl,p,_,rfl,po,⟨by decide,by decide⟩,fun r1 H1 a1 b1 t1 p1=>⟨_,rfl,_,_,rfl,rfl,?_⟩⟩;exact⟨_,rfl,_,rfl,_,_,rfl,rfl,CM.l ⟨by decide,by decide⟩,_,_,rfl,rfl,p,_,rfl,p1,⟨by decide,by decide⟩,fun r2 H2 a2 b2 t2 p2=>⟨_,rfl,_,_,rfl,rfl,sz (by simp),fun r H3 s3 f3 n3=>fin (r1 - (1000000000000 - 1)) (r2 - (1000000000000 - 1)) (t1.trans t2) p2 (by unfold Sm ic;omega) (by unfold Sm ic;omega) r H3 s3 f3 n3⟩⟩
theorem nX{H:Hp}:∀(ys:List V),(∀(i:Nat) y,ys[i]? = some y->∃q:Addr×Int×Int,y = .ref q.1∧H q.1=some (.tup [.int q.2.1,.int q.2.2])∧Sm q.2.1∧Sm q.2.2)->∃fs:Crn,ys=fs.map (fun (q:Addr×Int×Int)=>V.ref q.1)∧∀q∈fs,H q.1=some (.tup [.int q.2.1,.int q.2.2])∧Sm q.2.1∧Sm q.2.2
 | [],_=>⟨[],rfl,fun q h=>nomatch h⟩
 | y::ys,h=>by
  obtain⟨fs,e1,e2⟩:=nX ys fun i z hz=>h (i+1) z (by simpa using hz);obtain⟨q,rfl,q3⟩:=h 0 y rfl;refine⟨q::fs,by rw[e1];rfl,fun z hz=>?_⟩;rcases List.mem_cons.mp hz with rfl|hz
  ·exact q3
  ·exact e2 z hz
theorem Da:zZ ["pool","most","kind","many"] ["pool","most"] (am (top 79)):=smk
theorem nK(Dp:Df K mg "_law_line" (top 79))(Ac:Fn P w K mg base "_law_take" ["pool","many"] 1 Dz)(Cq:Fn P w K mg base "_law_corner" ["pool","kind"] 2 EL)(T:Txt mg):Fn P w K mg base "_law_line" ["pool","most"] 3 E3:=by
 refine Dp.fn Da (fun _ _ _ _ _ _ us hl=>by obtain⟨_,_,rfl⟩:=dw hl;rfl) (fun vs H Q E h=>?_) (fun f cdv A outer s H vs Q E hr h=>?_)
 ·obtain⟨p,m,rfl,_⟩:=h
  rfl
 ·obtain⟨p,m,rfl,po,⟨m1,m10⟩,k⟩:=h
  have CN:DM (bE CX0 P w K mg base ["pool","most","kind","many"] "_law_line" (am (top 79)) f cdv A outer s H E).nox (Sp7.retScope ((aK (top 79)).getD 2 (.Pass ⟨0,0,0,0⟩))) [("pool",s.heap.objs.size+1),("kind",s.heap.objs.size+2)] "k" [("pool",0),("kind",2)] :=
   ⟨by rfl,rfl,by decide +kernel,by decide +kernel,rfl,(fun p hp=>by simp only[List.mem_cons,List.not_mem_nil,or_false]at hp;rcases hp with rfl|rfl <;> rfl),by rfl,by decide +kernel,(fun p hp=>by simp only[List.mem_cons,List.not_mem_nil,or_false]at hp;rcases hp with rfl|rfl <;> exact⟨rfl,rfl,.inr (.inl rfl),rfl,rfl⟩),⟨rfl,rfl⟩,rfl⟩
  refine⟨_,(@ai _ _ _ _ _ (@ap _ _ 2 _ _ _ _ Da.nd rfl (Or.inr rfl) (@aw _ _ _ _ _ _ _ cr (@aX _ _ _ _ (@ad _ _ _ _ _ af (@ad _ _ _ _ _ af (@ad _ _ _ _ _ af (@ad _ _ _ _ _ af (@ad _ _ _ _ _ af (@ad _ _ _ _ _ af (@ad _ _ _ _ _ af (@ad _ _ _ _ _ af ag (by rfl)) (by rfl)) (by rfl)) (by rfl)) (by rfl)) (by rfl)) (by rfl)) (by rfl))) (aA Ac (hr.mono (by decide)) (by rfl) (ad (pv 0) (ad af ag))) (fun _ _=>rfl)) (by rfl) (by first|exact .inl rfl|exact .inr rfl|assumption)) (ai (ap (i:=3) Da.nd rfl (Or.inl rfl) (aT (lp rfl) (by rfl) T.z_min uH (ad (pv 1) (ad (aw cr (@aX _ _ _ _ (@ad _ _ _ _ _ af (@ad _ _ _ _ _ af (@ad _ _ _ _ _ af (@ad _ _ _ _ _ af (@ad _ _ _ _ _ af (@ad _ _ _ _ _ af (@ad _ _ _ _ _ af (@ad _ _ _ _ _ af ag (by rfl)) (by rfl)) (by rfl)) (by rfl)) (by rfl)) (by rfl)) (by rfl)) (by rfl))) (aA Ac (hr.mono (by decide)) (by rfl) (ad (pv 0) (ad af ag))) (fun _ _=>rfl)) ag)))) (ak (ay (jC rfl CN (cf rfl T.z_range (ad (pv 3) ag)) (fun fp s₀ H₀=>(aA Cq (hr.mono (by decide)) (by rfl) (ad (pv 1) (ad (pv 2) ag))))))))),?_⟩
  refine⟨sz (by simp),fun pl H1 s1 f1 n1=>?_⟩;refine⟨_,rfl,p,8,rfl,po.same s1,⟨by decide,by decide⟩,fun r2 H2 a2 b2' b2 p2=>?_⟩;refine wQ (fun _=>True) (b2 _ _ (po.ne n1) f1) a2 (by simpa using b2') (fun v hv=>?_) fun kd _=>?_
  ·simp only[List.mem_cons,List.not_mem_nil,or_false]at hv
   rcases hv with rfl|rfl|rfl|rfl|rfl|rfl|rfl|rfl <;> exact⟨_,rfl,trivial⟩
  refine⟨_,rfl,sz (by simp),fun pl2 H3 s3 f3 n3=>?_⟩;refine⟨_,rfl,p,8,rfl,p2.same s3,⟨by decide,by decide⟩,fun r4 H4 a4 b4' b4 p4=>?_⟩;refine wQ (fun m=>1≤m∧m≤10) (b4 _ _ (p2.ne n3) f3) a4 (by simpa using b4') (fun v hv=>?_) fun mm hm=>?_
  ·simp only[List.mem_cons,List.not_mem_nil,or_false]at hv
   rcases hv with rfl|rfl|rfl|rfl|rfl|rfl|rfl|rfl <;> exact⟨_,rfl,by decide,by decide⟩
  refine⟨_,_,rfl,?_⟩;have hn:1≤(if mm<m then mm else m)∧(if mm<m then mm else m)≤m∧(if mm<m then mm else m)≤10:=by split <;> omega
  dsimp only;generalize (if mm<m then mm else m)=n at hn ⊢
  have B4:But p H H4:=(But.of s1).trans (b2.trans ((But.of s3).trans b4));refine⟨_,rfl,_,rfl,by omega,by omega,vZ (n:=n.toNat) (lo:=0) (p:=p) (by omega) p4 (fun _ v H'=>∃q:Addr×Int×Int,v = .ref q.1∧H' q.1=some (.tup [.int q.2.1,.int q.2.2])∧Sm q.2.1∧Sm q.2.2) (fun i v H H' st ⟨q,e1,e2,e3⟩=>⟨q,e1,st _ _ e2,e3⟩) ?_ ?_⟩
  ·intro i H5 Kc hi b5 p5 kk
   exact⟨_,rfl,_,rfl,p,kd,rfl,p5,fun q H6 b6 p6 n6 f6 h1 h2=>kk _ H6 b6 p6 ⟨q,rfl,f6,h1,h2⟩⟩
  ·intro l ys H5 nl b5 p5 f5 hl hr
   obtain⟨fs,rfl,h2⟩:=nX ys hr;rw[List.length_map]at hl;exact k l fs H5 (B4.trans b5) p5 (B4.none (p4.ne nl) nl) ⟨f5,h2⟩ (by omega) (by omega)
theorem dU{H H':Hp}{l q:Addr}{qs:Crn}{x y:Int}(L:LineM H l qs)(f:H q=some (.tup [.int x,.int y]))(hx:Sm x)(hy:Sm y)(u:EH H H' l (qs.map fun (q:Addr×Int×Int)=>V.ref q.1) ((qs.map fun (q:Addr×Int×Int)=>V.ref q.1)++[.ref q])):LineM H' l (qs++[(q,x,y)]):=by
 refine⟨by rw[u.now,List.map_append];rfl,fun z hz=>?_⟩;rcases List.mem_append.mp hz with h|h
 ·exact⟨u.t _ _ (L.crn z h).1,(L.crn z h).2⟩
 ·rw[List.mem_singleton.mp h]
  exact⟨u.t _ _ f,hx,hy⟩
theorem dY{p r:Addr}{H H1 H2:Hp}{xs ys:List V}(b:But p H H1)(n:H r=none)(u:EH H1 H2 r xs ys):But p H H2:=fun c o nc e=>u.at (aQ e n) (b c o nc e)
theorem fG{p r:Addr}{H1 H2:Hp}{xs ys:List V}(h:Pol H1 p)(n:r≠p)(u:EH H1 H2 r xs ys):Pol H2 p:=by
 obtain⟨m,e⟩:=h;exact⟨m,u.at n.symm e⟩
theorem cg{p l:Addr}{H H':Hp}{qs:Crn}(L:LineM H l qs)(b:But p H H')(h:Pol H p)(n:p≠l):LineM H' l qs:=⟨b _ _ n.symm L.lst,fun q hq=>⟨h.t b _ _ (L.crn q hq).1,(L.crn q hq).2⟩⟩
theorem Ax:zZ ["pool","line","most","way","found","x","y"] ["pool","line","most"] (am (top 80)):=smk
theorem kj(CC:Df K mg "_law_second" (top 80))(Ac:Fn P w K mg base "_law_take" ["pool","many"] 1 Dz)(Bb:Fn P w K mg base "_law_line" ["pool","most"] 3 E3)(T:Txt mg):Fn P w K mg base "_law_second" ["pool","line","most"] 4 Fk:=by
 refine CC.fn Ax (fun _ _ _ _ _ _ us hl=>by obtain⟨_,_,_,rfl⟩:=iL hl;rfl) (fun vs H Q E h=>?_) (fun f cdv A outer s H vs Q E hr h=>?_)
 ·obtain⟨p,l0,qs0,m,rfl,_⟩:=h
  rfl
 ·obtain⟨p,l0,qs0,m,rfl,po,L0,n0,⟨l1,lm⟩,⟨m1,m10⟩,k⟩:=h
  refine⟨_,(ai (ap (i:=3) Ax.nd rfl (Or.inl rfl) (aA Ac (hr.mono (by decide)) (by rfl) (ad (pv 0) (ad af ag)))) (ai (aL (az dn (pv 3) af (aE _)) (ak (ay (aA Bb (hr.mono (by decide)) (by rfl) (ad (pv 0) (ad (pv 2) ag))))) aF) (ai (aL (az bS (pv 3) af (aE _)) (ak (ay (qJ (pv 1) (lO (dO da af))))) aF) (ai (ap (i:=4) Ax.nd rfl (Or.inl rfl) (aX ag)) (ai (bW PassesOwn.never rfl (fH (pv 1)) (hV rfl (bZ (aS (i:=5) Ax.nd rfl (Or.inl rfl)) (bZ (aS (i:=6) Ax.nd rfl (Or.inl rfl)) fI))) (ai (aL (jz (az dn (aT fw (by rfl) T.z_abs jZ (ad (pv 5) ag)) (ao aO (ao d8 af af) af) (aE _)) (i9 (az dn (aT fw (by rfl) T.z_abs jZ (ad (pv 6) ag)) (ao aO (ao d8 af af) af) (aE _)))).pt (ai (ap (i:=5) Ax.nd rfl (Or.inl rfl) (ao aO (ao aP (pv 5) (aA Ac (hr.mono (by decide)) (by rfl) (ad (pv 0) (ad af ag)))) af)) (ak (ap (i:=6) Ax.nd rfl (Or.inl rfl) (ao aO (ao aP (pv 6) (aA Ac (hr.mono (by decide)) (by rfl) (ad (pv 0) (ad af ag)))) af)))) aF) (ai (bD (dG PySem.F.plainAttrs_list PySem.F.slot_list_append PySem.F.type_list_append aZ (pv 4) (ad (ax (ad (pv 5) (ad (pv 6) ag))) ag))) (ak (aL (jz (az bS (pv 3) af (aE _)) (jz (az dn (aT a6 (by rfl) T.z_len dL (ad (pv 4) ag)) (pv 2) (aE _)) (i9 (az bS (aA Ac (hr.mono (by decide)) (by rfl) (ad (pv 0) (ad af ag))) af (aE _))))).pt (ak (bD (dG PySem.F.plainAttrs_list PySem.F.slot_list_append PySem.F.type_list_append aZ (pv 4) (ad (ax (ad (pv 5) (ad (pv 6) ag))) ag)))) aF))))) (ak (ay (mL mF (pv 4) pS (lO (pv 2)))))))))),?_⟩;have e12:((10:Int)^(12:Int).toNat - 2)=999999999998:=by decide +kernel
  have hl0:(qs0.map fun (q:Addr×Int×Int)=>V.ref q.1).length=qs0.length:=List.length_map _;refine⟨_,rfl,p,8,rfl,po,⟨by decide,by decide⟩,fun wy H1 a1 a2 b1 p1=>?_⟩;refine⟨_,rfl,_,_,rfl,rfl,_,rfl,aR (fun c1=>?_) (fun c1=>?_)⟩
  ·exact⟨_,rfl,_,rfl,p,m,rfl,p1,⟨m1,m10⟩,fun l qs H2 b2 p2 nl L h1 h2=>k l qs H2 (b1.trans b2) p2 (b1.none (p1.ne nl) nl) L h1 h2⟩
  have L1:=cg L0 b1 po n0.symm;refine⟨_,rfl,rfl,_,rfl,aR (fun c2=>?_) (fun c2=>?_)⟩
  ·refine⟨_,rfl,_,rfl,_,rfl,rfl,l0,_,rfl,SqL.of L1.lst,fun l H2 s2 f2 nl=>?_⟩
   refine k l qs0.reverse H2 (b1.trans (.of s2)) (p1.same s2) (b1.none (p1.ne nl) nl) ⟨by rw[f2,List.map_reverse],fun q hq=>((L1.mono s2).crn q (List.mem_reverse.mp hq))⟩ (by rw[List.length_reverse];exact l1) (by rw[List.length_reverse];exact lm)
  refine⟨sz (by simp),fun r H2 s2 f2 nr=>?_⟩;have n1:H r=none:=b1.none (p1.ne nr) nr;have npr:r≠p:=p1.ne nr;refine⟨_,rfl,l0,rfl,⟨_,SqL.of (s2 _ _ L1.lst)⟩,gL (K:=K) (a:=l0) (xs:=qs0.map fun (q:Addr×Int×Int)=>V.ref q.1) (fun i σ H'=>∃(z5 z6:Option V) (qs:Crn),σ = [some (.ref p),some (.ref l0),some (.int m),some (.int wy),some (.ref r),z5,z6]∧But p H H'∧Pol H' p∧LineM H' r qs∧i≤qs.length∧qs.length≤2*i)
   ⟨_,_,[],rfl,b1.trans (.of s2),p1.same s2,⟨f2,fun q h=>nomatch h⟩,Nat.le_refl _,Nat.le_refl _⟩ (fun i σ H' _ ⟨_,_,_,_,b,_⟩=>SqL.of (b _ _ n0 L0.lst)) ?_ ?_⟩
  ·rintro i v σ H3 hv ⟨z5,z6,qs,rfl,b3,p3,L3,g1,g2⟩
   rw[List.getElem?_map]at hv;obtain⟨u,hu,rfl⟩:=Option.map_eq_some_iff.mp hv;have iu:=(List.getElem?_eq_some_iff.mp hu).1;have cu:=(cg L0 b3 po n0.symm).crn u (List.mem_of_getElem? hu);obtain⟨x1,x2⟩:=cu.2.1;obtain⟨y1,y2⟩:=cu.2.2;unfold ic at x1 x2 y1 y2;refine⟨u.1,_,rfl,SqT.of cu.1,rfl,_,_,rfl,_,_,rfl,rfl,?_⟩;refine⟨_,rfl,_,rfl,_,_,rfl,rfl,⟨by decide,by decide,by decide⟩,_,_,rfl,rfl,_,_,rfl,rfl,_,rfl,aR (fun c3=>?_) (fun c3=>?_)⟩
   ·try dsimp only at c3
    rw[e12]at c3;have c3:(if u.2.1<0 then -u.2.1 else u.2.1)<999999999998:=bz c3
    refine⟨_,rfl,_,rfl,_,_,rfl,rfl,⟨by decide,by decide,by decide⟩,_,_,rfl,rfl,_,_,rfl,rfl,_,rfl,aR (fun c4=>?_) (fun c4=>?_)⟩
    ·try dsimp only at c4
     rw[e12]at c4;have c4:(if u.2.2<0 then -u.2.2 else u.2.2)<999999999998:=bz c4
     refine⟨_,rfl,_,rfl,p,3,rfl,p3,⟨by decide,by decide⟩,fun r4 H4 a4 a4' b4 p4=>⟨_,_,rfl,rfl,_,_,rfl,rfl,?_⟩⟩;refine⟨_,rfl,_,rfl,p,3,rfl,p4,⟨by decide,by decide⟩,fun r5 H5 a5 a5' b5 p5=>⟨_,_,rfl,rfl,_,_,rfl,rfl,?_⟩⟩
     try dsimp only
     have LL:=cg (cg L3 b4 p3 npr.symm) b5 p4 npr.symm;have BB:=(b3.trans b4).trans b5;have PP:=p5;have hX:Sm (u.2.1+r4 - 1):=by unfold Sm ic;split at c3 <;> omega
     have hY:Sm (u.2.2+r5 - 1):=by unfold Sm ic;split at c4 <;> omega
     refine⟨_,rfl,.inl ⟨rfl,_,SqL.of LL.lst⟩,_,rfl,_,rfl,sz (by simp),fun q HA sA fA nA=>?_⟩;have LA:=LL.mono sA;have bA:=BB.trans (But.of sA);refine⟨r,_,_,rfl,rfl,LA.lst,Nat.lt_of_lt_of_le (by rw[List.length_map];omega) (sz (n:=900) (by omega)),fun HB uB=>?_⟩;have LB:=dU LA fA hX hY uB;have bB:But p H HB:=dY bA n1 uB;have pB:Pol HB p:=fG (PP.same sA) npr uB;refine⟨_,rfl,rfl,_,rfl,aR (fun d1=>?_) (fun d1=>?_)⟩
     ·refine⟨_,rfl,r,_,rfl,.inl (SqL.of LB.lst),_,rfl,_,_,rfl,rfl,_,rfl,aR (fun d2=>?_) (fun d2=>?_)⟩
      ·refine⟨_,rfl,p,3,rfl,pB,⟨by decide,by decide⟩,fun rC HC aC cC tC pC=>⟨rfl,_,rfl,aR (fun d3=>?_) (fun d3=>?_)⟩⟩
       ·have LC:=cg LB tC pB npr.symm
        refine⟨_,rfl,.inl ⟨rfl,_,SqL.of LC.lst⟩,_,rfl,_,rfl,sz (by simp),fun q2 HD sD fD nD=>?_⟩;have LD:=LC.mono sD;refine⟨r,_,_,rfl,rfl,LD.lst,Nat.lt_of_lt_of_le (by rw[List.length_map,List.length_append,List.length_singleton];omega) (sz (n:=900) (by omega)),fun HE uE=>?_⟩;exact⟨_,_,_,rfl,dY ((bB.trans tC).trans (But.of sD)) n1 uE,fG (pC.same sD) npr uE,dU LD fD hX hY uE,by simp only[List.length_append,List.length_singleton];omega,by simp only[List.length_append,List.length_singleton];omega⟩
       ·exact⟨_,_,_,rfl,bB.trans tC,pC,cg LB tC pB npr.symm,by simp only[List.length_append,List.length_singleton];omega,by simp only[List.length_append,List.length_singleton];omega⟩
      ·exact⟨_,_,_,rfl,bB,pB,LB,by simp only[List.length_append,List.length_singleton];omega,by simp only[List.length_append,List.length_singleton];omega⟩
     ·exact⟨_,_,_,rfl,bB,pB,LB,by simp only[List.length_append,List.length_singleton];omega,by simp only[List.length_append,List.length_singleton];omega⟩
    ·try dsimp only
     have LL:=L3;have BB:=b3;have PP:=p3;have hX:Sm u.2.1:=by exact cu.2.1
     have hY:Sm u.2.2:=by exact cu.2.2
     refine⟨_,rfl,.inl ⟨rfl,_,SqL.of LL.lst⟩,_,rfl,_,rfl,sz (by simp),fun q HA sA fA nA=>?_⟩;have LA:=LL.mono sA;have bA:=BB.trans (But.of sA);refine⟨r,_,_,rfl,rfl,LA.lst,Nat.lt_of_lt_of_le (by rw[List.length_map];omega) (sz (n:=900) (by omega)),fun HB uB=>?_⟩;have LB:=dU LA fA hX hY uB;have bB:But p H HB:=dY bA n1 uB;have pB:Pol HB p:=fG (PP.same sA) npr uB;refine⟨_,rfl,rfl,_,rfl,aR (fun d1=>?_) (fun d1=>?_)⟩
     ·refine⟨_,rfl,r,_,rfl,.inl (SqL.of LB.lst),_,rfl,_,_,rfl,rfl,_,rfl,aR (fun d2=>?_) (fun d2=>?_)⟩
      ·refine⟨_,rfl,p,3,rfl,pB,⟨by decide,by decide⟩,fun rC HC aC cC tC pC=>⟨rfl,_,rfl,aR (fun d3=>?_) (fun d3=>?_)⟩⟩
       ·have LC:=cg LB tC pB npr.symm
        refine⟨_,rfl,.inl ⟨rfl,_,SqL.of LC.lst⟩,_,rfl,_,rfl,sz (by simp),fun q2 HD sD fD nD=>?_⟩;have LD:=LC.mono sD;refine⟨r,_,_,rfl,rfl,LD.lst,Nat.lt_of_lt_of_le (by rw[List.length_map,List.length_append,List.length_singleton];omega) (sz (n:=900) (by omega)),fun HE uE=>?_⟩;exact⟨_,_,_,rfl,dY ((bB.trans tC).trans (But.of sD)) n1 uE,fG (pC.same sD) npr uE,dU LD fD hX hY uE,by simp only[List.length_append,List.length_singleton];omega,by simp only[List.length_append,List.length_singleton];omega⟩
       ·exact⟨_,_,_,rfl,bB.trans tC,pC,cg LB tC pB npr.symm,by simp only[List.length_append,List.length_singleton];omega,by simp only[List.length_append,List.length_singleton];omega⟩
      ·exact⟨_,_,_,rfl,bB,pB,LB,by simp only[List.length_append,List.length_singleton];omega,by simp only[List.length_append,List.length_singleton];omega⟩
     ·exact⟨_,_,_,rfl,bB,pB,LB,by simp only[List.length_append,List.length_singleton];omega,by simp only[List.length_append,List.length_singleton];omega⟩
   ·try dsimp only
    have LL:=L3;have BB:=b3;have PP:=p3;have hX:Sm u.2.1:=by exact cu.2.1
    have hY:Sm u.2.2:=by exact cu.2.2
    refine⟨_,rfl,.inl ⟨rfl,_,SqL.of LL.lst⟩,_,rfl,_,rfl,sz (by simp),fun q HA sA fA nA=>?_⟩;have LA:=LL.mono sA;have bA:=BB.trans (But.of sA);refine⟨r,_,_,rfl,rfl,LA.lst,Nat.lt_of_lt_of_le (by rw[List.length_map];omega) (sz (n:=900) (by omega)),fun HB uB=>?_⟩;have LB:=dU LA fA hX hY uB;have bB:But p H HB:=dY bA n1 uB;have pB:Pol HB p:=fG (PP.same sA) npr uB;refine⟨_,rfl,rfl,_,rfl,aR (fun d1=>?_) (fun d1=>?_)⟩
    ·refine⟨_,rfl,r,_,rfl,.inl (SqL.of LB.lst),_,rfl,_,_,rfl,rfl,_,rfl,aR (fun d2=>?_) (fun d2=>?_)⟩
     ·refine⟨_,rfl,p,3,rfl,pB,⟨by decide,by decide⟩,fun rC HC aC cC tC pC=>⟨rfl,_,rfl,aR (fun d3=>?_) (fun d3=>?_)⟩⟩
      ·have LC:=cg LB tC pB npr.symm
       refine⟨_,rfl,.inl ⟨rfl,_,SqL.of LC.lst⟩,_,rfl,_,rfl,sz (by simp),fun q2 HD sD fD nD=>?_⟩;have LD:=LC.mono sD;refine⟨r,_,_,rfl,rfl,LD.lst,Nat.lt_of_lt_of_le (by rw[List.length_map,List.length_append,List.length_singleton];omega) (sz (n:=900) (by omega)),fun HE uE=>?_⟩;exact⟨_,_,_,rfl,dY ((bB.trans tC).trans (But.of sD)) n1 uE,fG (pC.same sD) npr uE,dU LD fD hX hY uE,by simp only[List.length_append,List.length_singleton];omega,by simp only[List.length_append,List.length_singleton];omega⟩
      ·exact⟨_,_,_,rfl,bB.trans tC,pC,cg LB tC pB npr.symm,by simp only[List.length_append,List.length_singleton];omega,by simp only[List.length_append,List.length_singleton];omega⟩
     ·exact⟨_,_,_,rfl,bB,pB,LB,by simp only[List.length_append,List.length_singleton];omega,by simp only[List.length_append,List.length_singleton];omega⟩
    ·exact⟨_,_,_,rfl,bB,pB,LB,by simp only[List.length_append,List.length_singleton];omega,by simp only[List.length_append,List.length_singleton];omega⟩
  ·rintro σ H3 ⟨z5,z6,qs,rfl,b3,p3,L3,g1,g2⟩
   rw[hl0]at g1 g2;refine⟨_,rfl,_,rfl,_,rfl,r,_,rfl,SqL.of L3.lst,fun l H4 s4 f4 nl=>?_⟩;obtain⟨j,hj⟩:∃j:Nat,m=(j:Int):=⟨m.toNat,by omega⟩;have e:kA (qs.map fun (q:Addr×Int×Int)=>V.ref q.1) none (some m)=(qs.take j).map fun (q:Addr×Int×Int)=>V.ref q.1:=by
    unfold kA;rw[hj,HT.sIx_nat,HT.sIx_none,List.length_map,List.drop_zero,Nat.sub_zero,<- List.map_take]
    congr 1
    rw[List.take_eq_take_iff];omega
   rw[e]at f4;refine k l (qs.take j) H4 (b3.trans (.of s4)) (p3.same s4) (b3.none (p3.ne nl) nl) ⟨f4,fun q hq=>((L3.mono s4).crn q (List.mem_of_mem_take hq))⟩ ?_ ?_
   ·rw[List.length_take]
    omega
   ·rw[List.length_take]
    omega
theorem xK{x:Int}(h:x.natAbs<10^60):aq x≤200:=cB (n:=200) (Nat.lt_of_lt_of_le h (by decide +kernel))
theorem yP{x y:Int}(h:¬(0<y∧Int.gcd x y=1∧0≤x)):(lowB x y && !decide (x<0))=false:=by
 cases hc:lowB x y && !decide (x<0) with
 | false=>rfl
 | true =>
  simp only[lowB,Bool.and_eq_true,decide_eq_true_eq,Bool.not_eq_true',decide_eq_false_iff_not]at hc;exact absurd ⟨by omega,hc.1.2,by omega⟩ h
def sqL:List V->Bool
 | [.int a,.int b]=>lowB a b && !decide (a<0)
 | _=>false
theorem u7{H:Hp}{r:Addr}{xs:List V}(e:H r=some (.tup xs)):sqV H (.ref r)=sqL xs:=by
 simp only[sqV,e];rcases xs with _|⟨a,_|⟨b,_|⟨c,r⟩⟩⟩
 ·rfl
 ·cases a <;> rfl
 ·cases a <;> cases b <;> rfl
 ·cases a <;> cases b <;> rfl
def Odd(H:Hp)(v:V):Prop:=Bp H v∧sqV H v=false
theorem eX{H:Hp}:∀y∈([]:List V),∃t,Kn H y t:=fun y hy=>nomatch hy
theorem bP{H:Hp}{v:V}{vs:List V}{t:String}(k:Kn H v t)(h:∀y∈vs,∃t,Kn H y t):∀y∈v::vs,∃t,Kn H y t:=fun y hy=>by
 rcases List.mem_cons.mp hy with rfl|hy
 ·exact⟨t,k⟩
 ·exact h y hy
theorem odT{H:Hp}{r:Addr}{xs:List V}(e:H r=some (.tup xs))(no:sqL xs=false)(kn:∀y∈xs,∃t,Kn H y t):Odd H (.ref r):=⟨th_tup e kn,(u7 e).trans no⟩
theorem od2{H:Hp}{r:Addr}{x y:Int}(e:H r=some (.tup [.int x,.int y]))(no:¬(0<y∧Int.gcd x y=1∧0≤x)):Odd H (.ref r):=odT e (yP no) (bP (.int _) (bP (.int _) eX))
inductive Fr (vs:List V) (H:Hp) (Q:VK) (x_3:XK):Prop
 | mk:∀p:Addr,(vs = [.ref p])->(Pol H p)->(∀(v:V) (H':Hp),Odd H' v->But p H H'->Pol H' p->Q v H')->Fr vs H Q x_3
theorem Az:zZ ["pool","top","bottom","some"] ["pool"] (am (top 81)):=smk
theorem im(By:Df K mg "_law_no_square" (top 81))(Ac:Fn P w K mg base "_law_take" ["pool","many"] 1 Dz)(T:Txt mg):Fn P w K mg base "_law_no_square" ["pool"] 2 Fr:=by
 refine By.fn Az (fun _ _ _ _ _ _ us hl=>by obtain⟨_,rfl⟩:=d9 hl;rfl) (fun vs H Q E h=>?_) (fun f cdv A outer s H vs Q E hr h=>?_)
 ·obtain⟨p,rfl,_⟩:=h
  rfl
 ·obtain⟨p,rfl,po,q⟩:=h
  refine⟨_,(ai (ap (i:=1) Az.nd rfl (Or.inl rfl) (aA Ac (hr.mono (by decide)) (by rfl) (ad (pv 0) (ad (ao d8 af af) ag)))) (ai (ap (i:=2) Az.nd rfl (Or.inl rfl) (ao aP af (aA Ac (hr.mono (by decide)) (by rfl) (ad (pv 0) (ad (ao d8 af af) ag))))) (@ai _ _ _ _ _ (@ap _ _ 3 _ _ _ _ Az.nd rfl (Or.inl rfl) (@aX _ _ _ _ (@ad _ _ _ _ _ (@ax _ _ _ _ _ (@ad _ _ _ _ _ (ao aO (ao aO af af) (pv 1)) (@ad _ _ _ _ _ af ag (by rfl)) (by rfl))) (@ad _ _ _ _ _ (@ax _ _ _ _ _ (@ad _ _ _ _ _ (ao aB af (pv 1)) (@ad _ _ _ _ _ af ag (by rfl)) (by rfl))) (@ad _ _ _ _ _ (@ax _ _ _ _ _ (@ad _ _ _ _ _ (pv 1) (@ad _ _ _ _ _ af ag (by rfl)) (by rfl))) (@ad _ _ _ _ _ (@ax _ _ _ _ _ (@ad _ _ _ _ _ af (@ad _ _ _ _ _ (ao aO af (pv 2)) ag (by rfl)) (by rfl))) (@ad _ _ _ _ _ (pv 1) (@ad _ _ _ _ _ dH (@ad _ _ _ _ _ aW (@ad _ _ _ _ _ (@aX _ _ _ _ (@ad _ _ _ _ _ af (@ad _ _ _ _ _ af ag (by rfl)) (by rfl))) (@ad _ _ _ _ _ db (@ad _ _ _ _ _ (@ax _ _ _ _ _ (@ad _ _ _ _ _ af (@ad _ _ _ _ _ af (@ad _ _ _ _ _ af ag (by rfl)) (by rfl)) (by rfl))) ag (by rfl)) (by rfl)) (by rfl)) (by rfl)) (by rfl)) (by rfl)) (by rfl)) (by rfl)) (by rfl)) (by rfl))) (by rfl) (by first|exact .inl rfl|exact .inr rfl|assumption)) (ai (ap (i:=3) Az.nd rfl (Or.inl rfl) (ao jc (pv 3) (@aX _ _ _ _ (@ad _ _ _ _ _ (@ax _ _ _ _ _ (@ad _ _ _ _ _ (pv 1) ag (by rfl))) (@ad _ _ _ _ _ (@ax _ _ _ _ _ (@ad _ _ _ _ _ dH (@ad _ _ _ _ _ af ag (by rfl)) (by rfl))) (@ad _ _ _ _ _ (@ax _ _ _ _ _ (@ad _ _ _ _ _ af (@ad _ _ _ _ _ dH ag (by rfl)) (by rfl))) (@ad _ _ _ _ _ (@ax _ _ _ _ _ (@ad _ _ _ _ _ af (@ad _ _ _ _ _ (ao aP af (pv 2)) ag (by rfl)) (by rfl))) (@ad _ _ _ _ _ db (@ad _ _ _ _ _ (@ax _ _ _ _ _ (@ad _ _ _ _ _ aW (@ad _ _ _ _ _ af ag (by rfl)) (by rfl))) (@ad _ _ _ _ _ (@ax _ _ _ _ _ (@ad _ _ _ _ _ af (@ad _ _ _ _ _ db ag (by rfl)) (by rfl))) (@ad _ _ _ _ _ (@ax _ _ _ _ _ (@ad _ _ _ _ _ (ao aO af (pv 2)) (@ad _ _ _ _ _ af ag (by rfl)) (by rfl))) ag (by rfl)) (by rfl)) (by rfl)) (by rfl)) (by rfl)) (by rfl)) (by rfl)) (by rfl))))) (ak (ay (aw cr (pv 3) (aA Ac (hr.mono (by decide)) (by rfl) (ad (pv 0) (ad (aT a6 (by rfl) T.z_len dL (ad (pv 3) ag)) ag))) (fun _ _=>rfl)))))))),?_⟩
  refine⟨_,rfl,_,_,rfl,rfl,⟨by decide,by decide,by decide⟩,p,_,rfl,po,⟨by decide,by decide⟩,fun r1 H1 a1 b1 B1 P1=>?_⟩;refine⟨_,rfl,_,_,rfl,rfl,⟨by decide,by decide,by decide⟩,p,_,rfl,P1,⟨by decide,by decide⟩,fun r2 J0 a2 b2 B2 P2=>⟨_,_,rfl,rfl,?_⟩⟩;have e12:(10:Int)^(12:Int).toNat=1000000000000:=by decide +kernel
  rw[e12]at b1;have bt:aq r1≤200:=xK (by omega);have btwo:aq (2:Int)≤2:=by decide
  refine⟨_,_,rfl,rfl,_,rfl,_,_,rfl,rfl,sz (by simp),fun t1 J1 s1 f1 n1=>?_⟩;refine⟨_,rfl,_,_,rfl,rfl,CM.of btwo bt ⟨by decide,by decide⟩,sz (by simp),fun t2 J2 s2 f2 n2=>?_⟩;refine⟨_,rfl,sz (by simp),fun t3 J3 s3 f3 n3=>?_⟩;refine⟨_,rfl,_,_,rfl,rfl,sz (by simp),fun t4 J4 s4 f4 n4=>?_⟩;refine⟨_,rfl,sz (by simp),fun t5 J5 s5 f5 n5=>?_⟩;refine⟨sz (by simp),fun t6 J6 s6 f6 n6=>?_⟩;refine⟨sz (by simp),fun t7 J7 s7 f7 n7=>?_⟩;refine⟨_,rfl,_,rfl,sz (by simp),fun t8 J8 s8 f8 n8=>?_⟩;refine⟨sz (by simp),fun t9 J9 s9 f9 n9=>?_⟩;refine⟨sz (by simp),fun t10 J10 s10 f10 n10=>?_⟩;refine⟨_,rfl,_,_,rfl,rfl,sz (by simp),fun t11 J11 s11 f11 n11=>?_⟩;refine⟨sz (by simp),fun t12 J12 s12 f12 n12=>?_⟩;refine⟨sz (by simp),fun t13 J13 s13 f13 n13=>?_⟩;refine⟨_,rfl,_,_,rfl,rfl,sz (by simp),fun t14 J14 s14 f14 n14=>?_⟩;refine⟨sz (by simp),fun t15 J15 s15 f15 n15=>?_⟩;refine⟨t7,t15,_,_,rfl,rfl,(s8.trans (s9.trans (s10.trans (s11.trans (s12.trans (s13.trans (s14.trans (s15)))))))) _ _ f7,f15,sz (by simp),fun l9 H3 s16 f16 n16=>?_⟩;have P15:=P2.same (s1.trans (s2.trans (s3.trans (s4.trans (s5.trans (s6.trans (s7.trans (s8.trans (s9.trans (s10.trans (s11.trans (s12.trans (s13.trans (s14.trans (s15)))))))))))))));have P3:=P15.same s16;refine⟨_,rfl,_,rfl,_,rfl,l9,_,rfl,.inl (SqL.of f16),p,_,rfl,P3,⟨by simp,by simp;decide⟩,fun r4 H4 a4 b4 B4 P4=>?_⟩;refine yZ (B4 _ _ (P15.ne n16) f16) a4 b4 fun v hv=>?_;refine q v H4 ?_ ((B1.trans B2).trans ((But.of (s1.trans (s2.trans (s3.trans (s4.trans (s5.trans (s6.trans (s7.trans (s8.trans (s9.trans (s10.trans (s11.trans (s12.trans (s13.trans (s14.trans (s15.trans (s16))))))))))))))))).trans B4)) P4;have T4:=P3.t B4;simp only[List.mem_append,List.mem_cons,List.not_mem_nil,or_false,or_assoc]at hv;rcases hv with rfl|rfl|rfl|rfl|rfl|rfl|rfl|rfl|rfl|rfl|rfl|rfl|rfl|rfl|rfl|rfl|rfl|rfl
  ·exact od2 (T4 _ _ ((s2.trans (s3.trans (s4.trans (s5.trans (s6.trans (s7.trans (s8.trans (s9.trans (s10.trans (s11.trans (s12.trans (s13.trans (s14.trans (s15.trans (s16))))))))))))))) _ _ f1)) (fun h=>by omega)
  ·exact od2 (T4 _ _ ((s3.trans (s4.trans (s5.trans (s6.trans (s7.trans (s8.trans (s9.trans (s10.trans (s11.trans (s12.trans (s13.trans (s14.trans (s15.trans (s16)))))))))))))) _ _ f2)) (fun h=>by
    have h1:=h.2.1;have h2:(2:Int)∣(Int.gcd (2*r1) 2:Int):=Int.dvd_coe_gcd ⟨r1,by omega⟩ ⟨1,rfl⟩;rw[h1]at h2;exact absurd h2 (by decide))
  ·exact od2 (T4 _ _ ((s4.trans (s5.trans (s6.trans (s7.trans (s8.trans (s9.trans (s10.trans (s11.trans (s12.trans (s13.trans (s14.trans (s15.trans (s16))))))))))))) _ _ f3)) (fun h=>by omega)
  ·exact od2 (T4 _ _ ((s5.trans (s6.trans (s7.trans (s8.trans (s9.trans (s10.trans (s11.trans (s12.trans (s13.trans (s14.trans (s15.trans (s16)))))))))))) _ _ f4)) (fun h=>by omega)
  ·exact⟨th_flat (.int _) (fun p e=>nomatch e),rfl⟩
  ·exact⟨th_flat (.bl _) (fun p e=>nomatch e),rfl⟩
  ·exact⟨th_flat .non (fun p e=>nomatch e),rfl⟩
  ·have h:=B4 _ _ ((P2.same (s1.trans (s2.trans (s3.trans (s4))))).ne n5) ((s6.trans (s7.trans (s8.trans (s9.trans (s10.trans (s11.trans (s12.trans (s13.trans (s14.trans (s15.trans (s16))))))))))) _ _ f5)
   exact⟨th_lst h,by simp only[sqV,h]⟩
  ·exact⟨th_flat (.str _) (fun p e=>nomatch e),rfl⟩
  ·exact odT (T4 _ _ ((s7.trans (s8.trans (s9.trans (s10.trans (s11.trans (s12.trans (s13.trans (s14.trans (s15.trans (s16)))))))))) _ _ f6)) rfl (bP (.int _) (bP (.int _) (bP (.int _) eX)))
  ·exact odT (T4 _ _ ((s9.trans (s10.trans (s11.trans (s12.trans (s13.trans (s14.trans (s15.trans (s16)))))))) _ _ f8)) rfl (bP (.int _) eX)
  ·exact odT (T4 _ _ ((s10.trans (s11.trans (s12.trans (s13.trans (s14.trans (s15.trans (s16))))))) _ _ f9)) rfl (bP (.bl _) (bP (.int _) eX))
  ·exact odT (T4 _ _ ((s11.trans (s12.trans (s13.trans (s14.trans (s15.trans (s16)))))) _ _ f10)) rfl (bP (.int _) (bP (.bl _) eX))
  ·exact od2 (T4 _ _ ((s12.trans (s13.trans (s14.trans (s15.trans (s16))))) _ _ f11)) (fun h=>by
    have h1:=h.2.1;rw[Int.gcd_zero_left]at h1;omega)
  ·exact⟨th_flat (.str _) (fun p e=>nomatch e),rfl⟩
  ·exact odT (T4 _ _ ((s13.trans (s14.trans (s15.trans (s16)))) _ _ f12)) rfl (bP .non (bP (.int _) eX))
  ·exact odT (T4 _ _ ((s14.trans (s15.trans (s16))) _ _ f13)) rfl (bP (.int _) (bP (.str _) eX))
  ·exact od2 (T4 _ _ ((s15.trans (s16)) _ _ f14)) (fun h=>by omega)
theorem mE{H H':Hp}{v:V}(h:Bp H v)(s:Same H H'):sqV H' v=sqV H v:=by
 obtain⟨⟨t,k⟩,pt⟩:=h;cases k with
 | non=>rfl
 | bl b=>rfl
 | int i=>rfl
 | str x=>rfl
 | lst e=>simp only[sqV,e,s _ _ e]
 | dict e=>simp only[sqV,e,s _ _ e]
 | tup e=>simp only[sqV,e,s _ _ e]
theorem pN{H:Hp}{p:Addr}{n:Nat}{x y z:V}{a b c:D}(e:H p=some (.lst [x,y,z]))(ha:Rp H n x a)(hb:Rp H n y b)(hc:Rp H n z c):Rp H (n+1) (.ref p) (.lst [a,b,c]):=.lst e rfl fun j x d h k=>by
 match j,h,k with
 | 0,h,k=>cases h;cases k;exact ha
 | 1,h,k=>cases h;cases k;exact hb
 | 2,h,k=>cases h;cases k;exact hc
 | n+3,h,k=>simp at h
inductive Fl (vs:List V) (H:Hp) (Q:VK) (x_3:XK):Prop
 | mk:∀(pt:Bool) (l1 l2:Addr) (qs rs:Crn) (v:V),(vs = [.bl pt,.ref l1,.ref l2,v])->(LineM H l1 qs)->(LineM H l2 rs)->((1≤qs.length∧qs.length≤10))->((1≤rs.length∧rs.length≤10))->(Bp H v)->(sqV H v=false)->(∀H',Same H H'->Q (.bl true) H')->Fl vs H Q x_3
theorem Bm:zZ ["part","one","other","square","kinds","e"] ["part","one","other","square"] (am (top 82)):=smk
theorem jP{B CQ C1 C2 C3 C4 C5 t_fence_past:Addr}(Cc:Df K mg "_law_refused" (top 82))(Ch:Bq K mg "LeashError" B)(AR:Bq K mg "NoSquare" CQ)(DG:Bq K mg "NoFence" C1)(DF:Bq K mg "NoPlace" C2)(Ao:Bq K mg "NoRatio" C3)(D2:Bq K mg "NoWalk" C4)(Eu:Bq K mg "NoWay" C5)(C9:W.exmOne K (.ref CQ) (.ref B)=some true)(f_NoSquare:FP K CQ)(is_NoSquare:W.kitOne K (.ref CQ) (.ref CQ)=some true)(B0:W.kitOne K (.ref CQ) (.type "ValueError")=some true)(i5_NoSquare:W.kitAny K (.ref CQ) [.ref C3,.ref C5,.ref C2,.ref C4,.ref C1]=some false)(Bc:Fx P w K mg base "go_part" ["one","other","square"] 13 [] (DT CQ t_fence_past bH))(Cr:Fx P w K mg base "go_on" ["one","other","square"] 13 [] (DT CQ t_fence_past wOn))(T:Txt mg):Fn P w K mg base "_law_refused" ["part","one","other","square"] 14 Fl:=by
 refine Cc.fn Bm (fun _ _ _ _ _ _ us hl=>by obtain⟨_,_,_,_,rfl⟩:=tQ hl;rfl) (fun vs H Q E h=>?_) (fun f cdv A outer s H vs Q E hr h=>?_)
 ·obtain⟨pt,l1,l2,qs,rs,v,rfl,_⟩:=h
  rfl
 ·obtain⟨pt,l1,l2,qs,rs,v,rfl,L1,L2',b1,b2,th,sv,q⟩:=h
  have HM:∀Z,(fun D=>D=CQ) Z->W.exmOne K (.ref Z) (.ref B)=some true:=fun Z hC=>by
   have hC:Z=CQ:=hC;rw[hC];exact C9
  have IE:∀e:Addr,eJ (Cx.inH (bE CX0 P w K mg base ["part","one","other","square","kinds","e"] "_law_refused" (am (top 82)) f cdv A outer s H E).nox e) (.builtin "isinstance") (FB K (fun D=>D=CQ)):=fun e=>og fun Z hC=>by
   have hC:Z=CQ:=hC;rw[hC];exact⟨⟨_,AR⟩,f_NoSquare⟩
  refine⟨_,(ai (ap (i:=4) Bm.nd rfl (Or.inl rfl) (aX ag)) (ai (oF (i:=5) rfl rfl (lI (yV (cW (pv 0)) (lI (pO Bc (hr.mono (by decide)) (by rfl) (ad (pv 1) (ad (pv 2) (ad (pv 3) ag))))) (lI (pO Cr (hr.mono (by decide)) (by rfl) (ad (pv 1) (ad (pv 2) (ad (pv 3) ag))))))) Ch (by rfl) (HM) rfl Bm.nd rfl rfl (fun e=>(ai (ap (i:=4) Bm.nd rfl (Or.inl rfl) (aX (ad (aT (IE e) (by rfl) T.z_isinstance cj (ad (pv 5) (ad (aJ (v:=.ref _) (by rfl) AR.bound rfl) ag))) (ad (aT (IE e) (by rfl) T.z_isinstance cj (ad (pv 5) (ad (pU T.z_ValueError kD) ag))) ag)))) (ak (bD (show PE (Cx.inH _ e) _ (tBM K "list" DV _ _) from dG PySem.F.plainAttrs_list PySem.F.slot_list_append PySem.F.type_list_append aZ (pv 4) (ad (sQ (aT (IE e) (by rfl) T.z_isinstance cj (ad (pv 5) (ad (@ax _ _ _ _ _ (@ad _ _ _ _ _ (aJ (v:=.ref _) (by rfl) Ao.bound rfl) (@ad _ _ _ _ _ (aJ (v:=.ref _) (by rfl) Eu.bound rfl) (@ad _ _ _ _ _ (aJ (v:=.ref _) (by rfl) DF.bound rfl) (@ad _ _ _ _ _ (aJ (v:=.ref _) (by rfl) D2.bound rfl) (@ad _ _ _ _ _ (aJ (v:=.ref _) (by rfl) DG.bound rfl) ag (by rfl)) (by rfl)) (by rfl)) (by rfl)) (by rfl))) ag)))) ag))))))) (ak (ay (cY (sW hr.units10) (pv 4) (aX (ad dH (ad dH (ad dH ag)))) (aE _)))))),?_⟩;refine⟨sz (by simp),fun t0 H2 s2 f2 n2=>?_⟩;have sv2:=(mE th s2).trans sv;refine⟨_,rfl,pt,rfl,?_⟩;cases pt with
  | true =>
   refine⟨_,rfl,_,rfl,_,rfl,l1,l2,v,rfl,qs,rs,L1.mono s2,L2'.mono s2,b1,b2,Bp.mono th s2,.inl ⟨sv2,?_⟩⟩;refine⟨CQ,rfl,rfl,fun e he=>?_⟩;have fe:(upd H2 e (gT CQ e)) e=some (gT CQ e):=upd_same;have se:Same H2 (upd H2 e (gT CQ e)):=Same.new he;generalize upd H2 e (gT CQ e)=H3 at fe se ⊢;refine⟨_,rfl,CQ,rfl,e,_,_,rfl,fe,.inl ⟨_,rfl,is_NoSquare⟩,_,rfl,CQ,rfl,e,_,_,rfl,fe,.inr (.inl ⟨_,rfl,B0⟩),sz (by simp),fun k4 H4 s4 f4 n4=>?_⟩;refine⟨_,rfl,.inl ⟨rfl,_,SqL.of f4⟩,_,rfl,sz (by simp),fun t5 H5 s5 f5 n5=>⟨CQ,rfl,e,_,_,rfl,s5 _ _ (s4 _ _ fe),.inr (.inr ⟨t5,[C3,C5,C2,C4,C1],rfl,f5,i5_NoSquare⟩),?_⟩⟩;refine⟨_,rfl,k4,_,_,rfl,rfl,s5 _ _ f4,aM (by simp),fun H6 u6=>?_⟩;refine⟨_,rfl,sz (by simp),fun r7 H7 s7 f7 n7=>?_⟩;refine⟨_,_,pN (n:=8) (s7 _ _ u6.now) .bl .bl .bl,pN (n:=8) f7 .bl .bl .bl,?_⟩;rw[show(!false)=true from rfl,gW];exact q H7 ((s2.trans se).trans (fun b o h=>s7 _ _ (u6.at (fun z=>by rw[z]at h;rw[h]at n4;cases n4) (s5 _ _ (s4 _ _ h)))))
  | false =>
   refine⟨_,rfl,_,rfl,_,rfl,l1,l2,v,rfl,qs,rs,L1.mono s2,L2'.mono s2,b1,b2,Bp.mono th s2,.inl ⟨sv2,?_⟩⟩;refine⟨CQ,rfl,rfl,fun e he=>?_⟩;have fe:(upd H2 e (gT CQ e)) e=some (gT CQ e):=upd_same;have se:Same H2 (upd H2 e (gT CQ e)):=Same.new he;generalize upd H2 e (gT CQ e)=H3 at fe se ⊢;refine⟨_,rfl,CQ,rfl,e,_,_,rfl,fe,.inl ⟨_,rfl,is_NoSquare⟩,_,rfl,CQ,rfl,e,_,_,rfl,fe,.inr (.inl ⟨_,rfl,B0⟩),sz (by simp),fun k4 H4 s4 f4 n4=>?_⟩;refine⟨_,rfl,.inl ⟨rfl,_,SqL.of f4⟩,_,rfl,sz (by simp),fun t5 H5 s5 f5 n5=>⟨CQ,rfl,e,_,_,rfl,s5 _ _ (s4 _ _ fe),.inr (.inr ⟨t5,[C3,C5,C2,C4,C1],rfl,f5,i5_NoSquare⟩),?_⟩⟩;refine⟨_,rfl,k4,_,_,rfl,rfl,s5 _ _ f4,aM (by simp),fun H6 u6=>?_⟩;refine⟨_,rfl,sz (by simp),fun r7 H7 s7 f7 n7=>?_⟩;refine⟨_,_,pN (n:=8) (s7 _ _ u6.now) .bl .bl .bl,pN (n:=8) f7 .bl .bl .bl,?_⟩;rw[show(!false)=true from rfl,gW];exact q H7 ((s2.trans se).trans (fun b o h=>s7 _ _ (u6.at (fun z=>by rw[z]at h;rw[h]at n4;cases n4) (s5 _ _ (s4 _ _ h)))))
theorem uU{H:Hp}{t:Addr}{ls:List (Pos×Str)}(e:H t=some (.tbl #[])):Tab H t ls:=⟨#[],e,trivial,fun _ _=>.inl rfl⟩
theorem xp{H:Hp}{z:Addr}{a b:Int}(sq:Sq H z a b)(lw:lowB a b=true)(ha:0≤a):sqV H (.ref z)=true:=by
 simp only[sqV,sq.at_,lw,Bool.true_and,Bool.not_eq_true',decide_eq_false_iff_not];omega
theorem yz{H:Hp}{z:Addr}{a b:Int}(sq:Sq H z a b):Bp H (.ref z):=th_tup sq.at_ (bP (.int _) (bP (.int _) eX))
def dPr(q:Pr):D:=.tup [.tup [.int q.a,.int q.b],.tup [.int q.c,.int q.d]]
theorem xA{H:Hp}{q:Pr}{n:Nat}(h:FD H q):Rp H (n+2) (.ref q.p) (dPr q):=Rp.t2 h.p_ (Rp.t2 h.x_ .int .int) (Rp.t2 h.y_ .int .int)
def eqP(q q':Pr):Prop:=q.a=q'.a∧q.b=q'.b∧q.c=q'.c∧q.d=q'.d
theorem qM{α:Type}{R:α->Pr->Prop}(u:∀e q q',R e q->R e q'->eqP q q'):∀{l:List α} {ps ps':List Pr},Paired R l ps->Paired R l ps'->Paired eqP ps ps':=by
 intro l
 induction l with
 | nil=>intro ps ps' p p';cases p;cases p';exact .nil
 | cons c r ih =>
  intro ps ps' p p';cases p with
  | cons a b=>cases p' with
   | cons a' b'=>exact .cons (u _ _ _ a a') (ih b b')
theorem onB.eq{o:Bool}{a b a' b' c d c' d':Int}(e1:a=c)(e2:b=d)(h:onB o a b a' b')(h':onB o c d c' d'):a'=c'∧b'=d':=by
 subst e1;subst e2;cases o with
 | true =>
  have h:a'=0∧b'=1:=h;have h':c'=0∧d'=1:=h';exact⟨h.1.trans h'.1.symm,h.2.trans h'.2.symm⟩
 | false =>
  have h:a'=a∧b'=b:=h;have h':c'=a∧d'=b:=h';exact⟨h.1.trans h'.1.symm,h.2.trans h'.2.symm⟩
theorem pX{o1 o2:Bool}:∀{ps qs ps' qs':List Pr},Paired eqP ps qs->Paired (qN o1 o2) ps ps'->Paired (qN o1 o2) qs qs'->ps'.map dPr=qs'.map dPr:=by
 intro ps qs ps' qs' h
 induction h generalizing ps' qs' with
 | nil=>intro p p';cases p;cases p';rfl
 | cons a r ih =>
  intro p p';cases p with
  | cons x y=>cases p' with
   | cons x' y' =>
    rw[List.map_cons,List.map_cons,ih y y'];obtain⟨e1,e2⟩:=onB.eq a.1 a.2.1 x.1 x'.1;obtain⟨e3,e4⟩:=onB.eq a.2.2.1 a.2.2.2 x.2 x'.2;unfold dPr;rw[e1,e2,e3,e4]
theorem sO{c:Int×Int}{q q':Pr}(h:prC q c)(h':prC q' c):eqP q q':=by
 obtain⟨a1,a2,a3,a4⟩:=h;obtain⟨b1,b2,b3,b4⟩:=h';unfold eqP;rw[a1,a2,a3,a4,b1,b2,b3,b4];exact⟨rfl,rfl,rfl,rfl⟩
theorem jU{e:Dor×Int×Int}{q q':Pr}(h:iG e q)(h':iG e q'):eqP q q':=by
 rcases h with⟨z,a1,a2,a3,a4⟩|⟨z,a1,a2,a3,a4⟩
 ·rcases h' with⟨_,b1,b2,b3,b4⟩|⟨z',_⟩
  ·exact⟨a1.trans b1.symm,a2.trans b2.symm,a3.trans b3.symm,a4.trans b4.symm⟩
  ·rw[z]at z';cases z'
 ·rcases h' with⟨z',_⟩|⟨_,b1,b2,b3,b4⟩
  ·rw[z]at z';cases z'
  ·exact⟨a1.trans b1.symm,a2.trans b2.symm,a3.trans b3.symm,a4.trans b4.symm⟩
theorem uK{lb:Lb}{ps ps':List Pr}(h:lB lb ps)(h':lB lb ps'):Paired eqP ps ps':=by
 cases lb with
 | bend d e l m =>
  obtain⟨x,y,t,u,q1,q2,e1,e2,w,d1,d2,rfl⟩:=h;obtain⟨x',y',t',u',q1',q2',e1',e2',w',d1',d2',rfl⟩:=h';obtain rfl:=jj (e1.symm.trans e1');obtain rfl:=jj (e2.symm.trans e2');obtain⟨rfl,rfl⟩:=w.uniq w';exact .cons (jU d1 d1') (.cons (jU d2 d2') .nil)
 | no=>rw[show ps = [] from h,show ps' = [] from h'];exact .nil
 | key d=>rw[show ps = [] from h,show ps' = [] from h'];exact .nil
theorem Fh.eq{l:List (aG×Lb)}{ps ps':List Pr}(h:Fh l ps)(h':Fh l ps'):Paired eqP ps ps':=by
 induction h generalizing ps' with
 | nil=>cases h';exact .nil
 | cons hb hq _ ih =>
  cases h' with
  | cons hb' hq' r'=>exact d7 (uK hb hb') (.cons (sO hq hq') (ih r'))
theorem rP{wy:Str}{n m:Nat}{G:GF}{F:Int->Int->Bool}{ps:List Pr}(hn:1≤n)(hm:1≤m)(h:wq wy n m G F ps)(z:NoW wy n m G F):False:=by
 obtain⟨x,l,ps0,hx,_,_,_,h⟩:=h;obtain⟨hx1,hx2⟩:=List.mem_filter.mp (List.mem_of_getElem? hx);rcases h with⟨hw,hf,_⟩|⟨hw,_⟩
 ·rcases z.1 hw with z|⟨z1,z2⟩
  ·rw[hf]at z;cases z
  ·unfold iq at hx1
   rw[if_pos hw]at hx1;have e1:(n:Int) - 1=((n - 1:Nat):Int):=by omega
   have e2:(m:Int) - 1=((m - 1:Nat):Int):=by omega
   rw[e1,e2]at hx1;simp only[List.mem_cons,List.not_mem_nil,or_false]at hx1;rcases hx1 with rfl|rfl
   ·rw[z1]at hx2;cases hx2
   ·rw[z2]at hx2;cases hx2
 ·unfold iq at hx1
  rw[if_neg (fun z=>dj (z.symm.trans hw))]at hx1;obtain⟨j,hj,rfl⟩:=List.mem_map.mp hx1;rw[z.2 hw j (List.mem_range.mp hj)]at hx2;cases hx2
theorem m8{K:W.Frag}{wy:Str}{qs rs:Crn}{a b:Int}{wk wk':Bool}{ps ps':List Pr}(hb:0<b)(b1:1≤qs.length∧qs.length≤10)(b2:1≤rs.length∧rs.length≤10)(h:GoP wy qs rs a b wk ps)(h':GoP wy qs rs a b wk' ps'):wk=wk'∧ps.map dPr=ps'.map dPr:=by
 obtain⟨p0,o,h⟩:=h;obtain⟨p0',o',h'⟩:=h';obtain⟨_,n1,n2⟩:=fK b1;obtain⟨_,m1,m2⟩:=fK b2;have wf:Gq K (RR wy (cL (dbl qs) (dbl rs) a b 0) (fi (dbl qs) (dbl rs) a b 0) (cE qs) (cE rs)):=wG (eZ (.inl rfl) hb) (by omega) (by omega);cases wk with
 | true=>cases wk' with
  | true =>
   refine⟨rfl,pX ?_ o o'⟩;obtain⟨x,l,ps0,hx,bk,_,pr,h⟩:=h;obtain⟨x',l',ps0',hx',bk',_,pr',h'⟩:=h';obtain rfl:x=x':=Option.some.inj (hx.symm.trans hx');obtain rfl:=bk.uniq wf bk';have pe:=qM (R:=iG) (fun e q q'=>jU) pr pr';rcases h with⟨hw,_,q,rfl,c⟩|⟨hw,rfl⟩
   ·rcases h' with⟨_,_,q',rfl,c'⟩|⟨hw',_⟩
    ·exact d7 pe (.cons (sO c c') .nil)
    ·exact absurd (hw.symm.trans hw') dj
   ·rcases h' with⟨hw',_⟩|⟨_,rfl⟩
    ·exact absurd (hw'.symm.trans hw) dj
    ·exact pe
  | false=>exact(rP n1 m1 h h'.1).elim
 | false=>cases wk' with
  | true=>exact(rP n1 m1 h' h.1).elim
  | false =>
   refine⟨rfl,pX ?_ o o'⟩;obtain⟨_,l,_,fd,_,pr,_⟩:=h;obtain⟨_,l',_,fd',_,pr',_⟩:=h';rw[fd'.uniq fd]at pr';exact pr.eq pr'
theorem ja{H:Hp}{n:Nat}{l:Addr}{ps:List Pr}(P:E8 H l ps):Rp H (n+3) (.ref l) (.lst (ps.map dPr)):=.lst P.lst (by rw[cX,List.length_map]) fun j x d a b=>by
 obtain⟨q,hq,rfl⟩:=pR a;rw[List.getElem?_map,hq]at b;cases b;exact xA (P.pr q (List.mem_of_getElem? hq))
theorem bC.p2{H H':Hp}(s:bC H H'){l:Addr}{ps:List Pr}(P:E8 H l ps):E8 H' l ps:=⟨s.l P.lst,fun q hq=>(P.pr q hq).t fun c xs e=>s.t e⟩
theorem pD{K:W.Frag}{H:Hp}{a:Addr}{oc:Value}{od:Option Addr}{its:Array Value}{n:Nat}{sl:Array (Option Value)}{xs:List V}(hk:K.lookup a=some ⟨oc,od,.seq its n,sl⟩)(hc:oc = .type "tuple")(hz:its.size≤100)(r:aN xs its.toList):TpK K H a xs :=
 .inr ⟨_,its,n,hk,hc,rfl,Nat.le_of_lt (aM (by omega)),r⟩
theorem iI{H:Hp}{t:Addr}(f:H t=some (.tup [.int 0,.int 1])):Sq H t 0 1∧sqV H (.ref t)=true∧Bp H (.ref t):=by
 have sq:Sq H t 0 1:=⟨f,by decide,by decide⟩;exact⟨sq,xp sq (by decide) (by decide),yz sq⟩
theorem D9:zZ ["script","one","other","told","k","square"] ["script"] (am (top 83)):=smk
theorem xZ{t_fence_past CQ:Addr}(FC:Df K mg "law" (top 83))(Bb:Fn P w K mg base "_law_line" ["pool","most"] 3 E3)(Cp:Fn P w K mg base "_law_second" ["pool","line","most"] 4 Fk)(BM:Fn P w K mg base "_law_pool" ["script","k"] 1 (EK K))(Cr:Fx P w K mg base "go_on" ["one","other","square"] 13 [] (DT CQ t_fence_past wOn))(Bc:Fx P w K mg base "go_part" ["one","other","square"] 13 [] (DT CQ t_fence_past bH))(Bu:Fn P w K mg base "_law_no_square" ["pool"] 2 Fr)(Bo:Fn P w K mg base "_law_refused" ["part","one","other","square"] 14 Fl)(T:Txt mg):Fn P w K mg base "law" ["script"] 15 (oy K [t_fence_past]):=by
 refine FC.fn D9 (fun _ _ _ _ _ _ us hl=>by obtain⟨_,rfl⟩:=d9 hl;rfl) (fun vs H Q E h=>?_) (fun f cdv A outer s H vs Q E hr h=>?_)
 ·obtain⟨sa,ss,rfl,_⟩:=h
  rfl
 ·obtain⟨sa,ss,rfl,hS,hlen,htab,fin⟩:=h
  refine⟨_,(ai (ap (i:=1) D9.nd rfl (Or.inl rfl) (aA Bb (hr.mono (by decide)) (by rfl) (ad (aA BM (hr.mono (by decide)) (by rfl) (ad (pv 0) (ad af ag))) (ad af ag)))) (ai (ap (i:=2) D9.nd rfl (Or.inl rfl) (aA Cp (hr.mono (by decide)) (by rfl) (ad (aA BM (hr.mono (by decide)) (by rfl) (ad (pv 0) (ad af ag))) (ad (pv 1) (ad af ag))))) (ai (ap (i:=3) D9.nd rfl (Or.inl rfl) (ax (ad (eW Cr (hr.mono (by decide)) (by rfl) (ad (pv 1) (ad (pv 2) (ad (ax (ad af (ad af ag))) ag)))) (ad (eW Bc (hr.mono (by decide)) (by rfl) (ad (pv 1) (ad (pv 2) (ad (ax (ad af (ad af ag))) ag)))) ag)))) (ai (bW PassesOwn.never rfl (cf rfl T.z_range (ad (aT (rM rfl) (by rfl) T.z_max yi (ad af (ad (aT (lp rfl) (by rfl) T.z_min uH (ad (aT a6 (by rfl) T.z_len dL (ad (pv 0) ag)) (ad af ag))) ag))) ag)) (aS (i:=4) D9.nd rfl (Or.inl rfl)) (ai (ap (i:=5) D9.nd rfl (Or.inl rfl) (aA Bu (hr.mono (by decide)) (by rfl) (ad (aA BM (hr.mono (by decide)) (by rfl) (ad (pv 0) (ad (pv 4) ag))) ag))) (ak (aL (eT (d6 (cW (aA Bo (hr.mono (by decide)) (by rfl) (ad dH (ad (pv 1) (ad (pv 2) (ad (pv 5) ag))))))) (eS (d6 (cW (aA Bo (hr.mono (by decide)) (by rfl) (ad dH (ad (pv 1) (ad (pv 2) (ad (pv 5) ag))))))))).pt (ak (ay dH)) aF)))) (ak (ay (cY (sW hr.units10) (ax (ad (eW Cr (hr.mono (by decide)) (by rfl) (ad (pv 1) (ad (pv 2) (ad (ax (ad af (ad af ag))) ag)))) (ad (eW Bc (hr.mono (by decide)) (by rfl) (ad (pv 1) (ad (pv 2) (ad (ax (ad af (ad af ag))) ag)))) ag))) (pv 3) (aE _)))))))),?_⟩;have hs63:(ss.map V.int).length≤63:=by rw[List.length_map];exact hlen
  have TB:Tab H t_fence_past lsP:=uU (htab _ List.mem_cons_self);refine⟨_,rfl,sa,ss,10,rfl,hS,⟨by decide,by decide⟩,fun p0 H0 s0 n0 po0=>?_⟩;refine⟨p0,4,rfl,po0,⟨by decide,by decide⟩,fun l qs H1 B1 _ nl L1 h1 h4=>?_⟩;have S1:Same H H1:=B1.same s0 n0;refine⟨_,rfl,sa,ss,11,rfl,S1.seq hS,⟨by decide,by decide⟩,fun p2 H2 s2 n2 po2=>?_⟩;refine⟨_,rfl,p2,l,qs,4,rfl,po2,L1.mono s2,aQ L1.lst n2,⟨h1,h4⟩,⟨by decide,by decide⟩,fun r rs H3 B3 _ nr R3 g1 g4=>?_⟩;have S3:Same H1 H3:=B3.same s2 n2;have L3:=L1.mono S3;have T3:=TB.same (S1.trans S3);have b1:1≤qs.length∧qs.length≤10:=by omega
  have b2:1≤rs.length∧rs.length≤10:=by omega
  refine⟨_,rfl,_,rfl,sz (by simp),fun ta Ja wa fa na=>⟨l,r,.ref ta,rfl,qs,rs,(L3).mono wa,(R3).mono wa,b1,b2,(iI fa).2.2,.inr ⟨(iI fa).2.1,ta,0,1,rfl,⟨(iI fa).1,by decide,by decide⟩,(T3).same wa,fun ua ra Ha psa wka nra nua nea Na Ta Pa ea gpa=>?_⟩⟩⟩;have Ma:=(bC.of wa).trans Na;refine⟨_,rfl,_,rfl,sz (by simp),fun tb Jb wb fb nb=>⟨l,r,.ref tb,rfl,qs,rs,(Ma.line L3).mono wb,(Ma.line R3).mono wb,b1,b2,(iI fb).2.2,.inr ⟨(iI fb).2.1,tb,0,1,rfl,⟨(iI fb).1,by decide,by decide⟩,(Ta).same wb,fun ub rb Hb psb wkb nrb nub neb Nb Tb Pb eb gpb=>?_⟩⟩⟩;have Mb:=Ma.trans ((bC.of wb).trans Nb);refine⟨sz (by simp),fun td H8 s8 f8 n8=>?_⟩;have M8:=Mb.trans (.of s8);have Q8:SqL K H8 sa (ss.map V.int):=M8.seq ((S1.trans S3).seq hS);have ea8:=s8 _ _ (Nb.t (wb _ _ ea));have Pa8:=(((bC.of wb).trans Nb).trans (.of s8)).p2 Pa;have eb8:=s8 _ _ eb;have Pb8:=Pb.mono s8;have T8:=Tb.same s8;refine⟨_,rfl,sa,_,rfl,.inl Q8,_,_,rfl,_,_,rfl,?_⟩;have hJ:1≤(if (if 10<(((ss.map V.int).length:Nat):Int) then 10 else (((ss.map V.int).length:Nat):Int))>1 then (if 10<(((ss.map V.int).length:Nat):Int) then 10 else (((ss.map V.int).length:Nat):Int)) else 1)∧(if (if 10<(((ss.map V.int).length:Nat):Int) then 10 else (((ss.map V.int).length:Nat):Int))>1 then (if 10<(((ss.map V.int).length:Nat):Int) then 10 else (((ss.map V.int).length:Nat):Int)) else 1)≤10:=by
   split <;> split <;> omega
  generalize (if (if 10<(((ss.map V.int).length:Nat):Int) then 10 else (((ss.map V.int).length:Nat):Int))>1 then (if 10<(((ss.map V.int).length:Nat):Int) then 10 else (((ss.map V.int).length:Nat):Int)) else 1)=J at hJ
  refine⟨J,rfl,by omega,by omega,cw (n:=J.toNat) (lo:=0) (fun _ σ H9=>∃z4 z5,σ = [some (.ref sa),some (.ref l),some (.ref r),some (.ref td),z4,z5]∧bC H8 H9∧Tab H9 t_fence_past lsP) ⟨_,_,rfl,bC.refl _,T8⟩ ?_ ?_⟩
  ·rintro i σ H9 hi ⟨z4,z5,rfl,N9,T9⟩
   refine⟨_,rfl,_,rfl,sa,ss,_,rfl,N9.seq Q8,⟨by omega,by omega⟩,fun pp HA sA nA pA=>?_⟩;refine⟨pp,rfl,pA,fun v HB od bB _=>?_⟩;have SB:Same H9 HB:=bB.same sA nA;have NB:=N9.trans (.of SB);have MB:=M8.trans NB;refine⟨_,rfl,_,rfl,_,rfl,false,l,r,qs,rs,v,rfl,MB.line L3,MB.line R3,b1,b2,od.1,od.2,fun HC sC=>⟨_,rfl,ig ?_⟩⟩;have MC:=MB.trans (.of sC);refine⟨_,rfl,_,rfl,_,rfl,true,l,r,qs,rs,v,rfl,MC.line L3,MC.line R3,b1,b2,Bp.mono od.1 sC,(mE od.1 sC).trans od.2,fun HD sD=>⟨_,rfl,ig ?_⟩⟩;exact⟨_,_,rfl,NB.trans (.of (sC.trans sD)),T9.same (SB.trans (sC.trans sD))⟩
  ·rintro σ H9 ⟨z4,z5,rfl,N9,T9⟩
   have M9:=M8.trans N9;refine⟨_,rfl,_,rfl,sz (by simp),fun tc Jc wc fc nc=>⟨l,r,.ref tc,rfl,qs,rs,(M9.line L3).mono wc,(M9.line R3).mono wc,b1,b2,(iI fc).2.2,.inr ⟨(iI fc).2.1,tc,0,1,rfl,⟨(iI fc).1,by decide,by decide⟩,(T9).same wc,fun uc rc Hc psc wkc nrc nuc nec Nc Tc Pc ec gpc=>?_⟩⟩⟩;have Mc:=M9.trans ((bC.of wc).trans Nc);refine⟨_,rfl,_,rfl,sz (by simp),fun td Jd wd fd nd=>⟨l,r,.ref td,rfl,qs,rs,(Mc.line L3).mono wd,(Mc.line R3).mono wd,b1,b2,(iI fd).2.2,.inr ⟨(iI fd).2.1,td,0,1,rfl,⟨(iI fd).1,by decide,by decide⟩,(Tc).same wd,fun ud rd Hd psd wkd nrd nud ned Nd Td Pd ed gpd=>?_⟩⟩⟩;have Md:=N9.trans ((((bC.of wc).trans Nc).trans (.of wd)).trans Nd);refine⟨sz (by simp),fun te HE sE fE nE=>?_⟩;have ME:=Md.trans (.of sE);obtain⟨ew1,ed1⟩:=m8 (K:=K) (by decide) b1 b2 gpa gpc;obtain⟨ew2,ed2⟩:=m8 (K:=K) (by decide) b1 b2 gpb gpd;subst ew1;subst ew2;have Ncd:=((bC.of wd).trans Nd).trans (.of sE);refine⟨_,rfl,_,_,Rp.t2 fE (Rp.t2 (Ncd.t ec) .str (ja (n:=4) (Ncd.p2 Pc))) (Rp.t2 (sE _ _ ed) .str (ja (n:=4) (Pd.mono sE))),Rp.t2 (ME.t f8) (Rp.t2 (ME.t ea8) .str (ja (n:=4) (ME.p2 Pa8))) (Rp.t2 (ME.t eb8) .str (ja (n:=4) (ME.p2 Pb8))),?_⟩;rw[ed1,ed2,gW];exact fin _
end
theorem hLeft:W.LeftO Challenge.rw_oneleash_k28_no_leash.prog hView hLoose (fun _=>true) (W.Hook.obs (Hd.hookT hFacts hGood)) (W.Hook.val (Hd.hookT hFacts hGood)) 100000:=zT
theorem hTabOk{K:W.Frag}(FK:hFacts K=hGood):hTabs.all (Hd.tabFact K)=true:=(congrArg Prod.fst (congrArg Prod.snd (congrArg Prod.snd FK)))
theorem all_of{P:Program}{w:World}{K0 K:W.Frag}(eK:K=Hd.strip K0)(FK0:hFacts K0=hGood){h:Heap}{mg:Str->Option Value}{fa:Addr}(X:K.In h)(G:h.Ns mainGlobals mg)(hfa:mg "law" = some (.ref fa)) :
  ∃fd:FuncData,(∀(s:Shared) (v:Value),BindsTo s fd ⟨[v],[]⟩ [("script",v)])∧∀base:Heap,K.In base->base.Ns mainGlobals mg->CO P w K mg base CX0 15 fa fd ["script"] (oy K (hTabs.map (Hd.tabP K0))):=by
 have FK:(hF0 K,hF1 K,hF2 K0)=hGood:=by
  rw[eK];exact FK0
 have H0:(je.map (fun p=>Hd.fnFact K p.1):List (Option (Arguments×List Stmt×Scope×Value)))=je.map (fun p=>some (aY (top p.2),aK (top p.2),am (top p.2),.none)):=(congrArg Prod.fst FK);have H1:(jd.map (fun p=>Hd.fnFactD K p.1):List (Option (Arguments×List Stmt×Scope×List V)))=jd.map (fun p=>some (aY (top p.2.1),aK (top p.2.1),am (top p.2.1),p.2.2)):=(congrArg Prod.fst (congrArg Prod.fst (congrArg Prod.snd FK)));have H2:(zi.all (Hd.excFact K):Bool)=true:=(congrArg Prod.fst (congrArg Prod.snd (congrArg Prod.fst (congrArg Prod.snd FK))));have H3:(hNo.all (Hd.noFact K):Bool)=true:=(congrArg Prod.fst (congrArg Prod.snd (congrArg Prod.snd (congrArg Prod.fst (congrArg Prod.snd FK)))));have H4:(vK.map (fun p=>Hd.tupFact K p.1):List (Option (List V)))=vK.map (fun p=>some p.2):=(congrArg Prod.fst (congrArg Prod.snd (congrArg Prod.snd (congrArg Prod.snd (congrArg Prod.fst (congrArg Prod.snd FK))))));have H5:(zf.all (Hd.ownFact K):Bool)=true:=(congrArg Prod.fst (congrArg Prod.snd (congrArg Prod.snd (congrArg Prod.snd (congrArg Prod.snd (congrArg Prod.fst (congrArg Prod.snd FK)))))));have H6:(hMt.map (fun p=>Hd.mtFact K p.1 p.2.1 p.2.2.1):List (Option (Arguments×List Stmt×Scope×Value)))=hMt.map (fun p=>some (aY p.2.2.2,aK p.2.2.2,am p.2.2.2,.none)):=(congrArg Prod.fst (congrArg Prod.snd (congrArg Prod.snd (congrArg Prod.snd (congrArg Prod.snd (congrArg Prod.snd (congrArg Prod.fst (congrArg Prod.snd FK))))))));have H7:(zn K:List (Option (Option V)))=wZ:=(congrArg Prod.fst (congrArg Prod.snd (congrArg Prod.snd (congrArg Prod.snd (congrArg Prod.snd (congrArg Prod.snd (congrArg Prod.snd (congrArg Prod.fst (congrArg Prod.snd FK)))))))));have H8:(zm K:List (Option (Option Value)))=wY:=(congrArg Prod.fst (congrArg Prod.snd (congrArg Prod.snd (congrArg Prod.snd (congrArg Prod.snd (congrArg Prod.snd (congrArg Prod.snd (congrArg Prod.snd (congrArg Prod.fst (congrArg Prod.snd FK))))))))));have H9:(zk K:List (Option Bool))=wX:=(congrArg Prod.fst (congrArg Prod.snd (congrArg Prod.snd (congrArg Prod.snd (congrArg Prod.snd (congrArg Prod.snd (congrArg Prod.snd (congrArg Prod.snd (congrArg Prod.snd (congrArg Prod.fst (congrArg Prod.snd FK)))))))))));have H10:(zj K:List (Bool))=wW:=(congrArg Prod.snd (congrArg Prod.snd (congrArg Prod.snd (congrArg Prod.snd (congrArg Prod.snd (congrArg Prod.snd (congrArg Prod.snd (congrArg Prod.snd (congrArg Prod.snd (congrArg Prod.fst (congrArg Prod.snd FK)))))))))));have H11:(hTabs.all (Hd.tabFact K0):Bool)=true:=(congrArg Prod.fst (congrArg Prod.snd (congrArg Prod.snd FK)));have H12:(Hd.bltFact (Hd.strip K0):Bool)=true:=(congrArg Prod.fst (congrArg Prod.snd (congrArg Prod.snd (congrArg Prod.snd FK))));have H13:(Hd.apart (hTabs.map (Hd.tabP K0)):Bool)=true:=(congrArg Prod.snd (congrArg Prod.snd (congrArg Prod.snd (congrArg Prod.snd FK))));have Dq:Df K mg "is_whole" (top 9):=Hd.df_of X G (Hd.at_map H0 0 rfl);have Bl:Df K mg "common_divisor" (top 10):=Hd.df_of X G (Hd.at_map H0 1 rfl);have EV:Df K mg "plus" (top 12):=Hd.df_of X G (Hd.at_map H0 2 rfl);have Ds:Df K mg "is_ratio" (top 13):=Hd.df_of X G (Hd.at_map H0 3 rfl);have DH:Df K mg "sign_of" (top 15):=Hd.df_of X G (Hd.at_map H0 4 rfl);have Bw:Df K mg "signed_square" (top 16):=Hd.df_of X G (Hd.at_map H0 5 rfl);have Bg:Df K mg "sign_with_root" (top 17):=Hd.df_of X G (Hd.at_map H0 6 rfl);have A4:Df K mg "sign_with_roots" (top 18):=Hd.df_of X G (Hd.at_map H0 7 rfl);have CA:Df K mg "root_order" (top 19):=Hd.df_of X G (Hd.at_map H0 8 rfl);have CI:Df K mg "floor_root" (top 20):=Hd.df_of X G (Hd.at_map H0 9 rfl);have BW:Df K mg "own_fraction" (top 21):=Hd.df_of X G (Hd.at_map H0 10 rfl);have BS:Df K mg "scaled_floor" (top 22):=Hd.df_of X G (Hd.at_map H0 11 rfl);have C0:Df K mg "below_all" (top 23):=Hd.df_of X G (Hd.at_map H0 12 rfl);have BR:Df K mg "shared_terms" (top 24):=Hd.df_of X G (Hd.at_map H0 13 rfl);have AO:Df K mg "fraction_of_terms" (top 25):=Hd.df_of X G (Hd.at_map H0 14 rfl);have A6:Df K mg "fraction_within" (top 26):=Hd.df_of X G (Hd.at_map H0 15 rfl);have BT:Df K mg "root_between" (top 27):=Hd.df_of X G (Hd.at_map H0 16 rfl);have Bi:Df K mg "look_at_square" (top 31):=Hd.df_of X G (Hd.at_map H0 17 rfl);have Cb:Df K mg "leash_order" (top 32):=Hd.df_of X G (Hd.at_map H0 18 rfl);have Di:Df K mg "reach_of" (top 33):=Hd.df_of X G (Hd.at_map H0 19 rfl);have Ca:Df K mg "part_within" (top 34):=Hd.df_of X G (Hd.at_map H0 20 rfl);have DI:Df K mg "last_of" (top 36):=Hd.df_of X G (Hd.at_map H0 21 rfl);have Bf:Df K mg "with_a_stretch" (top 40):=Hd.df_of X G (Hd.at_map H0 22 rfl);have Dt:Df K mg "doors_of" (top 41):=Hd.df_of X G (Hd.at_map H0 23 rfl);have Ce:Df K mg "far_corners" (top 42):=Hd.df_of X G (Hd.at_map H0 24 rfl);have BY:Df K mg "begins_fence" (top 44):=Hd.df_of X G (Hd.at_map H0 25 rfl);have CL:Df K mg "ends_fence" (top 45):=Hd.df_of X G (Hd.at_map H0 26 rfl);have Bh:Df K mg "pair_at_corner" (top 46):=Hd.df_of X G (Hd.at_map H0 27 rfl);have CZ:Df K mg "part_from" (top 47):=Hd.df_of X G (Hd.at_map H0 28 rfl)
 have BV:Df K mg "pair_in_door" (top 48):=Hd.df_of X G (Hd.at_map H0 29 rfl);have Dj:Df K mg "place_on" (top 49):=Hd.df_of X G (Hd.at_map H0 30 rfl);have Dl:Df K mg "pairs_on" (top 50):=Hd.df_of X G (Hd.at_map H0 31 rfl);have D4:Df K mg "row_to" (top 52):=Hd.df_of X G (Hd.at_map H0 32 rfl);have EU:Df K mg "seek" (top 53):=Hd.df_of X G (Hd.at_map H0 33 rfl);have Cd:Df K mg "gap_between" (top 55):=Hd.df_of X G (Hd.at_map H0 34 rfl);have Cy:Df K mg "steps_down" (top 56):=Hd.df_of X G (Hd.at_map H0 35 rfl);have Cv:Df K mg "steps_over" (top 57):=Hd.df_of X G (Hd.at_map H0 36 rfl);have Cz:Df K mg "steps_back" (top 58):=Hd.df_of X G (Hd.at_map H0 37 rfl);have Cw:Df K mg "steps_from" (top 59):=Hd.df_of X G (Hd.at_map H0 38 rfl);have Bx:Df K mg "pairs_of_bend" (top 60):=Hd.df_of X G (Hd.at_map H0 39 rfl);have CJ:GD K mg "fence_past" (top 61) (Hd.tabP K0 "fence_past"):=by
  subst eK;exact Hd.dft_of X G (Hd.at_map H0 40 rfl) (Hd.at_all H11 0 rfl)
 have Bj:Df K mg "doors_at_begin" (top 63):=Hd.df_of X G (Hd.at_map H0 41 rfl);have Du:Df K mg "door_out" (top 64):=Hd.df_of X G (Hd.at_map H0 42 rfl);have BU:Df K mg "pass_through" (top 65):=Hd.df_of X G (Hd.at_map H0 43 rfl);have Bz:Df K mg "doors_reached" (top 66):=Hd.df_of X G (Hd.at_map H0 44 rfl);have BX:Df K mg "doors_at_end" (top 67):=Hd.df_of X G (Hd.at_map H0 45 rfl);have Dm:Df K mg "may_keep" (top 68):=Hd.df_of X G (Hd.at_map H0 46 rfl);have Dk:Df K mg "pairs_to" (top 69):=Hd.df_of X G (Hd.at_map H0 47 rfl);have BQ:Df K mg "walk_through" (top 70):=Hd.df_of X G (Hd.at_map H0 48 rfl);have EA:Df K mg "go_by" (top 72):=Hd.df_of X G (Hd.at_map H0 49 rfl);have Ez:Df K mg "go_on" (top 73):=Hd.df_of X G (Hd.at_map H0 50 rfl);have DJ:Df K mg "go_part" (top 74):=Hd.df_of X G (Hd.at_map H0 51 rfl);have Do:Df K mg "_law_pool" (top 76):=Hd.df_of X G (Hd.at_map H0 52 rfl);have Dn:Df K mg "_law_take" (top 77):=Hd.df_of X G (Hd.at_map H0 53 rfl);have CG:Df K mg "_law_corner" (top 78):=Hd.df_of X G (Hd.at_map H0 54 rfl);have Dp:Df K mg "_law_line" (top 79):=Hd.df_of X G (Hd.at_map H0 55 rfl);have CC:Df K mg "_law_second" (top 80):=Hd.df_of X G (Hd.at_map H0 56 rfl);have By:Df K mg "_law_no_square" (top 81):=Hd.df_of X G (Hd.at_map H0 57 rfl);have Cc:Df K mg "_law_refused" (top 82):=Hd.df_of X G (Hd.at_map H0 58 rfl);have FC:Df K mg "law" (top 83):=Hd.df_of X G (Hd.at_map H0 59 rfl);have Ey:Gs K mg "ratio" (top 11) [.int 1]:=Hd.dfd_of X G (Hd.at_map H1 0 rfl);have Ch:Bq K mg "LeashError" (Hd.cls K "LeashError"):=Hd.exc_of X G (Hd.at_all H2 0 rfl);have DG:Bq K mg "NoFence" (Hd.cls K "NoFence"):=Hd.exc_of X G (Hd.at_all H2 1 rfl);have DF:Bq K mg "NoPlace" (Hd.cls K "NoPlace"):=Hd.exc_of X G (Hd.at_all H2 2 rfl);have Ao:Bq K mg "NoRatio" (Hd.cls K "NoRatio"):=Hd.exc_of X G (Hd.at_all H2 3 rfl);have AR:Bq K mg "NoSquare" (Hd.cls K "NoSquare"):=Hd.exc_of X G (Hd.at_all H2 4 rfl);have D2:Bq K mg "NoWalk" (Hd.cls K "NoWalk"):=Hd.exc_of X G (Hd.at_all H2 5 rfl);have Eu:Bq K mg "NoWay" (Hd.cls K "NoWay"):=Hd.exc_of X G (Hd.at_all H2 6 rfl);have T:Txt mg:=⟨W.mg_none_of X G (Hd.no_of (Hd.at_all H3 0 rfl)),W.mg_none_of X G (Hd.no_of (Hd.at_all H3 1 rfl)),W.mg_none_of X G (Hd.no_of (Hd.at_all H3 2 rfl)),W.mg_none_of X G (Hd.no_of (Hd.at_all H3 3 rfl)),W.mg_none_of X G (Hd.no_of (Hd.at_all H3 4 rfl)),W.mg_none_of X G (Hd.no_of (Hd.at_all H3 5 rfl)),W.mg_none_of X G (Hd.no_of (Hd.at_all H3 6 rfl)),W.mg_none_of X G (Hd.no_of (Hd.at_all H3 7 rfl)),W.mg_none_of X G (Hd.no_of (Hd.at_all H3 8 rfl)),W.mg_none_of X G (Hd.no_of (Hd.at_all H3 9 rfl)),W.mg_none_of X G (Hd.no_of (Hd.at_all H3 10 rfl)),W.mg_none_of X G (Hd.no_of (Hd.at_all H3 11 rfl)),W.mg_none_of X G (Hd.no_of (Hd.at_all H3 12 rfl))⟩;obtain⟨E7,od_BEGIN,its_BEGIN,n_BEGIN,sl_BEGIN,Eb,EW,DQ⟩:=Hd.tup_of (Hd.at_map H4 0 rfl);obtain⟨FV,od_END,its_END,n_END,sl_END,FR,FQ,EX⟩:=Hd.tup_of (Hd.at_map H4 1 rfl);have BF:wF K mg:=by
  subst eK;exact Hd.blt_of X G H12
 have AS:(W.nsIn K mainGlobals "UPRIGHT").map (fun o=>o.map Hd.bareV)=some (some (.int 0)):=Hd.at_two H7 0 rfl rfl;have Cf:(W.nsIn K mainGlobals "LEVEL").map (fun o=>o.map Hd.bareV)=some (some (.int 1)):=Hd.at_two H7 1 rfl rfl;have sa_Field:W.findIn K (.ref (Hd.cls K "Field")) "__setattr__" = some (some (.builtin "object.__setattr__")):=Hd.at_two H8 0 rfl rfl;have n_room:W.findIn K (.ref (Hd.cls K "Field")) "room" = some none:=Hd.at_two H8 1 rfl rfl;have n_last:W.findIn K (.ref (Hd.cls K "Field")) "last" = some none:=Hd.at_two H8 2 rfl rfl;have n_doors:W.findIn K (.ref (Hd.cls K "Field")) "doors" = some none:=Hd.at_two H8 3 rfl rfl;have n_far:W.findIn K (.ref (Hd.cls K "Field")) "far" = some none:=Hd.at_two H8 4 rfl rfl;have C9:W.exmOne K (.ref (Hd.cls K "NoSquare")) (.ref (Hd.cls K "LeashError"))=some true:=Hd.exmR_one (Hd.at_two H9 0 rfl rfl);have is_NoSquare:W.kitOne K (.ref (Hd.cls K "NoSquare")) (.ref (Hd.cls K "NoSquare"))=some true:=Hd.kitR_one (Hd.at_two H9 1 rfl rfl);have B0:W.kitOne K (.ref (Hd.cls K "NoSquare")) (.type "ValueError")=some true:=Hd.kitT_one (Hd.at_two H9 2 rfl rfl);have i5_NoSquare:W.kitAny K (.ref (Hd.cls K "NoSquare")) [(.ref (Hd.cls K "NoRatio")),(.ref (Hd.cls K "NoWay")),(.ref (Hd.cls K "NoPlace")),(.ref (Hd.cls K "NoWalk")),(.ref (Hd.cls K "NoFence"))]=some false:=Hd.kitRs_any (Hd.at_two H9 3 rfl rfl);have EF:W.findIn K (.ref (Hd.cls K "NoSquare")) "__getattribute__" = some (some (.builtin "BaseException.__getattribute__")):=Hd.findR_eq (Hd.fE_ga K) (Hd.at_two H10 0 rfl rfl);have EE:W.findIn K (.ref (Hd.cls K "NoSquare")) "__getattr__" = some none:=Hd.findR_eq (Hd.fE_gn K) (Hd.at_two H10 1 rfl rfl);have ED:W.findIn K (.ref (Hd.cls K "NoSquare")) "__class__" = some (some (.builtin "object.__class__")):=Hd.findR_eq (Hd.fE_cl K) (Hd.at_two H10 2 rfl rfl);have z9:Dy K mg "Field" (Hd.cls K "Field"):=Hd.own_of X G (Hd.at_all H5 0 rfl) sa_Field;have BZ:GE K (Hd.cls K "Field") "__init__" "Field.__init__" (vC 43 0):=Hd.dfm_of (Hd.at_map H6 0 rfl);refine xN h hfa fun base=>?_;have hB:∀H,SqT K H E7 [.int 0,.int 0,.int 0,.int 1]:=fun H=>SqT.mod EW rfl (Hd.vals_sz DQ (by decide)) DQ;have hE:∀H,SqT K H FV [.int 1,.int 0,.int 0,.int 1]:=fun H=>SqT.mod FQ rfl (Hd.vals_sz EX (by decide)) EX;have tB:∀H,TpK K H E7 [.int 0,.int 0,.int 0,.int 1]:=fun H=>pD EW rfl (Hd.vals_sz DQ (by decide)) DQ;have tE:∀H,TpK K H FV [.int 1,.int 0,.int 0,.int 1]:=fun H=>pD FQ rfl (Hd.vals_sz EX (by decide)) EX;have AG:=nM (P:=P) (w:=w) (base:=base) Dq T;have Am:=gS (P:=P) (w:=w) (base:=base) Bl T;have BD:=uq (P:=P) (w:=w) (base:=base) Ey Ao AG Am;have Af:=oQ (P:=P) (w:=w) (base:=base) DH;have Ah:=ii (P:=P) (w:=w) (base:=base) Bw T;have A9:=gO (P:=P) (w:=w) (base:=base) Bg Af Ah;have AY:=fZ (P:=P) (w:=w) (base:=base) A4 Af Ah A9;have E9:=xY (P:=P) (w:=w) (base:=base) CA AY;have Ab:=ki (P:=P) (w:=w) (base:=base) E9;have AK:=km (P:=P) (w:=w) (base:=base) CI;have As:=iP (P:=P) (w:=w) (base:=base) BS AK;have CW:=md (P:=P) (w:=w) (base:=base) C0 As;have BJ:=iO (P:=P) (w:=w) (base:=base) BR T;have AM:=fg (P:=P) (w:=w) (base:=base) AO BD T;have AZ:=gb (P:=P) (w:=w) (base:=base) A6 As CW AM BJ;have BL:=iT (P:=P) (w:=w) (base:=base) BW Ao AK Af BD;have Au:=iQ (P:=P) (w:=w) (base:=base) BT Ao Ab BL AZ;have Ev:=vR (P:=P) (w:=w) (base:=base) EV BD;have De:=nN (P:=P) (w:=w) (base:=base) Ds AG Am T;have AT:=oR (P:=P) (w:=w) (base:=base) DI T;have AD:=jO (P:=P) (w:=w) (base:=base) Cb Af;have Db:=ni (P:=P) (w:=w) (base:=base) Di;have Ba:=gQ (P:=P) (w:=w) (base:=base) Bi AR De;have Bn:=jN (P:=P) (w:=w) (base:=base) Ca (W.mg_of X G Eb) (W.mg_of X G FR) hB hE tB tE AD Db Af Ab;have D3:=rB (P:=P) (w:=w) (base:=base) D4 T;have ET:=vQ (P:=P) (w:=w) (base:=base) EU D3 T;have Al:=gP (P:=P) (w:=w) (base:=base) Bh;have B9:=jR (P:=P) (w:=w) (base:=base) Ce AD T;have AJ:=gN (P:=P) (w:=w) (base:=base) Bf T;have Dg:=nO (P:=P) (w:=w) (base:=base) Dt (Hd.int_of X G AS) (Hd.int_of X G Cf) Bn AT T;have BP:=iW (P:=P) (w:=w) (base:=base) BZ z9 n_room n_last n_doors n_far AJ AT Dg B9 T;have An:=iS (P:=P) (w:=w) (base:=base) BV (Hd.int_of X G AS) Ev;have Dh:=nQ (P:=P) (w:=w) (base:=base) Du (Hd.int_of X G AS) (Hd.int_of X G Cf);have BK:=iR (P:=P) (w:=w) (base:=base) BU z9 n_room n_last n_doors n_far Ab T;have Be:=gR (P:=P) (w:=w) (base:=base) Bj z9 n_room n_last n_doors n_far (Hd.int_of X G AS) (Hd.int_of X G Cf) (W.mg_of X G Eb) tB T;have Bv:=io (P:=P) (w:=w) (base:=base) Bz z9 n_room n_last n_doors n_far (Hd.int_of X G AS) (Hd.int_of X G Cf) Be Dh BK T;have AE:=jQ (P:=P) (w:=w) (base:=base) Cd z9 n_room n_last n_doors n_far Ab T;have Ck:=kg (P:=P) (w:=w) (base:=base) Cy z9 n_room n_last n_doors n_far (Hd.int_of X G AS) (Hd.int_of X G Cf) AE T;have Ci:=kb (P:=P) (w:=w) (base:=base) Cv z9 n_room n_last n_doors n_far (Hd.int_of X G AS) (Hd.int_of X G Cf) AE T;have Cl:=kh (P:=P) (w:=w) (base:=base) Cz z9 n_room n_last n_doors n_far
 have Cj:=kf (P:=P) (w:=w) (base:=base) Cw Ck Ci Cl;have CV:=ma (P:=P) (w:=w) (base:=base) CZ (W.mg_of X G Eb) (W.mg_of X G FR) hB hE Ab Au;have Dd:=nG (P:=P) (w:=w) (base:=base) Dm E9;have BN:=iU (P:=P) (w:=w) (base:=base) BX (Hd.int_of X G AS) (Hd.int_of X G Cf) T;have Dc:=nu (P:=P) (w:=w) (base:=base) Dk Dd CV An;have BI:=iN (P:=P) (w:=w) (base:=base) BQ z9 n_room n_last n_doors n_far Bv BN Dc Al T;have BO:=iV (P:=P) (w:=w) (base:=base) BY;have Cu:=kr (P:=P) (w:=w) (base:=base) CL;have Bt:=ik (P:=P) (w:=w) (base:=base) Bx Au An;have Ct:=ko (P:=P) (w:=w) (base:=base) CJ z9 n_room n_last n_doors n_far BF ET Cj BO Cu Al Bt T;have Cm:=nj (P:=P) (w:=w) (base:=base) Dj T;have Co:=nw (P:=P) (w:=w) (base:=base) Dl Cm T;have C6:=ut (P:=P) (w:=w) (base:=base) EA z9 Ba BP BI Ct Co;have Cr:=ur (P:=P) (w:=w) (base:=base) Ez C6;have Bc:=oS (P:=P) (w:=w) (base:=base) DJ C6;have BM:=nJ (P:=P) (w:=w) (base:=base) Do T;have Ac:=nI (P:=P) (w:=w) (base:=base) Dn;have Cq:=kl (P:=P) (w:=w) (base:=base) CG Ac;have Bb:=nK (P:=P) (w:=w) (base:=base) Dp Ac Cq T;have Cp:=kj (P:=P) (w:=w) (base:=base) CC Ac Bb T;have Bu:=im (P:=P) (w:=w) (base:=base) By Ac T;have Bo:=jP (P:=P) (w:=w) (base:=base) Cc Ch AR DG DF Ao D2 Eu C9 ⟨EF,EE,ED⟩ is_NoSquare B0 i5_NoSquare Bc Cr T;exact xZ FC Bb Cp BM Cr Bc Bu Bo T
end K28
end
open PySem PySem.W PyProof.Rows
lay_quick Challenge.pw_oneleash_k28_no_leash
set_option maxRecDepth 100000 in
set_option maxHeartbeats 0 in
theorem PySem.Challenge.cw_oneleash_k28_no_leash_holds : PySem.Challenge.rw_oneleash_k28_no_leash.Holds := by
 w_on;o_law
 refine holds_open (q:=K28.hView) (loose:=K28.hLoose) (Xt:=fun _=>true) (XP:=fun _ _=>True) (Yf:=Hook.obs (Hd.hookT K28.hFacts K28.hGood)) (Ya:=Hook.val (Hd.hookT K28.hFacts K28.hGood)) (YP:=Hook.says (Hd.hookT K28.hFacts K28.hGood)) (N:=100000) K28.hLeft (Hook.of _) (Hook.keeps _) (fun _ _=>trivial) (fun _ _ _ _ _=>trivial) (by rfl) (by rfl) (by rfl) (fun _ _=>recFacts_nil rfl) (by rfl) (by first|assumption|decide +kernel) (by decide +kernel) ⟨rfl,rfl,rfl,rfl,rfl,by decide +kernel⟩ ?hw ?hc
 case hw=>w_witness2
 exact Hd.law_walkT (names:=K28.hTabs) (l:=Challenge.rw_oneleash_k28_no_leash) (k:=15) ⟨rfl,by decide,by decide,rfl⟩ rfl rfl (fun K FK=>K28.hTabOk FK) fun K FK w mg fa h KX G hmg=>K28.all_of rfl FK KX G hmg
