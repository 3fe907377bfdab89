import PyProof.Rows.All
import Wide.All
import OpenK.AllK
import Wide.FinOn
import Lean
import PyProof.EqAt
import PyProof.EqKinds
import PyProof.TupleCall
import PyProof.ExcArgsOwn
import KE.KTryMore
import PyProof.NsDelKeeps
import PyProof.ConsumeWalk
import PyProof.ZipIter
import PyProof.WalksEnum
import PyProof.EnumMake
import PyProof.NeKinds
import PyProof.CompMap
import KE.KRevIter
import PyProof.ListRange
import PySem.Challenge.RW_oneleash_k19_whole_no_walk_below_a_fence
section
set_option Elab.async false
set_option linter.all false
set_option maxRecDepth 100000
namespace L2
open PySem PySem.Spec PyProof.Rows
abbrev Key:=Sum Int Str
def td:Key->Value->Bool
 | .inl k,v=>Value.isInt k v
 | .inr x,v=>Value.isStrOf x v
def vE(w:World):Key->Int
 | .inl k=>hashInt k
 | .inr x=>hashStr w x
theorem bO:∀{k:Key} {v:Value},td k v=true->(∃i t,k=Sum.inl i∧v=Value.int i t)∨(∃x t,k=Sum.inr x∧v=Value.str x t)
 | .inl i,v,h=>by
  obtain⟨t,e⟩:=Value.isInt_shape (k:=i) (v:=v) h;exact .inl ⟨i,t,rfl,e⟩
 | .inr x,v,h=>by
  obtain⟨t,e⟩:=Value.isStrOf_shape (x:=x) (v:=v) h;exact .inr ⟨x,t,rfl,e⟩
theorem ua(a b:Int):decide ((Sum.inl a:Key)=Sum.inl b)=(a == b):=by
 by_cases e:a=b
 ·subst e;simp
 ·have h:¬(Sum.inl a:Key)=Sum.inl b:=fun q=>e (Sum.inl.inj q)
  rw[decide_eq_false h];exact(beq_eq_false_iff_ne.mpr e).symm
theorem t7(a b:Str):decide ((Sum.inr a:Key)=Sum.inr b)=decide (a=b):=by
 by_cases e:a=b
 ·subst e;simp
 ·have h:¬(Sum.inr a:Key)=Sum.inr b:=fun q=>e (Sum.inr.inj q)
  rw[decide_eq_false h,decide_eq_false e]
theorem t9(a:Int)(b:Str):decide ((Sum.inl a:Key)=Sum.inr b)=false:=decide_eq_false (fun q=>nomatch q)
theorem t8(a:Str)(b:Int):decide ((Sum.inr a:Key)=Sum.inl b)=false:=decide_eq_false (fun q=>nomatch q)
def nu(prog:Program)(w:World):PySem.KeyKind prog w Key where
 is:=td
 hash:=vE w
 inj:=fun v a b ha hb=>by
  rcases bO ha with⟨i,t,rfl,rfl⟩|⟨x,t,rfl,rfl⟩
  ·rcases bO hb with⟨j,u,rfl,e⟩|⟨y,u,rfl,e⟩
   ·injection e with e1 _;rw[e1]
   ·exact nomatch e
  ·rcases bO hb with⟨j,u,rfl,e⟩|⟨y,u,rfl,e⟩
   ·exact nomatch e
   ·injection e with e1 _;rw[e1]
 byValue:=fun k v h=>by
  rcases bO h with⟨i,t,rfl,rfl⟩|⟨x,t,rfl,rfl⟩ <;> rfl
 pyHash:=fun hv h=>by
  rcases bO hv with⟨i,t,rfl,rfl⟩|⟨x,t,rfl,rfl⟩
  ·exact wpAny_pyHash_int h
  ·exact wpAny_pyHash_str h
 eqBool:=fun hu hv h=>by
  rcases bO hu with⟨i,t,rfl,rfl⟩|⟨x,t,rfl,rfl⟩
  ·rcases bO hv with⟨j,u,rfl,rfl⟩|⟨y,u,rfl,rfl⟩
   ·rw[ua]at h;exact wpAny_eqBool_int h
   ·rw[t9]at h;exact SeqAt.EqAt.int_str i t y u _ _ _ _ h
  ·rcases bO hv with⟨j,u,rfl,rfl⟩|⟨y,u,rfl,rfl⟩
   ·rw[t8]at h;exact SeqAt.EqAt.str_int x t j u _ _ _ _ h
   ·rw[t7]at h;exact wpAny_eqBool_str h
 «strs»:=fun k x t v h=>by
  rcases bO h with⟨i,u,rfl,e⟩|⟨y,u,rfl,e⟩
  ·exact nomatch e
  ·injection e with e1 _
   subst e1;cases v <;> rfl
end L2
namespace L2
open PySem PySem.Spec PyProof.Rows
inductive V where
 | non|bl (b:Bool)|int (i:Int)|str (x:Str)|byt (b:Array UInt8)|flt (b:UInt64)|ref (a:Addr)|ty (n:String)
 deriving DecidableEq
def bj:V->Value->Prop
 | .non,u=>u=Value.none
 | .bl b,u=>u=Value.bool b
 | .int i,u=>∃t,u=Value.int i t
 | .str x,u=>∃t,u=Value.str x t
 | .byt b,u=>∃t,u=Value.bytes b t
 | .flt b,u=>∃t,u=Value.float b t
 | .ref a,u=>u=Value.ref a
 | .ty n,u=>u=Value.type n
abbrev aM:List V->List Value->Prop:=Paired bj
theorem aM.length{xs:List V}{us:List Value}(r:aM xs us):xs.length=us.length:=Paired.length r
theorem aM.get:∀{xs:List V} {us:List Value} {i:Nat} {x:V},aM xs us->xs[i]? = some x->∃u,us[i]? = some u∧bj x u
 | _,_,_,_,.nil,e=>by simp at e
 | _,_,0,_,.cons r _,e=>by simp at e;subst e;exact⟨_,rfl,r⟩
 | _,_,i+1,x,.cons _ t,e=>by
  obtain⟨u,h1,h2⟩:=aM.get (i:=i) (x:=x) t (by simpa using e);exact⟨u,by simpa using h1,h2⟩
theorem aM.set{x:V}{u:Value}(r:bj x u):∀{xs:List V} {us:List Value} (i:Nat),aM xs us->aM (xs.set i x) (us.set i u)
 | _,_,_,.nil=>.nil
 | _,_,0,.cons _ t=>.cons r t
 | _,_,i+1,.cons q t=>.cons q (aM.set r i t)
theorem aM.append:∀{xs ys:List V} {us ws:List Value},aM xs us->aM ys ws->aM (xs++ys) (us++ws)
 | _,_,_,_,.nil,s=>s
 | _,_,_,_,.cons r t,s=>.cons r (aM.append t s)
theorem aM.take:∀{xs:List V} {us:List Value} (n:Nat),aM xs us->aM (xs.take n) (us.take n)
 | _,_,0,_=>.nil
 | _,_,_+1,.nil=>.nil
 | _,_,n+1,.cons r t=>.cons r (aM.take n t)
theorem aM.drop:∀{xs:List V} {us:List Value} (n:Nat),aM xs us->aM (xs.drop n) (us.drop n)
 | _,_,0,r=>r
 | _,_,_+1,.nil=>.nil
 | _,_,n+1,.cons _ t=>aM.drop n t
def uB:Option V->Option Value->Prop
 | some v,some u=>bj v u
 | none,none=>True
 | _,_=>False
def KV{κ:Type}:List (κ×V)->List (κ×Value)->Prop:=Paired fun (p:κ×V) (q:κ×Value)=>p.1=q.1∧bj p.2 q.2
def kV:Key->V
 | .inl i=>.int i
 | .inr x=>.str x
inductive HO where
 /-- a list -/
 | lst (xs:List V)
 /-- a tuple (never changes) -/
 | tup (xs:List V)
 /-- a dict whose keys are ints and texts;one whose keys are tuples of ints and texts (the empty one is both) -/
 | dK (kvs:List (Key×V))|dT (kvs:List (List Key×V))
 /-- a set of ints: its members,its size -/
 | set (S:Int->Bool) (n:Nat)
 /-- an instance of the class at C,its dict at dx,its attributes -/
 | ins (C dx:Addr) (fs:List (Str×V))
 /-- the dict of the instance at x -/
 | own (x:Addr)
 /-- the dict of an exception -/
 | xd (fs:List (Str×V))
 /-- a bound method,f of x -/
 | met (f x:Addr)
 /-- a range object lo,lo+1,.. below hi -/
 | rng (lo hi:Int)
 /-- a thing that is known to the object (the script;a dict while a loop walks it): read,never written while it is so -/
 | frz (o:Obj) (u:HO)
 /-- a code object's table -/
 | tbl (ps:Array Value)
 /-- any other thing,by what is true of its one object (a def of one's own: SetO a S n:=HO.ext fun h=>..) -/
 | ext (φ:Heap->Prop)
abbrev Hp:=Addr->Option HO
def upd(H:Hp)(a:Addr)(o:HO):Hp:=fun b=>if b=a then some o else H b
theorem upd_same{H:Hp}{a:Addr}{o:HO}:upd H a o a=some o:=by unfold upd;rw[if_pos rfl]
theorem aT{H:Hp}{a b:Addr}{o:HO}(h:b≠a):upd H a o b=H b:=by unfold upd;rw[if_neg h]
theorem pK{H:Hp}{a b:Addr}{o u:HO}(h:H a=some o)(h':H b=some u)(d:o≠u):a≠b:=by
 intro e;subst e;rw[h]at h';exact d (Option.some.inj h')
theorem aN{H:Hp}{a b:Addr}{o:HO}(h:H a=some o)(h':H b=none):a≠b:=by
 intro e;subst e;rw[h]at h';cases h'
section
variable (P:Program) (w:World)
def cC(H:Hp)(h:Heap)(a:Addr):HO->Prop
 | .lst xs=>xs.length≤sizeLine∧∃(its:List Value) (n:Nat),aM xs its∧h.get? a=some { cls:=.type "list",data:=.seq its.toArray n }
 | .tup xs=>xs.length≤sizeLine∧∃its:List Value,aM xs its∧IsTup h a its.toArray
 | .dK kvs=>kvs.length≤sizeLine∧(a == sysModules)=false∧∃vs,KV kvs vs∧h.DictOf (nu P w) a vs
 | .dT kvs=>kvs.length≤sizeLine∧(a == sysModules)=false∧∃xs:List (List Key×Addr×Value),
   Paired (fun (p:List Key×V) (q:List Key×Addr×Value)=>p.1=q.1∧H q.2.1=some (.tup (p.1.map kV))∧bj p.2 q.2.2) kvs xs ∧
   ∃o es ep,h.get? a=some o∧o.ExactDict∧o.data = .dict es ep∧es.toList=xs.map (entryOfKey (tupleKind (nu P w)))∧(xs.map (·.1)).Nodup
 | .set S n=>h.SetOf (intKind P w) a S n
 | .ins C dx fs=>H dx=some (.own a)∧fs.length≤1000∧dx≠a∧h.get? a=some (W.instObj C dx) ∧
   ∃mA,h.Ns1 dx mA∧(∀f,uB (fs.lookup f) (mA f))∧PySem.Within mA (fs.map (·.1))
 | .own _=>∃o,h.get? a=some o
 | .xd fs=>∃mA,h.Ns1 a mA∧∀f,uB (fs.lookup f) (mA f)
 | .rng lo hi=>∃t u v,h.get? a=some { cls:=.type "range",data:=.fields #[.int lo t,.int hi u,.int 1 v] }
 | .frz o u=>h.get? a=some o∧cC H h a u
 | .tbl ps=>h.get? a=some { cls:=.none,data:=.fields ps }
 | .met f x=>h.get? a=some (W.methodObj (.ref f) (.ref x))
 | .ext φ=>φ h∧(∃o,h.get? a=some o)∧∀h1 h2:Heap,φ h1->(∀o,h1.get? a=some o->h2.get? a=some o)->φ h2
def HOk(H:Hp)(h:Heap):Prop:=∀a o,H a=some o->cC P w H h a o
end
section
variable {P:Program} {w:World} {H H':Hp} {h h':Heap} {a:Addr} {o:HO}
theorem cC.lt(x:cC P w H h a o):a<h.objs.size:=by
 cases o with
 | lst xs=>obtain⟨_,_,_,_,e⟩:=x;exact Heap.lt_size e
 | tup xs=>obtain⟨_,_,_,p⟩:=x;exact p.lt
 | dK kvs=>obtain⟨_,_,_,_,o,_,_,e,_⟩:=x;exact Heap.lt_size e
 | dT kvs=>obtain⟨_,_,_,_,o,_,_,e,_⟩:=x;exact Heap.lt_size e
 | set S n=>obtain⟨o,_,_,_,e,_⟩:=x;exact Heap.lt_size e
 | ins C dx fs=>obtain⟨_,_,_,e,_⟩:=x;exact Heap.lt_size e
 | own y=>obtain⟨_,e⟩:=x;exact Heap.lt_size e
 | xd fs=>obtain⟨_,⟨_,_,_,e,_⟩,_⟩:=x;exact Heap.lt_size e
 | rng lo hi=>obtain⟨_,_,_,e⟩:=x;exact Heap.lt_size e
 | frz ob u=>obtain⟨e,_⟩:=x;exact Heap.lt_size e
 | tbl ps=>exact Heap.lt_size (show h.get? a=some _ from x)
 | met f y=>exact Heap.lt_size (show h.get? a=some _ from x)
 | ext φ=>obtain⟨_,⟨_,e⟩,_⟩:=x;exact Heap.lt_size e
theorem Paired.mapP{α β:Type}{F G:α->β->Prop}:∀{l₁:List α} {l₂:List β},Paired F l₁ l₂->(∀a b,F a b->G a b)->Paired G l₁ l₂
 | _,_,.nil,_=>.nil
 | _,_,.cons r t,f=>.cons (f _ _ r) (Paired.mapP t f)
theorem cC.stay(x:cC P w H h a o)(k:∀b u,(b=a∨H b=some (.own a))->h.get? b=some u->h'.get? b=some u)
  (ho:∀b,H b=some (.own a)->H' b=some (.own a)) (ht:∀b xs,H b=some (.tup xs)->H' b=some (.tup xs)):cC P w H' h' a o:=by
 induction o with
 | lst xs=>obtain⟨z,its,n,r,e⟩:=x;exact⟨z,its,n,r,k _ _ (.inl rfl) e⟩
 | tup xs=>obtain⟨z,its,r,ob,e,c⟩:=x;exact⟨z,its,r,ob,k _ _ (.inl rfl) e,c⟩
 | dK kvs=>obtain⟨z,y,vs,r,ob,es,ep,e,c⟩:=x;exact⟨z,y,vs,r,ob,es,ep,k _ _ (.inl rfl) e,c⟩
 | dT kvs =>
  obtain⟨z,y,xs,r,ob,es,ep,e,c⟩:=x;exact⟨z,y,xs,Paired.mapP r fun p q z=>⟨z.1,ht _ _ z.2.1,z.2.2⟩,ob,es,ep,k _ _ (.inl rfl) e,c⟩
 | set S n=>obtain⟨ob,es,ep,t,e,c⟩:=x;exact⟨ob,es,ep,t,k _ _ (.inl rfl) e,c⟩
 | ins C dx fs =>
  obtain⟨d,z,ne,e,mA,⟨od,es,ep,e2,c⟩,r⟩:=x;exact⟨ho _ d,z,ne,k _ _ (.inl rfl) e,mA,⟨od,es,ep,k _ _ (.inr d) e2,c⟩,r⟩
 | own y=>obtain⟨ob,e⟩:=x;exact⟨ob,k _ _ (.inl rfl) e⟩
 | xd fs=>obtain⟨mA,⟨od,es,ep,e,c⟩,r⟩:=x;exact⟨mA,⟨od,es,ep,k _ _ (.inl rfl) e,c⟩,r⟩
 | rng lo hi=>obtain⟨t,u,v,e⟩:=x;exact⟨t,u,v,k _ _ (.inl rfl) e⟩
 | frz ob u ih=>obtain⟨e,q⟩:=x;exact⟨k _ _ (.inl rfl) e,ih q⟩
 | tbl ps =>
  have e:h.get? a=some { cls:=.none,data:=.fields ps }:=x;show h'.get? a=some { cls:=.none,data:=.fields ps };exact k a _ (.inl rfl) e
 | met f y =>
  have e:h.get? a=some (W.methodObj (.ref f) (.ref y)):=x;show h'.get? a=some (W.methodObj (.ref f) (.ref y));exact k a _ (.inl rfl) e
 | ext φ=>obtain⟨p,⟨o,e⟩,st⟩:=x;exact⟨st _ _ p fun o q=>k _ _ (.inl rfl) q,⟨o,k _ _ (.inl rfl) e⟩,st⟩
theorem HOk.lt(x:HOk P w H h)(e:H a=some o):a<h.objs.size:=(x a o e).lt
theorem HOk.fresh(x:HOk P w H h)(e:h.objs.size≤a):H a=none:=by
 cases q:H a with
 | none=>rfl
 | some u=>exact absurd (Nat.lt_of_lt_of_le (x.lt q) e) (Nat.lt_irrefl _)
theorem HOk.kept(x:HOk P w H h)(k:∀b u,h.get? b=some u->h'.get? b=some u):HOk P w H h':=fun a o e =>
 (x a o e).stay (fun b u _ q=>k b u q) (fun _ q=>q) fun _ _ q=>q
theorem HOk.laid(x:HOk P w H h)(k:∀b u,h.get? b=some u->h'.get? b=some u)(hp:h.objs.size≤a)(new:cC P w (upd H a o) h' a o):HOk P w (upd H a o) h':=fun b u e=>by
 have hn:=x.fresh hp
 by_cases hb:b=a
 ·subst hb;rw[upd_same]at e;cases e;exact new
 ·rw[aT hb]at e
  exact(x b u e).stay (fun c v _ q=>k c v q) (fun c q=>by rw[aT (aN q hn)];exact q) fun c xs q=>by rw[aT (aN q hn)];exact q
end
def Rd(H:Hp)(a:Addr)(u:HO):Prop:=H a=some u∨∃o,H a=some (.frz o u)
theorem Rd.ok{P:Program}{w:World}{H:Hp}{h:Heap}{a:Addr}{u:HO}(r:Rd H a u)(x:HOk P w H h):cC P w H h a u:=by
 rcases r with r|⟨o,r⟩
 ·exact x a u r
 ·obtain⟨_,q⟩:=x a _ r
  exact q
def Mut:Option HO->Prop
 | some (.lst _)=>True
 | some (.dK _)=>True
 | some (.dT _)=>True
 | some (.set _ _)=>True
 | some (.ins _ _ _)=>True
 | some (.ext _)=>True
 | _=>False
section
variable {P:Program} {w:World} {H:Hp} {h h':Heap} {x e:Addr} {o':HO}
theorem HOk.write(ok:HOk P w H h)(mu:Mut (H x))(he:e=x∨H e=some (.own x))(k:∀b u,b≠e->h.get? b=some u->h'.get? b=some u)(heo:∃u,h'.get? e=some u)
  (new:cC P w (upd H x o') h' x o'):HOk P w (upd H x o') h':=fun b u q=>by
 have nown:∀c y,H c=some (.own y)->c≠x:=fun c y r z=>by subst z;rw[r]at mu;exact mu
 have ntup:∀c xs,H c=some (.tup xs)->c≠x:=fun c xs r z=>by subst z;rw[r]at mu;exact mu
 by_cases hb:b=x
 ·subst hb;rw[upd_same]at q;cases q;exact new
 ·rw[aT hb]at q
  by_cases hbe:b=e
  ·have q':H b=some (.own x):=by
    rcases he with z|z
    ·exact absurd (hbe.trans z) hb
    ·rw[hbe];exact z
   rw[q]at q';cases q';obtain⟨v,hv⟩:=heo;exact⟨v,by rw[hbe];exact hv⟩
  ·refine(ok b u q).stay (fun c v hc r=>k c v ?_ r) (fun c r=>by rw[aT (nown c b r)];exact r) fun c xs r=>by rw[aT (ntup c xs r)];exact r
   rcases hc with rfl|hc
   ·exact hbe
   ·rintro rfl
    rcases he with z|z
    ·exact nown c b hc z
    ·rw[hc]at z;cases z;exact hb rfl
end
structure Un(fs ex:List Addr)(H H':Hp)(h h':Heap):Prop where
 keep:∀b o,h.get? b=some o->H b=none->b∉fs->b∉ex->h'.get? b=some o
 slot:∀b o,h.get? b=some o->H b=none->b∈fs->b∉ex->∃sl,h'.get? b=some { o with slots:=sl }
 free:∀b o,h.get? b=some o->H b=none->b∉ex->H' b=none
 there:∀b o,h.get? b=some o->b∉ex->∃o',h'.get? b=some o'
 tups:∀b xs,H b=some (.tup xs)->H' b=some (.tup xs)
 frzs:∀b o u,H b=some (.frz o u)->H' b=some (.frz o u)
 tbls:∀b ps,H b=some (.tbl ps)->∃more,H' b=some (.tbl (ps++more))
section
variable {fs fs' ex ex':List Addr} {H H1 H2:Hp} {h h1 h2 h':Heap} {a x e:Addr} {o:HO}
theorem Un.any(u:Un fs ex H H1 h h1){b:Addr}{ob:Obj}(q:h.get? b=some ob)(n:H b=none)(hx:b∉ex):∃sl,h1.get? b=some { ob with slots:=sl }:=by
 by_cases hb:b∈fs
 ·exact u.slot b ob q n hb hx
 ·exact⟨ob.slots,u.keep b ob q n hb hx⟩
theorem Un.kept(k:∀b u,h.get? b=some u->h'.get? b=some u):Un fs ex H H h h' :=
 ⟨fun b ob q _ _ _=>k b ob q,fun b ob q _ _ _=>⟨ob.slots,k b ob q⟩,fun _ _ _ n _=>n,fun b ob q _=>⟨ob,k b ob q⟩,fun _ _ q=>q,fun _ _ _ q=>q,fun _ ps q=>⟨#[],by rw[q];simp⟩⟩
theorem Un.refl:Un fs ex H H h h:=Un.kept fun _ _ q=>q
theorem Un.laid(k:∀b u,h.get? b=some u->h'.get? b=some u)(hp:h.objs.size≤a)(hn:H a=none):Un fs ex H (upd H a o) h h' where
 keep:=fun b u q _ _ _=>k b u q
 slot:=fun b u q _ _ _=>⟨u.slots,k b u q⟩
 free:=fun b u q n _=>by rw[aT (Nat.ne_of_lt (Nat.lt_of_lt_of_le (Heap.lt_size q) hp))];exact n
 there:=fun b u q _=>⟨u,k b u q⟩
 tups:=fun b xs q=>by rw[aT (aN q hn)];exact q
 frzs:=fun b u xs q=>by rw[aT (aN q hn)];exact q
 tbls:=fun b ps q=>⟨#[],by rw[aT (aN q hn),q];simp⟩
theorem Un.write(mu:Mut (H x))(he:e=x∨H e=some (.own x))(k:∀b u,b≠e->h.get? b=some u->h'.get? b=some u)(heo:∃u,h'.get? e=some u):Un fs ex H (upd H x o) h h':=by
 have hx:∀b,H b=none->b≠x:=fun b n z=>by subst z;rw[n]at mu;exact mu
 have hb:∀b,H b=none->b≠e:=fun b n z=>by
  subst z;rcases he with r|r
  ·exact hx b n r
  ·rw[n]at r;cases r
 have hm:∀b u,H b=some u->¬Mut (some u)->b≠x:=fun b u q nm z=>by subst z;rw[q]at mu;exact nm mu
 refine⟨fun b u q n _ _=>k b u (hb b n) q,fun b u q n _ _=>⟨u.slots,k b u (hb b n) q⟩,fun b u q n _=>by rw[aT (hx b n)];exact n,fun b u q _=>?_,
  fun b xs q=>by rw[aT (hm b _ q fun z=>z)];exact q,fun b u xs q=>by rw[aT (hm b _ q fun z=>z)];exact q,fun b ps q=>⟨#[],by rw[aT (hm b _ q fun z=>z),q];simp⟩⟩
 by_cases hbe:b=e
 ·subst hbe;exact heo
 ·exact⟨u,k b u hbe q⟩
end
def trk(h:Heap)(H:Hp):List Addr:=(List.range h.objs.size).filter fun a=>(H a).isSome
def kF(h:Heap)(H:Hp):Heap:=W.hideAll h (trk h H)
theorem oN(h:Heap)(H:Hp):(kF h H).objs.size=h.objs.size:=W.hideAll_size _ _
theorem ql{h:Heap}{H:Hp}{b:Addr}{o:Obj}(e:h.get? b=some o)(n:H b=none):(kF h H).get? b=some o :=
 W.hideAll_get _ e fun hm=>by
  have q:(H b).isSome=true:=(List.mem_filter.mp hm).2;rw[n]at q;simp at q
theorem rE{h:Heap}{H:Hp}{b:Addr}{o:Obj}(e:(kF h H).get? b=some o):h.get? b=some o∧H b=none:=by
 have e':h.get? b=some o:=W.of_hideAll (trk h H) e;refine⟨e',?_⟩;cases q:H b with
 | none=>rfl
 | some x =>
  have hm:b∈trk h H:=List.mem_filter.mpr ⟨List.mem_range.mpr (Heap.lt_size e'),by simp[q]⟩;have z:(kF h H).get? b=none:=W.hideAll_none (trk h H) hm;rw[z]at e;cases e
end L2
namespace L2
open PySem PySem.Spec PyProof.Rows
structure Mod(K:W.Frag)(mg:Str->Option Value)(base:Heap):Prop where
 kin:K.In base
 glob:base.Ns mainGlobals mg
 blt:∃mb,base.Ns builtinsNs mb∧∀x:Str,x≠"__name__"->mb x=bootBuiltins x
 nolimit:base.NoLimit
structure Cx where
 prog:Program
 w:World
 K:W.Frag
 mg:Str->Option Value
 base:Heap
 A:Around
 N:List Str
 s₀:Shared
 H₀:Hp
 env:Env
 outer:List Env
 stack:List Env
 ex:List Addr
 fn:Str->Bool
 calm:Bool
 pn:List (Addr×Obj)
 xe:Value->Shared->Prop
def frs(l:List Env):List Addr:=l.filterMap (·.frame)
abbrev Cx.fs(X:Cx):List Addr:=frs X.outer
def Vis(sc:Scope)(x:Str):Prop:=sc.names.lookup x=some .local∨sc.names.lookup x=some .cell∨sc.names.lookup x=some .free
def Loc(sc:Scope)(x:Str):Prop:=sc.names.lookup x=some .local∨sc.names.lookup x=some .cell
def vJ(env:Env)(h:Heap)(m:Str->Option Value)(x:Str)(u:Value):Prop :=
 (env.kindOf x=some .local∧m x=some u)∨((env.kindOf x=some .cell∨env.kindOf x=some .free)∧∃c,env.cells.lookup x=some c∧h.IsCell c (some u))
structure Cx.Ok(X:Cx):Prop where
 mod:Mod X.K X.mg X.base
 kind:X.env.scope.kind = .function
 glob:X.env.globals=mainGlobals
 blt:X.env.builtins=builtinsNs
 above:X.s₀.heap.objs.size≤X.env.locals
 inj:∀x y c,X.env.cells.lookup x=some c->X.env.cells.lookup y=some c->x=y
 has:∀x,(X.env.kindOf x=some .cell∨X.env.kindOf x=some .free)->∃c,X.env.cells.lookup x=some c
 cab:∀x c,X.fn x=true->X.env.cells.lookup x=some c->X.s₀.heap.objs.size≤c
 hd:X.calm=true->X.A.handled=none
 frames:X.A.frames=some X.stack
 stk:X.stack=X.outer∨(X.stack=X.env::X.outer∧X.env.frame=some X.env.locals)
 exf:∀b∈X.ex,b≠X.env.locals∧∀x c,X.env.cells.lookup x=some c->c≠b
 bs:∀b o,X.base.get? b=some o->X.s₀.heap.get? b=some o∧X.H₀ b=none
 bsz:X.base.objs.size≤X.s₀.heap.objs.size
 noex:∀b o,X.base.get? b=some o->b∉X.ex
 exfs:∀b∈X.ex,b∉X.fs
 funs:X.s₀.heap.FunFrames X.base X.outer
 frf:∀b∈X.fs,X.H₀ b=none
structure vO(X:Cx)(pins:List (Addr×Obj))(σ:List (Option V))(H:Hp)(s:Shared):Prop where
 ok:X.Ok
 os:s.os=X.s₀.os
 bare:AllBare s.gens
 base:Un X.fs X.ex X.H₀ H X.s₀.heap s.heap
 loc:∃m,s.heap.Ns X.env.locals m∧∀(i:Nat) (x:Str) (v:V),X.N[i]? = some x->σ[i]? = some (some v)->Vis X.env.scope x->∃u,bj v u∧vJ X.env s.heap m x u
 cell:∀x c,X.env.cells.lookup x=some c->∃v,s.heap.IsCell c v
 free:H X.env.locals=none
 freeC:∀x c,X.env.cells.lookup x=some c->H c=none
 pin:∀p∈X.pn++pins,s.heap.get? p.1=some p.2∧H p.1=none∧p.1≠X.env.locals∧p.1∉X.fs∧∀v,p.2.data≠.cell v
 hok:HOk X.prog X.w H s.heap
 len:σ.length=X.N.length
section
variable {X:Cx} {pins:List (Addr×Obj)} {σ:List (Option V)} {H H':Hp} {s:Shared} {h':Heap}
theorem Cx.Ok.nofr(ok:X.Ok){b:Addr}{o:Obj}(e:X.base.get? b=some o):b∉X.fs:=fun hb=>by
 have:=(ok.funs.mem hb).1;rw[e]at this;cases this
theorem vO.bs(I:vO X pins σ H s):∀b o,X.base.get? b=some o->s.heap.get? b=some o∧H b=none:=fun b o e =>
 ⟨I.base.keep b o (I.ok.bs b o e).1 (I.ok.bs b o e).2 (I.ok.nofr e) (I.ok.noex b o e),I.base.free b o (I.ok.bs b o e).1 (I.ok.bs b o e).2 (I.ok.noex b o e)⟩
theorem vO.bk(I:vO X pins σ H s):∀b o,X.base.get? b=some o->s.heap.get? b=some o:=fun b o e=>(I.bs b o e).1
theorem vO.mod(I:vO X pins σ H s):Mod X.K X.mg X.base:=I.ok.mod
theorem vO.kIn(I:vO X pins σ H s):X.K.In s.heap:=I.ok.mod.kin.keeps I.bk
theorem vO.lt(I:vO X pins σ H s):X.env.locals<s.heap.objs.size:=let ⟨_,hn,_⟩:=I.loc;hn.lt
theorem vO.sz(I:vO X pins σ H s):X.s₀.heap.objs.size≤s.heap.objs.size:=Nat.le_trans I.ok.above (Nat.le_of_lt I.lt)
theorem vO.nofs(I:vO X pins σ H s){a:Addr}(h:s.heap.objs.size≤a):a∉X.fs:=fun hb=>by
 obtain⟨_,o,ho,_⟩:=I.ok.funs.mem hb;exact absurd (Nat.lt_of_lt_of_le (Heap.lt_size ho) (Nat.le_trans I.sz h)) (Nat.lt_irrefl _)
theorem vO.cne(I:vO X pins σ H s):∀x c,X.env.cells.lookup x=some c->c≠X.env.locals:=fun x c e z=>by
 obtain⟨v,o,ho,hd⟩:=I.cell x c e;obtain⟨m,⟨o',es,ep,ho',hd',_⟩,_⟩:=I.loc;rw[z,ho']at ho;cases ho;rw[hd']at hd;cases hd
theorem vO.funs(I:vO X pins σ H s):s.heap.FunFrames X.base X.outer:=by
 have all:∀(l:List Env),(∀b∈frs l,b∈X.fs)->X.s₀.heap.FunFrames X.base l->s.heap.FunFrames X.base l:=by
  intro l
  induction l with
  | nil=>intro _ _;trivial
  | cons env r ih =>
   intro hs hl;obtain⟨hk,⟨L,o,hf,hn,ho,hd⟩,hr⟩:=hl;have hL:L∈X.fs:=hs L (by unfold frs;rw[List.filterMap_cons,hf];exact List.mem_cons_self);obtain⟨sl,e⟩:=I.base.slot L o ho (I.ok.frf L hL) hL fun z=>I.ok.exfs L z hL;exact⟨hk,⟨L,_,hf,hn,e,hd⟩,ih (fun b hb=>hs b (by unfold frs;rw[List.filterMap_cons,hf];exact List.mem_cons_of_mem _ hb)) hr⟩
 exact all X.outer (fun _ hb=>hb) I.ok.funs
theorem vO.stack(I:vO X pins σ H s):s.heap.FunFrames X.base X.stack:=by
 rcases I.ok.stk with e|⟨e,hf⟩
 ·rw[e];exact I.funs
 ·rw[e]
  obtain⟨m,hn,_⟩:=I.loc;refine .cons (by rw[I.ok.kind];decide) hf hn ?_ I.funs;exact Heap.get?_none_of_le (Nat.le_trans I.ok.bsz I.ok.above)
theorem vO.stkSub(I:vO X pins σ H s):∀b∈frs X.stack,b∈X.env.locals::X.fs:=fun b hb=>by
 rcases I.ok.stk with e|⟨e,hf⟩
 ·rw[e]at hb;exact List.mem_cons_of_mem _ hb
 ·rw[e]at hb
  unfold frs at hb;rw[List.filterMap_cons,hf]at hb;exact hb
theorem vO.stkFree(I:vO X pins σ H s):∀b∈frs X.stack,H b=none:=fun b hb=>by
 rcases List.mem_cons.mp (I.stkSub b hb) with e|hb
 ·rw[e];exact I.free
 ·obtain⟨_,o,ho,_⟩:=I.ok.funs.mem hb
  exact I.base.free b o ho (I.ok.frf b hb) fun z=>I.ok.exfs b z hb
theorem vO.step{g':Array GenState}{t':Nat}{d':Drawn}{ch:List Addr}(I:vO X pins σ H s)
  (hch:∀b∈ch,(b∈X.ex∨X.s₀.heap.objs.size≤b)∧b≠X.env.locals∧(∀x c,X.env.cells.lookup x=some c->c≠b)∧∀p∈X.pn++pins,p.1≠b)
  (keep:∀b o,b≠X.env.locals->b∉X.fs->b∉ch->s.heap.get? b=some o->H b=none->h'.get? b=some o)
  (slot:∀b o,b≠X.env.locals->b∈X.fs->b∉ch->s.heap.get? b=some o->H b=none->∃sl,h'.get? b=some { o with slots:=sl }) (free:∀b o,b∉ch->s.heap.get? b=some o->H b=none->H' b=none)
  (there:∀b o,b∉ch->s.heap.get? b=some o->∃o',h'.get? b=some o')
  (tups:∀b xs,H b=some (.tup xs)->H' b=some (.tup xs)) (frzs:∀b o u,H b=some (.frz o u)->H' b=some (.frz o u)) (tbls:∀b ps,H b=some (.tbl ps)->∃more,H' b=some (.tbl (ps++more)))
  (ns:∀m,s.heap.Ns X.env.locals m->h'.Ns X.env.locals m) (hok:HOk X.prog X.w H' h') (hg:AllBare g') :
  vO X pins σ H' { s with heap:=h',gens:=g',drawn:=d',toks:=t' }:=by
 have neL:∀b o,X.s₀.heap.get? b=some o->b≠X.env.locals:=fun b o e=>Nat.ne_of_lt (Nat.lt_of_lt_of_le (Heap.lt_size e) I.ok.above);have neC:∀b o,X.s₀.heap.get? b=some o->b∉X.ex->b∉ch:=fun b o e hx hb=>by
  rcases(hch b hb).1 with z|z
  ·exact hx z
  ·exact absurd (Nat.lt_of_lt_of_le (Heap.lt_size e) z) (Nat.lt_irrefl _)
 have cellK:∀x c,X.env.cells.lookup x=some c->∀v,s.heap.IsCell c v->h'.IsCell c v:=fun x c e v ⟨o,ho,hd⟩=>by
  have nch:c∉ch:=fun z=>(hch c z).2.2.1 x c e rfl
  by_cases hc:c∈X.fs
  ·obtain⟨sl,q⟩:=slot c o (I.cne x c e) hc nch ho (I.freeC x c e)
   exact⟨_,q,hd⟩
  ·exact⟨o,keep c o (I.cne x c e) hc nch ho (I.freeC x c e),hd⟩
 refine⟨I.ok,I.os,hg,⟨fun b o e n hb hx=>?_,fun b o e n hb hx=>?_,fun b o e n hx=>?_,fun b o e hx=>?_,fun b xs e=>tups b xs (I.base.tups b xs e),fun b o xs e=>frzs b o xs (I.base.frzs b o xs e),fun b ps e=>?_⟩,?_,fun x c e=>?_,?_,fun x c e=>?_,fun p hp=>?_,hok,I.len⟩
 ·exact keep b o (neL b o e) hb (neC b o e hx) (I.base.keep b o e n hb hx) (I.base.free b o e n hx)
 ·obtain⟨sl,e1⟩:=I.base.slot b o e n hb hx
  obtain⟨sl',e2⟩:=slot b _ (neL b o e) hb (neC b o e hx) e1 (I.base.free b o e n hx);exact⟨sl',e2⟩
 ·obtain⟨o',e1⟩:=I.base.there b o e hx
  exact free b o' (neC b o e hx) e1 (I.base.free b o e n hx)
 ·obtain⟨o',e1⟩:=I.base.there b o e hx
  exact there b o' (neC b o e hx) e1
 ·obtain⟨m1,e1⟩:=I.base.tbls b ps e
  obtain⟨m2,e2⟩:=tbls b _ e1;exact⟨m1++m2,by rw[e2,Array.append_assoc]⟩
 ·obtain⟨m,hn,hl⟩:=I.loc
  refine⟨m,ns m hn,fun i x v e1 e2 e3=>?_⟩;obtain⟨u,r,l⟩:=hl i x v e1 e2 e3;refine⟨u,r,?_⟩;rcases l with l|⟨k,c,e,z⟩
  ·exact .inl l
  ·exact .inr ⟨k,c,e,cellK x c e _ z⟩
 ·obtain⟨v,z⟩:=I.cell x c e
  exact⟨v,cellK x c e v z⟩
 ·obtain⟨m,⟨o,_,_,ho,_⟩,_⟩:=I.loc
  exact free _ o (fun z=>(hch _ z).2.1 rfl) ho I.free
 ·obtain⟨v,o,ho,hd⟩:=I.cell x c e
  exact free c o (fun z=>(hch c z).2.2.1 x c e rfl) ho (I.freeC x c e)
 ·obtain⟨e,n,ne,nf,d⟩:=I.pin p hp
  have nch:p.1∉ch:=fun z=>(hch p.1 z).2.2.2 p hp rfl;exact⟨keep p.1 p.2 ne nf nch e n,free p.1 p.2 nch e n,ne,nf,d⟩
theorem vO.un{t':Nat}(I:vO X pins σ H s)(u:Un X.fs [] H H' s.heap h')(hok:HOk X.prog X.w H' h'):vO X pins σ H' { s with heap:=h',toks:=t' }:=by
 obtain⟨m,⟨o,es,ep,ho,r⟩,_⟩:=id I.loc;obtain⟨sl,hL⟩:=u.any ho I.free (by simp);exact I.step (g':=s.gens) (d':=s.drawn) (ch:=[]) (fun _ z=>nomatch z) (fun b o _ hb _ e n=>u.keep b o e n hb (by simp)) (fun b o _ hb _ e n=>u.slot b o e n hb (by simp)) (fun b o _ e n=>u.free b o e n (by simp)) (fun b o _ e=>u.there b o e (by simp)) u.tups u.frzs u.tbls (fun m' hm=>by
  obtain⟨o',es',ep',ho',r'⟩:=hm;rw[ho]at ho';cases ho';exact⟨_,es',ep',hL,r'⟩) hok I.bare
theorem vO.call{g':Array GenState}{t':Nat}{d':Drawn}{ch:List Addr}(I:vO X pins σ H s)(u:Un (frs X.stack) ch H H' s.heap h')(hok:HOk X.prog X.w H' h')(hg:AllBare g')
  (hch:∀b∈ch,(b∈X.ex∨X.s₀.heap.objs.size≤b)∧b≠X.env.locals∧(∀x c,X.env.cells.lookup x=some c->c≠b)∧∀p∈X.pn++pins,p.1≠b) :
  vO X pins σ H' { s with heap:=h',gens:=g',drawn:=d',toks:=t' }:=by
 obtain⟨m,⟨o,es,ep,ho,r⟩,_⟩:=id I.loc;obtain⟨sl,hL⟩:=u.any ho I.free fun z=>(hch _ z).2.1 rfl;exact I.step (ch:=ch) hch (fun b o hL hb hc e n=>u.keep b o e n (fun z=>(List.mem_cons.mp (I.stkSub b z)).elim hL hb) hc) (fun b o _ _ hc e n=>u.any e n hc) (fun b o hc e n=>u.free b o e n hc) (fun b o hc e=>u.there b o e hc) u.tups u.frzs u.tbls (fun m' hm=>by
  obtain⟨o',es',ep',ho',r'⟩:=hm;rw[ho]at ho';cases ho';exact⟨_,es',ep',hL,r'⟩) hok hg
theorem vO.turned{t':Nat}{it:Addr}(I:vO X pins σ H s)(k:∀b o,b≠it->s.heap.get? b=some o->h'.get? b=some o)(hn:H it=none)(hL:it≠X.env.locals)
  (h1:it∈X.ex∨X.s₀.heap.objs.size≤it) (h2:∀x c,X.env.cells.lookup x=some c->c≠it) (h3:∀p∈X.pn++pins,p.1≠it):vO X pins σ H { s with heap:=h',toks:=t' }:=by
 have nit:∀b u,H b=some u->b≠it:=fun b u e z=>by rw[z,hn]at e;cases e
 refine I.step (g':=s.gens) (d':=s.drawn) (ch:=[it]) (fun b hb=>?_) (fun b o _ _ hc e _=>k b o (fun z=>hc (by simp[z])) e) (fun b o _ _ hc e _=>⟨o.slots,k b o (fun z=>hc (by simp[z])) e⟩) (fun _ _ _ _ n=>n)
  (fun b o hc e=>⟨o,k b o (fun z=>hc (by simp[z])) e⟩) (fun _ _ e=>e) (fun _ _ _ e=>e) (fun b ps e=>⟨#[],by rw[e];simp⟩) (fun m hm=>?_) (fun b u e=>?_) I.bare
 ·have e:b=it:=by simpa using hb
  subst e;exact⟨h1,hL,h2,h3⟩
 ·obtain⟨o,es,ep,ho,r⟩:=hm
  exact⟨o,es,ep,k _ o (Ne.symm hL) ho,r⟩
 ·refine(I.hok b u e).stay (fun c v hc q=>k c v ?_ q) (fun _ q=>q) fun _ _ q=>q
  rcases hc with z|z
  ·rw[z];exact nit b u e
  ·exact nit c _ z
theorem vO.tok(I:vO X pins σ H s)(t:Nat):vO X pins σ H { s with toks:=t }:=I.un (h':=s.heap) (t':=t) Un.refl I.hok
theorem vO.kept{t':Nat}(I:vO X pins σ H s)(k:∀b u,s.heap.get? b=some u->h'.get? b=some u):vO X pins σ H { s with heap:=h',toks:=t' }:=I.un (Un.kept k) (I.hok.kept k)
theorem vO.laid{a:Addr}{o:HO}{t':Nat}(I:vO X pins σ H s)(k:∀b u,s.heap.get? b=some u->h'.get? b=some u)(hp:s.heap.objs.size≤a)(new:cC X.prog X.w (upd H a o) h' a o) :
  vO X pins σ (upd H a o) { s with heap:=h',toks:=t' }:=I.un (Un.laid k hp (I.hok.fresh hp)) (I.hok.laid k hp new)
theorem vO.write{x e:Addr}{o:HO}{t':Nat}(I:vO X pins σ H s)(mu:Mut (H x))(he:e=x∨H e=some (.own x))(k:∀b u,b≠e->s.heap.get? b=some u->h'.get? b=some u)(heo:∃u,h'.get? e=some u)
  (new:cC X.prog X.w (upd H x o) h' x o):vO X pins σ (upd H x o) { s with heap:=h',toks:=t' }:=I.un (Un.write mu he k heo) (I.hok.write mu he k heo new)
theorem vO.pins_of{pins':List (Addr×Obj)}(I:vO X pins σ H s)(h:∀p∈pins',s.heap.get? p.1=some p.2∧H p.1=none∧p.1≠X.env.locals∧p.1∉X.fs∧∀v,p.2.data≠.cell v):vO X pins' σ H s :=
 ⟨I.ok,I.os,I.bare,I.base,I.loc,I.cell,I.free,I.freeC,fun p hp=>(List.mem_append.mp hp).elim (fun z=>I.pin p (List.mem_append_left _ z)) (h p),I.hok,I.len⟩
theorem lr{N:List Str}(hN:N.Nodup){i j:Nat}{x:Str}(a:N[i]? = some x)(b:N[j]? = some x):i=j:=by
 obtain⟨h1,e1⟩:=List.getElem?_eq_some_iff.mp a;obtain⟨h2,e2⟩:=List.getElem?_eq_some_iff.mp b;exact(List.getElem_inj hN).mp (e1.trans e2.symm)
theorem jL{M:Model}{A:Around}{E:Value->Shared->Prop}{i:Nat}{x:Str}{v:V}{u:Value}{Q:Unit->Shared->Prop}(I:vO X pins σ H s)(hN:X.N.Nodup)(hi:X.N[i]? = some x)(hx:Loc X.env.scope x)(r:bj v u)
  (h:∀s',vO X pins (σ.set i (some v)) H s'->(∃a,Heap.SameBut a s.heap s'.heap∧(a=X.env.locals∨X.env.cells.lookup x=some a))->Q () s') (hf:X.fn x=true∨X.env.scope.names.lookup x=some .local:=by first|exact .inl rfl|exact .inr rfl|assumption):wpAny M A (storeName X.env x u) Q E s:=by
 obtain⟨m,hn,hl⟩:=id I.loc;have hcls:(X.env.scope.kind == .class || (X.env.scope.kind == .module && X.env.locals != X.env.globals))=false:=by rw[I.ok.kind];rfl
 have hiσ:i<σ.length:=by rw[I.len];exact(List.getElem?_eq_some_iff.mp hi).1
 have cne:=I.cne;have tracked:∀{a:Addr} {h':Heap},(∃o,s.heap.get? a=some o∧H a=none)->Heap.SameBut a s.heap h'->HOk X.prog X.w H h':=fun {a h'} ha hs b ob e=>by
  obtain⟨_,_,hfree⟩:=ha;refine(I.hok b ob e).stay (fun c w' hc q=>(hs.2 c ?_).trans q) (fun _ q=>q) fun _ _ q=>q;rintro rfl;rcases hc with rfl|hc
  ·rw[hfree]at e;cases e
  ·rw[hfree]at hc;cases hc
 rcases hx with hk|hk
 ·refine wpAny_storeName_local hk hn (fun h' hn' hs=>?_) hcls
  obtain⟨oL,_,_,hoL,_⟩:=id hn;refine h _ ⟨I.ok,I.os,I.bare,⟨fun b o e n hb hx=>?_,fun b o e n hb hx=>?_,I.base.free,fun b o e hx=>?_,I.base.tups,I.base.frzs,I.base.tbls⟩,⟨_,hn',fun j y v' e1 e2 e3=>?_⟩,fun y c e=>?_,I.free,I.freeC,fun p hp=>?_,tracked ⟨oL,hoL,I.free⟩ hs,by simpa using I.len⟩ ⟨_,hs,.inl rfl⟩
  ·exact(hs.2 b (Nat.ne_of_lt (Nat.lt_of_lt_of_le (Heap.lt_size e) I.ok.above))).trans (I.base.keep b o e n hb hx)
  ·obtain⟨sl,e1⟩:=I.base.slot b o e n hb hx
   exact⟨sl,(hs.2 b (Nat.ne_of_lt (Nat.lt_of_lt_of_le (Heap.lt_size e) I.ok.above))).trans e1⟩
  ·obtain⟨o',e1⟩:=I.base.there b o e hx
   exact⟨o',(hs.2 b (Nat.ne_of_lt (Nat.lt_of_lt_of_le (Heap.lt_size e) I.ok.above))).trans e1⟩
  ·by_cases hj:j=i
   ·subst hj
    rw[hi]at e1;cases e1;rw[List.getElem?_set_self hiσ]at e2;cases e2;exact⟨u,r,.inl ⟨hk,by simp⟩⟩
   ·rw[List.getElem?_set_ne (Ne.symm hj)]at e2
    obtain⟨u',r',q⟩:=hl j y v' e1 e2 e3;refine⟨u',r',?_⟩;rcases q with⟨k,e⟩|⟨k,c,e,z⟩
    ·refine .inl ⟨k,?_⟩
     have:y≠x:=fun e=>hj (lr hN e1 (e▸hi));simp[this,e]
    ·exact .inr ⟨k,c,e,z.sameBut hs (cne y c e)⟩
  ·obtain⟨w',z⟩:=I.cell y c e
   exact⟨w',z.sameBut hs (cne y c e)⟩
  ·obtain⟨e,n,ne,nf,d⟩:=I.pin p hp
   exact⟨(hs.2 p.1 ne).trans e,n,ne,nf,d⟩
 ·have hfn:X.fn x=true:=by
   rcases hf with z|z
   ·exact z
   ·rw[z]at hk;cases hk
  obtain⟨c,hc⟩:=I.ok.has x (.inl hk);obtain⟨w',z⟩:=I.cell x c hc;refine wpAny_storeName_cell I.ok.kind hk hc z (fun h' hc' hs=>?_);obtain⟨oc,hoc,hocd⟩:=id z;refine h { s with heap:=h' } ⟨I.ok,I.os,I.bare,⟨fun b o e n hb hx=>?_,fun b o e n hb hx=>?_,I.base.free,fun b o e hx=>?_,I.base.tups,I.base.frzs,I.base.tbls⟩,⟨m,hn.sameBut hs (Ne.symm (cne x c hc)),fun j y v' e1 e2 e3=>?_⟩,fun y c' e=>?_,I.free,I.freeC,fun p hp=>?_,tracked ⟨oc,hoc,I.freeC x c hc⟩ hs,by simpa using I.len⟩ ⟨c,hs,.inr hc⟩
  ·exact(hs.2 b (Nat.ne_of_lt (Nat.lt_of_lt_of_le (Heap.lt_size e) (I.ok.cab x c hfn hc)))).trans (I.base.keep b o e n hb hx)
  ·obtain⟨sl,e1⟩:=I.base.slot b o e n hb hx
   exact⟨sl,(hs.2 b (Nat.ne_of_lt (Nat.lt_of_lt_of_le (Heap.lt_size e) (I.ok.cab x c hfn hc)))).trans e1⟩
  ·obtain⟨o',e1⟩:=I.base.there b o e hx
   exact⟨o',(hs.2 b (Nat.ne_of_lt (Nat.lt_of_lt_of_le (Heap.lt_size e) (I.ok.cab x c hfn hc)))).trans e1⟩
  ·by_cases hj:j=i
   ·subst hj
    rw[hi]at e1;cases e1;rw[List.getElem?_set_self hiσ]at e2;cases e2;exact⟨u,r,.inr ⟨.inl hk,c,hc,hc'⟩⟩
   ·rw[List.getElem?_set_ne (Ne.symm hj)]at e2
    obtain⟨u',r',q⟩:=hl j y v' e1 e2 e3;refine⟨u',r',?_⟩;rcases q with q|⟨k,c',e,z'⟩
    ·exact .inl q
    ·refine .inr ⟨k,c',e,z'.sameBut hs ?_⟩
     rintro rfl;exact hj (lr hN e1 (I.ok.inj _ _ _ e hc▸hi))
  ·by_cases hcc:c'=c
   ·subst hcc;exact⟨_,hc'⟩
   ·obtain⟨w2,z2⟩:=I.cell y c' e
    exact⟨w2,z2.sameBut hs hcc⟩
  ·obtain⟨e,n,ne,nf,d⟩:=I.pin p hp
   refine⟨(hs.2 p.1 ?_).trans e,n,ne,nf,d⟩;intro q;rw[q,hoc]at e;have q':oc=p.2:=Option.some.inj e;exact d w' (by rw[<- q'];exact hocd)
theorem gw{M:Model}{A:Around}{E:Value->Shared->Prop}{i:Nat}{x:Str}{v:V}{u:Value}{Q:Unit->Shared->Prop}(I:vO X pins σ H s)(hN:X.N.Nodup)(hi:X.N[i]? = some x)(hx:Loc X.env.scope x)(r:bj v u)
  (h:∀s',vO X pins (σ.set i (some v)) H s'->Q () s') (hf:X.fn x=true∨X.env.scope.names.lookup x=some .local:=by first|exact .inl rfl|exact .inr rfl|assumption):wpAny M A (storeName X.env x u) Q E s :=
 jL I hN hi hx r (fun s' I' _=>h s' I') hf
theorem vO.call'{s':Shared}{ch:List Addr}(I:vO X pins σ H s)(ho:s'.os=s.os)(u:Un (frs X.stack) ch H H' s.heap s'.heap)(hok:HOk X.prog X.w H' s'.heap)(hg:AllBare s'.gens)
  (hch:∀b∈ch,(b∈X.ex∨X.s₀.heap.objs.size≤b)∧b≠X.env.locals∧(∀x c,X.env.cells.lookup x=some c->c≠b)∧∀p∈X.pn++pins,p.1≠b):vO X pins σ H' s':=by
 obtain⟨h',g',d',t',o'⟩:=s';have e:o'=s.os:=ho;subst e;exact I.call (g':=g') (t':=t') (d':=d') u hok hg hch
end
abbrev XK:=Value->Option Addr->Hp->Prop
abbrev St:=List (Option V)
abbrev VK:=V->Hp->Prop
abbrev TE:=St->Hp->VK->Prop
abbrev TT:=St->Hp->(Bool->Hp->Prop)->Prop
abbrev TA:=St->Hp->(List V->Hp->Prop)->Prop
structure eP where
 nx:St->Hp->Prop
 rt:VK
 bk:St->Hp->Prop:=fun _ _=>False
 ct:St->Hp->Prop:=fun _ _=>False
abbrev TS:=eP->St->Hp->Prop
def EP(X:Cx)(pins:List (Addr×Obj))(σ:St)(Q:VK)(u:Value)(s':Shared):Prop:=∃v H',vO X pins σ H' s'∧bj v u∧Q v H'
def TP(X:Cx)(pins:List (Addr×Obj))(σ:St)(Q:Bool->Hp->Prop)(b:Bool)(s':Shared):Prop:=∃H',vO X pins σ H' s'∧Q b H'
def AP(X:Cx)(pins:List (Addr×Obj))(σ:St)(Q:List V->Hp->Prop)(us:List Value)(s':Shared):Prop:=∃vs H',vO X pins σ H' s'∧aM vs us∧Q vs H'
def SP(X:Cx)(pins:List (Addr×Obj))(D:eP)(f:Flow)(s':Shared):Prop :=
 match f with
 | .next=>∃σ' H',vO X pins σ' H' s'∧D.nx σ' H'
 | .brk=>∃σ' H',vO X pins σ' H' s'∧D.bk σ' H'
 | .cont=>∃σ' H',vO X pins σ' H' s'∧D.ct σ' H'
 | .ret u=>∃v σ' H',vO X pins σ' H' s'∧bj v u∧D.rt v H'
def PE(X:Cx)(e:Expr)(t:TE):Prop :=
 ∀(pins:List (Addr×Obj)) (s:Shared) (σ:St) (H:Hp) (Q:VK),vO X pins σ H s->t σ H Q->wpAny (model X.prog X.w) X.A (eval e X.env) (EP X pins σ Q) X.xe s
def PT(X:Cx)(e:Expr)(t:TT):Prop :=
 ∀(pins:List (Addr×Obj)) (s:Shared) (σ:St) (H:Hp) (Q:Bool->Hp->Prop),vO X pins σ H s->t σ H Q->wpAny (model X.prog X.w) X.A (isTrue e X.env (eval e X.env)) (TP X pins σ Q) X.xe s
def PW(X:Cx)(e:Expr)(t:TT):Prop :=
 ∀(whole:Sem Value) (pins:List (Addr×Obj)) (s:Shared) (σ:St) (H:Hp) (Q:Bool->Hp->Prop),vO X pins σ H s->t σ H Q->wpAny (model X.prog X.w) X.A (isTrue e X.env whole) (TP X pins σ Q) X.xe s
theorem PW.pt{X:Cx}{e:Expr}{t:TT}(h:PW X e t):PT X e t:=h _
def PA(X:Cx)(es:List Expr)(t:TA):Prop :=
 ∀(pos:Pos) (pins:List (Addr×Obj)) (s:Shared) (σ:St) (H:Hp) (Q:List V->Hp->Prop),vO X pins σ H s->t σ H Q->wpAny (model X.prog X.w) X.A (spliced (backTo pos (starEach es X.env))) (AP X pins σ Q) X.xe s
def PS(X:Cx)(st:Stmt)(t:TS):Prop :=
 ∀(pins:List (Addr×Obj)) (s:Shared) (σ:St) (H:Hp) (D:eP),vO X pins σ H s->t D σ H->wpAny (model X.prog X.w) X.A (exec st X.env) (SP X pins D) X.xe s
def PSs(X:Cx)(st:List Stmt)(t:TS):Prop :=
 ∀(pins:List (Addr×Obj)) (s:Shared) (σ:St) (H:Hp) (D:eP),vO X pins σ H s->t D σ H->wpAny (model X.prog X.w) X.A (execs st X.env) (SP X pins D) X.xe s
theorem thn{α:Type}{t:Sem α}{Q Q':α->Shared->Prop}{M:Model}{A:Around}{E:Value->Shared->Prop}{s:Shared}(h:wpAny M A t Q E s)(hQ:∀a s,Q a s->Q' a s):wpAny M A t Q' E s:=wpAny_mono h hQ fun _ _ x=>x
end L2
namespace L2
open PySem PySem.Spec PyProof.Rows
section
variable {X:Cx}
inductive xh (i:Nat) (σ:St) (H:Hp) (Q:VK):Prop
 | mk (v:V) (e:σ[i]? = some (some v)) (q:Q v H):xh i σ H Q
def tC(v:V):TE:=fun _ H Q=>Q v H
theorem tS{i:Nat}{x:Str}{pos:Pos}(hN:X.N[i]? = some x)(hv:Vis X.env.scope x)(hd:(x == ("__debug__" : Str))=false:=by decide)(hcd:(x == ("__classdict__" : Str))=false:=by decide):PE X (.Name x pos) (xh i):=by
 intro pins s σ H Q I h;obtain⟨v,e,h⟩:=h;obtain⟨m,hn,hl⟩:=I.loc;obtain⟨u,r,l⟩:=hl i x v hN e hv;have fin:EP X pins σ Q u s:=⟨v,H,I,r,h⟩;rcases l with⟨hk,hm⟩|⟨hk,c,hc,hcell⟩
 ·exact wpAny_Name (wpAny_loadName_local I.ok.kind hk hn hm fin) hd
 ·rcases hk with hk|hk
  ·exact wpAny_Name (wpAny_loadName_cell I.ok.kind hk hc hcell fin) hd
  ·exact wpAny_Name (wpAny_loadName_free I.ok.kind hk hc hcell fin hcd) hd
theorem ac{i j pos}:PE X (.Constant (.int i) j pos) (tC (.int i)):=fun _ _ _ H _ I h=>wpAny_Constant_int ⟨.int i,H,I.tok _,⟨_,rfl⟩,h⟩
theorem cI{b j pos}:PE X (.Constant (.bool b) j pos) (tC (.bl b)):=fun _ _ _ H _ I h=>Constant_bool ⟨.bl b,H,I,rfl,h⟩
theorem aP{x j pos}:PE X (.Constant (.str x) j pos) (tC (.str x)):=fun _ _ _ H _ I h=>Calls.Constant_str ⟨.str x,H,I.tok _,⟨_,rfl⟩,h⟩
def Gl(X:Cx)(x:Str):Prop:=X.env.kindOf x=some .globalImplicit
theorem kB{E:Value->Shared->Prop}{pins:List (Addr×Obj)}{s:Shared}{σ:St}{H:Hp}{x:Str}{u:Value}{pos:Pos}{Q:Value->Shared->Prop}(I:vO X pins σ H s)(hg:Gl X x)(hm:X.mg x=some u)(h:Q u s)
  (hd:(x == ("__debug__" : Str))=false:=by decide):wpAny (model X.prog X.w) X.A (eval (.Name x pos) X.env) Q E s :=
 Calls.Name_function_global I.ok.kind hg (Calls.loadGlobal_global (by rw[I.ok.glob];exact I.mod.glob.keeps I.bk) hm h) hd
theorem fj{E:Value->Shared->Prop}{pins:List (Addr×Obj)}{s:Shared}{σ:St}{H:Hp}{x:Str}{u:Value}{pos:Pos}{Q:Value->Shared->Prop}(I:vO X pins σ H s)(hg:Gl X x)(hm:X.mg x=none)(hv:bootBuiltins x=some u)(h:Q u s)
  (hn:x≠"__name__":=by decide) (hd:(x == ("__debug__" : Str))=false:=by decide):wpAny (model X.prog X.w) X.A (eval (.Name x pos) X.env) Q E s:=by
 obtain⟨mb,h1,h2⟩:=I.mod.blt;exact Calls.Name_function_global I.ok.kind hg (Calls.loadGlobal_builtin (by rw[I.ok.glob];exact I.mod.glob.keeps I.bk) hm (by rw[I.ok.blt];exact h1.keeps I.bk) ((h2 x hn).trans hv) h) hd
theorem rl{x:Str}{v:V}{u:Value}{pos:Pos}(hg:Gl X x)(hm:X.mg x=some u)(r:bj v u)(hd:(x == ("__debug__" : Str))=false:=by decide):PE X (.Name x pos) (tC v) :=
 fun _ _ _ H _ I h=>kB I hg hm ⟨v,H,I,r,h⟩ hd
theorem rA{x:Str}{v:V}{u:Value}{pos:Pos}(hg:Gl X x)(hm:X.mg x=none)(hv:bootBuiltins x=some u)(r:bj v u)(hn:x≠"__name__":=by decide)(hd:(x == ("__debug__" : Str))=false:=by decide):PE X (.Name x pos) (tC v) :=
 fun _ _ _ H _ I h=>fj I hg hm hv ⟨v,H,I,r,h⟩ hn hd
variable {a b:Expr} {ta tb:TE} {pos:Pos}
def tB(t:TE):TT:=fun σ H Q=>t σ H fun x H1=>∃c,x = .bl c∧Q c H1
theorem aS{e:Expr}{t:TE}(h:PE X e t)(he:∀whole,isTrue e X.env whole=(do let v <- whole;standAt e.pos;holding [v] (truthy v)):=by intro _;rfl):PT X e (tB t):=by
 intro pins s σ H Q I hw;refine isTrue_plain (thn (h pins s σ H _ I hw) fun v s1 ⟨x,H1,I1,r1,q1⟩=>?_) (he _);obtain⟨d,rfl,q⟩:=q1;cases r1;exact wpAny_truthy_bool ⟨H1,I1,q⟩
variable {tA tB':TT} {rest:List Expr}
def tE(t u:TT):TT:=fun σ H Q=>t σ H fun c H1=>if c=true then u σ H1 Q else Q false H1
def tOr(t u:TT):TT:=fun σ H Q=>t σ H fun c H1=>if c=true then Q true H1 else u σ H1 Q
def vt(t:TT):TT:=fun σ H Q=>t σ H fun c H1=>Q (!c) H1
theorem bE(ha:PT X a tA):PW X (.BoolOp .And [a] pos) tA:=by
 intro wh pins s σ H Q I h;refine isTrue_and (thn (ha pins s σ H Q I h) fun c s1 e=>?_);cases c with
 | true=>exact isTrue_and_nil e
 | false=>exact e
theorem cq(ha:PT X a tA):PW X (.BoolOp .Or [a] pos) tA:=by
 intro wh pins s σ H Q I h;refine isTrue_or (thn (ha pins s σ H Q I h) fun c s1 e=>?_);cases c with
 | false=>exact isTrue_or_nil e
 | true=>exact e
theorem bC(ha:PT X a tA)(hb:PW X (.BoolOp .And (b::rest) pos) tB'):PW X (.BoolOp .And (a::b::rest) pos) (tE tA tB'):=by
 intro wh pins s σ H Q I h;refine isTrue_and (thn (ha pins s σ H _ I h) fun c s1 ⟨H1,I1,q1⟩=>?_);cases c with
 | true=>exact hb wh pins s1 σ H1 Q I1 q1
 | false=>exact⟨H1,I1,q1⟩
theorem cK(ha:PT X a tA)(hb:PW X (.BoolOp .Or (b::rest) pos) tB'):PW X (.BoolOp .Or (a::b::rest) pos) (tOr tA tB'):=by
 intro wh pins s σ H Q I h;refine isTrue_or (thn (ha pins s σ H _ I h) fun c s1 ⟨H1,I1,q1⟩=>?_);cases c with
 | true=>exact⟨H1,I1,q1⟩
 | false=>exact hb wh pins s1 σ H1 Q I1 q1
theorem ci(ha:PT X a tA):PT X (.UnaryOp .Not a pos) (vt tA):=by
 intro pins s σ H Q I h;exact isTrue_not (ha pins s σ H (fun c H1=>Q (!c) H1) I h)
def uJ(ta tb:TE):TE:=fun σ H Q=>ta σ H fun x H1=>∃c,x = .bl c∧if c=true then tb σ H1 Q else Q (.bl false) H1
def vq(ta tb:TE):TE:=fun σ H Q=>ta σ H fun x H1=>∃c,x = .bl c∧if c=true then Q (.bl true) H1 else tb σ H1 Q
def uG(ta:TE):TE:=fun σ H Q=>ta σ H fun x H1=>∃c,x = .bl c∧Q (.bl (!c)) H1
theorem bG{op}{t:TE}(h:PE X a t):PE X (.BoolOp op [a] pos) t:=fun pins s σ H Q I hw=>BoolOp_one (h pins s σ H Q I hw)
theorem bZ(ha:PE X a ta)(hb:PE X (.BoolOp .And (b::rest) pos) tb):PE X (.BoolOp .And (a::b::rest) pos) (uJ ta tb):=by
 intro pins s σ H Q I h;refine BoolOp_and (thn (ha pins s σ H _ I h) fun v s1 ⟨x,H1,I1,r1,q1⟩=>?_);obtain⟨c,rfl,q1⟩:=q1;cases r1;refine wpAny_truthy_bool ?_;cases c with
 | true=>exact hb pins s1 σ H1 Q I1 q1
 | false=>exact⟨.bl false,H1,I1,rfl,q1⟩
theorem jT(ha:PE X a ta)(hb:PE X (.BoolOp .Or (b::rest) pos) tb):PE X (.BoolOp .Or (a::b::rest) pos) (vq ta tb):=by
 intro pins s σ H Q I h;refine BoolOp_or (thn (ha pins s σ H _ I h) fun v s1 ⟨x,H1,I1,r1,q1⟩=>?_);obtain⟨c,rfl,q1⟩:=q1;cases r1;refine wpAny_truthy_bool ?_;cases c with
 | false=>exact hb pins s1 σ H1 Q I1 q1
 | true=>exact⟨.bl true,H1,I1,rfl,q1⟩
theorem d9(ha:PE X a ta):PE X (.UnaryOp .Not a pos) (uG ta):=by
 intro pins s σ H Q I h;refine UnaryOp_ (thn (ha pins s σ H _ I h) fun v s1 ⟨x,H1,I1,r1,q1⟩=>?_);obtain⟨c,rfl,q1⟩:=q1;cases r1;exact not_of (wpAny_truthy_bool ⟨.bl (!c),H1,I1,rfl,q1⟩)
end
end L2
namespace L2
open PySem PySem.Spec PyProof.Rows
def SqL(K:W.Frag)(H:Hp)(a:Addr)(xs:List V):Prop :=
 Rd H a (.lst xs) ∨
  ∃(o:Obj) (its:Array Value) (n:Nat),K.lookup a=some o∧o.cls = .type "list"∧o.dict=none∧o.data = .seq its n∧its.size≤sizeLine∧aM xs its.toList
def SqT(K:W.Frag)(H:Hp)(a:Addr)(xs:List V):Prop :=
 Rd H a (.tup xs) ∨
  ∃(o:Obj) (its:Array Value) (n:Nat),K.lookup a=some o∧o.cls = .type "tuple"∧o.data = .seq its n∧its.size≤sizeLine∧aM xs its.toList
def vI:Value->Option V
 | .none=>some .non
 | .bool b=>some (.bl b)
 | .int i _=>some (.int i)
 | .str x _=>some (.str x)
 | .bytes b _=>some (.byt b)
 | .float b _=>some (.flt b)
 | .ref a=>some (.ref a)
 | .type n=>some (.ty n)
 | _=>none
theorem bj.abs{x:V}{u:Value}(r:bj x u):vI u=some x:=by
 cases x with
 | non=>cases r;rfl
 | bl _=>cases r;rfl
 | int _=>obtain⟨t,rfl⟩:=r;rfl
 | str _=>obtain⟨t,rfl⟩:=r;rfl
 | byt _=>obtain⟨t,rfl⟩:=r;rfl
 | flt _=>obtain⟨t,rfl⟩:=r;rfl
 | ref _=>cases r;rfl
 | ty _=>cases r;rfl
theorem bj.inj{x y:V}{u:Value}(r:bj x u)(q:bj y u):x=y:=Option.some.inj (r.abs.symm.trans q.abs)
theorem aM.inj:∀{xs ys:List V} {us:List Value},aM xs us->aM ys us->xs=ys
 | _,_,_,.nil,.nil=>rfl
 | _,_,_,.cons r t,.cons r' t'=>by rw[r.inj r',aM.inj t t']
section
variable {X:Cx} {pins:List (Addr×Obj)} {σ:St} {H:Hp} {s:Shared} {a:Addr} {xs ys:List V}
theorem SqL.of{K:W.Frag}(h:H a=some (.lst xs)):SqL K H a xs:=.inl (.inl h)
theorem SqT.of{K:W.Frag}(h:H a=some (.tup xs)):SqT K H a xs:=.inl (.inl h)
theorem vO.list(I:vO X pins σ H s)(h:SqL X.K H a xs):∃its:List Value,aM xs its∧PlainL s.heap a its.toArray∧xs.length≤sizeLine:=by
 rcases h with h|⟨o,its,n,hk,hc,hd,hs,hz,r⟩
 ·obtain⟨z,its,n,r,e⟩:=h.ok I.hok
  exact⟨its,r,⟨_,n,e,rfl,rfl,rfl⟩,z⟩
 ·refine⟨its.toList,r,⟨o,n,I.kIn a o hk,hc,hd,by simpa using hs⟩,?_⟩
  have e:=r.length;simp only[Array.length_toList]at e;omega
theorem vO.tuple(I:vO X pins σ H s)(h:SqT X.K H a xs):∃its:List Value,aM xs its∧IsTup s.heap a its.toArray∧xs.length≤sizeLine:=by
 rcases h with h|⟨o,its,n,hk,hc,hs,hz,r⟩
 ·obtain⟨z,its,r,p⟩:=h.ok I.hok
  exact⟨its,r,p,z⟩
 ·refine⟨its.toList,r,⟨o,I.kIn a o hk,hc,n,by simpa using hs⟩,?_⟩
  have e:=r.length;simp only[Array.length_toList]at e;omega
theorem vO.list_inj(I:vO X pins σ H s)(h:SqL X.K H a xs)(h':SqL X.K H a ys):xs=ys:=by
 obtain⟨its,r,⟨o,n,e,_,_,d⟩,_⟩:=I.list h;obtain⟨its',r',⟨o',n',e',_,_,d'⟩,_⟩:=I.list h';rw[e]at e';cases e';rw[d]at d';injection d' with d1 _
 have:its=its':=by simpa using congrArg Array.toList d1
 subst this;exact r.inj r'
end
abbrev Cx.wish(X:Cx)(E:Value->Shared->Prop):Cx:={ X with xe:=E }
abbrev Cx.nox(X:Cx):Cx:=X.wish fun _ _=>False
theorem Cx.Ok.wish{X:Cx}(ok:X.Ok)(E:Value->Shared->Prop):(X.wish E).Ok :=
 ⟨ok.mod,ok.kind,ok.glob,ok.blt,ok.above,ok.inj,ok.has,ok.cab,ok.hd,ok.frames,ok.stk,ok.exf,ok.bs,ok.bsz,ok.noex,ok.exfs,ok.funs,ok.frf⟩
theorem Cx.Ok.unwish{X:Cx}{E:Value->Shared->Prop}(ok:(X.wish E).Ok):X.Ok :=
 ⟨ok.mod,ok.kind,ok.glob,ok.blt,ok.above,ok.inj,ok.has,ok.cab,ok.hd,ok.frames,ok.stk,ok.exf,ok.bs,ok.bsz,ok.noex,ok.exfs,ok.funs,ok.frf⟩
section
variable {X:Cx} {pins:List (Addr×Obj)} {σ:St} {H:Hp} {s:Shared} {E:Value->Shared->Prop}
theorem vO.wish(I:vO X pins σ H s)(E:Value->Shared->Prop):vO (X.wish E) pins σ H s:=⟨I.ok.wish E,I.os,I.bare,I.base,I.loc,I.cell,I.free,I.freeC,I.pin,I.hok,I.len⟩
theorem vO.unwish(I:vO (X.wish E) pins σ H s):vO X pins σ H s:=⟨I.ok.unwish,I.os,I.bare,I.base,I.loc,I.cell,I.free,I.freeC,I.pin,I.hok,I.len⟩
theorem SP.unwish{D:eP}{f:Flow}{s':Shared}(h:SP (X.wish E) pins D f s'):SP X pins D f s':=by
 cases f with
 | next=>obtain⟨σ',H',I,q⟩:=h;exact⟨σ',H',I.unwish,q⟩
 | brk=>obtain⟨σ',H',I,q⟩:=h;exact⟨σ',H',I.unwish,q⟩
 | cont=>obtain⟨σ',H',I,q⟩:=h;exact⟨σ',H',I.unwish,q⟩
 | ret u=>obtain⟨v,σ',H',I,r,q⟩:=h;exact⟨v,σ',H',I.unwish,r,q⟩
theorem PSs.nox{st:List Stmt}{t:TS}(h:PSs X.nox st t):PSs X st t:=fun pins s σ H D I hw =>
 wpAny_mono (h pins s σ H D (I.wish _) hw) (fun _ _ q=>q.unwish) fun _ _ z=>False.elim z
end
section
variable {X:Cx} {st:Stmt} {rest:List Stmt} {t u:TS} {e:Expr} {te:TE} {pos:Pos}
def sP:TS:=fun D σ H=>D.nx σ H
def oq(t u:TS):TS:=fun D σ H=>t { D with nx:=u D } σ H
theorem av:PSs X [] sP:=fun _ _ σ H _ I h=>wpAny_execs_nil ⟨σ,H,I,h⟩
theorem ae(h1:PS X st t)(h2:PSs X rest u):PSs X (st::rest) (oq t u):=by
 intro pins s σ H D I h;refine wpAny_execs_cons (thn (h1 pins s σ H { D with nx:=u D } I h) fun f s1 q=>?_);cases f with
 | next =>
  obtain⟨σ',H',I',q⟩:=q;exact h2 pins s1 σ' H' D I' q
 | ret v=>exact q
 | brk=>exact q
 | cont=>exact q
theorem ah(h1:PS X st t):PSs X [st] t:=by
 intro pins s σ H D I h;refine wpAny_execs_cons (thn (h1 pins s σ H D I h) fun f s1 q=>?_);cases f with
 | next=>exact wpAny_execs_nil q
 | ret v=>exact q
 | brk=>exact q
 | cont=>exact q
theorem vO.quiet{pins:List (Addr×Obj)}{σ:St}{H:Hp}{s:Shared}(I:vO X pins σ H s):interactive X.env=false:=by simp[interactive,I.ok.kind]
def o9(te:TE):TS:=fun D σ H=>te σ H fun _ H1=>D.nx σ H1
theorem cW(he:PE X e te)(hs:swapsWith e none pos.line X.env=pure false:=by rfl):PS X (.Expr e pos) (o9 te):=by
 intro pins s σ H D I h;exact wpAny_Expr_any (thn (he pins s σ H _ I h) fun v s1 ⟨x,H1,I1,r1,q1⟩=>⟨σ,H1,I1,q1⟩) I.quiet hs
def mD(te:TE):TS:=fun D σ H=>te σ H D.rt
theorem am(he:PE X e te):PS X (.Return (some e) pos) (mD te):=by
 intro pins s σ H D I h;exact wpAny_Return_some (thn (he pins s σ H _ I h) fun v s1 ⟨x,H1,I1,r1,q1⟩=>⟨x,σ,H1,I1,r1,q1⟩)
def uI(c:TT)(t u:TS):TS:=fun D σ H=>c σ H fun b H1=>if b=true then t D σ H1 else u D σ H1
theorem aE{c:Expr}{a b:List Stmt}{tc:TT}(hc:PT X c tc)(ha:PSs X a t)(hb:PSs X b u):PS X (.If c a b pos) (uI tc t u):=by
 intro pins s σ H D I h;refine wpAny_If (thn (hc pins s σ H _ I h) fun d s1 ⟨H1,I1,q1⟩=>?_);cases d with
 | true=>exact ha pins s1 σ H1 D I1 q1
 | false=>exact hb pins s1 σ H1 D I1 q1
end
abbrev TG:=V->St->Hp->(St->Hp->Prop)->Prop
abbrev TGs:=List V->St->Hp->(St->Hp->Prop)->Prop
def PG(X:Cx)(target:Expr)(t:TG):Prop :=
 ∀(pins:List (Addr×Obj)) (s:Shared) (σ:St) (H:Hp) (v:V) (u:Value) (Q:St->Hp->Prop),vO X pins σ H s->bj v u->t v σ H Q ->
  wpAny (model X.prog X.w) X.A (assign target X.env u) (fun _ s'=>∃σ' H',vO X pins σ' H' s'∧Q σ' H') X.xe s
def PGs(X:Cx)(ts:List Expr)(t:TGs):Prop :=
 ∀(pins:List (Addr×Obj)) (s:Shared) (σ:St) (H:Hp) (vs:List V) (us:List Value) (Q:St->Hp->Prop),vO X pins σ H s->aM vs us->t vs σ H Q ->
  wpAny (model X.prog X.w) X.A (assignInOrder ((assignEach ts X.env).map (·.2)) us) (fun _ s'=>∃σ' H',vO X pins σ' H' s'∧Q σ' H') X.xe s
abbrev uA:=V->V->V->Hp->(Hp->Prop)->Prop
def uC(X:Cx)(t:uA):Prop :=
 ∀(pins:List (Addr×Obj)) (s:Shared) (σ:St) (H:Hp) (o i v:V) (ov iv u:Value) (Q:Hp->Prop),vO X pins σ H s->bj o ov->bj i iv->bj v u->t o i v H Q ->
  wpAny (model X.prog X.w) X.A (setItem ov iv u) (fun _ s'=>∃H',vO X pins σ H' s'∧Q H') X.xe s
section
variable {X:Cx} {pos:Pos}
def gF(i:Nat):TG:=fun v σ H Q=>Q (σ.set i (some v)) H
theorem aF{i:Nat}{x:Str}(hN:X.N.Nodup)(hi:X.N[i]? = some x)(hx:Loc X.env.scope x)(hf:X.fn x=true∨X.env.scope.names.lookup x=some .local:=by first|exact .inl rfl|exact .inr rfl|assumption):PG X (.Name x pos) (gF i):=by
 intro pins s σ H v u Q I r h;exact wpAny_assign_Name (gw I hN hi hx r (fun s' I'=>⟨_,H,I',h⟩) hf)
inductive Du (vs:List V) (σ:St) (H:Hp) (Q:St->Hp->Prop):Prop
 | mk (e:vs = []) (q:Q σ H):Du vs σ H Q
inductive C7 (t:TG) (u:TGs) (vs:List V) (σ:St) (H:Hp) (Q:St->Hp->Prop):Prop
 | mk (v:V) (r:List V) (e:vs=v::r) (q:t v σ H fun σ' H'=>u r σ' H' Q):C7 t u vs σ H Q
theorem bK:PGs X [] Du:=by
 intro pins s σ H vs us Q I r h;obtain⟨e,h⟩:=h;subst e;cases r;exact assignInOrder_nil ⟨σ,H,I,h⟩
theorem aC{e:Expr}{es:List Expr}{t:TG}{u:TGs}(h1:PG X e t)(h2:PGs X es u)
  (hs:(assignEach (e::es) X.env).map (·.2)=assign e X.env::(assignEach es X.env).map (·.2):=by rfl):PGs X (e::es) (C7 t u):=by
 intro pins s σ H vs us Q I r h;obtain⟨v,vr,e1,h⟩:=h;subst e1;cases r with
 | cons r rr =>
  rw[hs];refine assignInOrder_cons (thn (h1 pins s σ H _ _ _ I r h) fun _ s1 ⟨σ1,H1,I1,q1⟩=>?_);exact h2 pins s1 σ1 H1 _ _ Q I1 rr q1
inductive Dk (K:W.Frag) (n:Nat) (t:TGs) (v:V) (σ:St) (H:Hp) (Q:St->Hp->Prop):Prop
 | mk (a:Addr) (xs:List V) (e:v = .ref a) (s:SqT K H a xs) (l:xs.length=n) (q:t xs σ H Q):Dk K n t v σ H Q
theorem cu{es:List Expr}{k:Nat}{t:TGs}{n:Nat}(hc:X.calm=true)(h:PGs X es t)
  (hn:(assignEach es X.env).length=n:=by rfl) (hst:(assignEach es X.env).findIdx? (·.1)=none:=by rfl):PG X (.Tuple es k pos) (Dk X.K n t):=by
 intro pins s σ H v u Q I r hw;obtain⟨a,xs,e1,hq,hl,hw⟩:=hw;subst e1;cases r;obtain⟨its,rv,ht,hz⟩:=I.tuple hq;refine assign_Tuple_tuple (I.ok.hd hc) ht (by simp[hn,<- hl,rv.length]) hst fun h' hx=>?_;have I1:vO X pins σ H { s with heap:=h' }:=I.kept (t':=s.toks) fun b o e=>hx b o (Nat.ne_of_lt (Heap.lt_size e)) e
 exact h pins _ σ H xs _ Q I1 (by simpa using rv) hw
def vH(to ti:TE)(t:uA):TG:=fun v σ H Q=>to σ H fun o H1=>ti σ H1 fun i H2=>t o i v H2 fun H3=>Q σ H3
theorem ko{o i:Expr}{to ti:TE}{t:uA}(ho:PE X o to)(hi:PE X i ti)(hs:uC X t)
  (ha:∀v,assign (.Subscript o i pos) X.env v=(do
   let ov <- holding [v] (eval o X.env)
   let iv <- holding [v,ov] (eval i X.env)
   standAt pos
   holding [v,ov,iv] (setItem ov iv v)
   release [v,ov,iv] []):=by intro _;rfl):PG X (.Subscript o i pos) (vH to ti t):=by
 intro pins s σ H v u Q I r h;rw[ha];refine wpAny_bind (wpAny_holding (thn (ho pins s σ H _ I h) fun ov s1 ⟨x,H1,I1,r1,q1⟩=>?_));refine wpAny_bind (wpAny_holding (thn (hi pins s1 σ H1 _ I1 q1) fun iv s2 ⟨y,H2,I2,r2,q2⟩=>?_));refine wpAny_bind (wpAny_standAt (wpAny_bind (wpAny_holding (thn (hs pins s2 σ H2 x y v ov iv u _ I2 r1 r2 r q2) fun _ s3 ⟨H3,I3,q3⟩=>?_))));exact wpAny_release ⟨σ,H3,I3,q3⟩
def ld(te:TE)(g:TG):TS:=fun D σ H=>te σ H fun x H1=>g x σ H1 D.nx
theorem cL{tg e:Expr}{te:TE}{g:TG}(he:PE X e te)(hg:PG X tg g)(hs:swapsWithSole [tg] e pos.line X.env=pure false:=by rfl)(hw:swappedStores [tg] e X.env=pure none:=by rfl)
  (h1:(assignEach [tg] X.env).map (·.2) = [assign tg X.env]:=by rfl):PS X (.Assign [tg] e pos) (ld te g):=by
 intro pins s σ H D I h;refine wpAny_Assign_stores (thn (he pins s σ H _ I h) fun v s1 ⟨x,H1,I1,r1,q1⟩=>?_) hs hw;rw[h1];exact thn (hg pins s1 σ H1 x v _ I1 r1 q1) fun _ s2 q=>q
theorem au{i:Nat}{x:Str}{e:Expr}{te:TE}{pos':Pos}(hN:X.N.Nodup)(hi:X.N[i]? = some x)(hx:Loc X.env.scope x)(he:PE X e te)(hs:swapsWith e (some (.Name x pos')) pos.line X.env=pure false:=by rfl)(hf:X.fn x=true∨X.env.scope.names.lookup x=some .local:=by first|exact .inl rfl|exact .inr rfl|assumption) :
  PS X (.Assign [.Name x pos'] e pos) (ld te (gF i)):=by
 intro pins s σ H D I h;refine wpAny_Assign_Name (thn (he pins s σ H _ I h) fun v s1 ⟨y,H1,I1,r1,q1⟩=>?_) hs;exact gw I1 hN hi hx r1 (fun s2 I2=>⟨_,H1,I2,q1⟩) hf
def vp(i j:Nat)(ta:TA):TS:=fun D σ H=>ta σ H fun vs H1=>∃v w,vs = [v,w]∧D.nx ((σ.set i (some v)).set j (some w)) H1
theorem tQ{i j:Nat}{x y:Str}{a b:Expr}{ta:TA}{px py pt:Pos}{kt k2 pt2}(hc:X.calm=true)(hN:X.N.Nodup)(hi:X.N[i]? = some x)(hj:X.N[j]? = some y)(hij:i≠j)
  (hx:X.env.scope.names.lookup x=some .local) (hy:X.env.scope.names.lookup y=some .local) (ha:PA X [a,b] ta)
  (hw:swappedStores [.Tuple [.Name x px,.Name y py] kt pt] (.Tuple [a,b] k2 pt2) X.env=pure (some [x,y]))
  (hs:swapsWithSole [.Tuple [.Name x px,.Name y py] kt pt] (.Tuple [a,b] k2 pt2) pos.line X.env=pure false:=by rfl) :
  PS X (.Assign [.Tuple [.Name x px,.Name y py] kt pt] (.Tuple [a,b] k2 pt2) pos) (vp i j ta):=by
 intro pins s σ H D I h;rw[exec_Assign_arm];refine wpAny_bind (wpAny_standAt ?_);rw[hs];refine wpAny_bind (wpAny_pure ?_);rw[if_neg (by decide)];refine wpAny_bind (Tuple_ (thn (ha _ pins s σ H _ I h) fun us s1 ⟨vs,H1,I1,r1,q1⟩=>?_));obtain⟨v,w,e1,q1⟩:=q1;subst e1;obtain⟨u1,u2,rfl,rv,rw'⟩:∃u1 u2,us = [u1,u2]∧bj v u1∧bj w u2:=by
  cases r1 with
  | cons p q =>
   cases q with
   | cons p' q' =>
    cases q';exact⟨_,_,rfl,p,p'⟩
 refine wpAny_newObj_type ?_ (by show 2≤sizeLine;decide);have I2:vO X pins σ H1 { s1 with heap:=s1.heap.push { cls:=.type "tuple",data:=.seq [u1,u2].toArray } }:=I1.kept (t':=s1.toks) fun b o e=>Heap.get?_push_of_some _ e;rw[hw];refine wpAny_bind (wpAny_pure ?_);show wpAny (model X.prog X.w) X.A (do rule "assign.swapped-stores";let items <- unpackItems (.ref s1.heap.objs.size) 2 none;assignInOrder [fun v=>bindName X.env y v,fun v=>bindName X.env x v] items.reverse;pure Flow.next) _ _ _
 refine wpAny_bind (wpAny_rule (wpAny_bind (unpackItems_tuple (items:=#[u1,u2]) (I.ok.hd hc) (IsTup.new s1.heap _) fun h' hx'=>?_)));have I3:=I2.kept (h':=h') (t':=s1.toks) fun b o e=>hx' b o (Nat.ne_of_lt (Heap.lt_size e)) e;show wpAny _ _ (assignInOrder [fun v=>bindName X.env y v,fun v=>bindName X.env x v] [u2,u1] >>= fun _=>pure Flow.next) _ _ _;refine wpAny_bind (assignInOrder_cons (wpAny_bindName (gw I3 hN hj (.inl hy) rw' (fun s2 I4=>?_) (.inr hy))));refine assignInOrder_cons (wpAny_bindName (gw I4 hN hi (.inl hx) rv (fun s3 I5=>assignInOrder_nil (wpAny_pure ?_)) (.inr hx)));rw[List.set_comm _ _ (Ne.symm hij)]at I5;exact⟨_,H1,I5,q1⟩
end
section
variable {X:Cx} {pos:Pos}
def o6(c:TT)(tb:TS):TS:=fun D σ H=>∃W:Nat->St->Hp->Prop,(∃m,W m σ H)∧∀m σ H,W m σ H ->
 c σ H fun b H1=>if b=true then ∃N:St->Hp->Prop,(∀σ' H',N σ' H'->∃m',m'<m∧W m' σ' H')∧tb { D with nx:=N,ct:=N,bk:=D.nx } σ H1 else D.nx σ H1
theorem gz{c:Expr}{body:List Stmt}{tc:TT}{tb:TS}(hp:PassesOwn (model X.prog X.w) X.A X.env X.xe)(hc:PT X c tc)(hb:PSs X body tb):PS X (.While c body [] pos) (o6 tc tb):=by
 intro pins s σ H D I h;obtain⟨W,⟨m0,w0⟩,turn⟩:=h;refine wpAny_While (codeAny_whileLoop (fun n s'=>∃σ' H',vO X pins σ' H' s'∧W n σ' H') ?_ m0 ⟨σ,H,I,w0⟩);rintro n s1 ⟨σ1,H1,I1,w1⟩;refine wpAny_passesOwn hp (thn (hc pins s1 σ1 H1 _ I1 (turn n σ1 H1 w1)) fun b s2 ⟨H2,I2,q2⟩=>?_);cases b with
 | true =>
  obtain⟨N,hN,q2⟩:=q2;rw[if_pos rfl];refine wpAny_passesOwn hp (thn (hb pins s2 σ1 H2 _ I2 q2) fun f s3 q3=>?_);cases f with
  | next =>
   obtain⟨σ3,H3,I3,n3⟩:=q3;obtain⟨m',hm,w3⟩:=hN σ3 H3 n3;exact⟨m',hm,σ3,H3,I3,w3⟩
  | cont =>
   obtain⟨σ3,H3,I3,n3⟩:=q3;obtain⟨m',hm,w3⟩:=hN σ3 H3 n3;exact⟨m',hm,σ3,H3,I3,w3⟩
  | brk=>exact q3
  | ret v=>exact q3
 | false =>
  rw[if_neg Bool.false_ne_true];exact wpAny_execs_nil ⟨σ1,H2,I2,q2⟩
end
structure It where
 go:Nat->Hp->Prop
 yld:Nat->Hp->V->Hp->Prop
 stop:Nat->Hp->Prop
def eE(X:Cx)(pins:List (Addr×Obj))(H:Hp)(b:Addr):Prop :=
 H b=none∧b≠X.env.locals∧b∉X.fs∧(b∈X.ex∨X.s₀.heap.objs.size≤b)∧(∀x c,X.env.cells.lookup x=some c->c≠b)∧∀p∈X.pn++pins,p.1≠b
theorem vO.fpOk{X:Cx}{pins:List (Addr×Obj)}{σ:St}{H H':Hp}{s:Shared}{b:Addr}(I:vO X pins σ H s)(hb:s.heap.objs.size≤b)(hn:H' b=none):eE X pins H' b:=by
 refine⟨hn,Nat.ne_of_gt (Nat.lt_of_lt_of_le I.lt hb),I.nofs hb,.inr (Nat.le_trans I.sz hb),fun x c e z=>?_,fun p hp z=>?_⟩
 ·obtain⟨v,q⟩:=I.cell x c e
  exact absurd (Nat.lt_of_lt_of_le q.lt (by rw[z];exact hb)) (Nat.lt_irrefl _)
 ·exact absurd (Nat.lt_of_lt_of_le (Heap.lt_size (I.pin p hp).1) (by rw[z];exact hb)) (Nat.lt_irrefl _)
structure BT(P:Program)(w:World)(K:W.Frag)(tg:Expr)(J:It)(fp:List Addr)(it:Addr)(tn:Nat->Heap->Prop):Prop where
 mem:it∈fp
 obj:∀i h,tn i h->∀b∈fp,∃o,h.get? b=some o∧∀v,o.data≠.cell v
 keep:∀i h h',tn i h->(∀b∈fp,∀o,h.get? b=some o->h'.get? b=some o)->tn i h'
 item:∀(X:Cx),X.prog=P->X.w=w->X.K=K->X.calm=true->∀(i:Nat) (pins:List (Addr×Obj)) (s:Shared) (σ:St) (H:Hp) (E:Value->Shared->Prop),vO X pins σ H s->(∀b∈fp,eE X pins H b)->tn i s.heap->J.go i H ->
  wpAny (model P w) X.A (pyNext (.ref it)) (fun r s1=>∃u,r=some u ∧
   wpAny (model P w) X.A (letOwnedTupleGo tg (.ref it) u) (fun _ s2=>∃x H',vO X pins σ H' s2∧bj x u∧J.yld i H x H'∧tn (i+1) s2.heap∧∀b∈fp,H' b=none) E s1) E s
 done:∀(X:Cx),X.prog=P->X.w=w->X.K=K->X.calm=true->∀(i:Nat) (pins:List (Addr×Obj)) (s:Shared) (σ:St) (H:Hp) (E:Value->Shared->Prop),vO X pins σ H s->(∀b∈fp,eE X pins H b)->tn i s.heap->J.stop i H ->
  wpAny (model P w) X.A (pyNext (.ref it)) (fun r s1=>r=none∧vO X pins σ H s1) E s
 self:∀(A:Around) (i:Nat) (s:Shared) (Q:Value->Shared->Prop) (E:Value->Shared->Prop),tn i s.heap->Q (.ref it) s->wpAny (model P w) A (pyIter (.ref it)) Q E s
abbrev TI:=St->Hp->(It->Hp->Prop)->Prop
def PIE(X:Cx)(pins:List (Addr×Obj))(σ:St)(tg:Expr)(R:It->Hp->Prop)(itv:Value)(s2:Shared):Prop :=
 ∃(it:Addr) (fp:List Addr) (tn:Nat->Heap->Prop) (J:It) (H':Hp),itv = .ref it∧vO X pins σ H' s2∧BT X.prog X.w X.K tg J fp it tn∧tn 0 s2.heap∧(∀b∈fp,eE X pins H' b)∧R J H'
def PI(X:Cx)(tg iter:Expr)(wi:TI):Prop :=
 ∀(pins:List (Addr×Obj)) (s:Shared) (σ:St) (H:Hp) (R:It->Hp->Prop),vO X pins σ H s->wi σ H R ->
  wpAny (model X.prog X.w) X.A (eval iter X.env) (fun v s1=>wpAny (model X.prog X.w) X.A (pyIter v) (PIE X pins σ tg R) X.xe s1) X.xe s
theorem jd{M:Model}{A:Around}{E:Value->Shared->Prop}{s:Shared}{tg:Expr}{it:Addr}{u:Value}{o:Obj}{n:String}{vs:Array Value}{Q:Unit->Shared->Prop}(ho:s.heap.get? it=some o)(hc:o.cls = .type n)(hd:o.data = .fields vs)
    (hn:["enumerate","zip","dict_itemiterator","dict_reverseitemiterator","odict_iterator","itertools.zip_longest","itertools.pairwise"].contains n=false) (hQ:Q () s):wpAny M A (letOwnedTupleGo tg (.ref it) u) Q E s:=by
  unfold letOwnedTupleGo;cases tg <;> first
    | exact wpAny_pure hQ
    | (cases u <;> first
        | exact wpAny_pure hQ
        | (refine wpAny_bind (wpAny_load ho ?_)
           rw[hc,hd];show wpAny M A (if (["enumerate","zip","dict_itemiterator","dict_reverseitemiterator","odict_iterator","itertools.zip_longest","itertools.pairwise"].contains n && vs[0]? == some (rawInt _))=true then _ else _) Q E s
           rw[if_neg (by intro h;rw[hn,Bool.false_and]at h;cases h)];exact wpAny_pure hQ))
def Itl(K:W.Frag)(a:Addr):It :=
 ⟨fun i H=>∃xs x,SqL K H a xs∧xs[i]? = some x,fun i H x H'=>H'=H∧∀xs,SqL K H a xs->xs[i]? = some x,fun i H=>∃xs,SqL K H a xs∧xs.length≤i⟩
def Itr(lo:Int)(n:Nat):It:=⟨fun i _=>i<n,fun i H x H'=>H'=H∧x = .int (lo+i),fun i _=>n≤i⟩
theorem om{P:Program}{w:World}{K:W.Frag}{tg:Expr}(a it:Addr):BT P w K tg (Itl K a) [it] it (fun i h=>h.IsListIter it a i) where
 mem:=by simp
 obj:=fun i h st b hb=>by
  have e:b=it:=by simpa using hb
  subst e;obtain⟨o,e,c,d⟩:=st;exact⟨o,e,fun v z=>by rw[d]at z;cases z⟩
 keep:=fun i h h' st k=>st.at fun o e=>k it (by simp) o e
 item:=by
  intro X hP hw hK hc i pins s σ H E I hf st hg;subst hP hw hK;obtain⟨xs,x,hq,hx⟩:=hg;obtain⟨its,rv,p,hz⟩:=I.list hq;obtain⟨u,hu,ru⟩:=rv.get hx;obtain⟨f0,f1,f2,f3,f4,f5⟩:=hf it (by simp);refine wpAny_pyNext_list_item st p.isList (x:=u) (by simpa using hu) fun h' st' sb=>?_;have I1:vO X pins σ H { s with heap:=h' }:=I.turned (t':=s.toks) (fun b o hb e=>(sb.2 b hb).trans e) f0 f1 f3 f4 f5;obtain⟨o,e,c,d⟩:=id st';exact⟨u,rfl,jd (s:={ s with heap:=h' }) e c d (by decide) ⟨x,H,I1,ru,⟨rfl,fun ys hy=>by rw[I.list_inj hy hq];exact hx⟩,st',fun b hb=>(hf b hb).1⟩⟩
 done:=by
  intro X hP hw hK hc i pins s σ H E I hf st hg;subst hP hw hK;obtain⟨xs,hq,hx⟩:=hg;obtain⟨its,rv,p,hz⟩:=I.list hq;obtain⟨f0,f1,f2,f3,f4,f5⟩:=hf it (by simp);have hl:=rv.length;exact wpAny_pyNext_list_end (I.ok.hd hc) st p.isList (by simp;omega) fun h' eb=>⟨rfl,I.turned (t':=s.toks) (fun b o hb e=>eb b o hb e) f0 f1 f3 f4 f5⟩
 self:=fun _ _ _ _ _ st h=>wpAny_pyIter_listiter st h
theorem mC{P:Program}{w:World}{K:W.Frag}{tg:Expr}(it:Addr)(lo:Int)(n:Nat):BT P w K tg (Itr lo n) [it] it (fun i h=>IsRangeIter h it (lo+(i:Nat)*1) ((n:Int) - (i:Nat)) 1) where
 mem:=by simp
 obj:=fun i h st b hb=>by
  have e:b=it:=by simpa using hb
  subst e;exact⟨_,st,fun v z=>by
   have z':Data.fields _=Data.cell v:=z;cases z'⟩
 keep:=fun i h h' st k=>k it (by simp) _ st
 item:=by
  intro X hP hw hK hc i pins s σ H E I hf st hg;subst hP hw hK;obtain⟨f0,f1,f2,f3,f4,f5⟩:=hf it (by simp);have W:=Walks.range (prog:=X.prog) (w:=X.w) (I.ok.hd hc) it lo 1 n;refine W.item i s _ _ hg st fun v h' tk hv st' kk=>?_;obtain⟨t,rfl⟩:=hv;have I1:vO X pins σ H { s with heap:=h',toks:=tk }:=I.turned (fun b o hb e=>kk b o (by simpa using hb) e) f0 f1 f3 f4 f5;refine⟨_,rfl,jd (s:={ s with heap:=h',toks:=tk }) (n:="range_iterator") st' rfl rfl (by decide) ⟨.int (lo+i),H,I1,⟨t,?_⟩,⟨rfl,rfl⟩,st',fun b hb=>(hf b hb).1⟩⟩;rw[Int.mul_one]
 done:=by
  intro X hP hw hK hc i pins s σ H E I hf st hg;subst hP hw hK;obtain⟨f0,f1,f2,f3,f4,f5⟩:=hf it (by simp);exact wpAny_pyNext_range_end (I.ok.hd hc) st (by have:n≤i:=hg;omega) fun h' eb=>⟨rfl,I.turned (t':=s.toks) (fun b o hb e=>eb b o hb e) f0 f1 f3 f4 f5⟩
 self:=fun _ _ _ _ _ st h=>wpAny_pyIter_rangeiter st h
end L2
namespace L2
open PySem PySem.Spec PyProof.Rows
section
variable {X:Cx} {tg:Expr}
def va(K:W.Frag)(tl:TE):TI:=fun σ H R=>tl σ H fun x H1=>∃a,x = .ref a∧(∃xs,SqL K H1 a xs)∧R (Itl K a) H1
theorem cZ{l:Expr}{tl:TE}(hl:PE X l tl):PI X tg l (va X.K tl):=by
 intro pins s σ H R I h;refine thn (hl pins s σ H _ I h) fun v s1 ⟨x,H1,I1,r1,q1⟩=>?_;obtain⟨a,e,⟨xs,hq⟩,q⟩:=q1;subst e;cases r1;obtain⟨its,rv,p,hz⟩:=I1.list hq;refine wpAny_pyIter_list p.isList ?_;refine⟨s1.heap.objs.size,[s1.heap.objs.size],_,_,H1,rfl,I1.kept (t':=s1.toks) fun b o e=>Heap.get?_push_of_some _ e,om a _,⟨_,Heap.get?_push_size _ rfl,rfl,rfl⟩,fun b hb=>?_,q⟩;have e:b=s1.heap.objs.size:=by simpa using hb
 subst e;exact I1.fpOk (Nat.le_refl _) (I1.hok.fresh (Nat.le_refl _))
theorem pA{pins:List (Addr×Obj)}{σ:St}{H:Hp}{s:Shared}{R:It->Hp->Prop}{E:Value->Shared->Prop}{lo hi:Int}{t u v:Tok}{tk:Nat}(I:vO X pins σ H s)(h1:-(2^62)≤lo)(h2:lo<2^62)(h3:-(2^62)≤hi)(h4:hi<2^62)
  (q:R (Itr lo (hi - lo).toNat) H):wpAny (model X.prog X.w) X.A (pyIter (.ref s.heap.objs.size)) (PIE X pins σ tg R) E { s with heap:=s.heap.push { cls:=.type "range",data:=.fields #[.int lo t,.int hi u,.int 1 v] },toks:=tk }:=by
 refine wpAny_pyIter_range (IsRange.new ..) (small_one h1 h2 h3 h4) ?_;have I1:vO X pins σ H { s with heap:=s.heap.push { cls:=.type "range",data:=.fields #[.int lo t,.int hi u,.int 1 v] },toks:=tk }:=I.kept fun b o e=>Heap.get?_push_of_some _ e;refine⟨(s.heap.push { cls:=.type "range",data:=.fields #[.int lo t,.int hi u,.int 1 v] }).objs.size,[(s.heap.push { cls:=.type "range",data:=.fields #[.int lo t,.int hi u,.int 1 v] }).objs.size],_,_,H,rfl,
  I1.kept (t':=tk) fun b o e=>Heap.get?_push_of_some _ e,mC _ lo (hi - lo).toNat,?_,fun b hb=>?_,q⟩
 ·have e1:lo+((0:Nat):Int)*1=lo:=by simp
  have e2:(((hi - lo).toNat:Nat):Int) - ((0:Nat):Int)=Builtin.Range.rangeSize lo hi 1:=by rw[rangeSize_one];split <;> omega
  show IsRangeIter _ _ (lo+((0:Nat):Int)*1) ((((hi - lo).toNat:Nat):Int) - ((0:Nat):Int)) 1;rw[e1,e2];exact Heap.get?_push_size _ rfl
 ·have e:b=(s.heap.push { cls:=.type "range",data:=.fields #[.int lo t,.int hi u,.int 1 v] }).objs.size:=by simpa using hb
  subst e;exact I1.fpOk (Nat.le_refl _) (I1.hok.fresh (Nat.le_refl _))
def u8(ta:TA):TI:=fun σ H R=>ta σ H fun vs H1=>∃j:Int,vs = [.int j]∧-(2^62)≤j∧j<2^62∧R (Itr 0 j.toNat) H1
theorem fG{a:Expr}{ta:TA}{p pos:Pos}(hg:Gl X "range")(hm:X.mg "range" = none)(ha:PA X [a] ta)(hs:starEach [a] X.env = [(false,eval a X.env)]:=by rfl):PI X tg (.Call (.Name "range" p) [a] [] pos) (u8 ta):=by
 intro pins s σ H R I h;refine Call_ (fj I hg hm boot_range (PyProof.Rows.callWith_type1 (thn (ha pos pins s σ H _ I h) fun us s1 ⟨vs,H1,I1,r1,q1⟩=>?_) hs rfl));obtain⟨j,e,q1,q2,q⟩:=q1;subst e;cases r1 with
 | cons r rr =>
  cases rr;obtain⟨t,rfl⟩:=r;exact call_range_1 (pA I1 (by omega) (by omega) q1 q2 (by simpa using q))
def vv(wi:TI)(g:TG)(tb:TS):TS:=fun D σ H=>wi σ H fun J H1=>∃W:Nat->Nat->St->Hp->Prop,(∃m,W 0 m σ H1)∧∀i m σ H,W i m σ H ->
 (J.stop i H∧D.nx σ H)∨(J.go i H∧∃N:St->Hp->Prop,(∀σ' H',N σ' H'->∃m',m'<m∧W (i+1) m' σ' H')∧∀x H',J.yld i H x H'->g x σ H' fun σ2 H2=>tb { D with nx:=N,ct:=N,bk:=D.nx } σ2 H2)
def i6(fp:List Addr)(h:Heap):List (Addr×Obj):=fp.filterMap fun b=>(h.get? b).map fun o=>(b,o)
theorem cU{fp:List Addr}{h:Heap}{b:Addr}{o:Obj}(hb:b∈fp)(e:h.get? b=some o):(b,o)∈i6 fp h:=List.mem_filterMap.mpr ⟨b,hb,by rw[e];rfl⟩
theorem oC{fp:List Addr}{h:Heap}{p:Addr×Obj}(hp:p∈i6 fp h):p.1∈fp∧h.get? p.1=some p.2:=by
 obtain⟨b,hb,e⟩:=List.mem_filterMap.mp hp;cases q:h.get? b with
 | none=>rw[q]at e;cases e
 | some o =>
  rw[q]at e;have e':(b,o)=p:=Option.some.inj e;subst e';exact⟨hb,q⟩
theorem vO.pinned{pins:List (Addr×Obj)}{σ:St}{H:Hp}{s:Shared}{fp:List Addr}(I:vO X pins σ H s)(hf:∀b∈fp,eE X pins H b)(ho:∀b∈fp,∃o,s.heap.get? b=some o∧∀v,o.data≠.cell v):vO X (pins++i6 fp s.heap) σ H s :=
 I.pins_of fun p hp=>(List.mem_append.mp hp).elim (fun z=>I.pin p (List.mem_append_right _ z)) fun z=>by
  obtain⟨hb,e⟩:=oC z;obtain⟨f0,f1,f2,_⟩:=hf p.1 hb;obtain⟨o,e',d⟩:=ho p.1 hb;rw[e]at e';cases e';exact⟨e,f0,f1,f2,d⟩
theorem vO.unpinned{pins pl:List (Addr×Obj)}{σ:St}{H:Hp}{s:Shared}(I:vO X (pins++pl) σ H s):vO X pins σ H s:=I.pins_of fun p hp=>I.pin p (List.mem_append_right _ (List.mem_append_left _ hp))
theorem dh{iter:Expr}{body:List Stmt}{wi:TI}{g:TG}{tb:TS}{pos:Pos}(hp:PassesOwn (model X.prog X.w) X.A X.env X.xe)(hc:X.calm=true)(hi:PI X tg iter wi)(hg:PG X tg g)(hb:PSs X body tb)
  (hs:∀x,foldedSetIterable iter X.env x=pure x:=by intro _;rfl):PS X (.For tg iter body [] pos) (vv wi g tb):=by
 intro pins s σ H D I h;refine wpAny_For (thn (hi pins s σ H _ I h) fun v s1 h1=>thn h1 fun itv s2 h2=>?_) hs;obtain⟨it,fp,tn,J,H2,e,I2,T,st2,f2,W,⟨m0,w0⟩,turn⟩:=h2;subst e;have stat:∀{H':Hp},(∀b∈fp,H' b=none)->∀b∈fp,eE X pins H' b:=fun hn b hb=>⟨hn b hb,(f2 b hb).2⟩;refine codeAny_forLoop_any (fun n s'=>∃i σ' H',vO X pins σ' H' s'∧tn i s'.heap∧(∀b∈fp,H' b=none)∧W i n σ' H') ?_ m0 ⟨0,σ,H2,I2,st2,fun b hb=>(f2 b hb).1,w0⟩;rintro n s3 ⟨i,σ3,H3,I3,st3,fr3,w3⟩;rcases turn i n σ3 H3 w3 with⟨stop,qn⟩|⟨go,N,hN,step⟩
 ·refine wpAny_passesOwn hp (thn (T.done X rfl rfl rfl hc i pins s3 σ3 H3 X.xe I3 (stat fr3) st3 stop) fun r s4 ⟨hr,I4⟩=>?_)
  subst hr;exact wpAny_execs_nil ⟨σ3,H3,I4,qn⟩
 ·refine wpAny_passesOwn hp (thn (T.item X rfl rfl rfl hc i pins s3 σ3 H3 X.xe I3 (stat fr3) st3 go) fun r s4 ⟨u,hr,h4⟩=>?_)
  subst hr;refine wpAny_passesOwn hp (thn h4 fun _ s5 ⟨x,H5,I5,r5,y5,st5,fr5⟩=>?_);have I5':=I5.pinned (stat fr5) (T.obj _ _ st5);refine wpAny_passesOwn hp (thn (hg _ s5 σ3 H5 x u _ I5' r5 (step x H5 y5)) fun _ s6 ⟨σ6,H6,I6,q6⟩=>?_);refine wpAny_passesOwn hp (thn (hb _ s6 σ6 H6 _ I6 q6) fun f s7 q7=>?_);have again:∀{σ7:St} {H7:Hp},vO X (pins++i6 fp s5.heap) σ7 H7 s7->N σ7 H7->∃m,m<n∧∃i σ' H',vO X pins σ' H' s7∧tn i s7.heap∧(∀b∈fp,H' b=none)∧W i m σ' H':=fun {σ7 H7} I7 n7=>by
   obtain⟨m',hm,w7⟩:=hN σ7 H7 n7;refine⟨m',hm,i+1,σ7,H7,I7.unpinned,T.keep _ _ _ st5 fun b hb o e=>(I7.pin (b,o) (List.mem_append_right _ (List.mem_append_right _ (cU hb e)))).1,fun b hb=>?_,w7⟩;obtain⟨o,e,d⟩:=T.obj _ _ st5 b hb;exact(I7.pin (b,o) (List.mem_append_right _ (List.mem_append_right _ (cU hb e)))).2.1
  cases f with
  | next=>obtain⟨σ7,H7,I7,n7⟩:=q7;exact again I7 n7
  | cont=>obtain⟨σ7,H7,I7,n7⟩:=q7;exact again I7 n7
  | brk=>obtain⟨σ7,H7,I7,q7⟩:=q7;exact⟨σ7,H7,I7.unpinned,q7⟩
  | ret v=>obtain⟨x7,σ7,H7,I7,r7,q7⟩:=q7;exact⟨x7,σ7,H7,I7.unpinned,r7,q7⟩
end
theorem jg{K:W.Frag}{a:Addr}{xs:List V}{g:TG}{tb:TS}{D:eP}{σ:St}{H:Hp}(Pv:Nat->St->Hp->Prop)(h0:Pv 0 σ H)(hl:∀i σ H,i≤xs.length->Pv i σ H->SqL K H a xs)
  (hs:∀i x σ H,xs[i]? = some x->Pv i σ H->g x σ H fun σ2 H2=>tb { D with nx:=Pv (i+1),ct:=Pv (i+1),bk:=D.nx } σ2 H2) (hd:∀σ H,Pv xs.length σ H->D.nx σ H) :
  ∃W:Nat->Nat->St->Hp->Prop,(∃m,W 0 m σ H)∧∀i m σ H,W i m σ H ->
   ((Itl K a).stop i H∧D.nx σ H)∨((Itl K a).go i H∧∃N:St->Hp->Prop,(∀σ' H',N σ' H'->∃m',m'<m∧W (i+1) m' σ' H')∧∀x H',(Itl K a).yld i H x H'->g x σ H' fun σ2 H2=>tb { D with nx:=N,ct:=N,bk:=D.nx } σ2 H2):=by
 refine⟨fun i m σ H=>m=xs.length - i∧i≤xs.length∧Pv i σ H,⟨xs.length,by simp,Nat.zero_le _,h0⟩,?_⟩;rintro i m σ H ⟨rfl,hi,p⟩;have q:=hl i σ H hi p
 by_cases hlt:i<xs.length
 ·refine .inr ⟨⟨xs,xs[i],q,by simp[hlt]⟩,Pv (i+1),fun σ' H' p'=>⟨xs.length - (i+1),by omega,rfl,hlt,p'⟩,fun x H' y=>?_⟩
  obtain⟨e,y⟩:=y;subst e;exact hs i x σ _ (y xs q) p
 ·have e:i=xs.length:=by omega
  subst e;exact .inl ⟨⟨xs,q,Nat.le_refl _⟩,hd σ H p⟩
theorem fJ{lo:Int}{n:Nat}{g:TG}{tb:TS}{D:eP}{σ:St}{H:Hp}(Pv:Nat->St->Hp->Prop)(h0:Pv 0 σ H)
  (hs:∀i σ H,i<n->Pv i σ H->g (.int (lo+i)) σ H fun σ2 H2=>tb { D with nx:=Pv (i+1),ct:=Pv (i+1),bk:=D.nx } σ2 H2) (hd:∀σ H,Pv n σ H->D.nx σ H) :
  ∃W:Nat->Nat->St->Hp->Prop,(∃m,W 0 m σ H)∧∀i m σ H,W i m σ H ->
   ((Itr lo n).stop i H∧D.nx σ H)∨((Itr lo n).go i H∧∃N:St->Hp->Prop,(∀σ' H',N σ' H'->∃m',m'<m∧W (i+1) m' σ' H')∧∀x H',(Itr lo n).yld i H x H'->g x σ H' fun σ2 H2=>tb { D with nx:=N,ct:=N,bk:=D.nx } σ2 H2):=by
 refine⟨fun i m σ H=>m=n - i∧i≤n∧Pv i σ H,⟨n,by simp,Nat.zero_le _,h0⟩,?_⟩;rintro i m σ H ⟨rfl,hi,p⟩
 by_cases hlt:i<n
 ·refine .inr ⟨hlt,Pv (i+1),fun σ' H' p'=>⟨n - (i+1),by omega,rfl,hlt,p'⟩,fun x H' y=>?_⟩
  obtain⟨e,y⟩:=y;subst e y;exact hs i σ _ hlt p
 ·have e:i=n:=by omega
  subst e;exact .inl ⟨Nat.le_refl _,hd σ H p⟩
theorem gj{c:TT}{tb:TS}{D:eP}{σ:St}{H:Hp}(Pv:St->Hp->Prop)(μ:St->Hp->Nat)(h0:Pv σ H)
  (hs:∀σ H,Pv σ H->c σ H fun b H1=>if b=true then tb { D with nx:=fun σ' H'=>Pv σ' H'∧μ σ' H'<μ σ H,ct:=fun σ' H'=>Pv σ' H'∧μ σ' H'<μ σ H,bk:=D.nx } σ H1 else D.nx σ H1)
  (mono:∀σ H Q Q',(∀b H1,Q b H1->Q' b H1)->c σ H Q->c σ H Q'):o6 c tb D σ H:=by
 refine⟨fun m σ H=>m=μ σ H∧Pv σ H,⟨_,rfl,h0⟩,?_⟩;rintro m σ H ⟨rfl,p⟩;refine mono σ H _ _ (fun b H1 q=>?_) (hs σ H p);cases b with
 | true=>exact⟨_,fun σ' H' ⟨p',l⟩=>⟨_,l,rfl,p'⟩,q⟩
 | false=>exact q
end L2
namespace L2
open PySem PySem.Spec PyProof.Rows
abbrev R2:=V->V->Hp->VK->Prop
def OpR(X:Cx)(f:Value->Value->Sem Value)(r:R2):Prop :=
 ∀(pins:List (Addr×Obj)) (s:Shared) (σ:St) (H:Hp) (x y:V) (v u:Value) (Q:VK),vO X pins σ H s->bj x v->bj y u->r x y H Q ->
  wpAny (model X.prog X.w) X.A (f v u) (EP X pins σ Q) X.xe s
def UnR(X:Cx)(f:Value->Sem Value)(r:V->Hp->VK->Prop):Prop :=
 ∀(pins:List (Addr×Obj)) (s:Shared) (σ:St) (H:Hp) (x:V) (v:Value) (Q:VK),vO X pins σ H s->bj x v->r x H Q ->
  wpAny (model X.prog X.w) X.A (f v) (EP X pins σ Q) X.xe s
def gP(X:Cx)(f:Value)(r:List V->Hp->VK->Prop):Prop :=
 ∀(pins:List (Addr×Obj)) (s:Shared) (σ:St) (H:Hp) (xs:List V) (us:List Value) (Q:VK),vO X pins σ H s->aM xs us->r xs H Q ->
  wpAny (model X.prog X.w) X.A (call f us) (EP X pins σ Q) X.xe s
def tOp(r:R2)(ta tb:TE):TE:=fun σ H Q=>ta σ H fun x H1=>tb σ H1 fun y H2=>r x y H2 Q
def tUn(r:V->Hp->VK->Prop)(ta:TE):TE:=fun σ H Q=>ta σ H fun x H1=>r x H1 Q
inductive rI (C:Int->Int->Prop) (g:Int->Int->V) (x y:V) (H:Hp) (Q:VK):Prop
 | mk (i j:Int) (e:x = .int i) (f:y = .int j) (c:C i j) (q:Q (g i j) H):rI C g x y H Q
inductive CO (g:Int->Int->V) (x y:V) (H:Hp) (Q:VK):Prop
 | mk (i j:Int) (e:x = .int i) (f:y = .int j) (q:Q (g i j) H):CO g x y H Q
def rU(g:Int->V):V->Hp->VK->Prop:=fun x H Q=>∃i,x = .int i∧Q (g i) H
section
variable {X:Cx} {a b c:Expr} {ta tb tc:TE} {pos:Pos}
theorem uw(ha:PE X a ta)(hb:PE X b tb){pins:List (Addr×Obj)}{s:Shared}{σ:St}{H:Hp}{R:V->V->Hp->Prop}(I:vO X pins σ H s)
  (h:ta σ H fun x H1=>tb σ H1 fun y H2=>R x y H2) {Q:Value->Shared->Prop} {f:Value->Value->Sem Value}
  (hf:∀v u s2 x y H2,vO X pins σ H2 s2->bj x v->bj y u->R x y H2->wpAny (model X.prog X.w) X.A (f v u) Q X.xe s2) :
  wpAny (model X.prog X.w) X.A (eval a X.env) (fun v s₁=>wpAny (model X.prog X.w) X.A (eval b X.env) (fun u s₂=>wpAny (model X.prog X.w) X.A (f v u) Q X.xe s₂) X.xe s₁) X.xe s:=by
 refine thn (ha pins s σ H _ I h) fun v s1 ⟨x,H1,I1,r1,q1⟩=>?_;refine thn (hb pins s1 σ H1 _ I1 q1) fun u s2 ⟨y,H2,I2,r2,q2⟩=>?_;exact hf v u s2 x y H2 I2 r1 r2 q2
theorem ap{op:Operator}{r:R2}(ho:OpR X (binaryOp op) r)(ha:PE X a ta)(hb:PE X b tb):PE X (.BinOp a op b pos) (tOp r ta tb):=by
 intro pins s σ H Q I h;exact wpAny_BinOp (uw ha hb I h fun v u s2 x y H2 I2 rx ry q=>ho pins s2 σ H2 x y v u Q I2 rx ry q)
theorem i7{op:UnaryOp}{r:V->Hp->VK->Prop}(ho:UnR X (unaryOp op) r)(ha:PE X a ta):PE X (.UnaryOp op a pos) (tUn r ta):=by
 intro pins s σ H Q I h;exact UnaryOp_ (thn (ha pins s σ H _ I h) fun v s1 ⟨x,H1,I1,r1,q1⟩=>ho pins s1 σ H1 x v Q I1 r1 q1)
theorem opI{f:Value->Value->Sem Value}{C:Int->Int->Prop}{g:Int->Int->Int}
  (rule:∀(i j:Int) (t u:Tok) (s:Shared) (Q:Value->Shared->Prop) (E:Value->Shared->Prop),C i j->Q (.int (g i j) s.toks) { s with toks:=s.toks+1 }->wpAny (model X.prog X.w) X.A (f (.int i t) (.int j u)) Q E s) :
  OpR X f (rI C fun i j=>.int (g i j)):=by
 intro pins s σ H x y v u Q I rx ry h;obtain⟨i,j,rfl,rfl,hc,q⟩:=h;obtain⟨t,rfl⟩:=rx;obtain⟨t',rfl⟩:=ry;exact rule i j t t' s _ _ hc ⟨.int (g i j),H,I.tok _,⟨_,rfl⟩,q⟩
theorem uQ{f:Value->Value->Sem Value}{g:Int->Int->Int}
  (rule:∀(i j:Int) (t u:Tok) (s:Shared) (Q:Value->Shared->Prop) (E:Value->Shared->Prop),Q (.int (g i j) s.toks) { s with toks:=s.toks+1 }->wpAny (model X.prog X.w) X.A (f (.int i t) (.int j u)) Q E s) :
  OpR X f (CO fun i j=>.int (g i j)):=by
 intro pins s σ H x y v u Q I rx ry h;obtain⟨i,j,rfl,rfl,q⟩:=h;obtain⟨t,rfl⟩:=rx;obtain⟨t',rfl⟩:=ry;exact rule i j t t' s _ _ ⟨.int (g i j),H,I.tok _,⟨_,rfl⟩,q⟩
theorem rD{f:Value->Value->Sem Value}{g:Int->Int->Bool}
  (rule:∀(i j:Int) (t u:Tok) (s:Shared) (Q:Value->Shared->Prop) (E:Value->Shared->Prop),Q (.bool (g i j)) s->wpAny (model X.prog X.w) X.A (f (.int i t) (.int j u)) Q E s) :
  OpR X f (CO fun i j=>.bl (g i j)):=by
 intro pins s σ H x y v u Q I rx ry h;obtain⟨i,j,rfl,rfl,q⟩:=h;obtain⟨t,rfl⟩:=rx;obtain⟨t',rfl⟩:=ry;exact rule i j t t' s _ _ ⟨.bl (g i j),H,I,rfl,q⟩
def vK(i j:Int):Prop:=0≤j∧j≤1000000∧i.natAbs<2^64
def sM(i j:Int):Prop:=(-(2^64)<i∧i<2^64)∨(-(2^64)<j∧j<2^64)
theorem sM.ok{i j:Int}(h:sM i j):IntMulOk i j:=by
 rcases h with⟨h1,h2⟩|⟨h1,h2⟩
 ·exact .of_left (intBits_le_64 h1 h2)
 ·exact .of_right (intBits_le_64 h1 h2)
theorem aY:OpR X (binaryOp .Add) (CO fun i j=>.int (i+j)):=uQ fun _ _ _ _ _ _ _ q=>add_int q
theorem aV:OpR X (binaryOp .Sub) (CO fun i j=>.int (i - j)):=uQ fun _ _ _ _ _ _ _ q=>sub_int q
theorem cT:OpR X (binaryOp .Mod) (rI (fun _ j=>0<j) fun i j=>.int (i % j)):=opI fun i j _ _ _ _ _ hc q=>by
 have h1:(0:Int)<j:=hc;exact mod_int' (by omega) (by rw[Int.fmod_eq_emod_of_nonneg i (by omega)];exact q)
theorem fY:OpR X (binaryOp .Pow) (rI vK fun i j=>.int (i^j.toNat)):=opI fun _ _ _ _ _ _ _ hc q=>pow_int_small hc.1 hc.2.1 hc.2.2 q
theorem unI{f:Value->Sem Value}{g:Int->Int}
  (rule:∀(i:Int) (t:Tok) (s:Shared) (Q:Value->Shared->Prop) (E:Value->Shared->Prop),Q (.int (g i) s.toks) { s with toks:=s.toks+1 }->wpAny (model X.prog X.w) X.A (f (.int i t)) Q E s) :
  UnR X f (rU fun i=>.int (g i)):=by
 intro pins s σ H x v Q I rx h;obtain⟨i,rfl,q⟩:=h;obtain⟨t,rfl⟩:=rx;exact rule i t s _ _ ⟨.int (g i),H,I.tok _,⟨_,rfl⟩,q⟩
theorem fU:UnR X (unaryOp .USub) (rU fun i=>.int (-i)):=unI fun _ _ _ _ _ q=>neg_int q
end
def uL:V->V->Bool
 | .non,.non=>true | .non,.int _=>true | .int _,.non=>true | .non,.bl _=>true | .bl _,.non=>true | .non,.str _=>true | .str _,.non=>true
 | .int _,.int _=>true | .bl _,.bl _=>true | .str _,.str _=>true | .byt _,.byt _=>true
 | .int _,.str _=>true | .str _,.int _=>true | .bl _,.str _=>true | .str _,.bl _=>true
 | _,_=>false
inductive Dy (x y:V) (H:Hp) (Q:VK):Prop
 | mk (s:uL x y=true) (q:Q (.bl (decide (x=y))) H):Dy x y H Q
inductive Dw (x y:V) (H:Hp) (Q:VK):Prop
 | mk (s:uL x y=true) (q:Q (.bl (!decide (x=y))) H):Dw x y H Q
theorem nY{i j:Int}:decide (V.int i=V.int j)=(i == j):=by
 rw[Bool.eq_iff_iff];simp
theorem qE{i j:Bool}:decide (V.bl i=V.bl j)=(i == j):=by
 rw[Bool.eq_iff_iff];simp
theorem nX{i j:Str}:decide (V.str i=V.str j)=(i == j):=by
 rw[Bool.eq_iff_iff];simp
theorem nZ{i j:Array UInt8}:decide (V.byt i=V.byt j)=(i.toList == j.toList):=by
 rw[Bool.eq_iff_iff];cases i;cases j;simp
section
variable {X:Cx} {a b c:Expr} {ta tb tc:TE} {pos:Pos}
theorem aZ{pins:List (Addr×Obj)}{σ:St}{H:Hp}{s:Shared}{Q:VK}{k k':Bool}(I:vO X pins σ H s)(q:Q (.bl k) H)(e:k=k'):EP X pins σ Q (.bool k') s:=by
 subst e;exact⟨.bl k,H,I,rfl,q⟩
theorem aQ:OpR X (compareOp .Eq) Dy:=by
 intro pins s σ H x y v u Q I rx ry h;obtain⟨hs,q⟩:=h;cases x with
 | non =>
  cases rx;cases y with
  | non=>cases ry;exact PySem.EqNone.eq_none_none (aZ I q (by simp))
  | bl j=>cases ry;exact PySem.EqNone.eq_none_bool (aZ I q (by simp))
  | int j=>obtain⟨t',rfl⟩:=ry;exact PySem.EqNone.eq_none_int (aZ I q (by simp))
  | str j=>obtain⟨t',rfl⟩:=ry;exact PySem.EqNone.eq_none_str (aZ I q (by simp))
  | _=>exact absurd (show false=true from hs) Bool.false_ne_true
 | bl i =>
  cases rx;cases y with
  | non=>cases ry;exact PySem.EqNone.eq_bool_none (aZ I q (by simp))
  | bl j=>cases ry;exact eq_bool (aZ I q qE)
  | str j=>obtain⟨t',rfl⟩:=ry;exact PySem.EqMixed.eq_bool_str (aZ I q (by simp))
  | _=>exact absurd (show false=true from hs) Bool.false_ne_true
 | int i =>
  obtain⟨t,rfl⟩:=rx;cases y with
  | non=>cases ry;exact PySem.EqNone.eq_int_none (aZ I q (by simp))
  | int j=>obtain⟨t',rfl⟩:=ry;exact eq_int (aZ I q nY)
  | str j=>obtain⟨t',rfl⟩:=ry;exact PySem.EqMixed.eq_int_str (aZ I q (by simp))
  | _=>exact absurd (show false=true from hs) Bool.false_ne_true
 | str i =>
  obtain⟨t,rfl⟩:=rx;cases y with
  | non=>cases ry;exact PySem.EqNone.eq_str_none (aZ I q (by simp))
  | bl j=>cases ry;exact PySem.EqMixed.eq_str_bool (aZ I q (by simp))
  | int j=>obtain⟨t',rfl⟩:=ry;exact PySem.EqMixed.eq_str_int (aZ I q (by simp))
  | str j=>obtain⟨t',rfl⟩:=ry;exact eq_str (aZ I q nX)
  | _=>exact absurd (show false=true from hs) Bool.false_ne_true
 | byt i =>
  obtain⟨t,rfl⟩:=rx;cases y with
  | byt j=>obtain⟨t',rfl⟩:=ry;exact W.eq_bytes (aZ I q nZ)
  | _=>exact absurd (show false=true from hs) Bool.false_ne_true
 | _=>cases y <;> exact absurd (show false=true from hs) Bool.false_ne_true
theorem dF:OpR X (compareOp .NotEq) Dw:=by
 intro pins s σ H x y v u Q I rx ry h;obtain⟨hs,q⟩:=h;cases x with
 | non =>
  cases rx;cases y with
  | non=>cases ry;exact PySem.EqNone.ne_none_none (aZ I q (by simp))
  | bl j=>cases ry;exact PySem.EqNone.ne_none_bool (aZ I q (by simp))
  | int j=>obtain⟨t',rfl⟩:=ry;exact PySem.EqNone.ne_none_int (aZ I q (by simp))
  | str j=>obtain⟨t',rfl⟩:=ry;exact PySem.EqNone.ne_none_str (aZ I q (by simp))
  | _=>exact absurd (show false=true from hs) Bool.false_ne_true
 | bl i =>
  cases rx;cases y with
  | non=>cases ry;exact PySem.EqNone.ne_bool_none (aZ I q (by simp))
  | bl j=>cases ry;exact ne_bool (aZ I q (congrArg not qE))
  | str j=>obtain⟨t',rfl⟩:=ry;exact PySem.EqMixed.ne_bool_str (aZ I q (by simp))
  | _=>exact absurd (show false=true from hs) Bool.false_ne_true
 | int i =>
  obtain⟨t,rfl⟩:=rx;cases y with
  | non=>cases ry;exact PySem.EqNone.ne_int_none (aZ I q (by simp))
  | int j=>obtain⟨t',rfl⟩:=ry;exact ne_int (aZ I q (congrArg not nY))
  | str j=>obtain⟨t',rfl⟩:=ry;exact PySem.EqMixed.ne_int_str (aZ I q (by simp))
  | _=>exact absurd (show false=true from hs) Bool.false_ne_true
 | str i =>
  obtain⟨t,rfl⟩:=rx;cases y with
  | non=>cases ry;exact PySem.EqNone.ne_str_none (aZ I q (by simp))
  | bl j=>cases ry;exact PySem.EqMixed.ne_str_bool (aZ I q (by simp))
  | int j=>obtain⟨t',rfl⟩:=ry;exact PySem.EqMixed.ne_str_int (aZ I q (by simp))
  | str j=>obtain⟨t',rfl⟩:=ry;exact ne_str (aZ I q (congrArg not nX))
  | _=>exact absurd (show false=true from hs) Bool.false_ne_true
 | byt i =>
  obtain⟨t,rfl⟩:=rx;cases y with
  | byt j=>obtain⟨t',rfl⟩:=ry;exact W.ne_bytes (aZ I q (congrArg not nZ))
  | _=>exact absurd (show false=true from hs) Bool.false_ne_true
 | _=>cases y <;> exact absurd (show false=true from hs) Bool.false_ne_true
theorem ll:OpR X (compareOp .Lt) (CO fun i j=>.bl (decide (i<j))):=rD fun _ _ _ _ _ _ _ q=>lt_int q
theorem jV:OpR X (compareOp .LtE) (CO fun i j=>.bl (decide (i≤j))):=rD fun _ _ _ _ _ _ _ q=>le_int q
theorem eI:OpR X (compareOp .Gt) (CO fun i j=>.bl (decide (j<i))):=rD fun _ _ _ _ _ _ _ q=>gt_int q
theorem sW:OpR X (compareOp .GtE) (CO fun i j=>.bl (decide (j≤i))):=rD fun _ _ _ _ _ _ _ q=>ge_int q
theorem ar(b:Expr){op:CmpOp}(h:op≠.In:=by decide)(h2:op≠.NotIn:=by decide):behindInMarks op b=false:=by
 have e1:(op == CmpOp.In)=false:=by cases op <;> first|rfl|exact absurd rfl h
 have e2:(op == CmpOp.NotIn)=false:=by cases op <;> first|rfl|exact absurd rfl h2
 cases b <;> simp[behindInMarks,e1,e2]
theorem a7{op:CmpOp}{r:R2}(ho:OpR X (compareOp op) r)(ha:PE X a ta)(hb:PE X b tb)(hm:behindInMarks op b=false):PE X (.Compare a [op] [b] pos) (tOp r ta tb):=by
 intro pins s σ H Q I h;exact wpAny_Compare1 (uw ha hb I h fun v u s2 x y H2 I2 rx ry q=>ho pins s2 σ H2 x y v u Q I2 rx ry q) hm
inductive Dz (x:V) (H:Hp) (Q:Bool->Hp->Prop):Prop
 | mk (k:Bool) (e:x = .bl k) (q:Q k H):Dz x H Q
def o7(t:TE):TT:=fun σ H Q=>t σ H fun x H'=>Dz x H' Q
theorem aq{op:CmpOp}{r:R2}(ho:OpR X (compareOp op) r)(ha:PE X a ta)(hb:PE X b tb)(hm:behindInMarks op b=false):PT X (.Compare a [op] [b] pos) (o7 (tOp r ta tb)):=by
 intro pins s σ H Q I h;refine wpAny_isTrue_Compare1 (thn (ha pins s σ H _ I h) fun v s1 ⟨x,H1,I1,r1,q1⟩=>thn (hb pins s1 σ H1 _ I1 q1) fun u s2 ⟨y,H2,I2,r2,q2⟩ =>
  thn (ho pins s2 σ H2 x y v u _ I2 r1 r2 q2) fun c s3 ⟨z,H3,I3,r3,k,e,q3⟩=>?_) hm
 subst e;cases r3;exact wpAny_truthy_bool ⟨H3,I3,q3⟩
def tD(r r':R2)(ta tb tc:TE):TE:=fun σ H Q=>ta σ H fun x H1=>tb σ H1 fun y H2=>r x y H2 fun z H3=>∃k,z = .bl k ∧
 (if k=true then tc σ H3 fun w' H4=>r' y w' H4 Q else Q (.bl false) H3)
theorem pE{op op':CmpOp}{r r':R2}(ho:OpR X (compareOp op) r)(ho':OpR X (compareOp op') r')(ha:PE X a ta)(hb:PE X b tb)(hc:PE X c tc)
  (hm:lastMarks [op,op'] [b,c]=false:=by with_unfolding_all rfl):PE X (.Compare a [op,op'] [b,c] pos) (tD r r' ta tb tc):=by
 intro pins s σ H Q I h;refine Compare_chain (thn (ha pins s σ H _ I h) fun v s1 ⟨x,H1,I1,r1,q1⟩=>chain_link (thn (hb pins s1 σ H1 _ I1 q1) fun u s2 ⟨y,H2,I2,r2,q2⟩ =>
  thn (ho pins s2 σ H2 x y v u _ I2 r1 r2 q2) fun d s3 ⟨z,H3,I3,r3,k,e,q3⟩=>?_)) hm
 subst e;cases r3;refine wpAny_truthy_bool ?_;cases k with
 | false=>exact ite_ff ⟨.bl false,H3,I3,rfl,q3⟩
 | true=>exact ite_tt (chain_last (thn (hc pins s3 σ H3 _ I3 q3) fun w' s4 ⟨z',H4,I4,r4,q4⟩=>ho' pins s4 σ H4 y z' u w' Q I4 r2 r4 q4))
theorem kv:(sizeLine:Nat)<2^63:=by rw[sizeLine_eq];decide
theorem dj{x:V}{us:List Value}(r:aM [x] us):∃u,us = [u]∧bj x u:=by
 cases r with
 | cons r1 r2=>cases r2;exact⟨_,rfl,r1⟩
theorem o3{x y:V}{us:List Value}(r:aM [x,y] us):∃u w',us = [u,w']∧bj x u∧bj y w':=by
 cases r with
 | cons r1 r2 =>
  cases r2 with
  | cons r3 r4=>cases r4;exact⟨_,_,rfl,r1,r3⟩
theorem fB:gP X (.builtin "abs") (fun xs H Q=>∃i,xs = [.int i]∧Q (.int (if i<0 then -i else i)) H):=by
 intro pins s σ H xs us Q I r h;obtain⟨i,rfl,q⟩:=h;obtain⟨u,rfl,t,rfl⟩:=dj r;exact call_abs_int fun u tk=>⟨.int (if i<0 then -i else i),H,I.tok _,⟨_,rfl⟩,q⟩
theorem ik(hc:X.calm=true):gP X (.builtin "max") (fun xs H Q=>∃i j,xs = [.int i,.int j]∧Q (.int (if j>i then j else i)) H):=by
 intro pins s σ H xs us Q I r h;obtain⟨i,j,rfl,q⟩:=h;obtain⟨u,w',rfl,⟨t,rfl⟩,⟨t',rfl⟩⟩:=o3 r;refine max_two_ints (I.ok.hd hc) fun h' tk k=>⟨_,H,I.kept k,?_,q⟩
 by_cases hj:j>i
 ·rw[if_pos hj,if_pos hj];exact⟨_,rfl⟩
 ·rw[if_neg hj,if_neg hj];exact⟨_,rfl⟩
theorem dZ(hc:X.calm=true):gP X (.builtin "min") (fun xs H Q=>∃i j,xs = [.int i,.int j]∧Q (.int (if j<i then j else i)) H):=by
 intro pins s σ H xs us Q I r h;obtain⟨i,j,rfl,q⟩:=h;obtain⟨u,w',rfl,⟨t,rfl⟩,⟨t',rfl⟩⟩:=o3 r;refine min_two_ints (I.ok.hd hc) fun h' tk k=>⟨_,H,I.kept k,?_,q⟩
 by_cases hj:j<i
 ·rw[if_pos hj,if_pos hj];exact⟨_,rfl⟩
 ·rw[if_neg hj,if_neg hj];exact⟨_,rfl⟩
theorem oU:gP X (.type "int") (fun xs H Q=>(∃i,xs = [.int i]∧Q (.int i) H)∨∃k,xs = [.bl k]∧Q (.int (if k then 1 else 0)) H):=by
 intro pins s σ H xs us Q I r h;rcases h with⟨i,rfl,q⟩|⟨k,rfl,q⟩
 ·obtain⟨u,rfl,t,rfl⟩:=dj r
  exact call_int_int ⟨.int i,H,I,⟨_,rfl⟩,q⟩
 ·obtain⟨u,rfl,r1⟩:=dj r
  cases r1;exact call_int_bool ⟨.int (if k then 1 else 0),H,I.tok _,⟨_,rfl⟩,q⟩
end
end L2
namespace L2
open PySem PySem.Spec PyProof.Rows
structure Dq(h:Heap)(x dx C:Addr)(mA:Str->Option Value):Prop where
 obj:h.get? x=some (W.instObj C dx)
 ns:h.Ns1 dx mA
 ne:dx≠x
theorem oG{h:Heap}{dx:Addr}{mA:Str->Option Value}(n:h.Ns1 dx mA):∃od,h.get? dx=some od∧∀name,W.lookIn name od=some (mA name):=by
 obtain⟨o,es,ep,ho,hd,hk,_,hm⟩:=n;refine⟨o,ho,fun name=>?_⟩;have e:=hm name;unfold nsFind findBy at e;rw[<- Array.find?_toList]at e;unfold W.lookIn;rw[hd];dsimp only
 split
 ·rename_i y q
  rw[q]at e;exact congrArg some e
 ·rename_i q
  rw[q]at e;have a:es.toList.any (·.refKey)=false:=by
   rw[List.any_eq_false];intro y hy;obtain⟨z,t,hkey⟩:=hk y (Array.mem_toList_iff.mp hy);simp[DictEntry.refKey,hkey]
  have a':¬es.toList.any (·.refKey)=true:=by rw[a];exact Bool.false_ne_true
  rw[if_neg a'];exact congrArg some e
theorem Dq.look{h:Heap}{x dx C:Addr}{mA:Str->Option Value}(I:Dq h x dx C mA):∃od,W.InstAt h x (W.instObj C dx) C (some od)∧∀name,W.lookIn name od=some (mA name) :=
 let ⟨od,ho,hl⟩:=oG I.ns
 ⟨od,⟨I.obj,rfl,rfl,ho⟩,hl⟩
section
variable {prog:Program} {w:World} {A:Around} {E:Value->Shared->Prop} {s:Shared} {K:W.Frag} {x dx C f:Addr} {mA:Str->Option Value} {name:Str} {v:Value}
end
section
variable {P:Program} {w:World} {H H':Hp} {h h':Heap} {a C dx:Addr} {fs fs':List (Str×V)}
theorem rT(hok:HOk P w H h)(e:H a=some (.ins C dx fs)):∃mA,Dq h a dx C mA∧(∀f,uB (fs.lookup f) (mA f))∧PySem.Within mA (fs.map (·.1))∧fs.length≤1000∧H dx=some (.own a):=by
 obtain⟨d,z,ne,ob,mA,n,r,q⟩:=(show cC P w H h a (.ins C dx fs) from hok a _ e);exact⟨mA,⟨ob,n,ne⟩,r,q,z,d⟩
end
structure Dx(K:W.Frag)(C:Addr):Prop where
 pg:W.plainGet K C Str.empty=true
 hd:W.hasDictIn K C=true
 po:W.plainOver K C=true
 sa:W.findIn K (.ref C) "__setattr__" = some (some (.builtin "object.__setattr__"))
theorem Dx.get{K:W.Frag}{C:Addr}(c:Dx K C)(f:Str):W.plainGet K C f=true:=c.pg
section
variable {X:Cx} {pins:List (Addr×Obj)} {σ:St} {H:Hp} {s:Shared} {a C dx:Addr} {fs:List (Str×V)} {f:Str} {v:V} {A:Around} {E:Value->Shared->Prop}
end
section
variable {X:Cx} {o e value:Expr} {f:Str} {pos pos' tpos:Pos} {ta tv:TE}
end
section
variable {X:Cx} {pins:List (Addr×Obj)} {σ:St} {H:Hp} {s:Shared} {A:Around} {E:Value->Shared->Prop} {Q:Value->Shared->Prop} {c:Value} {b:Bool}
inductive Ao (K:W.Frag) (H:Hp):V->Value->Prop where
 | non:Ao K H .non (.type "NoneType")
 | bl (x:Bool):Ao K H (.bl x) (.type "bool")
 | int (i:Int):Ao K H (.int i) (.type "int")
 | str (x:Str):Ao K H (.str x) (.type "str")
 | flt (x:UInt64):Ao K H (.flt x) (.type "float")
 | lst {a:Addr} {xs:List V} (e:H a=some (.lst xs)):Ao K H (.ref a) (.type "list")
 | frz {a:Addr} {o:Obj} {xs:List V} (e:H a=some (.frz o (.lst xs))):Ao K H (.ref a) (.type "list")
 | tup {a:Addr} {xs:List V} (e:H a=some (.tup xs)):Ao K H (.ref a) (.type "tuple")
 | dK {a:Addr} {kvs:List (Key×V)} (e:H a=some (.dK kvs)):Ao K H (.ref a) (.type "dict")
 | dT {a:Addr} {kvs:List (List Key×V)} (e:H a=some (.dT kvs)):Ao K H (.ref a) (.type "dict")
 | ins {a C dx:Addr} {fs:List (Str×V)} (e:H a=some (.ins C dx fs)) (cl:Dx K C) (ha:W.findIn K (.ref C) "__class__" = some (some (.builtin "object.__class__")))
   (hn:W.specialIn K (.builtin "object.__class__") "__get__" = some (some (.builtin "getset_descriptor.__get__"))) (htk:W.takesIn K (.builtin "object.__class__")=some true)
   (hm:W.mroIn K C (.type "object")=some true):Ao K H (.ref a) (.ref C)
theorem oK{x:V}{u t:Value}(I:vO X pins σ H s)(rx:bj x u)(ty:Ao X.K H x t)(e:W.kitOne X.K t c=some b)(h:∀tk,Q (.bool b) { s with toks:=tk }) :
  wpAny (model X.prog X.w) A (call (.builtin "isinstance") [u,c]) Q E s:=by
 cases ty with
 | non=>cases (show u=Value.none from rx);exact W.kia_one W.kitx_none I.kIn True.intro e (fun z=>nomatch z) h
 | bl y=>cases (show u=Value.bool y from rx);exact W.kia_one W.kitx_bool I.kIn True.intro e (fun z=>nomatch z) h
 | int i=>obtain⟨t,q⟩:=(show ∃t,u=Value.int i t from rx);cases q;exact W.kia_one W.kitx_int I.kIn True.intro e (fun z=>nomatch z) h
 | str y=>obtain⟨t,q⟩:=(show ∃t,u=Value.str y t from rx);cases q;exact W.kia_one W.kitx_str I.kIn True.intro e (fun z=>nomatch z) h
 | flt y=>obtain⟨t,q⟩:=(show ∃t,u=Value.float y t from rx);cases q;exact W.kia_one W.kitx_float I.kIn True.intro e (fun z=>nomatch z) h
 | @lst a xs ea =>
  cases (show u=Value.ref a from rx);obtain⟨_,_,n,_,h1⟩:=(show cC X.prog X.w H s.heap a (.lst xs) from I.hok a _ ea);exact W.kia_one W.kitx_list I.kIn ⟨_,h1,rfl⟩ e (fun z=>nomatch z) h
 | @frz a ob xs ea =>
  cases (show u=Value.ref a from rx);obtain⟨_,_,_,n,_,h1⟩:=(show cC X.prog X.w H s.heap a (.frz ob (.lst xs)) from I.hok a _ ea);exact W.kia_one W.kitx_list I.kIn ⟨_,h1,rfl⟩ e (fun z=>nomatch z) h
 | @tup a xs ea =>
  cases (show u=Value.ref a from rx);obtain⟨_,_,_,p⟩:=(show cC X.prog X.w H s.heap a (.tup xs) from I.hok a _ ea);obtain⟨o,h1,h2,_⟩:=p;exact W.kia_one W.kitx_tuple I.kIn ⟨o,h1,h2⟩ e (fun z=>nomatch z) h
 | @dK a kvs ea =>
  cases (show u=Value.ref a from rx);obtain⟨_,_,vs,_,p⟩:=(show cC X.prog X.w H s.heap a (.dK kvs) from I.hok a _ ea);obtain⟨o,es,ep,h1,h2,_⟩:=p;exact W.kia_one W.kitx_dict I.kIn ⟨o,h1,h2.1⟩ e (fun z=>nomatch z) h
 | @dT a kvs ea =>
  cases (show u=Value.ref a from rx);obtain⟨_,_,xs,_,o,es,ep,h1,h2,_⟩:=(show cC X.prog X.w H s.heap a (.dT kvs) from I.hok a _ ea);exact W.kia_one W.kitx_dict I.kIn ⟨o,h1,h2.1⟩ e (fun z=>nomatch z) h
 | @ins a C dx fs ea cl ha hn htk hm =>
  cases (show u=Value.ref a from rx);obtain⟨mA,O,_⟩:=rT I.hok ea;obtain⟨od,J,_⟩:=O.look;exact W.kia_one (W.kitx_own (cl.get _) cl.hd ha hn htk hm) I.kIn J e (fun z=>nomatch z) h
end
end L2
namespace L2
open PySem PySem.Spec PyProof.Rows
structure xF(k:Nat)(A:Around):Prop where
 hd:A.handled=none
 dp:A.depth+3*k+5<recursionLimit
 un:A.units+16*k+200<cLine
 gd:A.guards=some []
theorem xF.mono{j k:Nat}{A:Around}(r:xF k A)(h:j≤k):xF j A:=⟨r.hd,by have:=r.dp;omega,by have:=r.un;omega,r.gd⟩
theorem xF.deeper{k:Nat}{A:Around}(r:xF (k+1) A)(env:Env):xF k (A.deeper env) :=
 ⟨r.hd,by have:=r.dp;show A.depth+1+3*k+5<_;omega,by have:=r.un;show A.units+3+16*k+200<_;omega,r.gd⟩
theorem xF.depth{k:Nat}{A:Around}(r:xF k A):A.depth<recursionLimit:=by have:=r.dp;omega
theorem xF.units0{k:Nat}{A:Around}(r:xF k A):A.units<cLine:=by have:=r.un;omega
def fV:TA:=fun _ H Q=>Q [] H
def bP(ta:TE)(tr:TA):TA:=fun σ H Q=>ta σ H fun x H1=>tr σ H1 fun xs H2=>Q (x::xs) H2
section
variable {X:Cx} {e:Expr} {es:List Expr} {te:TE} {t:TA} {pos:Pos}
theorem ad:PA X [] fV:=fun _ _ _ _ H Q I h=>Calls.spliced_nil ⟨[],H,I,.nil,h⟩
theorem aa(ha:PE X e te)(hr:PA X es t)(hs:starEach (e::es) X.env=(false,eval e X.env)::starEach es X.env:=by rfl):PA X (e::es) (bP te t):=by
 intro pos pins s σ H Q I h;rw[hs];show wpAny _ _ (spliced ((false,eval e X.env)::backTo pos (starEach es X.env))) _ _ s;refine Calls.spliced_cons (thn (ha pins s σ H _ I h) fun u s1 ⟨x,H1,I1,r1,q1⟩=>?_);exact thn (hr pos pins s1 σ H1 _ I1 q1) fun us s2 ⟨xs,H2,I2,r2,q2⟩=>⟨x::xs,H2,I2,.cons r1 r2,q2⟩
def vo(t:TA):TE:=fun σ H Q=>t σ H fun xs H1=>xs.length≤sizeLine∧∀p,H1 p=none->Q (.ref p) (upd H1 p (.tup xs))
theorem mJ{x1}(h:PA X es t):PE X (.Tuple es x1 pos) (vo t):=by
 intro pins s σ H Q I hq;refine wpAny_Tuple_spliced (thn (h pos pins s σ H _ I hq) fun us s1 ⟨xs,H1,I1,r,z,q⟩=>⟨by rw[<- r.length];exact z,?_⟩);have hf:H1 s1.heap.objs.size=none:=I1.hok.fresh (Nat.le_refl _);refine⟨.ref s1.heap.objs.size,upd H1 s1.heap.objs.size (.tup xs),I1.laid (t':=s1.toks) (fun b u e=>Heap.get?_push_of_some _ e) (Nat.le_refl _) ?_,rfl,q _ hf⟩;exact⟨z,us,r,⟨_,Heap.get?_push_size _ rfl,rfl,_,rfl⟩⟩
end
abbrev Sp:=List V->Hp->VK->XK->Prop
abbrev CXT:=List Env->Hp->Shared->XK->Value->Shared->Prop
structure C3(P:Program)(w:World)(K:W.Frag)(mg:Str->Option Value)(base:Heap)(A:Around)(outer:List Env)(s:Shared)(H:Hp):Prop where
 frames:A.frames=some outer
 mod:Mod K mg base
 bs:∀b o,base.get? b=some o->s.heap.get? b=some o∧H b=none
 bsz:base.objs.size≤s.heap.objs.size
 funs:s.heap.FunFrames base outer
 frf:∀b∈frs outer,H b=none
 hok:HOk P w H s.heap
 bare:AllBare s.gens
def CE(outer:List Env)(P:Program)(w:World)(H:Hp)(s:Shared)(Q:VK)(u:Value)(s':Shared):Prop :=
 ∃v H',s'.os=s.os∧AllBare s'.gens∧Un (frs outer) [] H H' s.heap s'.heap∧HOk P w H' s'.heap∧bj v u∧Q v H'
def CR(CX:CXT)(outer:List Env)(P:Program)(w:World)(H:Hp)(s:Shared)(Q:VK)(E:XK)(r:Result)(s':Shared):Prop :=
 match r with
 | .ok (.ret u)=>CE outer P w H s Q u s'
 | .ok _=>False
 | .error e=>CX outer H s E e s'
structure Aj(P:Program)(w:World)(K:W.Frag)(mg:Str->Option Value)(base:Heap)(CX:CXT)(k:Nat)(f:Addr)(fd:FuncData)(ps:List Str)(sp:Sp):Prop where
 len:∀vs H Q E,sp vs H Q E->vs.length=ps.length
 run:∀(A:Around) (outer:List Env) (s:Shared) (H:Hp) (args:Args) (us:List Value) (vs:List V) (Q:VK) (E:XK),xF k A->C3 P w K mg base A outer s H->BindsTo s fd args (ps.zip us)->aM vs us->sp vs H Q E ->
  codeAny (model P w) A (.call (.ref f) args) (CR CX outer P w H s Q E) s
theorem Aj.imp{P:Program}{w:World}{K:W.Frag}{mg:Str->Option Value}{base:Heap}{CX:CXT}{k:Nat}{f:Addr}{fd:FuncData}{ps:List Str}{sp sp':Sp}(F:Aj P w K mg base CX k f fd ps sp)
  (h:∀vs H Q E,sp' vs H Q E->sp vs H Q E):Aj P w K mg base CX k f fd ps sp' :=
 ⟨fun vs H Q E q=>F.len vs H Q E (h _ _ _ _ q),fun A outer s H args us vs Q E hr he hb hv hs=>F.run A outer s H args us vs Q E hr he hb hv (h _ _ _ _ hs)⟩
section
variable {X:Cx} {pins:List (Addr×Obj)} {σ:St} {H:Hp} {s s':Shared}
theorem vO.env0(I:vO X pins σ H s):C3 X.prog X.w X.K X.mg X.base X.A X.stack s H :=
 ⟨I.ok.frames,I.ok.mod,I.bs,Nat.le_trans I.ok.bsz I.sz,I.stack,I.stkFree,I.hok,I.bare⟩
theorem vO.after{Q:VK}{u:Value}(I:vO X pins σ H s)(h:CE X.stack X.prog X.w H s Q u s'):EP X pins σ Q u s':=by
 obtain⟨v,H',os,bare,un,hok,r,q⟩:=h;obtain⟨hh,g,d,t,os'⟩:=s';obtain rfl:os'=s.os:=os;exact⟨v,H',I.call (h':=hh) (g':=g) (d':=d) (t':=t) (ch:=[]) un hok bare (fun b z=>absurd z (by simp)),r,q⟩
end
def eF(sp:Sp)(dvs:List V)(E:XK)(t:TA):TE:=fun σ H Q=>t σ H fun vs H1=>sp (vs++dvs) H1 Q E
def jz(K:W.Frag)(fd:FuncData)(ps:List Str)(ds:List Value):Prop :=
 ∀(s:Shared) (us:List Value),K.In s.heap->(us++ds).length=ps.length->BindsTo s fd ⟨us,[]⟩ (ps.zip (us++ds))
theorem jz.all{K:W.Frag}{fd:FuncData}{ps:List Str}(h:∀us:List Value,us.length=ps.length->bindArgs fd ⟨us,[]⟩=pure (ps.zip us)):jz K fd ps []:=fun s us _ hl=>by
 rw[List.append_nil]at hl ⊢;exact .of_eq (h us hl)
def jy(CX:CXT)(X:Cx)(E:XK):Prop:=∀(pins:List (Addr×Obj)) (σ:St) (H:Hp) (s:Shared) (e:Value) (s':Shared),vO X pins σ H s->CX X.stack H s E e s'->X.xe e s'
section
variable {X:Cx} {CX:CXT} {k:Nat} {f C:Addr} {fd:FuncData} {ps:List Str} {sp:Sp} {dvs:List V} {ds:List Value} {E:XK} {x m:Str} {p pos apos:Pos} {e o:Expr} {es:List Expr} {ta:TE} {t:TA}
theorem tJ{pins:List (Addr×Obj)}{σ:St}{H:Hp}{s:Shared}{Q:VK}{us:List Value}{vs:List V}(F:Aj X.prog X.w X.K X.mg X.base CX k f fd ps sp)(hr:xF k X.A)(hb:jz X.K fd ps ds)(hd:aM dvs ds)(hx:jy CX X E)
  (I:vO X pins σ H s) (r:aM vs us) (h:sp (vs++dvs) H Q E):wpAny (model X.prog X.w) X.A (call (.ref f) us) (EP X pins σ Q) X.xe s:=by
 have r2:aM (vs++dvs) (us++ds):=r.append hd;have hl:(us++ds).length=ps.length:=by rw[<- r2.length];exact F.len _ _ _ _ h
 refine wpAny_call (codeAny_mono (F.run X.A X.stack s H ⟨us,[]⟩ (us++ds) (vs++dvs) Q E hr I.env0 (hb s us I.kIn hl) r2 h) fun r s' hq=>?_);cases r with
 | error e=>exact hx pins σ H s e s' I hq
 | ok fl =>
  cases fl with
  | ret u=>exact I.after hq
  | next=>exact False.elim hq
  | brk=>exact False.elim hq
  | cont=>exact False.elim hq
theorem iD(F:Aj X.prog X.w X.K X.mg X.base CX k f fd ps sp)(hr:xF k X.A)(hg:Gl X x)(hm:X.mg x=some (.ref f))(hk:W.keepIn X.K (.ref f)=true)(hb:jz X.K fd ps ds)(hd:aM dvs ds)(hx:jy CX X E)
  (ha:PA X (e::es) t) (hdb:(x == ("__debug__" : Str))=false:=by decide) (he:starEach (e::es) X.env=(false,eval e X.env)::starEach es X.env:=by rfl) (hpl:(backTo pos (starEach es X.env)).any (·.1)=false:=by rfl) :
  PE X (.Call (.Name x p) (e::es) [] pos) (eF sp dvs E t):=by
 intro pins s σ H Q I h;refine wpAny_Call_Name_kw (kB I hg hm ?_ hdb);refine W.callWith_K (h₀:=X.base) I.ok.mod.kin hk (thn (ha pos pins s σ H _ I h) fun us s1 ⟨vs,H1,I1,r,q⟩=>⟨I1.kIn,?_⟩) he hpl;exact tJ F hr hb hd hx I1 r q
end
section
variable {X:Cx} {CX:CXT} {k:Nat} {f C:Addr} {fd:FuncData} {ps ks:List Str} {sp:Sp} {E:XK} {x m:Str} {p pos apos kpos:Pos} {e o:Expr} {es:List Expr} {kws:List Keyword} {te ta:TE} {t tk:TA} {nm:Option Str}
variable {g:List Value->List Value->List Value} {gV:List V->List V->List V}
end
structure vL(N P:List Str)(sc:Scope):Prop where
 kind:sc.kind = .function
 co:sc.isCoroutine=false
 gen:sc.isGenerator=false
 nd:N.Nodup
 pre:N.take P.length=P
 par:∀x∈P,sc.names.lookup x=some .local∨sc.names.lookup x=some .cell
 nofree:∀y∈sc.names,y.2≠.free
theorem kb{kindOf:Str->Option NameKind}{x:Str}:∀{binds:List (Str×Value)} {m:Str->Option Value},(∀v,(x,v)∉binds)->bindL kindOf binds m x=m x
 | [],_,_=>rfl
 | (n,v)::r,m,h=>by
  unfold bindL;rw[kb fun w hw=>h w (List.mem_cons_of_mem _ hw)]
  split
  ·have:x≠n:=by rintro rfl;exact h v List.mem_cons_self
   simp[this]
  ·rfl
theorem ke{kindOf:Str->Option NameKind}{x:Str}:∀{binds:List (Str×Value)} {m:Str->Option Value},(∀v,(x,v)∉binds)->bindC kindOf binds m x=m x
 | [],_,_=>rfl
 | (n,v)::r,m,h=>by
  unfold bindC;rw[ke fun w hw=>h w (List.mem_cons_of_mem _ hw)]
  split
  ·rfl
  ·have:x≠n:=by rintro rfl;exact h v List.mem_cons_self
   simp[this]
theorem kc{kindOf:Str->Option NameKind}{x:Str}{v:Value}:∀{P:List Str} {vs:List Value} {i:Nat} {m:Str->Option Value},P.Nodup->P[i]? = some x->vs[i]? = some v->kindOf x=some .local ->
  bindL kindOf (P.zip vs) m x=some v
 | [],_,_,_,_,h,_,_=>by simp at h
 | _::_,[],_,_,_,_,h,_=>by simp at h
 | p::P,w::vs,0,m,nd,h1,h2,hk=>by
  simp at h1 h2;subst h1;subst h2;show bindL kindOf ((p,w)::P.zip vs) m p=_;unfold bindL;rw[kb fun v hv=>(List.nodup_cons.mp nd).1 (List.of_mem_zip hv).1,if_pos hk];simp
 | p::P,w::vs,i+1,m,nd,h1,h2,hk=>by
  show bindL kindOf ((p,w)::P.zip vs) m x=_;unfold bindL;exact kc (i:=i) (List.nodup_cons.mp nd).2 (by simpa using h1) (by simpa using h2) hk
theorem kf{kindOf:Str->Option NameKind}{x:Str}{v:Value}:∀{P:List Str} {vs:List Value} {i:Nat} {m:Str->Option Value},P.Nodup->P[i]? = some x->vs[i]? = some v->kindOf x≠some .local ->
  bindC kindOf (P.zip vs) m x=some v
 | [],_,_,_,_,h,_,_=>by simp at h
 | _::_,[],_,_,_,_,h,_=>by simp at h
 | p::P,w::vs,0,m,nd,h1,h2,hk=>by
  simp at h1 h2;subst h1;subst h2;show bindC kindOf ((p,w)::P.zip vs) m p=_;unfold bindC;rw[ke fun v hv=>(List.nodup_cons.mp nd).1 (List.of_mem_zip hv).1,if_neg hk];simp
 | p::P,w::vs,i+1,m,nd,h1,h2,hk=>by
  show bindC kindOf ((p,w)::P.zip vs) m x=_;unfold bindC;exact kf (i:=i) (List.nodup_cons.mp nd).2 (by simpa using h1) (by simpa using h2) hk
def eQ(N:List Str)(vs:List V):St:=vs.map some++List.replicate (N.length - vs.length) none
def bD(CX:CXT)(P:Program)(w:World)(K:W.Frag)(mg:Str->Option Value)(base:Heap)(N:List Str)(qual:Str)(scope:Scope)(f:Addr)(cd:Value)(A:Around)(outer:List Env)(s:Shared)(H:Hp)(E:XK):Cx where
 prog:=P
 w:=w
 K:=K
 mg:=mg
 base:=base
 A:=A.deeper (envOfC qual scope s.heap.objs.size f cd)
 N:=N
 s₀:=s
 H₀:=H
 env:=envOfC qual scope s.heap.objs.size f cd
 outer:=outer
 stack:=envOfC qual scope s.heap.objs.size f cd::outer
 ex:=[]
 calm:=true
 fn:=fun _=>true
 pn:=[]
 xe:=fun e s'=>wpAny (model P w) (A.deeper (envOfC qual scope s.heap.objs.size f cd)) (leaving (envOfC qual scope s.heap.objs.size f cd) e) (fun _ s''=>CX outer H s E e s'') (fun e' s''=>CX outer H s E e' s'') s'
theorem me{sc:Scope}{n:Nat}{x:Str}(h:sc.names.lookup x=some .cell):∃c,(cellsFrom n sc.names []).lookup x=some c:=by
 have q:=W.cellsFrom_some sc.names n [] (.inl h);exact Option.isSome_iff_exists.mp q
theorem oM{CX:CXT}{P:Program}{w:World}{K:W.Frag}{mg:Str->Option Value}{base:Heap}{N ps:List Str}{qual:Str}{scope:Scope}{f:Addr}{cd:Value}{A:Around}{outer:List Env}{s s1:Shared}{H:Hp}{E:XK}{us:List Value}{vs:List V}
  (S:vL N ps scope) (hd:A.handled=none) (e0:C3 P w K mg base A outer s H) (hl:vs.length=ps.length) (r:aM vs us)
  (x:InCallC s s.heap.objs.size (bindL (envOfC qual scope s.heap.objs.size f cd).kindOf (ps.zip us) fun _=>none) (cellsFrom (s.heap.objs.size+1) scope.names []) (bindC (envOfC qual scope s.heap.objs.size f cd).kindOf (ps.zip us) fun _=>none) s1) :
  vO (bD CX P w K mg base N qual scope f cd A outer s H E) [] (eQ N vs) H s1:=by
 have hpl:ps.length≤N.length:=by have:=congrArg List.length S.pre;rw[List.length_take]at this;omega
 obtain⟨h1,tk,rfl,hk⟩:=x.done;have noA:∀b:Addr,b∉(bD CX P w K mg base N qual scope f cd A outer s H E).ex:=fun b z=>absurd (show b∈([]:List Addr) from z) (by simp);refine⟨⟨e0.mod,S.kind,rfl,rfl,Nat.le_refl _,fun y z c h1 h2=>?_,fun y hy=>?_,fun y c _ h=>?_,fun _=>hd,Around.frames_deeper e0.frames,.inr ⟨rfl,rfl⟩,fun b z=>absurd z (noA b),e0.bs,e0.bsz,fun b _ _=>noA b,fun b z=>absurd z (noA b),e0.funs,e0.frf⟩,
  rfl,e0.bare,Un.kept hk,⟨_,x.toInCall.ns,fun i y v h1 h2 h3=>?_⟩,fun y c h=>⟨_,x.cell y c h⟩,e0.hok.fresh (Nat.le_refl _),fun y c h=>?_,fun p hp=>absurd (show p∈([]:List (Addr×Obj)) from hp) (by simp),e0.hok.kept hk,?_⟩
 ·exact name_of_addr x.apart (PySem.mem_of_lookup h1) (PySem.mem_of_lookup h2)
 ·have hy:scope.names.lookup y=some .cell∨scope.names.lookup y=some .free:=hy
  rcases hy with hy|hy
  ·exact me hy
  ·exact absurd rfl (S.nofree _ (PySem.mem_of_lookup hy))
 ·exact Nat.le_of_lt (x.above y c (PySem.mem_of_lookup h))
 ·have hi:i<vs.length:=by
   unfold eQ at h2
   by_cases hi:i<vs.length
   ·exact hi
   ·rw[List.getElem?_append_right (by simpa using hi)]at h2
    rw[List.getElem?_replicate]at h2
    split at h2 <;> cases h2
  have ha:vs[i]? = some v:=by
   unfold eQ at h2;rw[List.getElem?_append_left (by simpa using hi),List.getElem?_map]at h2;cases e:vs[i]? with
   | none=>rw[e]at h2;cases h2
   | some a=>rw[e]at h2;cases h2;rfl
  obtain⟨u,hu,rv⟩:=r.get ha;have hp:ps[i]? = some y:=by
   rw[<- S.pre,List.getElem?_take_of_lt (by omega)];exact h1
  have ndP:ps.Nodup:=by rw[<- S.pre];exact S.nd.sublist (List.take_sublist _ _)
  refine⟨u,rv,?_⟩;rcases S.par y (List.mem_of_getElem? hp) with k|k
  ·exact .inl ⟨k,kc ndP hp hu k⟩
  ·obtain⟨c,e⟩:=me (n:=s.heap.objs.size+1) k
   refine .inr ⟨.inl k,c,e,?_⟩;have q:=x.cell y c e;rw[kf ndP hp hu (by show scope.names.lookup y≠_;rw[k];decide)]at q;exact q
 ·exact e0.hok.fresh (Nat.le_of_lt (x.above y c (PySem.mem_of_lookup h)))
 ·unfold eQ
  show _=N.length;rw[List.length_append,List.length_map,List.length_replicate];omega
theorem nR{CX:CXT}{P:Program}{w:World}{K:W.Frag}{mg:Str->Option Value}{base:Heap}{k:Nat}{f:Addr}{name qual:Str}{params:Arguments}{body:List Stmt}{scope:Scope}{dV kV doc pm cdv ct oc:Value}{an od:Option Addr}
  {osl:Array (Option Value)} {N ps:List Str} {sp:Sp} (lk:K.lookup f=some ⟨oc,od,.func (W.fnOf name qual params body scope dV kV doc pm an cdv ct),osl⟩) (hcd:W.codeIn K cdv qual=true) (S:vL N ps scope)
  (len:∀vs H Q E,sp vs H Q E->vs.length=ps.length)
  (hbody:∀(A:Around) (outer:List Env) (s:Shared) (H:Hp) (vs:List V) (Q:VK) (E:XK),xF k (A.deeper (envOfC qual scope s.heap.objs.size f cdv))->sp vs H Q E ->
   ∃t,PSs (bD CX P w K mg base N qual scope f cdv A outer s H E) body t∧t { nx:=fun _ H'=>Q .non H',rt:=Q } (eQ N vs) H) :
  Aj P w K mg base CX (k+1) f (W.fnOf name qual params body scope dV kV doc pm an cdv ct) ps sp:=by
 refine⟨len,fun A outer s H args us vs Q E hr e0 hb r hsp=>?_⟩;have hl:=len _ _ _ _ hsp;have KX:K.In s.heap:=e0.mod.kin.keeps fun b o e=>(e0.bs b o e).1;have lim:s.heap.NoLimit:=e0.mod.nolimit.keeps fun b o e=>(e0.bs b o e).1;have hkind:∀y∈ps.zip us,scope.names.lookup y.1=some .local∨(scope.names.lookup y.1=some .cell∧((cellsFrom (s.heap.objs.size+1) scope.names []).lookup y.1).isSome=true):=fun ⟨n,v⟩ hy=>by
  rcases S.par n (List.of_mem_zip hy).1 with q|q
  ·exact .inl q
  ·exact .inr ⟨q,W.cellsFrom_some _ _ _ (.inl q)⟩
 refine codeAny_call_function hr.depth (KX _ _ lk) rfl S.co S.gen rfl (W.codeRec_of KX hcd) (hb _ _ _ _ ?_);refine wpAny_newFunctionEnv_cells S.kind hkind fun env he s1 x=>?_;subst he;refine⟨lim.keeps x.toInCall.keep,codeAny_func ?_⟩;obtain⟨t,ht,hq⟩:=hbody A outer s H vs Q E (hr.deeper _) hsp;have I:vO (bD CX P w K mg base N qual scope f cdv A outer s H E) [] (eQ N vs) H s1:=oM S hr.hd e0 hl r x;refine wpAny_mono (ht [] s1 (eQ N vs) H _ I hq) (fun fl s' hs=>?_) fun e s' hs=>hs;have fin:∀{σ':St} {H':Hp} {v:V} {u:Value},vO (bD CX P w K mg base N qual scope f cdv A outer s H E) [] σ' H' s'->bj v u->Q v H'->CE outer P w H s Q u s' :=
  fun {σ' H' v u} J rv q=>⟨v,H',J.os,J.bare,J.base,J.hok,rv,q⟩
 cases fl with
 | ret u =>
  obtain⟨v,σ',H',J,rv,q⟩:=hs;exact fin J rv q
 | next =>
  obtain⟨σ',H',J,q⟩:=hs;exact fin (v:=V.non) (u:=Value.none) J rfl q
 | brk =>
  obtain⟨_,_,_,q⟩:=hs;exact False.elim q
 | cont =>
  obtain⟨_,_,_,q⟩:=hs;exact False.elim q
end L2
namespace L2
open PySem PySem.Spec PyProof.Rows
section
variable {X:Cx} {x:Str} {p pos:Pos} {e:Expr} {es:List Expr} {t:TA} {id T:String} {r:List V->Hp->VK->Prop}
def tCB(r:List V->Hp->VK->Prop)(t:TA):TE:=fun σ H Q=>t σ H fun vs H1=>r vs H1 Q
theorem aJ(hc:gP X (.builtin id) r)(hg:Gl X x)(hm:X.mg x=none)(hv:bootBuiltins x=some (.builtin id))(ha:PA X (e::es) t)(hn:x≠"__name__":=by decide)(hdb:(x == ("__debug__" : Str))=false:=by decide)
  (he:starEach (e::es) X.env=(false,eval e X.env)::starEach es X.env:=by rfl) (hpl:(backTo pos (starEach es X.env)).any (·.1)=false:=by rfl):PE X (.Call (.Name x p) (e::es) [] pos) (tCB r t):=by
 intro pins s σ H Q I h;refine wpAny_Call_Name_kw (fj I hg hm hv ?_ hn hdb);exact PyProof.Rows.callWith_builtin1 (thn (ha pos pins s σ H _ I h) fun us s1 ⟨vs,H1,I1,r1,q1⟩=>hc pins s1 σ H1 vs us Q I1 r1 q1) he hpl
theorem oy(hc:gP X (.type T) r)(hg:Gl X x)(hm:X.mg x=none)(hv:bootBuiltins x=some (.type T))(ha:PA X (e::es) t)(hn:x≠"__name__":=by decide)(hdb:(x == ("__debug__" : Str))=false:=by decide)
  (he:starEach (e::es) X.env=(false,eval e X.env)::starEach es X.env:=by rfl) (hpl:(backTo pos (starEach es X.env)).any (·.1)=false:=by rfl):PE X (.Call (.Name x p) (e::es) [] pos) (tCB r t):=by
 intro pins s σ H Q I h;refine wpAny_Call_Name_kw (fj I hg hm hv ?_ hn hdb);exact PyProof.Rows.callWith_type1 (thn (ha pos pins s σ H _ I h) fun us s1 ⟨vs,H1,I1,r1,q1⟩=>hc pins s1 σ H1 vs us Q I1 r1 q1) he hpl
end
end L2
namespace HT
open PySem PyProof.Rows
section
open PySem.SeqAt
open PySem.AutoSeq1 (wpAny_loadPart')
open PySem.MeetsSeq PySem.MeetsSeq2 PySem.MeetsSeq3
end
section
variable {prog:Program} {w:World} {A:Around} {E:Value->Shared->Prop} {s:Shared}
def sIx(n d:Nat):Option Int->Nat
 | none=>d
 | some v=>if v<0 then (v+(n:Int)).toNat else min v.toNat n
theorem sIx_none(n d:Nat):sIx n d none=d:=rfl
theorem sIx_nat(n d k:Nat):sIx n d (some (k:Int))=min k n:=by
 show(if (k:Int)<0 then ((k:Int)+(n:Int)).toNat else min (k:Int).toNat n)=min k n
 rw[if_neg (by omega),Int.toNat_natCast]
end
end HT
namespace L2
open PySem PySem.Spec PyProof.Rows
abbrev TO:=St->Hp->(Option Int->Hp->Prop)->Prop
def PO(X:Cx)(e:Option Expr)(t:TO):Prop :=
 ∀(pins:List (Addr×Obj)) (s:Shared) (σ:St) (H:Hp) (Q:Option Int->Hp->Prop),vO X pins σ H s->t σ H Q ->
  wpAny (model X.prog X.w) X.A (evalPart e X.env) (fun u s'=>∃o H',vO X pins σ H' s'∧IsPart u o∧Q o H') X.xe s
def qW:TO:=fun _ H Q=>Q none H
def uF(t:TE):TO:=fun σ H Q=>t σ H fun x H1=>∃i,x = .int i∧Q (some i) H1
section
variable {X:Cx} {e:Expr} {te:TE} {lo hi:Option Expr} {tl th:TO} {pos p2:Pos}
theorem gB:PO X none qW:=by
 intro pins s σ H Q I h;rw[evalPart_none];exact wpAny_pure ⟨none,H,I,.none,h⟩
theorem gA(h:PE X e te):PO X (some e) (uF te):=by
 intro pins s σ H Q I hw;rw[evalPart_some];refine thn (h pins s σ H _ I hw) fun u s1 ⟨x,H1,I1,r1,q1⟩=>?_;obtain⟨i,rfl,q⟩:=q1;obtain⟨t,rfl⟩:=r1;exact⟨some i,H1,I1,.int i t,q⟩
def SlR(X:Cx)(r:V->Option Int->Option Int->Hp->VK->Prop):Prop :=
 ∀(pins:List (Addr×Obj)) (s:Shared) (σ:St) (H:Hp) (x:V) (v vl vu:Value) (lo hi:Option Int) (sl:Addr) (Q:VK),vO X pins σ H s->bj x v->s.heap.IsSliceOf sl vl vu .none->IsPart vl lo->IsPart vu hi->r x lo hi H Q ->
  ∃T id,typeLookup (.type T) "__getitem__" = pure (some (.builtin id))∧s.TypeIs v T∧wpAny (model X.prog X.w) X.A (getItem v (.ref sl)) (EP X pins σ Q) X.xe s
def tSl(r:V->Option Int->Option Int->Hp->VK->Prop)(te:TE)(tl th:TO):TE:=fun σ H Q=>te σ H fun x H1=>tl σ H1 fun l H2=>th σ H2 fun u H3=>r x l u H3 Q
theorem fe{r:V->Option Int->Option Int->Hp->VK->Prop}(hr:SlR X r)(he:PE X e te)(hl:PO X lo tl)(hu:PO X hi th):PE X (.Subscript e (.Slice lo hi none p2) pos) (tSl r te tl th):=by
 intro pins s σ H Q I h;refine Subscript_ (thn (he pins s σ H _ I h) fun v s1 ⟨x,H1,I1,r1,q1⟩=>?_);refine wpAny_Slice (thn (hl pins s1 σ H1 _ I1 q1) fun vl s2 ⟨l,H2,I2,pl,q2⟩=>thn (hu pins s2 σ H2 _ I2 q2) fun vu s3 ⟨u,H3,I3,pu,q3⟩=>?_);rw[evalPart_none];refine wpAny_pure ?_;have I4:vO X pins σ H3 { s3 with heap:=s3.heap.push { cls:=.type "slice",data:=.fields #[vl,vu,.none] } }:=I3.kept (t':=s3.toks) fun b ob q=>Heap.get?_push_of_some _ q;obtain⟨T,id,hT,ht,hg⟩:=hr pins { s3 with heap:=s3.heap.push { cls:=.type "slice",data:=.fields #[vl,vu,.none] } } σ H3 x v vl vu l u s3.heap.objs.size Q I4 r1 (Heap.IsSliceOf.new ..) pl pu q3;show wpAny (model X.prog X.w) X.A (subscriptTail e (.Slice lo hi none p2) v (.ref s3.heap.objs.size)) (EP X pins σ Q) X.xe { s3 with heap:=s3.heap.push { cls:=.type "slice",data:=.fields #[vl,vu,.none] } };exact tail_any (ops:=[.ref s3.heap.objs.size,v]) ht hT hg (by with_unfolding_all rfl)
def js(xs:List V)(lo hi:Option Int):List V:=(xs.drop (HT.sIx xs.length 0 lo)).take (HT.sIx xs.length xs.length hi - HT.sIx xs.length 0 lo)
theorem l8(xs:List V)(lo hi:Option Int):(js xs lo hi).length≤xs.length:=by
 unfold js;rw[List.length_take,List.length_drop];omega
end
end L2
namespace L2
open PySem PySem.Spec PyProof.Rows
def ixN(n:Nat)(i:Int):Option Nat:=if 0≤i then (if i<n then some i.toNat else none) else if -(n:Int)≤i then some (i+n).toNat else none
def atI{α:Type}(xs:List α)(i:Int):Option α:=(ixN xs.length i).bind fun j=>xs[j]?
theorem nG{n:Nat}{i:Int}{j:Nat}(h:ixN n i=some j):seqIndex? i n=some j∧j<n∧-(n:Int)≤i∧i<n:=by
 unfold ixN at h
 by_cases h0:0≤i
 ·rw[if_pos h0]at h
  by_cases h1:i<n
  ·rw[if_pos h1]at h
   have e:i.toNat=j:=Option.some.inj h;exact⟨by rw[seqIndex_of h0 h1,e],by omega,by omega,h1⟩
  ·rw[if_neg h1]at h;cases h
 ·rw[if_neg h0]at h
  by_cases h1:-(n:Int)≤i
  ·rw[if_pos h1]at h
   have e:(i+n).toNat=j:=Option.some.inj h;exact⟨by rw[seqIndex_neg (by omega) h1,e],by omega,h1,by omega⟩
  ·rw[if_neg h1]at h;cases h
theorem og{α:Type}{xs:List α}{i:Int}{v:α}(h:atI xs i=some v):∃j,seqIndex? i xs.length=some j∧xs[j]? = some v∧j<xs.length∧-(xs.length:Int)≤i∧i<xs.length:=by
 unfold atI at h;cases e:ixN xs.length i with
 | none=>rw[e]at h;cases h
 | some j =>
  rw[e]at h;obtain⟨h1,h2,h3,h4⟩:=nG e;exact⟨j,h1,h,h2,h3,h4⟩
theorem db{α:Type}{xs:List α}{j:Nat}{v:α}(h:xs[j]? = some v):atI xs (j:Int)=some v:=by
 have hj:j<xs.length:=(List.getElem?_eq_some_iff.mp h).1;have e:ixN xs.length (j:Int)=some j:=by
  unfold ixN;rw[if_pos (by omega),if_pos (by omega)];simp
 unfold atI;rw[e];exact h
theorem qS{α:Type}(xs:List α)(v:α):atI (xs++[v]) (-1)=some v:=by
 have hl:(xs++[v]).length=xs.length+1:=by simp
 have e:ixN (xs++[v]).length (-1)=some xs.length:=by
  unfold ixN;rw[hl,if_neg (by decide),if_pos (by omega)]
  congr 1
  omega
 unfold atI;rw[e];show(xs++[v])[xs.length]? = some v;simp
def sL(b:Expr):Prop:=∀o i,subscripted b false o i=operate [o,i] (getItem o i)
def IxR(X:Cx)(r:R2):Prop :=
 ∀(value slice:Expr) (pins:List (Addr×Obj)) (s:Shared) (σ:St) (H:Hp) (x y:V) (v u:Value) (Q:VK),vO X pins σ H s->bj x v->bj y u->r x y H Q ->
  subscripted slice false v u=operate [v,u] (getItem v u)->wpAny (model X.prog X.w) X.A (subscriptTail value slice v u) (EP X pins σ Q) X.xe s
def MtR(X:Cx)(id:String)(r:V->List V->Hp->VK->Prop):Prop :=
 ∀(pins:List (Addr×Obj)) (s:Shared) (σ:St) (H:Hp) (x:V) (xs:List V) (v:Value) (us:List Value) (Q:VK),vO X pins σ H s->bj x v->aM xs us->r x xs H Q ->
  wpAny (model X.prog X.w) X.A (call (.builtin id) (v::us)) (EP X pins σ Q) X.xe s
section
variable {X:Cx} {a b:Expr} {ta tb:TE} {pos:Pos}
theorem aj{r:R2}(hr:IxR X r)(ha:PE X a ta)(hb:PE X b tb)(hs:sL b):PE X (.Subscript a b pos) (tOp r ta tb):=by
 intro pins s σ H Q I h;exact Subscript_ (uw ha hb I h fun v u s2 x y H2 I2 rx ry q=>hr a b pins s2 σ H2 x y v u Q I2 rx ry q (hs _ _))
inductive CL (K:W.Frag) (x y:V) (H:Hp) (Q:VK):Prop
 | mk (p:Addr) (xs:List V) (i:Int) (v:V) (e:x = .ref p) (f:y = .int i) (s:SqL K H p xs) (a:atI xs i=some v) (q:Q v H):CL K x y H Q
inductive CV (K:W.Frag) (x y:V) (H:Hp) (Q:VK):Prop
 | mk (p:Addr) (xs:List V) (i:Int) (v:V) (e:x = .ref p) (f:y = .int i) (s:SqT K H p xs) (a:atI xs i=some v) (q:Q v H):CV K x y H Q
theorem aI:IxR X (CL X.K):=by
 intro value slice pins s σ H x y v u Q I rx ry h hs;obtain⟨p,xs,i,z,rfl,rfl,hq,he,q⟩:=h;cases rx;obtain⟨t,rfl⟩:=ry;obtain⟨its,r,pl,hz⟩:=I.list hq;obtain⟨j,h1,h2,h3,h4,h5⟩:=og he;obtain⟨w,ew,rw'⟩:=r.get h2;have hl:=r.length;have hn:=kv;have fin:EP X pins σ Q w s:=⟨z,H,I,rw',q⟩
 by_cases h0:0≤i
 ·have hj:i.toNat=j:=by
   rw[seqIndex_of h0 h5]at h1;exact Option.some.inj h1
  exact item_listR pl.isList h0 (by omega) (by rw[hj];simpa using ew) fin hs
 ·have hj:(i+(its.toArray.size:Int)).toNat=j:=by
   rw[seqIndex_neg (by omega) h4]at h1;rw[List.size_toArray,<- hl];exact Option.some.inj h1
  exact subscriptTail_builtinR (x:=w) pl.isList.typeIs slot_list_getitem.lookup
   (wpAny_getItem_list_neg (Q:=fun r s'=>r=w∧EP X pins σ Q r s') pl.isList (by omega) (by rw[List.size_toArray] <;> omega) (by omega) (by rw[hj];simpa using ew) ⟨rfl,fin⟩) hs
theorem ai:IxR X (CV X.K):=by
 intro value slice pins s σ H x y v u Q I rx ry h hs;obtain⟨p,xs,i,z,rfl,rfl,hq,he,q⟩:=h;cases rx;obtain⟨t,rfl⟩:=ry;obtain⟨its,r,pl,hz⟩:=I.tuple hq;obtain⟨j,h1,h2,h3,h4,h5⟩:=og he;obtain⟨w,ew,rw'⟩:=r.get h2;have hl:=r.length;have hn:=kv;have fin:EP X pins σ Q w s:=⟨z,H,I,rw',q⟩;exact subscriptTail_builtinR (x:=w) pl.typeIs slot_tuple_getitem.lookup
  (getItem_tuple (j:=j) (Q:=fun r s'=>r=w∧EP X pins σ Q r s') pl (by omega) (by omega) (by rw[List.size_toArray,<- hl];exact h1) (by simpa using ew) ⟨rfl,fin⟩) hs
theorem mM(its:List Value)(n j:Nat)(u:Value):Obj.mapSeq (·.setIfInBounds j u) { cls:=.type "list",data:=.seq its.toArray n }={ cls:=.type "list",data:=.seq (its.set j u).toArray n }:=by
 simp[Obj.mapSeq]
theorem vO.lst{pins:List (Addr×Obj)}{σ:St}{H:Hp}{s:Shared}{p:Addr}{xs:List V}(I:vO X pins σ H s)(h:H p=some (.lst xs)) :
  ∃(its:List Value) (n:Nat),aM xs its∧s.heap.get? p=some { cls:=.type "list",data:=.seq its.toArray n }∧xs.length≤sizeLine:=by
 obtain⟨z,its,n,r,e⟩:=I.hok p _ h;exact⟨its,n,r,e,z⟩
theorem vO.lstUpd{pins:List (Addr×Obj)}{σ:St}{H:Hp}{s:Shared}{p:Addr}{xs ys:List V}{its its':List Value}{n n':Nat}{f:Obj->Obj}(I:vO X pins σ H s)(h:H p=some (.lst xs))
  (ho:s.heap.get? p=some { cls:=.type "list",data:=.seq its.toArray n }) (hf:f { cls:=.type "list",data:=.seq its.toArray n }={ cls:=.type "list",data:=.seq its'.toArray n' }) (r:aM ys its') (hz:ys.length≤sizeLine) (t:Nat) :
  vO X pins σ (upd H p (.lst ys)) { s with heap:=s.heap.update p f,toks:=t }:=by
 have e:(s.heap.update p f).get? p=some { cls:=.type "list",data:=.seq its'.toArray n' }:=by
  rw[Heap.get?_update_self f ho (by rw[hf] <;> rfl),hf]
 refine I.write (x:=p) (e:=p) (by rw[h];trivial) (.inl rfl) (fun b u hb q=>(Heap.get?_update_other _ _ (Ne.symm hb)).trans q) ⟨_,e⟩ ?_;exact⟨hz,its',n',r,e⟩
def uN:V->V->V->Hp->(Hp->Prop)->Prop:=fun o i v H Q=>∃p xs k j,o = .ref p∧i = .int k∧H p=some (.lst xs)∧ixN xs.length k=some j∧Q (upd H p (.lst (xs.set j v)))
theorem pi:uC X uN:=by
 intro pins s σ H o i v ov iv u Q I ro ri rv h;obtain⟨p,xs,k,j,rfl,rfl,hp,hj,q⟩:=h;cases ro;obtain⟨t,rfl⟩:=ri;obtain⟨its,n,r,ho,hz⟩:=I.lst hp;obtain⟨h1,h2,h3,h4⟩:=nG hj;have hl:=r.length;have hn:=kv;have I':vO X pins σ (upd H p (.lst (xs.set j v))) { s with heap:=s.heap.update p (Obj.mapSeq (·.setIfInBounds j u)) } :=
  I.lstUpd hp ho (mM its n j u) (r.set rv j) (by rw[List.length_set];exact hz) s.toks
 by_cases h0:0≤k
 ·have hk:k.toNat=j:=by
   rw[seqIndex_of h0 h4]at h1;exact Option.some.inj h1
  exact W.ki_setAt ho h0 (by omega) (by rw[List.size_toArray,<- hl];exact h4) (by rw[hk];exact⟨_,I',q⟩)
 ·have hk:(k+(its.toArray.size:Int)).toNat=j:=by
   rw[seqIndex_neg (by omega) h3]at h1;rw[List.size_toArray,<- hl];exact Option.some.inj h1
  exact W.ki_setBack ho (by omega) (by rw[List.size_toArray,<- hl];exact h3) (by omega) (by rw[hk];exact⟨_,I',q⟩)
theorem kh(lo hi:Option Int)(n:Nat):(sliceBounds lo hi none n).1=((HT.sIx n 0 lo:Nat):Int)∧(sliceBounds lo hi none n).2.1=((HT.sIx n n hi:Nat):Int)∧(sliceBounds lo hi none n).2.2=1:=by
 refine⟨?_,?_,rfl⟩
 ·cases lo with
  | none=>simp[sliceBounds,HT.sIx]
  | some i =>
   simp only[sliceBounds,HT.sIx,Option.getD_none,show(1:Int)>0 by decide,if_true]
   by_cases h:i<0
   ·simp only[h,if_true] <;> omega
   ·simp only[h,if_false] <;> omega
 ·cases hi with
  | none=>simp[sliceBounds,HT.sIx]
  | some i =>
   simp only[sliceBounds,HT.sIx,Option.getD_none,show(1:Int)>0 by decide,if_true]
   by_cases h:i<0
   ·simp only[h,if_true] <;> omega
   ·simp only[h,if_false] <;> omega
theorem jA(its:List Value)(lo hi:Option Int):slicePick its.toArray lo hi none=((its.drop (HT.sIx its.length 0 lo)).take (HT.sIx its.length its.length hi - HT.sIx its.length 0 lo)).toArray:=by
 obtain⟨h1,h2,h3⟩:=kh lo hi its.toArray.size;unfold slicePick;rw[h1,h2,h3];simp only[sliceRange_one,pick_run,List.size_toArray] <;> rfl
def vA(K:W.Frag):V->Option Int->Option Int->Hp->VK->Prop:=fun x lo hi H Q=>∃a xs,x = .ref a∧SqL K H a xs∧∀p,H p=none->Q (.ref p) (upd H p (.lst (js xs lo hi)))
theorem qY:SlR X (vA X.K):=by
 intro pins s σ H x v vl vu lo hi sl Q I rx hs pl pu h;obtain⟨a,xs,rfl,hx,q⟩:=h;cases rx;obtain⟨its,r,ht,hz⟩:=I.list hx;have hlen:=r.length;refine⟨"list",_,slot_list_getitem.lookup,ht.isList.typeIs,?_⟩;refine wpAny_getItem_list_slice ht.isList hs pl pu .none (by simp) ?_ (by rw[List.size_toArray] <;> omega);rw[jA,<- hlen];refine⟨.ref s.heap.objs.size,_,I.laid (t':=s.toks) (o:=.lst (js xs lo hi)) (fun b ob q=>Heap.get?_push_of_some _ q) (Nat.le_refl _) ?_,rfl,q _ (I.hok.fresh (Nat.le_refl _))⟩;exact⟨Nat.le_trans (l8 xs lo hi) hz,_,0,(r.drop (HT.sIx xs.length 0 lo)).take (HT.sIx xs.length xs.length hi - HT.sIx xs.length 0 lo),Heap.get?_push_size _ rfl⟩
def io:V->Bool
 | .non=>true
 | .bl _=>true
 | .int _=>true
 | .str _=>true
 | _=>false
def eqV:V->V->Bool
 | .non,.non=>true
 | .bl a,.bl b=>a == b
 | .bl a,.int b=>(if a then 1 else 0) == b
 | .int a,.bl b=>a == (if b then 1 else 0)
 | .int a,.int b=>a == b
 | .str a,.str b=>a == b
 | _,_=>false
theorem qD{A:Around}{s:Shared}{y x:V}{u v:Value}(ry:bj y u)(rx:bj x v)(fy:io y=true)(fx:io x=true):SeqAt.EqAt A s u v (eqV y x):=by
 cases y with
 | non =>
  cases ry;cases x with
  | non=>cases rx;exact SeqAt.EqAt.same _
  | bl b=>cases rx;exact SeqAt.EqAt.none_bool b
  | int b=>obtain⟨t,rfl⟩:=rx;exact SeqAt.EqAt.none_int b t
  | str b=>obtain⟨t,rfl⟩:=rx;exact SeqAt.EqAt.none_str b t
  | _=>exact absurd (show false=true from fx) Bool.false_ne_true
 | bl a =>
  cases ry;cases x with
  | non=>cases rx;exact SeqAt.EqAt.bool_none a
  | bl b=>cases rx;exact SeqAt.EqAt.bool_bool a b
  | int b=>obtain⟨t,rfl⟩:=rx;exact SeqAt.EqAt.bool_int a b t
  | str b=>obtain⟨t,rfl⟩:=rx;exact SeqAt.EqAt.bool_str a b t
  | _=>exact absurd (show false=true from fx) Bool.false_ne_true
 | int a =>
  obtain⟨t',rfl⟩:=ry;cases x with
  | non=>cases rx;exact SeqAt.EqAt.int_none a t'
  | bl b=>cases rx;exact SeqAt.EqAt.int_bool a t' b
  | int b=>obtain⟨t,rfl⟩:=rx;exact SeqAt.EqAt.int_int a t' b t
  | str b=>obtain⟨t,rfl⟩:=rx;exact SeqAt.EqAt.int_str a t' b t
  | _=>exact absurd (show false=true from fx) Bool.false_ne_true
 | str a =>
  obtain⟨t',rfl⟩:=ry;cases x with
  | non=>cases rx;exact SeqAt.EqAt.str_none a t'
  | bl b=>cases rx;exact SeqAt.EqAt.str_bool a t' b
  | int b=>obtain⟨t,rfl⟩:=rx;exact SeqAt.EqAt.str_int a t' b t
  | str b=>obtain⟨t,rfl⟩:=rx;exact SeqAt.EqAt.str_str a t' b t
  | _=>exact absurd (show false=true from fx) Bool.false_ne_true
 | _=>exact absurd (show false=true from fy) Bool.false_ne_true
def eqU(x:V)(u:Value):Bool:=match u with
 | .none=>eqV .non x
 | .bool b=>eqV (.bl b) x
 | .int i _=>eqV (.int i) x
 | .str z _=>eqV (.str z) x
 | _=>false
theorem qC{x y:V}{u:Value}(r:bj y u)(f:io y=true):eqU x u=eqV y x:=by
 cases y with
 | non=>cases r;rfl
 | bl b=>cases r;rfl
 | int i=>obtain⟨t,rfl⟩:=r;rfl
 | str z=>obtain⟨t,rfl⟩:=r;rfl
 | _=>exact absurd (show false=true from f) Bool.false_ne_true
theorem gO{x:V}:∀{xs:List V} {us:List Value},aM xs us->xs.all io=true->us.any (eqU x)=xs.any fun y=>eqV y x
 | _,_,.nil,_=>rfl
 | y::xs,u::us,.cons r t,f=>by
  rw[List.all_cons,Bool.and_eq_true]at f;rw[List.any_cons,List.any_cons,qC r f.1,gO t f.2]
theorem fg{A:Around}{s:Shared}{x:V}{v:Value}(rx:bj x v)(fx:io x=true):∀{xs:List V} {us:List Value},aM xs us->xs.all io=true->∀u∈us,SeqAt.EqAt A s u v (eqU x u)
 | _,_,.nil,_=>fun u hu=>by cases hu
 | y::xs,u::us,.cons r t,f=>fun u' hu=>by
  rw[List.all_cons,Bool.and_eq_true]at f;rcases List.mem_cons.mp hu with rfl|hu
  ·rw[qC r f.1];exact qD r rx f.1 fx
  ·exact fg rx fx t f.2 u' hu
def inV(x:V)(xs:List V):Bool:=xs.any fun y=>eqV y x
def rIn(K:W.Frag)(neg:Bool):R2:=fun x y H Q=>∃p xs,y = .ref p∧(SqL K H p xs∨SqT K H p xs)∧io x=true∧xs.all io=true∧Q (.bl (if neg then !inV x xs else inV x xs)) H
theorem oB:OpR X (compareOp .In) (rIn X.K false):=by
 intro pins s σ H x y v u Q I rx ry h;obtain⟨p,xs,rfl,hq,fx,fs,q⟩:=h;cases ry;rcases hq with hq|hq
 ·obtain⟨its,r,pl,hz⟩:=I.list hq
  refine SeqAt.in_listAt (eqU x) pl.isList (fun w hw=>fg rx fx r fs w (by simpa using hw)) ⟨.bl _,H,I,rfl,?_⟩;rw[show its.toArray.any (eqU x)=its.any (eqU x) by simp,gO r fs];exact q
 ·obtain⟨its,r,pl,hz⟩:=I.tuple hq
  refine SeqAt.in_tupleAt (eqU x) pl (fun w hw=>fg rx fx r fs w (by simpa using hw)) ⟨.bl _,H,I,rfl,?_⟩;rw[show its.toArray.any (eqU x)=its.any (eqU x) by simp,gO r fs];exact q
theorem kq:OpR X (compareOp .NotIn) (rIn X.K true):=by
 intro pins s σ H x y v u Q I rx ry h;obtain⟨p,xs,rfl,hq,fx,fs,q⟩:=h;cases ry;rcases hq with hq|hq
 ·obtain⟨its,r,pl,hz⟩:=I.list hq
  refine SeqAt.notIn_listAt (eqU x) pl.isList (fun w hw=>fg rx fx r fs w (by simpa using hw)) ⟨.bl _,H,I,rfl,?_⟩;rw[show its.toArray.any (eqU x)=its.any (eqU x) by simp,gO r fs];exact q
 ·obtain⟨its,r,pl,hz⟩:=I.tuple hq
  refine SeqAt.notIn_tupleAt (eqU x) pl (fun w hw=>fg rx fx r fs w (by simpa using hw)) ⟨.bl _,H,I,rfl,?_⟩;rw[show its.toArray.any (eqU x)=its.any (eqU x) by simp,gO r fs];exact q
inductive C6 (K:W.Frag) (xs:List V) (H:Hp) (Q:VK):Prop
 | mk (p:Addr) (ys:List V) (e:xs = [.ref p]) (s:SqL K H p ys∨SqT K H p ys) (q:Q (.int ys.length) H):C6 K xs H Q
theorem bz:gP X (.builtin "len") (C6 X.K):=by
 intro pins s σ H xs us Q I r h;obtain⟨p,ys,rfl,hq,q⟩:=h;obtain⟨u,rfl,rx⟩:=dj r;cases rx;have hn:=kv;rcases hq with hq|hq
 ·obtain⟨its,r',pl,hz⟩:=I.list hq
  have hlen:=r'.length;exact Calls.call_len_list pl.isList (by simp only[List.size_toArray] <;> omega) ⟨.int ys.length,H,I.tok _,⟨s.toks+1,by rw[List.size_toArray,hlen]⟩,q⟩
 ·obtain⟨its,r',pl,hz⟩:=I.tuple hq
  have hlen:=r'.length;exact len_tuple pl (by simp only[List.size_toArray] <;> omega) ⟨.int ys.length,H,I.tok _,⟨s.toks+1,by rw[List.size_toArray,hlen]⟩,q⟩
def tyV(K:W.Frag)(T:String)(x:V)(H:Hp):Prop:=match x with
 | .str _=>T = "str"
 | .int _=>T = "int"
 | .ref p=>(T = "list"∧∃xs,SqL K H p xs)∨(T = "tuple"∧∃o,K.lookup p=some o∧o.cls = .type "tuple"∧o.dict=none) ∨
   (T = "dict"∧((∃kvs,H p=some (.dK kvs))∨∃kvs,H p=some (.dT kvs)))∨(T = "set"∧∃S n,H p=some (.set S n))
 | _=>False
theorem tt{pins:List (Addr×Obj)}{σ:St}{H:Hp}{s:Shared}{T:String}{x:V}{v:Value}(I:vO X pins σ H s)(r:bj x v)(ty:tyV X.K T x H) :
  s.TypeIs v T∧∀a,v = .ref a->∃ob,s.heap.get? a=some ob∧ob.dict=none:=by
 cases x with
 | str z =>
  obtain⟨t,rfl⟩:=r;cases (show T = "str" from ty);exact⟨typeIs_str s z t,fun _ e=>nomatch e⟩
 | int i =>
  obtain⟨t,rfl⟩:=r;cases (show T = "int" from ty);exact⟨typeIs_int s i t,fun _ e=>nomatch e⟩
 | ref p =>
  cases r;rcases ty with⟨rfl,xs,hq⟩|⟨rfl,o,hk,hc,hd⟩|⟨rfl,hk⟩|⟨rfl,S,n,hk⟩
  ·obtain⟨its,_,pl,_⟩:=I.list hq
   refine⟨pl.isList.typeIs,fun a e=>?_⟩;cases e;obtain⟨o,n,e,c,hd,_⟩:=pl;exact⟨o,e,hd⟩
  ·refine⟨⟨o,I.kIn p o hk,hc⟩,fun a e=>?_⟩
   cases e;exact⟨o,I.kIn _ o hk,hd⟩
  ·have z:∃o,s.heap.get? p=some o∧o.ExactDict:=by
    rcases hk with⟨kvs,hk⟩|⟨kvs,hk⟩
    ·obtain⟨_,_,_,_,o,_,_,e,ex,_⟩:=I.hok p _ hk
     exact⟨o,e,ex⟩
    ·obtain⟨_,_,_,_,o,_,_,e,ex,_⟩:=I.hok p _ hk
     exact⟨o,e,ex⟩
   obtain⟨o,e,ex⟩:=z;refine⟨⟨o,e,ex.1⟩,fun a e2=>?_⟩;cases e2;exact⟨o,e,ex.2.1⟩
  ·obtain⟨o,_,_,_,e,ex,_⟩:=I.hok p _ hk
   refine⟨⟨o,e,ex.1⟩,fun a e2=>?_⟩;cases e2;exact⟨o,e,ex.2.1⟩
 | _=>exact False.elim ty
def tBM(K:W.Frag)(T:String)(r:V->List V->Hp->VK->Prop)(to:TE)(t:TA):TE:=fun σ H Q=>to σ H fun x H1=>tyV K T x H1∧t σ H1 fun xs H2=>r x xs H2 Q
variable {o e:Expr} {es:List Expr} {to:TE} {t:TA} {name:Str} {apos cpos:Pos} {T id:String} {r:V->List V->Hp->VK->Prop}
theorem i8(pa:PlainAttrs T)(slot:Slot T name id)(hty:typeOf (.builtin id)=pure (.type "method_descriptor"))(hm:MtR X id r)(ho:PE X o to)(ha:PA X (e::es) t)
  (hbase:attributeBase o name X.env (eval o X.env)=eval o X.env:=by rfl)
  (hfew:((backTo cpos (starEach (e::es) X.env)).all (fun x=>!x.1) && (backToKw cpos (keywordEach [] X.env)).all (fun x=>x.1.isSome)
   && decide ((e::es).length+([]:List Keyword).length+(if ([]:List Keyword).isEmpty then 0 else 1)<30))=true:=by rfl)
  (hline:(apos.endLine == cpos.line)=true:=by rfl) (hs:starEach (e::es) X.env=(false,eval e X.env)::starEach es X.env:=by rfl) (hplain:(backTo cpos (starEach es X.env)).any (·.1)=false:=by rfl) :
  PE X (.Call (.Attribute o name apos) (e::es) [] cpos) (tBM X.K T r to t):=by
 intro pins s σ H Q I h;refine wpAny_Call_method_late hbase hfew hline rfl (thn (ho pins s σ H _ I h) fun v s1 ⟨x,H1,I1,r1,ty,q1⟩=>?_);obtain⟨h1,h2⟩:=tt I1 r1 ty;refine⟨T,id,pa,slot,hty,h1,h2,?_⟩;have hA:=ha cpos pins s1 σ H1 _ I1 q1;rw[hs]at hA ⊢;refine Calls.callWith_builtin (by show(false || (backTo cpos (starEach es X.env)).any (·.1))=false;rw[hplain] <;> rfl) (Calls.evalArgs_plain ?_);exact thn hA fun us s2 ⟨vs,H2,I2,r2,q2⟩=>hm pins s2 σ H2 x vs v us Q I2 r1 r2 q2
end
end L2
namespace L2
open PySem PySem.Spec PyProof.Rows
def MtM(X:Cx)(id:String)(r:V->List V->Hp->VK->Prop):Prop :=
 ∀(pins:List (Addr×Obj)) (s:Shared) (σ:St) (H:Hp) (x:V) (xs:List V) (v:Value) (us:List Value) (Q:VK),vO X pins σ H s->bj x v->aM xs us->r x xs H Q ->
  wpAny (model X.prog X.w) X.A (call (.builtin id) (v::us)) (EP X pins σ Q) X.xe s
theorem aM.one:∀{x:V} {us:List Value},aM [x] us->∃u,us = [u]∧bj x u
 | _,_,.cons r .nil=>⟨_,rfl,r⟩
theorem aM.reverse{xs:List V}{us:List Value}(h:aM xs us):aM xs.reverse us.reverse:=by
 induction h with
 | nil=>exact .nil
 | cons r t ih=>rw[List.reverse_cons,List.reverse_cons];exact aM.append ih (.cons r .nil)
theorem aM.rep{xs:List V}{us:List Value}(h:aM xs us):∀k:Nat,aM (List.replicate k xs).flatten (List.replicate k us).flatten
 | 0=>.nil
 | k+1=>by
  rw[List.replicate_succ,List.replicate_succ,List.flatten_cons,List.flatten_cons];exact aM.append h (aM.rep h k)
theorem j6(its:List Value):∀(k:Nat) (acc:List Value),
  List.foldl (fun x1 x2=>x1++x2) acc.toArray (List.replicate k its.toArray)=(acc++(List.replicate k its).flatten).toArray
 | 0,acc=>by simp
 | k+1,acc=>by
  have e:acc.toArray++its.toArray=(acc++its).toArray:=by simp
  have e2:(acc++its)++(List.replicate k its).flatten=acc++(List.replicate (k+1) its).flatten:=by
   rw[List.replicate_succ,List.flatten_cons,List.append_assoc]
  rw[<- e2,<- j6 its k (acc++its),<- e,List.replicate_succ,List.foldl_cons]
section
variable {X:Cx} {pins:List (Addr×Obj)} {σ:St} {H:Hp} {s:Shared} {l b:Addr} {xs ys zs:List V}
theorem vO.lset{its its':List Value}{n:Nat}{f:Array Value->Array Value}{t':Nat}(I:vO X pins σ H s)(hH:H l=some (.lst xs))
  (e:s.heap.get? l=some { cls:=.type "list",data:=.seq its.toArray n }) (hf:f its.toArray=its'.toArray) (hv:aM ys its') (hz:ys.length≤sizeLine) :
  vO X pins σ (upd H l (.lst ys)) { s with heap:=s.heap.update l (Obj.mapSeq f),toks:=t' }:=by
 have q:=PySem.IsL.update e f;rw[hf]at q;refine I.write (x:=l) (e:=l) (by rw[hH];exact trivial) (.inl rfl) (fun b' u hb hu=>(Heap.get?_update_other s.heap (Obj.mapSeq f) (Ne.symm hb)).trans hu) ⟨_,q⟩ ?_;exact⟨hz,its',_,hv,q⟩
theorem vO.lnew{its:List Value}{t':Nat}(I:vO X pins σ H s)(hv:aM ys its)(hz:ys.length≤sizeLine) :
  vO X pins σ (upd H s.heap.objs.size (.lst ys)) { s with heap:=s.heap.push { cls:=.type "list",data:=.seq its.toArray },toks:=t' } :=
 I.laid (fun _ _ q=>Heap.get?_push_of_some _ q) (Nat.le_refl _) ⟨hz,its,0,hv,Heap.get?_push_size _ rfl⟩
theorem vO.fresh(I:vO X pins σ H s):H s.heap.objs.size=none:=I.hok.fresh (Nat.le_refl _)
theorem vO.lstM(I:vO X pins σ H s)(hH:H l=some (.lst xs)):xs.length≤sizeLine∧∃(its:List Value) (n:Nat),aM xs its∧xs.length=its.length∧s.heap.get? l=some { cls:=.type "list",data:=.seq its.toArray n }:=by
 obtain⟨z,its,n,r,e⟩:=I.hok l _ hH;exact⟨z,its,n,r,r.length,e⟩
theorem pH{n:Nat}(h:n≤sizeLine):Builtin.List.listTooLong n=false:=by
 unfold Builtin.List.listTooLong;exact decide_eq_false (by omega)
end
section
variable {X:Cx}
def q9:V->List V->Hp->VK->Prop:=fun x vs H Q=>∃l xs y,x = .ref l∧vs = [y]∧H l=some (.lst xs)∧xs.length<sizeLine∧Q .non (upd H l (.lst (xs++[y])))
theorem gY:MtM X "list.append" q9:=by
 intro pins s σ H x vs v us Q I rx rv h;obtain⟨l,xs,y,rfl,rfl,hH,hz,q⟩:=h;cases rx;obtain⟨u,rfl,ru⟩:=rv.one;obtain⟨z,its,n,r,hl,e⟩:=I.lstM hH;refine call_meets F.slot_list_append ⟨_,e,rfl⟩ F.entry_list_append (F.args_list_append_2 _ _) (PySem.list_append l its.toArray n u (by rw[List.size_toArray];omega)) ⟨e,?_⟩;refine⟨.non,_,I.lset (its':=its++[u]) hH e (by simp) (r.append (.cons ru .nil)) ?_,rfl,q⟩;rw[List.length_append,List.length_singleton];omega
def vC:R2:=fun x y H Q=>∃l b xs zs,x = .ref l∧y = .ref b∧H l=some (.lst xs)∧H b=some (.lst zs)∧xs.length+zs.length≤sizeLine∧∀p,H p=none->Q (.ref p) (upd H p (.lst (xs++zs)))
theorem tV:OpR X (binaryOp .Add) vC:=by
 intro pins s σ H x y v u Q I rx ry h;obtain⟨l,b,xs,zs,rfl,rfl,hH,hB,hz,q⟩:=h;cases rx;cases ry;obtain⟨z,its,n,r,hl,e⟩:=I.lstM hH;obtain⟨z2,its2,n2,r2,hl2,e2⟩:=I.lstM hB;refine PySem.P.add_list e e2 ?_ (by rw[List.size_toArray,List.size_toArray];omega);have ea:its.toArray++its2.toArray=(its++its2).toArray:=by simp
 rw[ea];exact⟨.ref _,_,I.lnew (t':=s.toks) (r.append r2) (by rw[List.length_append];omega),rfl,q _ I.fresh⟩
def vB:R2:=fun x y H Q=>∃l k xs,x = .ref l∧y = .int k∧H l=some (.lst xs)∧-(2^63)≤k∧k<2^63∧xs.length*k.toNat≤sizeLine ∧
 ∀p,H p=none->Q (.ref p) (upd H p (.lst (List.replicate k.toNat xs).flatten))
theorem rO{α:Type}(xs:List α)(k:Nat):(List.replicate k xs).flatten.length=k*xs.length:=by
 induction k with
 | zero=>simp
 | succ k ih=>rw[List.replicate_succ,List.flatten_cons,List.length_append,ih,Nat.succ_mul,Nat.add_comm]
theorem tT:OpR X (binaryOp .Mult) vB:=by
 intro pins s σ H x y v u Q I rx ry h;obtain⟨l,k,xs,rfl,rfl,hH,h1,h2,hz,q⟩:=h;cases rx;obtain⟨t,rfl⟩:=ry;obtain⟨z,its,n,r,hl,e⟩:=I.lstM hH;have hlen:its.toArray.size*k.toNat≤sizeLine:=by rw[List.size_toArray,<- hl];exact hz
 have hcap:¬its.toArray.size*k.toNat>(2^63 - 1) / 8:=by
  have:(sizeLine:Nat)≤(2^63 - 1) / 8:=by decide
  omega
 have hfit:¬(!Builtin.List.listFitsIndex k)=true:=by
  rw[fitsIndex_both h1 h2];exact Bool.false_ne_true
 have hlong:¬Builtin.List.listTooLong (its.toArray.size*k.toNat)=true:=by
  rw[pH hlen];exact Bool.false_ne_true
 have hnew:List.foldl (fun x1 x2=>x1++x2) #[] (List.replicate (if its.toArray.isEmpty=true then 0 else k.toNat) its.toArray)=(List.replicate k.toNat its).flatten.toArray:=by
  have f0:∀m:Nat,List.foldl (fun x1 x2=>x1++x2) #[] (List.replicate m its.toArray)=(List.replicate m its).flatten.toArray:=fun m=>by
   have:=j6 its m [];rw[List.nil_append]at this;exact this
  rw[f0];cases its with
  | nil=>simp
  | cons a r'=>rw[if_neg (by simp)]
 refine wpAny_binaryOp_repeat_ref (T:="list") (U:="int") (by decide) ⟨_,e,rfl⟩ (fun s'=>typeIs_int s' k t) noFill_list_mul F.fills_int_mul F.slot_int_rmul repeat_list F.slot_int_index.lookup
  (call_meets F.slot_int_rmul (typeIs_int s k t) F.entry_int_rmul (F.args_int_rmul_2 _ _) (int___rmul___int_list k t l its.toArray n)
   ⟨e,rfl,⟨_,e,rfl⟩,call_meets F.slot_list_mul ⟨_,e,rfl⟩ F.entry_list_mul (F.args_list_mul_2 _ _) (AutoListH.list___mul___list_int_3 l its.toArray n k t hfit hcap hlong) ⟨e,?_⟩⟩)
 rw[hnew];exact⟨.ref _,_,I.lnew (t':=s.toks) (r.rep k.toNat) (by rw[rO,Nat.mul_comm];exact hz),rfl,q _ I.fresh⟩
end
section
variable {prog:Program} {w:World} {A:Around} {E:Value->Shared->Prop} {s:Shared}
set_option maxRecDepth 100000 in
end
section
variable {X:Cx}
end
end L2
namespace Att
open PySem PySem.W PySem.Calls PyProof.Rows
theorem iw{P:Params}{h:Heap}:∀(ns:List Int) (vs:List Value),WellAll P h vs (ns.map WData.int)->IntsAre vs ns:=by
 intro ns
 induction ns with
 | nil =>
  intro vs w;rw[List.map_nil]at w;cases w;exact .nil
 | cons n ns ih =>
  intro vs w;rw[List.map_cons]at w;cases w with
  | cons a b =>
   cases a;exact .cons _ _ (ih _ b)
theorem ow{l:OpenLaw}{n:Nat}(hn:l.most=some n){P:Params}{h:Heap}{args:List WData}{vals:List Value}
  (hpre:l.row.toRowW.claim.pre args=true) (hwl:WellAll P h vals args) :
  ∃a vs ns,vals = [Value.ref a]∧args = [WData.list (ns.map WData.int)]∧h.get? a=some { cls:=.type "list",data:=.seq vs.toArray }∧IntsAre vs ns∧ns.length≤n:=by
 have hsh:WShape.hasAll [] args [.list .int]=true:=(pre_splitW hpre).1;have hc:l.pre.holds [] { args:=args }=true:=(pre_splitW hpre).2;obtain⟨d,r,rfl,h1,h2⟩:=hasAllW_cons hsh;obtain rfl:=hasAllW_nil h2;obtain⟨xs,rfl,h3⟩:=hasW_list h1;obtain⟨ns,rfl⟩:=items_int h3;have hlen:ns.length≤n:=by
  unfold OpenLaw.pre at hc;have h4:(WTm.not (.lt (.lit (.int (n:Int))) (.len (.arg 0)))).holds [] { args:=[.list (ns.map .int)] }=true:=by
   have h4:=(holds_andW hc).1;rw[hn]at h4;exact h4
  have h5:=condW_of h4 (w_not (w_lt w_lit (w_len_list (w_arg rfl))));rw[List.length_map]at h5;refine Nat.le_of_not_lt fun q=>?_;have q':(n:Int)<((ns.length:Nat):Int):=by omega
  first
   | (rw[decide_eq_true q']at h5;exact absurd h5 (by decide))
   | (simp at h5;omega)
 cases hwl with
 | cons w1 w2 =>
  cases w2;cases w1 with
  | list ho hall=>exact⟨_,_,ns,rfl,rfl,ho,iw ns _ hall,hlen⟩
theorem ox(l:OpenLaw)(args:List WData):l.row.toRowW.claim.post args (.bool true) args=true :=
 postW_of (r:=l.row.toRowW) (X:=(true == true))
  (show WShape.has [] (.bool true) .bool=true by first|rfl|decide|simp[WShape.has,WShape.arms,WShape.armsAll])
  (show(WTm.eq .res (.lit (.bool true))).value [] { args:=args,res:=some (.bool true),after:=args }=some (.bool (true == true)) from w_eq_bool (w_res rfl) w_lit) rfl
theorem attach_call{l:OpenLaw}{n:Nat}{q:Program}{loose:List Str}{XP:(Str->Option Value)->Heap->Prop}{YP:World->Heap->Prop}{d:DefRec}
  (hn:l.most=some n) (hdf:d.params.defaults = [])
  (call:∀(w:World) (s₀ s₁:Shared) (mg mb:Str->Option Value) (fa:Addr) (o:Obj) (pm cd doc:Value) (a:Addr) (vs:List Value) (ns:List Int),
   Ground q loose [] XP w s₀ mg mb s₁.heap->YP w s₁.heap ->
   s₁.heap.get? fa=some o->o.data = .func (docDef d.name d.params d.body d.scope pm cd doc)->s₁.heap.CodeRec cd d.name->mg d.name=some (.ref fa) ->
   s₁.heap.get? a=some { cls:=.type "list",data:=.seq vs.toArray }->IntsAre vs ns->ns.length≤n->s₁.gens = #[] ->
   codeAny (model l.prog w) callerA (.call (.ref fa) ⟨[.ref a],[]⟩) (fun r s'=>r = .ok (.ret (.bool true))∧OldK s₁.heap s'.heap∧s'.os=s₁.os∧AllBare s'.gens) s₁) :
  WalkO q loose XP YP l.row.toRowW d [] (fun f vs=>PySem.call f vs):=by
 intro w s₀ s₁ mg mb G Y fa o pm cd doc dV kV ho hd hcd hD hmg hg args vals as hpre hlay hrd hwl hlo;obtain rfl:dV = .none:=Dflts.none hD hdf;obtain rfl:kV = .none:=Dflts.noKw hD;obtain⟨a,vs,ns,rfl,rfl,hobj,hints,hlen⟩:=ow hn hpre hwl;refine enter_call (codeAny_mono (call w s₀ s₁ mg mb fa o pm cd doc a vs ns G Y ho (fd_plain hd) hcd hmg hobj hints hlen hg) fun r s' hq=>?_);obtain⟨rfl,h2,h3,h4⟩:=hq;exact⟨.inl ⟨.bool true,.bool true,[],rfl,fun _=>rfl,.bool true,ox l _,fun _=>⟨List.Pairwise.nil,fun _ hm=>(nomatch hm)⟩⟩,h2,h3,h4⟩
section
variable {prog:Program} {w:World} {A:Around} {E:Value->Shared->Prop} {s:Shared} {K:Frag}
end
end Att
namespace L2
open PySem PySem.Spec PyProof.Rows
theorem jI:∀{vs:List Value} {ns:List Int},IntsAre vs ns->aM (ns.map V.int) vs
 | _,_,.nil=>.nil
 | _,_,.cons n t h=>.cons ⟨t,rfl⟩ (jI h)
def uD(H:Hp):Prop:=∀b,H b=none∨∃o xs,H b=some (.frz o (.lst xs))
theorem qe{P:Program}{w:World}{K:W.Frag}{mg mb:Str->Option Value}{CX:CXT}{k:Nat}{fa a:Addr}{fd:FuncData}{x:Str}{sp:Sp}{s₁:Shared}{vs:List Value}{ns:List Int}
  (KX:K.In s₁.heap) (hns:s₁.heap.Ns mainGlobals mg) (hb:s₁.heap.Ns builtinsNs mb) (hbb:∀x:Str,x≠"__name__"->mb x=bootBuiltins x) (hlim:s₁.heap.NoLimit) (hg:s₁.gens = #[])
  (ha:s₁.heap.get? a=some { cls:=.type "list",data:=.seq vs.toArray }) (hi:IntsAre vs ns) (hl:ns.length≤sizeLine) (hr:xF k callerA)
  (F:∀base:Heap,K.In base->base.Ns mainGlobals mg->Aj P w K mg base CX k fa fd [x] sp) (hbind:∀(s:Shared) (u:Value),BindsTo s fd ⟨[u],[]⟩ [(x,u)])
  (hsp:∀H:Hp,uD H->SqL K H a (ns.map V.int)->sp [.ref a] H (fun v _=>v = .bl true) fun _ _ _=>False)
  (hCX:∀H e s',CX [] H s₁ (fun _ _ _=>False) e s'->False) :
  codeAny (model P w) callerA (.call (.ref fa) ⟨[.ref a],[]⟩) (fun r s'=>r = .ok (.ret (.bool true))∧OldK s₁.heap s'.heap∧s'.os=s₁.os∧AllBare s'.gens) s₁:=by
 have rv:=jI hi;have lenV:=hi.length;have core:∀H:Hp,uD H->SqL K H a (ns.map V.int)->HOk P w H s₁.heap->(∀b,H b≠none->b=a)->(H a≠none->K.lookup a=none) ->
   codeAny (model P w) callerA (.call (.ref fa) ⟨[.ref a],[]⟩) (fun r s'=>r = .ok (.ret (.bool true))∧OldK s₁.heap s'.heap∧s'.os=s₁.os∧AllBare s'.gens) s₁:=by
  intro H hO hS hok hA hK;have base_of:∀{b:Addr} {o:Obj},s₁.heap.get? b=some o->H b=none->(kF s₁.heap H).get? b=some o:=fun e n=>ql e n;have noA:∀{b:Addr} {o:Obj} {es:Array DictEntry} {ep:Nat},s₁.heap.get? b=some o->o.data = .dict es ep->H b=none:=fun {b o es ep} e d=>by
   cases q:H b with
   | none=>rfl
   | some u =>
    have e':b=a:=hA b (by rw[q];simp);subst e';rw[ha]at e;cases e;have d':Data.seq vs.toArray _=Data.dict es ep:=d;cases d'
  have nsK:∀{b:Addr} {m:Str->Option Value},s₁.heap.Ns b m->(kF s₁.heap H).Ns b m:=fun {b m} ⟨o,es,ep,e,d,r⟩=>⟨o,es,ep,base_of e (noA e d),d,r⟩;have hKb:K.In (kF s₁.heap H):=fun b o e=>base_of (KX b o e) (by
   cases q:H b with
   | none=>rfl
   | some u =>
    have e':b=a:=hA b (by rw[q];simp);subst e';rw[hK (by rw[q];simp)]at e;cases e)
  have hM:Mod K mg (kF s₁.heap H):=⟨hKb,nsK hns,⟨mb,nsK hb,hbb⟩,let ⟨mc,h1,h2⟩:=hlim;⟨mc,nsK h1,h2⟩⟩;have e0:C3 P w K mg (kF s₁.heap H) callerA [] s₁ H:=⟨rfl,hM,fun b o e=>rE e,Nat.le_of_eq (oN _ _),trivial,fun b hb=>absurd (show b∈([]:List Addr) from hb) (by simp),hok,.of_eq hg⟩;refine codeAny_mono ((F _ hKb (nsK hns)).run callerA [] s₁ H ⟨[.ref a],[]⟩ [.ref a] [.ref a] _ _ hr e0 (hbind s₁ (.ref a)) (.cons rfl .nil) (hsp H hO hS)) fun r s' h=>?_;cases r with
  | error e=>exact(hCX H e s' h).elim
  | ok fl =>
   cases fl with
   | next=>exact False.elim h
   | brk=>exact False.elim h
   | cont=>exact False.elim h
   | ret u =>
    obtain⟨v,H',os,bare,un,hok',r',q⟩:=h;have q':v = .bl true:=q;subst q';obtain rfl:u=Value.bool true:=r';refine⟨rfl,OldK.of_keep fun b o e=>?_,os,bare⟩;cases q:H b with
    | none=>exact un.keep b o e q (by intro z;exact absurd (show b∈([]:List Addr) from z) (by simp)) (by simp)
    | some u =>
     rcases hO b with z|⟨ob,xs,z⟩
     ·rw[q]at z;cases z
     ·have z2:=un.frzs b ob _ z
      obtain⟨e1,_⟩:=hok b _ z;obtain⟨e2,_⟩:=hok' b _ z2;rw[e]at e1;cases e1;exact e2
 cases hk:K.lookup a with
 | some o =>
  have e:=KX a o hk;rw[ha]at e;cases e;refine core (fun _=>none) (fun _=>.inl rfl) (.inr ⟨_,vs.toArray,_,hk,rfl,rfl,rfl,by rw[List.size_toArray,lenV];exact hl,by simpa using rv⟩) (fun b u z=>by have z':(none:Option HO)=some u:=z;cases z') (fun b z=>absurd rfl z) fun z=>absurd rfl z
 | none =>
  refine core (fun b=>if b=a then some (.frz { cls:=.type "list",data:=.seq vs.toArray } (.lst (ns.map V.int))) else none) (fun b=>?_) (.inl (.inr ⟨{ cls:=.type "list",data:=.seq vs.toArray },if_pos rfl⟩)) (fun b u z=>?_) (fun b z=>?_) fun _=>hk
  ·by_cases hb:b=a
   ·exact .inr ⟨_,_,if_pos hb⟩
   ·exact .inl (if_neg hb)
  ·by_cases hb:b=a
   ·have z':=(if_pos hb).symm.trans z
    cases z';subst hb;exact⟨ha,by rw[List.length_map];exact hl,vs,_,rv,ha⟩
   ·have z':=(if_neg hb).symm.trans z
    cases z'
  ·by_cases hb:b=a
   ·exact hb
   ·exact absurd (if_neg hb) z
end L2
namespace L2
open PySem PySem.Spec PyProof.Rows
theorem walk_of{l:W.OpenLaw}{n k:Nat}{q:Program}{loose:List Str}{XP:(Str->Option Value)->Heap->Prop}{YP:World->Heap->Prop}{d:DefRec}{K:Params->W.Frag}{CX:World->CXT}{sp:World->Sp}{x:Str}
  (hn:l.most=some n) (hn2:n≤sizeLine) (hdf:d.params.defaults = []) (hr:xF k callerA)
  (hY:∀(w:World) (h:Heap),YP w h->(K w.params).In h)
  (F:∀(w:World) (mg:Str->Option Value) (fa:Addr) (h:Heap),(K w.params).In h->h.Ns mainGlobals mg->mg d.name=some (.ref fa) ->
   ∃fd:FuncData,(∀(s:Shared) (u:Value),BindsTo s fd ⟨[u],[]⟩ [(x,u)]) ∧
    ∀base:Heap,(K w.params).In base->base.Ns mainGlobals mg->Aj l.prog w (K w.params) mg base (CX w) k fa fd [x] (sp w))
  (hsp:∀(w:World) (H:Hp) (a:Addr) (ns:List Int),ns.length≤n->uD H->SqL (K w.params) H a (ns.map V.int)->sp w [.ref a] H (fun v _=>v = .bl true) fun _ _ _=>False)
  (hCX:∀(w:World) (H:Hp) (s:Shared) (e:Value) (s':Shared),CX w [] H s (fun _ _ _=>False) e s'->False) :
  W.WalkO q loose XP YP l.row.toRowW d [] (fun f vs=>PySem.call f vs):=by
 refine Att.attach_call hn hdf fun w s₀ s₁ mg mb fa o pm cd doc a vs ns G Y ho hd hcd hmg hobj hints hlen hg=>?_;have KX:=hY w _ Y;obtain⟨fd,hb,hF⟩:=F w mg fa _ KX G.T.g hmg;exact qe KX G.T.g G.T.b G.T.builtins G.T.nolimit hg hobj hints (Nat.le_trans hlen hn2) hr hF hb (fun H hO hS=>hsp w H a ns hlen hO hS) fun H e s'=>hCX w H s₁ e s'
end L2
namespace L2
open PySem PySem.Spec PyProof.Rows
def aU(s:Stmt):Arguments:=match s with
 | .FunctionDef _ a _ _ _ _ _ _ _ _=>a
 | _=>{ posonlyargs:=[],args:=[],vararg:=none,kwonlyargs:=[],kw_defaults:=[],kwarg:=none,defaults:=[] }
def az(s:Stmt):List Stmt:=match s with
 | .FunctionDef _ _ b _ _ _ _ _ _ _=>b
 | _=>[]
def ag(s:Stmt):Scope:=match s with
 | .FunctionDef _ _ _ _ _ _ sc _ _ _=>sc
 | _=>{ kind:=.function,names:=[],isGenerator:=false,isCoroutine:=false }
abbrev CX0:CXT:=fun _ _ _ _ _ _=>False
abbrev E0:XK:=fun _ _ _=>False
theorem uP{X:Cx}:jy CX0 X E0:=fun _ _ _ _ _ _ _ h=>h.elim
section
variable {P:Program} {w:World} {K:W.Frag} {mg:Str->Option Value} {base:Heap}
end
theorem bJ{n:Nat}(h:n≤1000):n<sizeLine:=Nat.lt_of_le_of_lt h (by decide)
section
variable {X:Cx}
theorem pv(i:Nat){x:Str}{pos:Pos}(hN:X.N[i]? = some x:=by rfl)(hv:Vis X.env.scope x:=by first|exact Or.inl rfl|exact Or.inr (Or.inl rfl)|exact Or.inr (Or.inr rfl))(hd:(x == ("__debug__" : Str))=false:=by decide)
  (hcd:(x == ("__classdict__" : Str))=false:=by decide):PE X (.Name x pos) (xh i):=tS hN hv hd hcd
end
theorem kC{A B:Prop}(h:B):if false=true then A else B:=by
 rw[if_neg Bool.false_ne_true];exact h
theorem oJ{A B:Prop}(h:A):if true=true then A else B:=by
 rw[if_pos rfl];exact h
def Same(H H':Hp):Prop:=∀b o,H b=some o->H' b=some o
theorem Same.refl(H:Hp):Same H H:=fun _ _ h=>h
theorem Same.trans{H H1 H2:Hp}(a:Same H H1)(b:Same H1 H2):Same H H2:=fun c o h=>b c o (a c o h)
theorem Same.free{H H':Hp}(e:Same H H'){l:Addr}(h:H' l=Option.none):H l=Option.none:=by
 cases q:H l with
 | none=>rfl
 | some o =>
  rw[e l o q]at h;cases h
theorem Same.seq{K:W.Frag}{H H':Hp}{a:Addr}{xs:List V}(e:Same H H')(h:SqL K H a xs):SqL K H' a xs:=by
 rcases h with(h|⟨o,h⟩)|h
 ·exact .inl (.inl (e _ _ h))
 ·exact .inl (.inr ⟨o,e _ _ h⟩)
 ·exact .inr h
end L2
end
section
set_option Elab.async false
set_option linter.all false
set_option maxRecDepth 100000
set_option maxHeartbeats 4000000
namespace Mth
theorem qm{a b:Int}(ha:0≤a)(hb:0<b):Int.gcd b (a % b)=Int.gcd a b:=by
 obtain⟨m,rfl⟩:=Int.eq_ofNat_of_zero_le ha;obtain⟨n,rfl⟩:=Int.eq_ofNat_of_zero_le (Int.le_of_lt hb);rw[<- Int.natCast_emod];show Nat.gcd (n:Int).natAbs ((m % n:Nat):Int).natAbs=Nat.gcd (m:Int).natAbs (n:Int).natAbs;simp only[Int.natAbs_natCast];rw[Nat.gcd_comm m n,Nat.gcd_comm n (m % n)];exact(Nat.gcd_rec n m).symm
theorem nK(a b:Int):Int.gcd (if a<0 then -a else a) b=Int.gcd a b:=by
 split
 ·exact Int.neg_gcd
 ·rfl
theorem qo(a b:Int):Int.gcd a (if b<0 then -b else b)=Int.gcd a b:=by
 rw[Int.gcd_comm,nK,Int.gcd_comm]
theorem gcd_zero{a:Int}(ha:0≤a):(Int.gcd a 0:Int)=a:=by
 rw[Int.gcd_zero];omega
structure wS(t b:Int):Prop where
 pos:1≤b
 one:Int.gcd t b=1
theorem da{a b:Int}(h:b≠0):0<(Int.gcd a b:Int):=by
 have:=Int.gcd_pos_of_ne_zero_right a h;omega
theorem uj(a b:Int):a=a / (Int.gcd a b:Int)*(Int.gcd a b:Int):=(Int.ediv_mul_cancel (Int.gcd_dvd_left a b)).symm
theorem nU(a b:Int):b=b / (Int.gcd a b:Int)*(Int.gcd a b:Int):=(Int.ediv_mul_cancel (Int.gcd_dvd_right a b)).symm
theorem sF{a b:Int}(hb:0<b):wS (a / (Int.gcd a b:Int)) (b / (Int.gcd a b:Int)):=by
 have hg:=da (a:=a) (b:=b) (by omega);refine⟨?_,?_⟩
 ·have h1:=nU a b
  have h2:0<b / (Int.gcd a b:Int):=Int.ediv_pos_of_pos_of_dvd hb (by omega) (Int.gcd_dvd_right a b);omega
 ·rw[Int.gcd_ediv (Int.gcd_dvd_left a b) (Int.gcd_dvd_right a b)]
  simp only[Int.natAbs_natCast];exact Nat.div_self (by omega)
theorem nB{t b t' b':Int}(h:wS t b)(e:t*b'=t'*b):b∣b':=by
 have h1:b.natAbs∣t.natAbs*b'.natAbs:=by
  rw[<- Int.natAbs_mul,e,Int.natAbs_mul];exact Nat.dvd_mul_left _ _
 have h2:Nat.Coprime b.natAbs t.natAbs:=by
  have:=h.one;unfold Nat.Coprime;rw[Nat.gcd_comm];exact this
 exact Int.natAbs_dvd_natAbs.mp (h2.dvd_of_dvd_mul_left h1)
theorem bq{t b t' b':Int}(h:wS t b)(h':wS t' b')(e:t*b'=t'*b):t=t'∧b=b':=by
 have d1:=nB h e;have d2:=nB h' e.symm;have p1:=h.pos;have p2:=h'.pos;have eb:b=b':=Int.le_antisymm (Int.le_of_dvd (by omega) d1) (Int.le_of_dvd (by omega) d2);subst eb;exact⟨Int.eq_of_mul_eq_mul_right (by omega) e,rfl⟩
structure vP(top bottom t b:Int):Prop where
 low:wS t b
 eq:top*b=t*bottom
theorem fA{a b:Int}(hb:0<b):vP a b (a / (Int.gcd a b:Int)) (b / (Int.gcd a b:Int)):=by
 refine⟨sF hb,?_⟩;have h1:=uj a b;have h2:=nU a b;generalize a / (Int.gcd a b:Int)=x at *;generalize b / (Int.gcd a b:Int)=y at *;generalize (Int.gcd a b:Int)=g at *;subst h1 h2
 grind
theorem j4{a b:Int}(hb:b≠0)(d:Int)(hd:d=if b<0 then -(Int.gcd a b:Int) else (Int.gcd a b:Int)):vP a b (a.fdiv d) (b.fdiv d):=by
 have hg:=da (a:=a) (b:=b) hb
 by_cases h:b<0
 ·rw[if_pos h]at hd
  have f:=fA (a:=-a) (b:=-b) (by omega);rw[Int.gcd_neg,Int.neg_gcd]at f;subst hd;have e1:a.fdiv (-(Int.gcd a b:Int)) = -a / (Int.gcd a b:Int):=by
   rw[<- Int.neg_fdiv_neg,Int.neg_neg];exact Int.fdiv_eq_ediv_of_nonneg _ (by omega)
  have e2:b.fdiv (-(Int.gcd a b:Int)) = -b / (Int.gcd a b:Int):=by
   rw[<- Int.neg_fdiv_neg,Int.neg_neg];exact Int.fdiv_eq_ediv_of_nonneg _ (by omega)
  rw[e1,e2];exact⟨f.low,by have:=f.eq;grind⟩
 ·rw[if_neg h]at hd
  subst hd;rw[Int.fdiv_eq_ediv_of_nonneg _ (by omega),Int.fdiv_eq_ediv_of_nonneg _ (by omega)];exact fA (by omega)
theorem il{a b t u t' u':Int}(hb:b≠0)(h:vP a b t u)(h':vP a b t' u'):t=t'∧u=u':=by
 refine bq h.low h'.low ?_;have e1:=h.eq;have e2:=h'.eq;have:b*(t*u')=b*(t'*u):=by grind
 exact Int.eq_of_mul_eq_mul_left hb this
theorem oQ{t u:Int}(h:wS t u):vP t u t u:=⟨h,rfl⟩
end Mth
namespace L2
open PySem PySem.Spec PyProof.Rows
abbrev ao(i:Int):Nat:=Builtin.Int.intBits i
theorem dn{i:Int}{n:Nat}(h:i.natAbs<2^n):ao i≤n:=intBits_le h
theorem dH{i:Int}{n:Nat}(h:ao i≤n):i.natAbs<2^n:=by
 unfold ao Builtin.Int.intBits at h
 by_cases h0:i=0
 ·subst h0
  exact Nat.pos_of_ne_zero (by simp)
 ·rw[if_neg (by simpa using h0)]at h
  have h1:i.natAbs≠0:=by omega
  exact(Nat.log2_lt h1).mp (by omega)
theorem fM{i j:Int}{n:Nat}(h:i.natAbs≤j.natAbs)(hj:ao j≤n):ao i≤n:=dn (Nat.lt_of_le_of_lt h (dH hj))
theorem bits_mul{i j:Int}{m n:Nat}(hi:ao i≤m)(hj:ao j≤n):ao (i*j)≤m+n:=by
 refine dn ?_;rw[Int.natAbs_mul,Nat.pow_add];exact Nat.mul_lt_mul'' (dH hi) (dH hj)
theorem cx{i j:Int}{n:Nat}(hi:ao i≤n)(hj:ao j≤n):ao (i+j)≤n+1:=by
 refine dn ?_;have h1:=dH hi;have h2:=dH hj;have h3:(2:Nat)^(n+1)=2*2^n:=by rw[Nat.pow_succ,Nat.mul_comm]
 omega
theorem aW{i j:Int}{n:Nat}(hi:ao i≤n)(hj:ao j≤n):ao (i - j)≤n+1:=by
 refine dn ?_;have h1:=dH hi;have h2:=dH hj;have h3:(2:Nat)^(n+1)=2*2^n:=by rw[Nat.pow_succ,Nat.mul_comm]
 omega
theorem bits_neg{i:Int}{n:Nat}(hi:ao i≤n):ao (-i)≤n:=fM (by omega) hi
theorem cy{i j:Int}{n:Nat}(hj:0<j)(hi:ao i≤n):ao (i / j)≤n:=by
 refine fM ?_ hi;exact Int.natAbs_ediv_le_natAbs i j
theorem fN{i j:Int}{n:Nat}(hi:ao i≤n):ao (i.fdiv j)≤n:=PySem.intBits_fdiv_le hi
theorem cG{i b:Int}{n:Nat}(h0:0≤i)(h1:i≤b)(hb:ao b≤n):ao i≤n:=fM (by omega) hb
theorem af{i:Int}{m n:Nat}(h:ao i≤m)(hm:m≤n):ao i≤n:=Nat.le_trans h hm
section
variable {X:Cx} {pos:Pos}
def CM(i j:Int):Prop:=IntMulOk i j
theorem CM.b{i j:Int}{m n:Nat}(hi:ao i≤m)(hj:ao j≤n)(hm:m≤2^20)(hn:n≤2^20):CM i j:=IntMulOk.of_bits (Nat.le_trans hi hm) (Nat.le_trans hj hn)
theorem CM.l{i j:Int}(h:-(2^64)<i∧i<2^64):CM i j:=sM.ok (.inl h)
theorem CM.r{i j:Int}(h:-(2^64)<j∧j<2^64):CM i j:=sM.ok (.inr h)
theorem aG:OpR X (binaryOp .Mult) (rI CM fun i j=>.int (i*j)):=opI fun _ _ _ _ _ _ _ hc q=>mul_int q hc
def CD(_ j:Int):Prop:=0<j∧ao j≤8000
theorem gD{j:Int}{n:Nat}(hj:j≠0)(h:ao j≤n)(hn:n≤9000):j.natAbs.log2<9000:=by
 have h1:j.natAbs≠0:=by omega
 have h2:=(Nat.log2_lt h1).mpr (dH h);omega
theorem bH:OpR X (binaryOp .FloorDiv) (rI CD fun i j=>.int (i / j)):=opI fun i j _ _ _ _ _ hc q=>by
 have h1:(0:Int)<j:=hc.1;exact floordiv_int (by omega) (by rw[Int.fdiv_eq_ediv_of_nonneg i (by omega)];exact q) (.inl (PyProof.noPylong_of_log2 (gD (by omega) hc.2 (by decide))))
def CDZ(_ j:Int):Prop:=j≠0∧ao j≤8000
theorem ln:OpR X (binaryOp .FloorDiv) (rI CDZ fun i j=>.int (i.fdiv j)):=opI fun i j _ _ _ _ _ hc q =>
 floordiv_int hc.1 q (.inl (PyProof.noPylong_of_log2 (gD hc.1 hc.2 (by decide))))
end
theorem qK:bootBuiltins "int" = some (.type "int"):=by decide +kernel
theorem sI:bootBuiltins "bool" = some (.type "bool"):=by decide +kernel
theorem ut:bootBuiltins "str" = some (.type "str"):=by decide +kernel
theorem mi:bootBuiltins "tuple" = some (.type "tuple"):=by decide +kernel
theorem n9:bootBuiltins "list" = some (.type "list"):=by decide +kernel
theorem cf:bootBuiltins "isinstance" = some (.builtin "isinstance"):=by decide +kernel
theorem jv:bootBuiltins "abs" = some (.builtin "abs"):=by decide +kernel
theorem dP:bootBuiltins "len" = some (.builtin "len"):=by decide +kernel
theorem ju:bootBuiltins "min" = some (.builtin "min"):=by decide +kernel
theorem mW:bootBuiltins "max" = some (.builtin "max"):=by decide +kernel
theorem jS{X:Cx}{x:Str}{T:String}{pos:Pos}(hm:X.mg x=none)(hv:bootBuiltins x=some (.type T))(hg:Gl X x:=by rfl)(hn:x≠"__name__":=by decide)(hd:(x == ("__debug__" : Str))=false:=by decide) :
  PE X (.Name x pos) (tC (.ty T)):=rA hg hm hv rfl hn hd
inductive Kn (H:Hp):V->String->Prop where
 | non:Kn H .non "NoneType"
 | bl (b:Bool):Kn H (.bl b) "bool"
 | int (i:Int):Kn H (.int i) "int"
 | str (x:Str):Kn H (.str x) "str"
 | lst {a:Addr} {xs:List V} (e:H a=some (.lst xs)):Kn H (.ref a) "list"
 | tup {a:Addr} {xs:List V} (e:H a=some (.tup xs)):Kn H (.ref a) "tuple"
 | dict {a:Addr} {kvs:List (Key×V)} (e:H a=some (.dK kvs)):Kn H (.ref a) "dict"
theorem Kn.ty{K:W.Frag}{H:Hp}{x:V}{t:String}(k:Kn H x t):Ao K H x (.type t):=by
 cases k with
 | non=>exact .non
 | bl b=>exact .bl b
 | int i=>exact .int i
 | str x=>exact .str x
 | lst e=>exact .lst e
 | tup e=>exact .tup e
 | dict e=>exact .dK e
theorem Kn.mono{H H':Hp}{x:V}{t:String}(k:Kn H x t)(s:Same H H'):Kn H' x t:=by
 cases k with
 | non=>exact .non
 | bl b=>exact .bl b
 | int i=>exact .int i
 | str x=>exact .str x
 | lst e=>exact .lst (s _ _ e)
 | tup e=>exact .tup (s _ _ e)
 | dict e=>exact .dict (s _ _ e)
def fk(t T:String):Bool:=t == T || (t == "bool" && T == "int")
def qU(T:String):Prop:=T = "int"∨T = "bool"∨T = "tuple"∨T = "list"∨T = "str"
theorem t6(K:W.Frag){H:Hp}{x:V}{t T:String}(k:Kn H x t)(n:qU T):W.kitOne K (.type t) (.type T)=some (fk t T):=by
 rcases n with rfl|rfl|rfl|rfl|rfl <;> cases k <;> kernel_rfl
inductive Dt (xs:List V) (H:Hp) (Q:VK):Prop
 | mk (x:V) (t T:String) (e:xs = [x,.ty T]) (k:Kn H x t) (n:qU T) (q:Q (.bl (fk t T)) H):Dt xs H Q
theorem cJ{X:Cx}:gP X (.builtin "isinstance") Dt:=by
 intro pins s σ H xs us Q I rs h;obtain⟨x,t,T,rfl,k,n,q⟩:=h;obtain⟨u,v,rfl,ru,rv⟩:=o3 rs;cases (show v=Value.type T from rv);exact oK I ru k.ty (t6 X.K k n) fun tk=>⟨.bl _,H,I.tok _,rfl,q⟩
structure Fn(P:Program)(w:World)(K:W.Frag)(mg:Str->Option Value)(base:Heap)(x:Str)(ps:List Str)(k:Nat)(sp:Sp):Prop where
 ex:∃(f:Addr) (fd:FuncData) (o:Obj),mg x=some (.ref f)∧W.keepIn K (.ref f)=true∧(∀us:List Value,us.length=ps.length->bindArgs fd ⟨us,[]⟩=pure (ps.zip us))∧(K.lookup f=some o∧o.data = .func fd)∧Aj P w K mg base CX0 k f fd ps sp
theorem ak{X:Cx}{x:Str}{ps:List Str}{k:Nat}{sp:Sp}{p pos:Pos}{e:Expr}{es:List Expr}{t:TA}(F:Fn X.prog X.w X.K X.mg X.base x ps k sp)(hr:xF k X.A)(hg:Gl X x)(ha:PA X (e::es) t)
  (hdb:(x == ("__debug__" : Str))=false:=by decide) (he:starEach (e::es) X.env=(false,eval e X.env)::starEach es X.env:=by rfl) (hpl:(backTo pos (starEach es X.env)).any (·.1)=false:=by rfl) :
  PE X (.Call (.Name x p) (e::es) [] pos) (eF sp [] E0 t):=by
 obtain⟨f,fd,o,hm,hk,hb,_,G⟩:=F.ex;exact iD G hr hg hm hk (.all hb) .nil uP ha hdb he hpl
structure Df(K:W.Frag)(mg:Str->Option Value)(x:Str)(st:Stmt):Prop where
 ex:∃(f:Addr) (oc:Value) (od:Option Addr) (kV doc pm:Value) (an:Option Addr) (cdv ct:Value) (osl:Array (Option Value)),
  mg x=some (.ref f)∧K.lookup f=some ⟨oc,od,.func (W.fnOf x x (aU st) (az st) (ag st) .none kV doc pm an cdv ct),osl⟩∧W.codeIn K cdv x=true∧W.keepIn K (.ref f)=true
theorem vm{K:W.Frag}{mg:Str->Option Value}{h:Heap}{x:Str}{st:Stmt}{f:Addr}{oc:Value}{od an:Option Addr}{osl:Array (Option Value)}{kV doc pm cdv ct:Value}(X:K.In h)(G:h.Ns mainGlobals mg)
  (a:W.nsIn K mainGlobals x=some (some (.ref f))) (l:K.lookup f=some ⟨oc,od,.func (W.fnOf x x (aU st) (az st) (ag st) .none kV doc pm an cdv ct),osl⟩) (c:W.codeIn K cdv x=true) (k:W.keepIn K (.ref f)=true) :
  Df K mg x st:=⟨⟨f,oc,od,kV,doc,pm,an,cdv,ct,osl,W.mg_of X G a,l,c,k⟩⟩
theorem Df.fn{P:Program}{w:World}{K:W.Frag}{mg:Str->Option Value}{base:Heap}{x:Str}{st:Stmt}{N ps:List Str}{k:Nat}{sp:Sp}(D:Df K mg x st)(S:vL N ps (ag st))
  (hbind:∀(kV doc pm:Value) (an:Option Addr) (cdv ct:Value) (us:List Value),us.length=ps.length->bindArgs (W.fnOf x x (aU st) (az st) (ag st) .none kV doc pm an cdv ct) ⟨us,[]⟩=pure (ps.zip us))
  (len:∀vs H Q E,sp vs H Q E->vs.length=ps.length)
  (hbody:∀(f:Addr) (cdv:Value) (A:Around) (outer:List Env) (s:Shared) (H:Hp) (vs:List V) (Q:VK) (E:XK),xF k (A.deeper (envOfC x (ag st) s.heap.objs.size f cdv))->sp vs H Q E ->
   ∃t,PSs (bD CX0 P w K mg base N x (ag st) f cdv A outer s H E).nox (az st) t∧t { nx:=fun _ H'=>Q .non H',rt:=Q } (eQ N vs) H):Fn P w K mg base x ps (k+1) sp:=by
 obtain⟨f,oc,od,kV,doc,pm,an,cdv,ct,osl,hm,lk,hcd,hk⟩:=D.ex;refine⟨⟨f,_,_,hm,hk,hbind kV doc pm an cdv ct,⟨lk,rfl⟩,nR lk hcd S len fun A outer s H vs Q E hr hsp=>?_⟩⟩;obtain⟨t,h,q⟩:=hbody f cdv A outer s H vs Q E hr hsp;exact⟨t,h.nox,q⟩
theorem tZ{P:Program}{w:World}{K:W.Frag}{mg:Str->Option Value}{fa:Addr}{k:Nat}{sp:Sp}(h:Heap)(hfa:mg "law" = some (.ref fa))(F:∀base:Heap,Fn P w K mg base "law" ["script"] k sp) :
  ∃fd:FuncData,(∀(s:Shared) (v:Value),BindsTo s fd ⟨[v],[]⟩ [("script",v)])∧∀base:Heap,K.In base->base.Ns mainGlobals mg->Aj P w K mg base CX0 k fa fd ["script"] sp:=by
 obtain⟨f,fd,o,hm,_,hb,⟨hl,hd⟩,_⟩:=(F h).ex;rw[hfa]at hm;cases hm;refine⟨fd,fun s v=>.of_eq (hb [v] rfl),fun base _ _=>?_⟩;obtain⟨f',fd',o',hm',_,_,⟨hl',hd'⟩,G⟩:=(F base).ex;rw[hfa]at hm';cases hm';rw[hl]at hl';cases hl';rw[hd]at hd';cases hd';exact G
def lh(K:W.Frag):Sp:=fun vs H Q _=>∃(a:Addr) (ns:List Int),vs = [.ref a]∧SqL K H a (ns.map V.int)∧ns.length≤63∧∀H',Q (.bl true) H'
theorem law_walk{l:W.OpenLaw}{k:Nat}{q:Program}{loose:List Str}{XP:(Str->Option Value)->Heap->Prop}{YP:World->Heap->Prop}{d:DefRec}{K:Params->W.Frag}(hk:xF k callerA)(hn:l.most=some 63)(hdf:d.params.defaults = [])
  (hY:∀(w:World) (h:Heap),YP w h->(K w.params).In h)
  (F:∀(w:World) (mg:Str->Option Value) (fa:Addr) (h:Heap),(K w.params).In h->h.Ns mainGlobals mg->mg d.name=some (.ref fa) ->
   ∃fd:FuncData,(∀(s:Shared) (u:Value),BindsTo s fd ⟨[u],[]⟩ [("script",u)])∧∀base:Heap,(K w.params).In base->base.Ns mainGlobals mg->Aj l.prog w (K w.params) mg base CX0 k fa fd ["script"] (lh (K w.params))) :
  W.WalkO q loose XP YP l.row.toRowW d [] (fun f vs=>PySem.call f vs) :=
 L2.walk_of (n:=63) (k:=k) (x:="script") (CX:=fun _=>CX0) (sp:=fun w=>lh (K w.params)) hn (by decide) hdf hk hY F (fun _ _ a ns hl _ hS=>⟨a,ns,rfl,hS,hl,fun _=>rfl⟩) fun _ _ _ _ _ z=>z
theorem Same.new{H:Hp}{p:Addr}{o:HO}(h:H p=none):Same H (upd H p o):=fun b o' e=>by
 rw[aT (aN e h)];exact e
theorem aw{c:Bool}{A B:Prop}(h1:c=true->A)(h2:c=false->B):if c=true then A else B:=by
 cases c with
 | true=>exact oJ (h1 rfl)
 | false=>exact kC (h2 rfl)
theorem cB{b:Bool}{A B:Prop}(hb:b=false)(h:B):if b=true then A else B:=by
 subst hb;exact kC h
theorem rR{b:Bool}{A B:Prop}(hb:b=true)(h:A):if b=true then A else B:=by
 subst hb;exact oJ h
def kD:V->Bool
 | .int _=>true
 | _=>false
end L2
namespace Sp1
open PySem PySem.Spec L2 Mth
inductive AI (vs:List V) (H:Hp) (Q:VK) (x_3:XK):Prop
 | mk:∀x t,(vs = [x])->(Kn H x t)->(Q (.bl (kD x)) H)->AI vs H Q x_3
inductive Ci (vs:List V) (H:Hp) (Q:VK) (x_3:XK):Prop
 | mk:∀a b:Int,(vs = [.int a,.int b])->(Q (.int (Int.gcd a b:Int)) H)->Ci vs H Q x_3
inductive wY (vs:List V) (H:Hp) (Q:VK) (x_3:XK):Prop
 | mk:∀(p q:Addr) (a b c d:Int),(vs = [.ref p,.ref q])->(H p=some (.tup [.int a,.int b]))->(H q=some (.tup [.int c,.int d]))->((ao a≤2000∧ao b≤2000∧ao c≤2000∧ao d≤2000))->(Q (.bl (decide (a*d<c*b))) H)->wY vs H Q x_3
inductive AM (vs:List V) (H:Hp) (Q:VK) (x_3:XK):Prop
 | mk:∀(p:Addr) (a b:Int),(vs = [.ref p])->(H p=some (.tup [.int a,.int b]))->((0<b∧ao b≤2000))->(Q (.int (a / b)) H)->AM vs H Q x_3
def ku(a b:Int):Bool:=decide (1≤b) && decide (Int.gcd a b=1)
def jB:List V->Bool
 | [.int a,.int b]=>ku a b
 | _=>false
def ip(H:Hp):V->Bool
 | .ref p=>match H p with
  | some (.tup xs)=>jB xs
  | _=>false
 | _=>false
structure wW(H:Hp)(x:V):Prop where
 kn:∃t,Kn H x t
 parts:∀p xs,x = .ref p->H p=some (.tup xs)->∀y∈xs,∃t,Kn H y t
inductive CB (vs:List V) (H:Hp) (Q:VK) (x_3:XK):Prop
 | mk:∀x,(vs = [x])->(wW H x)->(Q (.bl (ip H x)) H)->CB vs H Q x_3
theorem jH{H:Hp}{x:V}{t:String}(k:Kn H x t):(fk t "int" = true->(!fk t "bool")=kD x)∧(fk t "int" = false->kD x=false):=by
 cases k with
 | non=>exact⟨fun h=>absurd h (by decide),fun _=>rfl⟩
 | bl b=>exact⟨fun _=>(show(!fk "bool" "bool")=false by decide),fun h=>absurd h (by decide)⟩
 | int i=>exact⟨fun _=>(show(!fk "int" "bool")=true by decide),fun h=>absurd h (by decide)⟩
 | str x=>exact⟨fun h=>absurd h (by decide),fun _=>rfl⟩
 | lst e=>exact⟨fun h=>absurd h (by decide),fun _=>rfl⟩
 | tup e=>exact⟨fun h=>absurd h (by decide),fun _=>rfl⟩
 | dict e=>exact⟨fun h=>absurd h (by decide),fun _=>rfl⟩
theorem jx(a:Int):0≤(if a<0 then -a else a):=by split <;> omega
theorem Kn.cases_int{H:Hp}{y:V}{t:String}(k:Kn H y t):(∃a,y = .int a∧t = "int")∨((∀a,y≠.int a)∧kD y=false):=by
 cases k with
 | int a=>exact .inl ⟨a,rfl,rfl⟩
 | non=>exact .inr ⟨fun a e=>(nomatch e),rfl⟩
 | bl b=>exact .inr ⟨fun a e=>(nomatch e),rfl⟩
 | str x=>exact .inr ⟨fun a e=>(nomatch e),rfl⟩
 | lst e=>exact .inr ⟨fun a e=>(nomatch e),rfl⟩
 | tup e=>exact .inr ⟨fun a e=>(nomatch e),rfl⟩
 | dict e=>exact .inr ⟨fun a e=>(nomatch e),rfl⟩
theorem Kn.cases_tup{H:Hp}{y:V}{t:String}(k:Kn H y t):(∃p xs,y = .ref p∧H p=some (.tup xs)∧t = "tuple")∨(ip H y=false∧fk t "tuple" = false):=by
 cases k with
 | tup e=>exact .inl ⟨_,_,rfl,e,rfl⟩
 | non=>exact .inr ⟨rfl,by decide⟩
 | bl b=>exact .inr ⟨rfl,by decide⟩
 | str x=>exact .inr ⟨rfl,by decide⟩
 | int a=>exact .inr ⟨rfl,by decide⟩
 | lst e=>exact .inr ⟨by simp only[ip,e],by decide⟩
 | dict e=>exact .inr ⟨by simp only[ip,e],by decide⟩
theorem pV{H:Hp}{p:Addr}{xs:List V}(e:H p=some (.tup xs)):ip H (.ref p)=jB xs:=by simp only[ip,e]
theorem pY{xs:List V}(h:xs.length≠2):jB xs=false:=by
 unfold jB
 split
 ·exact absurd rfl h
 ·rfl
theorem pZ{y z:V}(h:∀a,y≠.int a):jB [y,z]=false:=by
 unfold jB
 split
 ·rename_i a b e
  cases e;exact absurd rfl (h a)
 ·rfl
theorem pX{y z:V}(h:∀a,z≠.int a):jB [y,z]=false:=by
 unfold jB
 split
 ·rename_i a b e
  cases e;exact absurd rfl (h b)
 ·rfl
theorem sz{n:Nat}(h:n≤1000):n≤sizeLine:=Nat.le_of_lt (bJ h)
theorem lG{H:Hp}{p:Addr}{o:HO}(h:H p=none):∃H1,upd H p o=H1∧Same H H1∧H1 p=some o:=⟨_,rfl,Same.new h,upd_same⟩
theorem atI_mem{α:Type}{xs:List α}{k:Int}(h0:0≤k)(h1:k<(xs.length:Int)):∃v,atI xs k=some v∧v∈xs:=by
 have hk:k.toNat<xs.length:=by omega
 have ek:k=((k.toNat:Nat):Int):=by omega
 have q:=db (xs:=xs) (j:=k.toNat) (List.getElem?_eq_getElem hk);rw[<- ek]at q;exact⟨xs[k.toNat],q,List.getElem_mem hk⟩
theorem th_tup{H:Hp}{p:Addr}{xs:List V}(e:H p=some (.tup xs))(h:∀y∈xs,∃t,Kn H y t):wW H (.ref p):=⟨⟨_,.tup e⟩,fun p' ys e1 e2=>by
 cases e1;rw[e]at e2;cases e2;exact h⟩
inductive Be (C:Addr) (vs:List V) (H:Hp) (Q:VK) (E:XK):Prop
 | mk:∀a b:Int,(vs = [.int a,.int b])->((ao a≤2000∧ao b≤2000))->((b=0->E (.ref C) none H))->((b≠0->∀(p:Addr) (t u:Int),vP a b t u->ao t≤2000->ao u≤2000->H p=none->Q (.ref p) (upd H p (.tup [.int t,.int u]))))->Be C vs H Q E
theorem jZ{a b:Int}{n:Nat}(hb:b≠0)(h:ao b≤n):ao (Int.gcd a b:Int)≤n:=by
 refine fM ?_ h;have h1:(Int.gcd a b)∣b.natAbs:=Int.gcd_dvd_natAbs_right a b;have h2:=Nat.le_of_dvd (by omega) h1;omega
end Sp1
namespace L2
open PySem PySem.Spec PyProof.Rows
theorem my(ns ms:List Int):((List.range (min ns.length ms.length)).all (fun j=>decide (ns[j]? = ms[j]?)) && ns.length == ms.length)=decide (ns=ms):=by
 rw[Bool.eq_iff_iff];simp only[Bool.and_eq_true,List.all_eq_true,List.mem_range,decide_eq_true_eq,beq_iff_eq];constructor
 ·rintro⟨h1,h2⟩
  refine List.ext_getElem? fun j=>?_
  by_cases hj:j<ns.length
  ·exact h1 j (by omega)
  ·rw[List.getElem?_eq_none (by omega),List.getElem?_eq_none (by omega)]
 ·rintro rfl
  exact⟨fun _ _=>rfl,rfl⟩
theorem o4{ns:List Int}{us:List Value}{j:Nat}(r:aM (ns.map V.int) us)(h:j<us.length):∃a,ns[j]? = some a∧bj (.int a) us[j]:=by
 have hl:=r.length;rw[List.length_map]at hl;have hj:j<ns.length:=by omega
 obtain⟨u,e,q⟩:=r.get (i:=j) (x:=.int ns[j]) (by rw[List.getElem?_map,List.getElem?_eq_getElem hj];rfl);rw[List.getElem?_eq_getElem h]at e;cases e;exact⟨ns[j],List.getElem?_eq_getElem hj,q⟩
section
variable {X:Cx}
inductive CW (K:W.Frag) (neg:Bool) (x:V) (y:V) (H:Hp) (Q:VK):Prop
 | mk:∀(p q:Addr) (ns ms:List Int),(x = .ref p)->(y = .ref q)->(SqT K H p (ns.map V.int))->(SqT K H q (ms.map V.int))->(Q (.bl (if neg then !decide (ns=ms) else decide (ns=ms))) H)->CW K neg x y H Q
theorem lF{A:Around}{s:Shared}{ns ms:List Int}{us vs:List Value}(r:aM (ns.map V.int) us)(r':aM (ms.map V.int) vs)(j:Nat)(h1:j<us.toArray.size)(h2:j<vs.toArray.size) :
  SeqAt.EqAt A s us.toArray[j] vs.toArray[j] (decide (ns[j]? = ms[j]?)):=by
 rw[List.size_toArray]at h1 h2;obtain⟨a,ea,ra⟩:=o4 r h1;obtain⟨b,eb,rb⟩:=o4 r' h2;have q:=qD (A:=A) (s:=s) ra rb rfl rfl;have e:eqV (.int a) (.int b)=decide (ns[j]? = ms[j]?):=by
  rw[ea,eb];show(a == b)=decide (some a=some b);rw[Bool.eq_iff_iff];simp
 rw[e]at q;exact q
theorem dJ(hu:X.A.units<cLine):OpR X (compareOp .Eq) (CW X.K false):=by
 intro pins s σ H x y v u Q I rx ry h;obtain⟨p,q,ns,ms,rfl,rfl,hp,hq,k⟩:=h;cases rx;cases ry;obtain⟨its,r,pl,_⟩:=I.tuple hp;obtain⟨jts,r',pl',_⟩:=I.tuple hq;refine SeqAt.eq_tupleAt pl pl' hu (lF r r') ⟨.bl _,H,I,rfl,?_⟩;have e1:=r.length;have e2:=r'.length;rw[List.length_map]at e1 e2;rw[List.size_toArray,List.size_toArray,<- e1,<- e2,my];exact k
theorem gW(hu:X.A.units<cLine):OpR X (compareOp .NotEq) (CW X.K true):=by
 intro pins s σ H x y v u Q I rx ry h;obtain⟨p,q,ns,ms,rfl,rfl,hp,hq,k⟩:=h;cases rx;cases ry;obtain⟨its,r,pl,_⟩:=I.tuple hp;obtain⟨jts,r',pl',_⟩:=I.tuple hq;refine SeqAt.RcNeAt.tuples pl pl' hu (lF r r') _ _ _ _ ⟨.bl _,H,I,rfl,?_⟩;have e1:=r.length;have e2:=r'.length;rw[List.length_map]at e1 e2;rw[List.size_toArray,List.size_toArray,<- e1,<- e2,my];exact k
end
end L2
namespace L2
open PySem PySem.Spec PyProof.Rows
section
variable {prog:Program} {w:World} {A:Around} {E:Value->Shared->Prop}
end
end L2
namespace L2
open PySem PySem.Spec PyProof.Rows
theorem cC.has{P:Program}{w:World}{H:Hp}{h:Heap}{a:Addr}{o:HO}(x:cC P w H h a o):∃ob,h.get? a=some ob:=by
 cases o with
 | lst xs=>obtain⟨_,_,_,_,e⟩:=x;exact⟨_,e⟩
 | tup xs=>obtain⟨_,_,_,ob,e,_⟩:=x;exact⟨_,e⟩
 | dK kvs=>obtain⟨_,_,_,_,ob,_,_,e,_⟩:=x;exact⟨_,e⟩
 | dT kvs=>obtain⟨_,_,_,_,ob,_,_,e,_⟩:=x;exact⟨_,e⟩
 | set S n=>obtain⟨ob,_,_,_,e,_⟩:=x;exact⟨_,e⟩
 | ins C dx fs=>obtain⟨_,_,_,e,_⟩:=x;exact⟨_,e⟩
 | own y=>obtain⟨ob,e⟩:=x;exact⟨_,e⟩
 | xd fs=>obtain⟨_,⟨od,_,_,e,_⟩,_⟩:=x;exact⟨_,e⟩
 | rng lo hi=>obtain⟨_,_,_,e⟩:=x;exact⟨_,e⟩
 | frz ob u=>obtain⟨e,_⟩:=x;exact⟨_,e⟩
 | tbl ps=>exact⟨_,(show h.get? a=some _ from x)⟩
 | met f y=>exact⟨_,(show h.get? a=some _ from x)⟩
 | ext φ=>obtain⟨_,⟨ob,e⟩,_⟩:=x;exact⟨_,e⟩
structure Dv(B:Heap)(fs:List Addr)(H':Hp)(h:Heap):Prop where
 tr:∀b o,H' b=some o->∃ob,B.get? b=some ob
 old:∀b o,h.get? b=some o->b∉fs->∃ob,B.get? b=some ob
section
variable {P:Program} {w:World} {fs fs':List Addr} {H H1 H':Hp} {h h1 h2 B:Heap}
theorem Un.fly(un:Un fs [] H H' h h1)(big:Dv B fs H' h)(st1:B.StaysIn h1)(st2:B.StaysIn h2)(sl:h1.UpToSlots h2)
  (fr:∀b∈fs,H b=none∧∀o,h1.get? b=some o->∀vs,o.data≠.fields vs):Un fs [] H H' h h2 where
 keep:=fun b o e n hb hx=>by
  have e1:=un.keep b o e n hb hx;obtain⟨ob,eb⟩:=big.old b o e hb;have e2:=st1 b ob eb;rw[e1]at e2;cases e2;exact st2 b _ eb
 slot:=fun b o e n hb hx=>by
  obtain⟨s1,e1⟩:=un.slot b o e n hb hx;obtain⟨s2,e2⟩:=sl b _ e1 ((fr b hb).2 _ e1);exact⟨s2,e2⟩
 free:=un.free
 there:=fun b o e hx=>by
  by_cases hb:b∈fs
  ·obtain⟨s1,e1⟩:=un.slot b o e (fr b hb).1 hb hx
   obtain⟨s2,e2⟩:=sl b _ e1 ((fr b hb).2 _ e1);exact⟨_,e2⟩
  ·obtain⟨ob,eb⟩:=big.old b o e hb
   exact⟨_,st2 b ob eb⟩
 tups:=un.tups
 frzs:=un.frzs
 tbls:=un.tbls
theorem HOk.fly(hok:HOk P w H' h1)(big:Dv B fs H' h)(st1:B.StaysIn h1)(st2:B.StaysIn h2):HOk P w H' h2:=fun a o e=>by
 refine(hok a o e).stay (fun b u hb q=>?_) (fun _ q=>q) fun _ _ q=>q;have hb':∃ob,B.get? b=some ob:=by
  rcases hb with z|z
  ·rw[z]
   exact big.tr a o e
  ·exact big.tr b _ z
 obtain⟨ob,eb⟩:=hb';have e2:=st1 b ob eb;rw[q]at e2;cases e2;exact st2 b _ eb
theorem Un.shed(a:Un fs [] H H1 h h1)(b:Un fs' [] H1 H' h1 h2)(sub:∀x∈fs,x∈fs')(out:∀x o,h.get? x=some o->x∈fs'->x∈fs):Un fs [] H H' h h2 where
 keep:=fun x o e n hx hn=>b.keep x o (a.keep x o e n hx hn) (a.free x o e n hn) (fun z=>hx (out x o e z)) hn
 slot:=fun x o e n hx hn=>by
  obtain⟨s1,e1⟩:=a.slot x o e n hx hn;obtain⟨s2,e2⟩:=b.slot x _ e1 (a.free x o e n hn) (sub x hx) hn;exact⟨s2,e2⟩
 free:=fun x o e n hn=>by
  obtain⟨o1,e1⟩:=a.there x o e hn;exact b.free x o1 e1 (a.free x o e n hn) hn
 there:=fun x o e hn=>by
  obtain⟨o1,e1⟩:=a.there x o e hn;exact b.there x o1 e1 hn
 tups:=fun x xs e=>b.tups x xs (a.tups x xs e)
 frzs:=fun x o xs e=>b.frzs x o xs (a.frzs x o xs e)
 tbls:=fun x ps e=>by
  obtain⟨m1,e1⟩:=a.tbls x ps e;obtain⟨m2,e2⟩:=b.tbls x _ e1;exact⟨m1++m2,by rw[e2,Array.append_assoc]⟩
end
def CXE(P:Program)(w:World):CXT:=fun outer H s E e s'=>∃(ea t:Addr) (cls:Value) (H':Hp) (B:Heap),
 e = .ref ea∧s'.os=s.os∧AllBare s'.gens∧Un (frs outer) [] H H' s.heap s'.heap∧HOk P w H' s'.heap∧Heap.FlyingW B outer ea cls (.ref t) s'.heap∧Dv B (frs outer) H' s.heap∧E cls none H'
section
variable {P:Program} {w:World} {K:W.Frag} {mg:Str->Option Value} {base:Heap} {N:List Str} {qual:Str} {scope:Scope} {f:Addr} {cdv:Value} {A:Around} {outer:List Env} {s₀:Shared} {H₀:Hp} {E:XK}
theorem qp{env:Env}{L:Addr}(hf:env.frame=some L)(l:List Env):frs (env::l)=L::frs l:=by
 unfold frs;rw[List.filterMap_cons,hf]
theorem tO{pins:List (Addr×Obj)}{σ:St}{H:Hp}{s:Shared}{h':Heap}{e:Addr}{cls:Value}{vs:List Value}(I:vO (bD (CXE P w) P w K mg base N qual scope f cdv A outer s₀ H₀ E) pins σ H s)
  (hx:Heap.MadeExcOf s.heap h' e cls vs) (q:E cls none H):(bD (CXE P w) P w K mg base N qual scope f cdv A outer s₀ H₀ E).xe (.ref e) { s with heap:=h' }:=by
 have hin:∀env∈(bD (CXE P w) P w K mg base N qual scope f cdv A outer s₀ H₀ E).stack,∀a,env.frame=some a->a∈frs (bD (CXE P w) P w K mg base N qual scope f cdv A outer s₀ H₀ E).stack :=
  fun env he a ha=>List.mem_filterMap.mpr ⟨env,he,ha⟩
 have neL:∀b o,s₀.heap.get? b=some o->b∉frs outer->b∉frs (bD (CXE P w) P w K mg base N qual scope f cdv A outer s₀ H₀ E).stack:=fun b o eb hb hm=>by
  rcases List.mem_cons.mp (I.stkSub b hm) with z|z
  ·exact absurd z (Nat.ne_of_lt (Nat.lt_of_lt_of_le (Heap.lt_size eb) I.ok.above))
  ·exact hb z
 refine wpAny_leaves_madeW (base:=W.hideAll s.heap (frs (bD (CXE P w) P w K mg base N qual scope f cdv A outer s₀ H₀ E).stack)) (h:=s.heap) (L:=s₀.heap.objs.size) I.ok.frames rfl (fun b o z=>W.of_hideAll _ z) (W.funFrames_hide I.stack hin) hx fun h'' t fl _ _ up=>?_;have big:Dv (W.hideAll s.heap (frs (bD (CXE P w) P w K mg base N qual scope f cdv A outer s₀ H₀ E).stack)) (frs outer) H s₀.heap:=by
  refine⟨fun b o eb=>?_,fun b o eb hb=>?_⟩
  ·obtain⟨ob,z⟩:=(I.hok b o eb).has
   refine⟨ob,W.hideAll_get _ z fun hm=>?_⟩;rw[I.stkFree b hm]at eb;cases eb
  ·obtain⟨ob,z⟩:=I.base.there b o eb (by intro z;cases z)
   exact⟨ob,W.hideAll_get _ z (neL b o eb hb)⟩
 have st1:(W.hideAll s.heap (frs (bD (CXE P w) P w K mg base N qual scope f cdv A outer s₀ H₀ E).stack)).StaysIn s.heap:=fun b o z=>W.of_hideAll _ z;have sl:s.heap.UpToSlots h'':=(Heap.UpToSlots.of_keeps hx.keeps).trans up;exact⟨e,t,cls,H,_,rfl,I.os,I.bare,Un.fly I.base big st1 fl.1 sl fun b hb=>⟨I.ok.frf b hb,fun o eo=>by
   obtain⟨_,o',eo',nf⟩:=I.funs.mem hb;rw[eo]at eo';cases eo';exact nf⟩,HOk.fly I.hok big st1 fl.1,fl,big,q⟩
theorem rB{E1:XK}(hE:∀c o H',E1 c o H'->E c o H'):jy (CXE P w) (bD (CXE P w) P w K mg base N qual scope f cdv A outer s₀ H₀ E) E1:=by
 intro pins σ H s e s' I h;obtain⟨ea,t,cls,H',B,rfl,os,bare,un,hok,fl,big,q⟩:=h;refine wpAny_leaves_onW (L:=s₀.heap.objs.size) I.ok.frames rfl fl fun h'' fl' up=>?_;have out:∀x o,s₀.heap.get? x=some o->x∈frs (bD (CXE P w) P w K mg base N qual scope f cdv A outer s₀ H₀ E).stack->x∈frs outer:=fun x o ex hm=>by
  rcases List.mem_cons.mp (I.stkSub x hm) with z|z
  ·exact absurd z (Nat.ne_of_lt (Nat.lt_of_lt_of_le (Heap.lt_size ex) I.ok.above))
  ·exact z
 have sub:∀x∈frs outer,x∈frs (bD (CXE P w) P w K mg base N qual scope f cdv A outer s₀ H₀ E).stack:=fun x hx=>by
  show x∈frs (_::outer);rw[qp (L:=s₀.heap.objs.size) rfl];exact List.mem_cons_of_mem _ hx
 have un1:Un (frs outer) [] H₀ H' s₀.heap s'.heap:=Un.shed I.base un sub out;have big1:Dv B (frs outer) H' s₀.heap:=by
  refine⟨big.tr,fun b o eb hb=>?_⟩;obtain⟨ob,z⟩:=I.base.there b o eb (by intro z;cases z);exact big.old b ob z fun hm=>hb (out b o eb hm)
 refine⟨ea,t,cls,H',B,rfl,os.trans I.os,bare,Un.fly un1 big1 fl.1 fl'.1 up fun b hb=>⟨I.ok.frf b hb,fun o eo=>?_⟩,HOk.fly hok big1 fl.1 fl'.1,fl',big1,hE _ _ _ q⟩;obtain⟨_,o',eo',nf⟩:=fl'.2.2.1.mem hb;obtain⟨_,o2,eo2,nf2⟩:=fl.2.2.1.mem (sub b hb);rw[eo]at eo2;cases eo2;exact nf2
end
structure Al(K:W.Frag)(mg:Str->Option Value)(x:Str)(C:Addr):Prop where
 bound:mg x=some (.ref C)
 obj:∀h:Heap,K.In h->∃bm N nm qn bs hd sn sub ab col dd k0 k1 k2 k3 k5 mN,h.get? C=some (excClassObj nm qn C N bs bm hd sn sub ab col dd k0 k1 k2 k3 k5 "ValueError.__new__")∧h.Ns N mN∧mN "__init__" = none ∧
  OwnTail h [.type "ValueError",.type "Exception",.type "BaseException",.type "object"] bm
theorem sD{K:W.Frag}{h:Heap}{C:Addr}{bmB:List Value}{newId:String}(X:K.In h)(q:W.excIn K C bmB newId=true) :
  ∃bm N nm qn bs hd sn sub ab col dd k0 k1 k2 k3 k5 mN,h.get? C=some (excClassObj nm qn C N bs bm hd sn sub ab col dd k0 k1 k2 k3 k5 newId)∧h.Ns N mN∧mN "__init__" = none∧OwnTail h bmB bm:=by
 unfold W.excIn at q
 split at q
 next dct cl sls look =>
  split at q
  next C2 bms a0 a1 a2 a3 nid a5 hmro hsls =>
   simp only[Bool.not_eq_true',beq_iff_eq,Bool.and_eq_true]at q;obtain⟨⟨⟨⟨⟨q1,q2⟩,q3⟩,q4⟩,q5⟩,q6⟩:=q;subst q1 q2;obtain⟨c1,c2,c3,c4,c5,c6,c7,c8,c9,c10,c11⟩:=cl;dsimp only at hmro q3 q5 q6;subst hmro q3;obtain⟨lst⟩:=sls;simp only at hsls;subst hsls;exact⟨bms,c4,c1,c5,c2,c6,c7,c8,c9,c10,dct,a0,a1,a2,a3,a5,_,X _ _ look,.of_isNs (W.isNs_of_in X q5),W.nsMap_none_of_in X q5 q6,W.tail_of_in X q4⟩
  next=>cases q
 next=>cases q
theorem ug{K:W.Frag}{mg:Str->Option Value}{h:Heap}{x:Str}{C:Addr}(X:K.In h)(G:h.Ns mainGlobals mg)(a:W.nsIn K mainGlobals x=some (some (.ref C)))
  (q:W.excIn K C [.type "ValueError",.type "Exception",.type "BaseException",.type "object"] "ValueError.__new__" = true):Al K mg x C:=⟨W.mg_of X G a,fun _ Y=>sD Y q⟩
section
variable {P:Program} {w:World} {K:W.Frag} {mg:Str->Option Value} {base:Heap} {N:List Str} {qual:Str} {scope:Scope} {f:Addr} {cdv:Value} {A:Around} {outer:List Env} {s₀:Shared} {H₀:Hp} {E:XK}
theorem eZ{x:Str}{C:Addr}{np cpos pos:Pos}(O:Al K mg x C)(hg:Gl (bD (CXE P w) P w K mg base N qual scope f cdv A outer s₀ H₀ E) x)(hdb:(x == ("__debug__" : Str))=false:=by decide) :
  PS (bD (CXE P w) P w K mg base N qual scope f cdv A outer s₀ H₀ E) (.Raise (some (.Call (.Name x np) [] [] cpos)) none pos) (fun _ _ H=>E (.ref C) none H):=by
 intro pins s σ H D I h;obtain⟨bm,N',nm,qn,bs,hd,sn,sub,ab,col,dd,k0,k1,k2,k3,k5,mN,hC,hN,hni,T⟩:=O.obj s.heap I.kIn;refine wpAny_Raise_call_subT (C:=C) (nm:=nm) (q:=qn) (N:=N') (bs:=bs) (bm:=bm) (hdct:=hd) (sn:=sn) (sub:=sub) (ab:=ab) (col:=col) (dd:=dd) (k0:=k0) (k1:=k1) (k2:=k2) (k3:=k3) (k5:=k5) PySem.F.excBase_ValueError (mN:=mN) (T.hasType (by decide +kernel)) (I.ok.hd rfl) rfl hni (kB I hg O.bound ⟨rfl,?_⟩ hdb);exact evalArgs_empty ⟨rfl,Nat.zero_le _,hC,hN,T,fun h' e hx=>tO I hx h⟩
end
section
variable {X:Cx}
end
structure Fx(P:Program)(w:World)(K:W.Frag)(mg:Str->Option Value)(base:Heap)(x:Str)(ps:List Str)(k:Nat)(ds:List V)(sp:Sp):Prop where
 ex:∃(f:Addr) (fd:FuncData) (its:List Value),mg x=some (.ref f)∧W.keepIn K (.ref f)=true∧jz K fd ps []∧jz K fd ps its∧aM ds its∧Aj P w K mg base (CXE P w) k f fd ps sp
structure Cj(K:W.Frag)(mg:Str->Option Value)(x:Str)(st:Stmt)(ds:List V):Prop where
 ex:∃(f T:Addr) (oT:Obj) (n:Nat) (its:List Value) (oc:Value) (od:Option Addr) (kV doc pm:Value) (an:Option Addr) (cdv ct:Value) (osl:Array (Option Value)),
  mg x=some (.ref f)∧K.lookup f=some ⟨oc,od,.func (W.fnOf x x (aU st) (az st) (ag st) (.ref T) kV doc pm an cdv ct),osl⟩∧W.codeIn K cdv x=true∧W.keepIn K (.ref f)=true∧K.lookup T=some oT∧oT.data = .seq its.toArray n∧aM ds its
theorem uk{K:W.Frag}{mg:Str->Option Value}{h:Heap}{x:Str}{st:Stmt}{ds:List V}{its:List Value}{f T:Addr}{oT:Obj}{n:Nat}{oc:Value}{od an:Option Addr}{osl:Array (Option Value)}{kV doc pm cdv ct:Value}(X:K.In h)(G:h.Ns mainGlobals mg)
  (a:W.nsIn K mainGlobals x=some (some (.ref f))) (l:K.lookup f=some ⟨oc,od,.func (W.fnOf x x (aU st) (az st) (ag st) (.ref T) kV doc pm an cdv ct),osl⟩) (c:W.codeIn K cdv x=true) (k:W.keepIn K (.ref f)=true)
  (t:K.lookup T=some oT) (d:oT.data = .seq its.toArray n) (v:aM ds its):Cj K mg x st ds:=⟨⟨f,T,oT,n,its,oc,od,kV,doc,pm,an,cdv,ct,osl,W.mg_of X G a,l,c,k,t,d,v⟩⟩
theorem Cj.fx{P:Program}{w:World}{K:W.Frag}{mg:Str->Option Value}{base:Heap}{x:Str}{st:Stmt}{ds:List V}{N ps:List Str}{k:Nat}{sp:Sp}(D:Cj K mg x st ds)(S:vL N ps (ag st))
  (hb:∀(T:Addr) (kV doc pm:Value) (an:Option Addr) (cdv ct:Value) (us its:List Value) (oT:Obj) (n:Nat) (s:Shared),aM ds its->us.length=ps.length->s.heap.get? T=some oT->oT.data = .seq its.toArray n ->
   BindsTo s (W.fnOf x x (aU st) (az st) (ag st) (.ref T) kV doc pm an cdv ct) ⟨us,[]⟩ (ps.zip us))
  (hd:∀(T:Addr) (kV doc pm:Value) (an:Option Addr) (cdv ct:Value) (us its:List Value) (oT:Obj) (n:Nat) (s:Shared),aM ds its->(us++its).length=ps.length->s.heap.get? T=some oT->oT.data = .seq its.toArray n ->
   BindsTo s (W.fnOf x x (aU st) (az st) (ag st) (.ref T) kV doc pm an cdv ct) ⟨us,[]⟩ (ps.zip (us++its)))
  (len:∀vs H Q E,sp vs H Q E->vs.length=ps.length)
  (hbody:∀(f:Addr) (cdv:Value) (A:Around) (outer:List Env) (s:Shared) (H:Hp) (vs:List V) (Q:VK) (E:XK),xF k (A.deeper (envOfC x (ag st) s.heap.objs.size f cdv))->sp vs H Q E ->
   ∃t,PSs (bD (CXE P w) P w K mg base N x (ag st) f cdv A outer s H E) (az st) t∧t { nx:=fun _ H'=>Q .non H',rt:=Q } (eQ N vs) H):Fx P w K mg base x ps (k+1) ds sp:=by
 obtain⟨f,T,oT,n,its,oc,od,kV,doc,pm,an,cdv,ct,osl,hm,lk,hcd,hk,hT,hs,hv⟩:=D.ex;refine⟨⟨f,_,its,hm,hk,fun s us KX hl=>?_,fun s us KX hl=>hd T kV doc pm an cdv ct us its oT n s hv hl (KX _ _ hT) hs,hv,nR lk hcd S len fun A outer s H vs Q E hr hsp=>hbody f cdv A outer s H vs Q E hr hsp⟩⟩;rw[List.append_nil]at hl ⊢;exact hb T kV doc pm an cdv ct us its oT n s hv hl (KX _ _ hT) hs
theorem Df.fx{P:Program}{w:World}{K:W.Frag}{mg:Str->Option Value}{base:Heap}{x:Str}{st:Stmt}{N ps:List Str}{k:Nat}{sp:Sp}(D:Df K mg x st)(S:vL N ps (ag st))
  (hbind:∀(kV doc pm:Value) (an:Option Addr) (cdv ct:Value) (us:List Value),us.length=ps.length->bindArgs (W.fnOf x x (aU st) (az st) (ag st) .none kV doc pm an cdv ct) ⟨us,[]⟩=pure (ps.zip us))
  (len:∀vs H Q E,sp vs H Q E->vs.length=ps.length)
  (hbody:∀(f:Addr) (cdv:Value) (A:Around) (outer:List Env) (s:Shared) (H:Hp) (vs:List V) (Q:VK) (E:XK),xF k (A.deeper (envOfC x (ag st) s.heap.objs.size f cdv))->sp vs H Q E ->
   ∃t,PSs (bD (CXE P w) P w K mg base N x (ag st) f cdv A outer s H E) (az st) t∧t { nx:=fun _ H'=>Q .non H',rt:=Q } (eQ N vs) H):Fx P w K mg base x ps (k+1) [] sp:=by
 obtain⟨f,oc,od,kV,doc,pm,an,cdv,ct,osl,hm,lk,hcd,hk⟩:=D.ex;have hb:jz K (W.fnOf x x (aU st) (az st) (ag st) .none kV doc pm an cdv ct) ps []:=.all (hbind kV doc pm an cdv ct);exact⟨⟨f,_,[],hm,hk,hb,hb,.nil,nR lk hcd S len fun A outer s H vs Q E hr hsp=>hbody f cdv A outer s H vs Q E hr hsp⟩⟩
theorem ff{P:Program}{w:World}{K:W.Frag}{mg:Str->Option Value}{base:Heap}{N:List Str}{qual:Str}{scope:Scope}{f:Addr}{cdv:Value}{A:Around}{outer:List Env}{s₀:Shared}{H₀:Hp}{E:XK}
  {x:Str} {ps:List Str} {k:Nat} {ds:List V} {sp:Sp} {p pos:Pos} {e:Expr} {es:List Expr} {t:TA} (F:Fx P w K mg base x ps k ds sp) (hr:xF k (bD (CXE P w) P w K mg base N qual scope f cdv A outer s₀ H₀ E).A) (hg:Gl (bD (CXE P w) P w K mg base N qual scope f cdv A outer s₀ H₀ E) x)
  (ha:PA (bD (CXE P w) P w K mg base N qual scope f cdv A outer s₀ H₀ E) (e::es) t)
  (hdb:(x == ("__debug__" : Str))=false:=by decide) (he:starEach (e::es) (bD (CXE P w) P w K mg base N qual scope f cdv A outer s₀ H₀ E).env=(false,eval e (bD (CXE P w) P w K mg base N qual scope f cdv A outer s₀ H₀ E).env)::starEach es (bD (CXE P w) P w K mg base N qual scope f cdv A outer s₀ H₀ E).env:=by rfl)
  (hpl:(backTo pos (starEach es (bD (CXE P w) P w K mg base N qual scope f cdv A outer s₀ H₀ E).env)).any (·.1)=false:=by rfl) :
  PE (bD (CXE P w) P w K mg base N qual scope f cdv A outer s₀ H₀ E) (.Call (.Name x p) (e::es) [] pos) (eF sp [] E t):=by
 obtain⟨g,fd,its,hm,hk,hb,_,_,G⟩:=F.ex;exact iD G hr hg hm hk hb .nil (rB fun _ _ _ z=>z) ha hdb he hpl
theorem jU{P:Program}{w:World}{X:Cx}:jy (CXE P w) X E0:=fun _ _ _ _ _ _ _ h=>by
 obtain⟨_,_,_,_,_,_,_,_,_,_,_,_,q⟩:=h;exact q.elim
theorem cR{X:Cx}{x:Str}{ps:List Str}{k:Nat}{ds:List V}{sp:Sp}{p pos:Pos}{e:Expr}{es:List Expr}{t:TA}(F:Fx X.prog X.w X.K X.mg X.base x ps k ds sp)(hr:xF k X.A)(hg:Gl X x)(ha:PA X (e::es) t)
  (hdb:(x == ("__debug__" : Str))=false:=by decide) (he:starEach (e::es) X.env=(false,eval e X.env)::starEach es X.env:=by rfl) (hpl:(backTo pos (starEach es X.env)).any (·.1)=false:=by rfl) :
  PE X (.Call (.Name x p) (e::es) [] pos) (eF sp [] E0 t):=by
 obtain⟨g,fd,its,hm,hk,hb,_,_,G⟩:=F.ex;exact iD G hr hg hm hk hb .nil jU ha hdb he hpl
theorem rn{X:Cx}{x:Str}{ps:List Str}{k:Nat}{ds:List V}{sp:Sp}{p pos:Pos}{e:Expr}{es:List Expr}{t:TA}(F:Fx X.prog X.w X.K X.mg X.base x ps k ds sp)(hr:xF k X.A)(hg:Gl X x)(ha:PA X (e::es) t)
  (hdb:(x == ("__debug__" : Str))=false:=by decide) (he:starEach (e::es) X.env=(false,eval e X.env)::starEach es X.env:=by rfl) (hpl:(backTo pos (starEach es X.env)).any (·.1)=false:=by rfl) :
  PE X (.Call (.Name x p) (e::es) [] pos) (eF sp ds E0 t):=by
 obtain⟨g,fd,its,hm,hk,_,hb,hv,G⟩:=F.ex;exact iD G hr hg hm hk hb hv jU ha hdb he hpl
section
variable {X:Cx}
variable {x fn:Str} {i:Nat} {ps:List Str} {k:Nat} {ds:List V} {sp:Sp} {e:Expr} {es:List Expr} {ta:TA} {px pf cpos pos:Pos}
end
end L2
namespace Sp2
open PySem PySem.Spec L2 Mth Sp1
def mI(n:Int):List V->Bool
 | [.int a,.int b]=>ku a b && (decide (0≤a) && decide (a≤n*b))
 | _=>false
def aO(n:Int)(H:Hp):V->Bool
 | .ref p=>match H p with
  | some (.tup xs)=>mI n xs
  | _=>false
 | _=>false
theorem lC{H:Hp}{x:V}(h:ip H x=true):∃p a b,x = .ref p∧H p=some (.tup [.int a,.int b])∧wS a b:=by
 unfold ip at h
 split at h
 ·split at h
  ·rename_i p _ xs e
   unfold jB at h
   split at h
   ·rename_i a b
    unfold ku at h;rw[Bool.and_eq_true,decide_eq_true_eq,decide_eq_true_eq]at h;exact⟨p,a,b,rfl,e,h.1,h.2⟩
   ·cases h
  ·cases h
 ·cases h
theorem dC{n:Int}{H:Hp}{p:Addr}{a b:Int}(e:H p=some (.tup [.int a,.int b])):aO n H (.ref p)=(ku a b && (decide (0≤a) && decide (a≤n*b))):=by
 simp only[aO,e,mI]
theorem pU{H:Hp}{p:Addr}{a b:Int}(e:H p=some (.tup [.int a,.int b])):ip H (.ref p)=ku a b:=by
 simp only[ip,e,jB]
theorem i5{n:Int}{H:Hp}{x:V}(h:ip H x=false):aO n H x=false:=by
 unfold aO
 split
 ·split
  ·rename_i p _ xs e
   unfold mI
   split
   ·rename_i a b
    rw[pU e]at h;rw[h,Bool.false_and]
   ·rfl
  ·rfl
 ·rfl
theorem lB{a b:Int}(h:wS a b):ku a b=true:=by
 unfold ku;rw[decide_eq_true h.pos,decide_eq_true h.one];rfl
theorem fF{n:Int}{H:Hp}{p:Addr}{a b:Int}(e:H p=some (.tup [.int a,.int b]))(h:wS a b)(h0:0≤a)(h1:a≤n*b):aO n H (.ref p)=true:=by
 rw[dC e,lB h,decide_eq_true h0,decide_eq_true h1];rfl
theorem fX{n:Int}{H:Hp}{x:V}(h:aO n H x=true):∃p a b,x = .ref p∧H p=some (.tup [.int a,.int b])∧wS a b∧0≤a∧a≤n*b:=by
 cases hl:ip H x with
 | false =>
  rw[i5 hl]at h;cases h
 | true =>
  obtain⟨p,a,b,rfl,e,lw⟩:=lC hl;rw[dC e,lB lw,Bool.true_and,Bool.and_eq_true,decide_eq_true_eq,decide_eq_true_eq]at h;exact⟨p,a,b,rfl,e,lw,h.1,h.2⟩
inductive An (vs:List V) (H:Hp) (Q:VK) (x_3:XK):Prop
 | mk:∀(p:Addr) (xs:List V),(vs = [.ref p])->(H p=some (.lst xs))->(Q (.int ((xs.length:Int) - 1)) H)->An vs H Q x_3
inductive zu (vs:List V) (H:Hp) (Q:VK) (x_3:XK):Prop
 | mk:∀(p:Addr) (xs:List V) (x:V),(vs = [.ref p,x])->(H p=some (.lst xs))->(xs.length≤100)->(wW H x)->(Q (.bl (aO ((xs.length:Int) - 1) H x)) H)->zu vs H Q x_3
inductive BM (C:Addr) (vs:List V) (H:Hp) (Q:VK) (E:XK):Prop
 | mk:∀(p:Addr) (xs:List V) (x:V),(vs = [.ref p,x])->(H p=some (.lst xs))->(xs.length≤100)->(wW H x)->((aO ((xs.length:Int) - 1) H x=false->E (.ref C) none H))->((aO ((xs.length:Int) - 1) H x=true->Q .non H))->BM C vs H Q E
def aK(a b c d:Int):Bool:=if c*b<a*d then !decide ((c / d+1)*b<a*1) else !decide ((a / b+1)*d<c*1)
structure zA(a b:Int):Prop where
 pos:0<b
 ba:ao a≤1000
 bb:ao b≤1000
inductive Af (vs:List V) (H:Hp) (Q:VK) (x_3:XK):Prop
 | mk:∀(p q:Addr) (a b c d:Int),(vs = [.ref p,.ref q])->(H p=some (.tup [.int a,.int b]))->(H q=some (.tup [.int c,.int d]))->(zA a b)->(zA c d)->(∀H',Same H H'->Q (.bl (aK a b c d)) H')->Af vs H Q x_3
structure vR(H:Hp)(l:Addr)(qs:List (Addr×Int×Int)):Prop where
 lst:H l=some (.lst (qs.map fun q=>V.ref q.1))
 crn:∀q∈qs,H q.1=some (.tup [.int q.2.1,.int q.2.2])∧ao q.2.1≤50∧ao q.2.2≤50
theorem vR.mono{H H':Hp}{l:Addr}{qs:List (Addr×Int×Int)}(L:vR H l qs)(s:Same H H'):vR H' l qs:=⟨s _ _ L.lst,fun q h=>⟨s _ _ (L.crn q h).1,(L.crn q h).2⟩⟩
theorem sZ{n:Int}(h0:-1000≤n)(h1:n≤1000):-(2^64)<n∧n<2^64:=by
 have e:(2:Int)^64=18446744073709551616:=by decide
 rw[e];omega
theorem qR{ns:List Int}{k:Int}(j:Nat)(e:k=(j:Int))(h:j<ns.length):atI (ns.map V.int) k=some (.int ns[j]):=by
 subst e;exact db (by rw[List.getElem?_map,List.getElem?_eq_getElem h];rfl)
theorem iR(x:V)(xs:List V):atI (x::xs) 0=some x:=db (j:=0) rfl
theorem qG{ns:List Int}(k:Nat):js (ns.map V.int) (some (k:Int)) none=(ns.drop k).map V.int:=by
 unfold js;rw[HT.sIx_nat,HT.sIx_none,List.length_map,<- List.map_drop]
 by_cases h:k≤ns.length
 ·rw[Nat.min_eq_left h,List.take_of_length_le (by rw[List.length_map,List.length_drop];exact Nat.le_refl _)]
 ·rw[Nat.min_eq_right (by omega),List.drop_eq_nil_of_le (Nat.le_refl _),List.drop_eq_nil_of_le (by omega)]
  simp
theorem bi{n:Int}(h0:-1000≤n)(h1:n≤1000):ao n≤10:=by
 refine dn (n:=10) ?_;show _<1024;omega
theorem bR{a b:Int}(hb:0<b):a / b*b≤a:=by
 have h1:=Int.emod_nonneg a (show b≠0 by omega);have h2:=Int.emod_add_mul_ediv a b;rw[Int.mul_comm]at h2;omega
theorem cv{a b:Int}(hb:0<b):a<(a / b+1)*b:=by
 have h1:=Int.emod_lt_of_pos a hb;have h2:=Int.emod_add_mul_ediv a b;rw[Int.add_mul,Int.one_mul,Int.mul_comm];omega
theorem nS{a b k:Int}(hb:0<b)(h:k*b≤a):k≤a / b:=(Int.le_ediv_iff_mul_le hb).mpr h
theorem eK{a b:Int}(hb:0<b)(h:0≤a):0≤a / b:=Int.ediv_nonneg h (by omega)
end Sp2
namespace L2
open PySem PySem.Spec PyProof.Rows
theorem gX{X:Cx}:OpR X (compareOp .IsNot) (fun x y H Q=>∃a b,x = .bl a∧y = .bl b∧Q (.bl (!(a == b))) H):=by
 intro pins s σ H x y v u Q I rx ry h;obtain⟨a,b,rfl,rfl,q⟩:=h;cases rx;cases ry;refine wpAny_isNot_plain (by cases a <;> cases b <;> rfl) ⟨.bl _,H,I,?_,q⟩;cases a <;> cases b <;> rfl
end L2
namespace L2
open PySem PySem.Spec PyProof.Rows
abbrev Cx.blk(X:Cx)(N':List Str)(scope:Scope)(cl:List (Str×Addr))(fp:List Addr)(s₀:Shared)(H₀:Hp):Cx :=
 { X with N:=N',s₀:=s₀,H₀:=H₀,env:=compEnvC scope cl s₀.heap.objs.size X.env,outer:=X.stack,ex:=fp,fn:=fun _=>false,pn:=[],xe:=fun _ _=>False }
theorem ca{α:Type}{y:Str}{c:α}:∀{l:List (Str×α)},l.lookup y=some c->(y,c)∈l
 | [],h=>by simp at h
 | (n,d)::r,h=>by
  rw[List.lookup_cons]at h;cases e:y == n with
  | true =>
   rw[e]at h;cases h;rw[beq_iff_eq.mp e];exact List.mem_cons_self
  | false =>
   rw[e]at h;exact List.mem_cons_of_mem _ (ca h)
structure yo(X:Cx)(scope:Scope)(cl:List (Str×Addr))(x:Str)(fv:List (Str×Nat)):Prop where
 clos:closureFor scope X.env=pure cl
 kind:scope.kind = .function
 cell:∀y∈scope.names,y.2≠.cell
 names:∀y∈scope.names,y.2 = .local->scope.names.lookup y.1=some .local
 own:scope.names.lookup x=some .local
 cells:∀p∈cl,X.env.cells.lookup p.1=some p.2
 has:((relabel scope X.env).names.all fun q=>!(q.2 == .cell || q.2 == .free) || (cl.lookup q.1).isSome)=true
 nd:(x::fv.map (·.1)).Nodup
 slot:∀p∈fv,X.N[p.2]? = some p.1∧X.env.kindOf p.1=some .cell∧Vis X.env.scope p.1∧(cl.lookup p.1).isSome=true∧((relabel scope X.env).names.lookup p.1=some .cell)
 stk:X.stack=X.env::X.outer∧X.env.frame=some X.env.locals
 noex:X.ex = []
def fvs(fv:List (Str×Nat))(σ:St):St:=fv.map fun p=>(σ[p.2]?).join
def sQ(wi:TI)(fv:List (Str×Nat))(te:TE):TE:=fun σ H Q=>wi σ H fun J H1=>∀p,H1 p=none->∃W:Nat->Nat->List V->Hp->Prop,(∃m,W 0 m [] (upd H1 p (.lst [])))∧∀i m acc H2,W i m acc H2 ->
 H2 p=some (.lst acc)∧acc.length<sizeLine∧((J.stop i H2∧Q (.ref p) H2)∨(J.go i H2∧∀x H3,J.yld i H2 x H3->te (some x::fvs fv σ) H3 fun y H4=>H4 p=some (.lst acc)∧∃m',m'<m∧W (i+1) m' (acc++[y]) (upd H4 p (.lst (acc++[y])))))
section
variable {X:Cx} {scope:Scope} {cl:List (Str×Addr)} {x:Str} {fv:List (Str×Nat)} {elt iter:Expr} {px pos:Pos} {te:TE}
theorem uu{pins:List (Addr×Obj)}{σ:St}{H:Hp}{s:Shared}{fp:List Addr}(C:yo X scope cl x fv)(I:vO X pins σ H s)(hf:∀b∈fp,eE X pins H b)(ho:∀b∈fp,b<s.heap.objs.size):(X.blk (x::fv.map (·.1)) scope cl fp s H).Ok:=by
 have hcl:∀y c,cl.lookup y=some c->X.env.cells.lookup y=some c:=fun y c h=>C.cells _ (ca h);have old:∀b∈fp,X.s₀.heap.objs.size≤b:=fun b hb=>by
  rcases(hf b hb).2.2.2.1 with z|z
  ·rw[C.noex]at z
   cases z
  ·exact z
 refine⟨I.ok.mod,by show(relabel scope X.env).kind=_;exact C.kind,I.ok.glob,I.ok.blt,Nat.le_refl _,fun y z c h1 h2=>I.ok.inj y z c (hcl y c h1) (hcl z c h2),fun y hy=>?_,(fun y c h=>by cases h),I.ok.hd,I.ok.frames,.inl rfl,fun b hb=>?_,fun b o e=>I.bs b o e,Nat.le_trans I.ok.bsz I.sz,fun b o e hb=>?_,fun b hb hm=>?_,I.stack,I.stkFree⟩
 ·have q:=C.has
  rw[List.all_eq_true]at q;have hm:∃k,(y,k)∈(relabel scope X.env).names∧(k = .cell∨k = .free):=by
   rcases hy with hy|hy
   ·exact⟨_,ca hy,.inl rfl⟩
   ·exact⟨_,ca hy,.inr rfl⟩
  obtain⟨k,hk,hk2⟩:=hm;have q2:=q _ hk;have q3:(cl.lookup y).isSome=true:=by
   rcases hk2 with rfl|rfl
   ·simpa using q2
   ·simpa using q2
  exact Option.isSome_iff_exists.mp q3
 ·obtain⟨f0,f1,f2,f3,f4,f5⟩:=hf b hb
  refine⟨?_,fun y c h=>f4 y c (hcl y c h)⟩;exact Nat.ne_of_lt (ho b hb)
 ·have z:=Heap.lt_size e
  have z2:=old b hb;exact absurd (Nat.lt_of_lt_of_le z (Nat.le_trans I.ok.bsz z2)) (Nat.lt_irrefl _)
 ·obtain⟨f0,f1,f2,f3,f4,f5⟩:=hf b hb
  rcases List.mem_cons.mp (I.stkSub b hm) with z|z
  ·exact f1 z
  ·exact f2 z
theorem sK{pins:List (Addr×Obj)}{σ:St}{H:Hp}{s s4:Shared}{fp:List Addr}(C:yo X scope cl x fv)(I:vO X pins σ H s)(hf:∀b∈fp,eE X pins H b)(ho:∀b∈fp,b<s.heap.objs.size)
  (hs:s4.os=s.os∧s4.gens=s.gens) (ns:s4.heap.Ns s.heap.objs.size fun _=>none) (kp:∀b o,s.heap.get? b=some o->s4.heap.get? b=some o) :
  vO (X.blk (x::fv.map (·.1)) scope cl fp s H) [] (none::fvs fv σ) H s4:=by
 have hcl:∀y c,cl.lookup y=some c->X.env.cells.lookup y=some c:=fun y c h=>C.cells _ (ca h);refine⟨uu C I hf ho,hs.1,by rw[hs.2];exact I.bare,Un.kept kp,⟨_,ns,fun i y v e1 e2 e3=>?_⟩,fun y c h=>?_,I.hok.fresh (Nat.le_refl _),fun y c h=>I.freeC y c (hcl y c h),fun p hp=>by simp at hp,I.hok.kept kp,by simp[fvs]⟩
 ·cases i with
  | zero=>simp at e2
  | succ j =>
   have e1':(fv.map (·.1))[j]? = some y:=by simpa using e1
   have e2':(fvs fv σ)[j]? = some (some v):=by simpa using e2
   rw[List.getElem?_map]at e1';unfold fvs at e2';rw[List.getElem?_map]at e2';cases hq:fv[j]? with
   | none =>
    rw[hq]at e1';cases e1'
   | some q =>
    rw[hq]at e1' e2';have ey:q.1=y:=Option.some.inj e1';have ev:(σ[q.2]?).join=some v:=Option.some.inj e2';have hm:q∈fv:=List.mem_of_getElem? hq;obtain⟨s1,s2,s3,s4',s5⟩:=C.slot q hm;have ev2:σ[q.2]? = some (some v):=by
     cases hz:σ[q.2]? with
     | none =>
      rw[hz]at ev;cases ev
     | some z =>
      rw[hz]at ev;have ev':z=some v:=ev;rw[ev']
    obtain⟨m,hn,hl⟩:=I.loc;obtain⟨u,r,lk⟩:=hl q.2 q.1 v s1 ev2 s3;obtain⟨c,hc⟩:=Option.isSome_iff_exists.mp s4';refine⟨u,r,.inr ⟨.inl (by rw[<- ey];exact s5),c,by rw[<- ey];exact hc,?_⟩⟩;rcases lk with⟨k,_⟩|⟨_,c',hc',z⟩
    ·rw[s2]at k
     cases k
    ·rw[hcl _ _ hc]at hc'
     cases hc';obtain⟨o,ho',hd⟩:=z;exact⟨o,kp _ _ ho',hd⟩
 ·obtain⟨v,o,ho',hd⟩:=I.cell y c (hcl y c h)
  exact⟨v,o,kp _ _ ho',hd⟩
theorem oa{pins:List (Addr×Obj)}{σ:St}{H2:Hp}{s2:Shared}{it:Addr}{fp:List Addr}{tn:Nat->Heap->Prop}{J:It}{RR:Value->Addr->Result->Shared->Prop}{E:Value->Shared->Prop}{Qf:V->Hp->Prop}
  (hcalm:X.calm=true) (C:yo X scope cl x fv) (I2:vO X pins σ H2 s2) (T:BT X.prog X.w X.K (.Name x px) J fp it tn) (st:tn 0 s2.heap) (f2:∀b∈fp,eE X pins H2 b)
  (rd:∀p,H2 p=none->∃W:Nat->Nat->List V->Hp->Prop,(∃m,W 0 m [] (upd H2 p (.lst [])))∧∀i m acc H2,W i m acc H2 ->
   H2 p=some (.lst acc)∧acc.length<sizeLine∧((J.stop i H2∧Qf (.ref p) H2)∨(J.go i H2∧∀x H3,J.yld i H2 x H3->te (some x::fvs fv σ) H3 fun y H4=>H4 p=some (.lst acc)∧∃m',m'<m∧W (i+1) m' (acc++[y]) (upd H4 p (.lst (acc++[y]))))))
  (he:∀(s₀:Shared) (H₀:Hp),PE (X.blk (x::fv.map (·.1)) scope cl fp s₀ H₀) elt te)
  (hRR:∀(p C:Addr) (H':Hp) (s':Shared),(∃m,s'.heap.Ns C m)->C≠X.env.locals->H' C=none->X.s₀.heap.objs.size≤C->(∀y c,X.env.cells.lookup y=some c->c≠C)->(∀q∈X.pn++pins,q.1≠C)->vO X pins σ H' s'->Qf (.ref p) H'->RR (.ref p) C (.ok .next) s') :
  wpAny (model X.prog X.w) X.A (newList []) (fun acc s₃=>wpAny (model X.prog X.w) X.A (newFunctionEnv scope X.env.globals cl [] X.env.qual none .none (some X.env)) (fun cenv s₄ =>
   codeAny (model X.prog X.w) X.A (.compStart (.ListComp elt [⟨.Name x px,iter,[],0⟩] scope pos) 0 (.ref it) acc { cenv with scope:=relabel scope X.env }) (RR acc cenv.locals) s₄) E s₃) E s2:=by
 refine wpAny_newObj_type ?_;have hfresh:=I2.fresh;have I3:vO X pins σ (upd H2 s2.heap.objs.size (.lst [])) { s2 with heap:=s2.heap.push { cls:=.type "list",data:=.seq ([]:List Value).toArray } } :=
  I2.laid (t':=s2.toks) (fun b u q=>Heap.get?_push_of_some _ q) (Nat.le_refl _) ⟨Nat.zero_le _,[],0,.nil,Heap.get?_push_size _ rfl⟩
 generalize hs3:({ s2 with heap:=s2.heap.push { cls:=.type "list",data:=.seq ([]:List Value).toArray } }:Shared)=s3 at I3 ⊢;have hp3:s2.heap.objs.size<s3.heap.objs.size:=by rw[<- hs3];exact Nat.lt_of_lt_of_le (Nat.lt_succ_self _) (Nat.le_of_eq (Heap.size_push _ _).symm)
 have k23:∀b o,s2.heap.get? b=some o->s3.heap.get? b=some o:=fun b o e=>by rw[<- hs3];exact Heap.get?_push_of_some _ e
 have fpo:∀b∈fp,b<s2.heap.objs.size:=fun b hb=>by
  obtain⟨o,e,_⟩:=T.obj 0 _ st b hb;exact Heap.lt_size e
 have f3:∀b∈fp,eE X pins (upd H2 s2.heap.objs.size (.lst [])) b:=fun b hb=>⟨by rw[aT (Nat.ne_of_lt (fpo b hb))];exact(f2 b hb).1,(f2 b hb).2⟩;refine wpAny_newFunctionEnv C.cell (by intro y hy;simp at hy) (fun h1 hns1 hsb1=>?_) C.kind;have kp:∀b o,s3.heap.get? b=some o->h1.get? b=some o:=fun b o e=>(hsb1.2 b (Nat.ne_of_lt (Heap.lt_size e))).trans (Heap.get?_push_of_some _ e);have I4:=sK (s4:={ s3 with heap:=h1,toks:=s3.toks+([]:List (Str×Value)).length }) C I3 f3 (fun b hb=>Nat.lt_trans (fpo b hb) hp3) ⟨rfl,rfl⟩ hns1 kp;have st4:tn 0 h1:=T.keep 0 _ _ st fun b _ o e=>kp b o (k23 b o e);obtain⟨W,⟨m0,w0⟩,step⟩:=rd _ hfresh;have loop:codeAny (model X.prog X.w) X.A (.compLoop (.ListComp elt [⟨.Name x px,iter,[],0⟩] scope pos) 0 (.ref it) (.ref s2.heap.objs.size) (compEnvC scope cl s3.heap.objs.size X.env)) (RR (.ref s2.heap.objs.size) s3.heap.objs.size)
   { s3 with heap:=h1,toks:=s3.toks+([]:List (Str×Value)).length }:=by
  refine codeAny_compLoop_list (fun n s=>∃i acc σv H',vO (X.blk (x::fv.map (·.1)) scope cl fp s3 (upd H2 s2.heap.objs.size (.lst []))) [] (σv::fvs fv σ) H' s∧tn i s.heap∧(∀b∈fp,H' b=none)∧W i n acc H') ?_ m0 ⟨0,[],none,_,I4,st4,fun b hb=>(f3 b hb).1,w0⟩;rintro n s ⟨i,acc,σv,H',I',st',fr',w'⟩;obtain⟨hp,hlen,alt⟩:=step i n acc H' w';have fpk:∀{H5:Hp},(∀b∈fp,H5 b=none)->∀b∈fp,eE (X.blk (x::fv.map (·.1)) scope cl fp s3 (upd H2 s2.heap.objs.size (.lst []))) [] H5 b:=fun h5 b hb =>
   ⟨h5 b hb,(I'.ok.exf b hb).1,I'.ok.exfs b hb,.inl hb,fun y c e=>(I'.ok.exf b hb).2 y c e,fun q hq=>by simp at hq⟩
  rcases alt with⟨stop,qf⟩|⟨go,turn⟩
  ·refine wpAny_mono (T.done (X.blk (x::fv.map (·.1)) scope cl fp s3 (upd H2 s2.heap.objs.size (.lst []))) rfl rfl rfl hcalm i [] s _ H' (fun _ _=>False) I' (fpk fr') st' stop) (fun r s5 ⟨hr,I5⟩=>?_) fun _ _ z=>False.elim z
   subst hr;refine hRR _ _ H' s5 (let ⟨m,hn,_⟩:=I5.loc;⟨m,hn⟩) (Nat.ne_of_gt I3.lt) I5.free I3.sz (fun y c e=>?_) (fun q hq=>?_) ?_ qf
   ·obtain⟨v,z⟩:=I3.cell y c e
    exact Nat.ne_of_lt z.lt
   ·exact Nat.ne_of_lt (Heap.lt_size (I3.pin q hq).1)
   ·exact I3.call' (s':=s5) (ch:=fp) I5.os I5.base I5.hok I5.bare fun b hb=>⟨(f2 b hb).2.2.2.1,(f2 b hb).2.1,(f2 b hb).2.2.2.2.1,(f2 b hb).2.2.2.2.2⟩
  ·refine wpAny_mono (T.item (X.blk (x::fv.map (·.1)) scope cl fp s3 (upd H2 s2.heap.objs.size (.lst []))) rfl rfl rfl hcalm i [] s _ H' (fun _ _=>False) I' (fpk fr') st' go) (fun r s5 ⟨u,hr,h5⟩=>?_) fun _ _ z=>False.elim z
   subst hr;have e5:assign (.Name x px) (compEnvC scope cl s3.heap.objs.size X.env) u=(letOwnedTupleGo (.Name x px) (.ref it) u >>= fun _=>assign (.Name x px) (compEnvC scope cl s3.heap.objs.size X.env) u):=by
    rw[show letOwnedTupleGo (.Name x px) (.ref it) u=pure () from rfl];rfl
   show wpAny _ _ (assign (.Name x px) (compEnvC scope cl s3.heap.objs.size X.env) u) _ _ _;rw[e5];refine wpAny_bind (wpAny_mono h5 (fun _ s6 ⟨y,H6,I6,r6,y6,st6,fr6⟩=>?_) fun _ _ z=>False.elim z);have I6':=I6.pinned (fpk fr6) (T.obj _ _ st6);have lx:(relabel scope X.env).names.lookup x=some .local:=lookup_relabel_local C.own;refine wpAny_mono (aF (X:=X.blk (x::fv.map (·.1)) scope cl fp s3 (upd H2 s2.heap.objs.size (.lst []))) (i:=0) C.nd rfl (.inl lx) (.inr lx) _ s6 _ H6 y u (fun σ7 H7=>σ7=some y::fvs fv σ∧H7=H6) I6' r6 ⟨rfl,rfl⟩) (fun _ s7 ⟨σ7,H7,I7,e7,e7'⟩=>?_) fun _ _ z=>False.elim z;subst e7 e7';refine wpAny_mono (he s3 _ _ s7 _ _ _ I7 (turn y _ y6)) (fun v8 s8 ⟨y8,H8,I8,r8,q8,m',hm',w8⟩=>?_) fun _ _ z=>False.elim z;refine wpAny_mono (gY (X:=X.blk (x::fv.map (·.1)) scope cl fp s3 (upd H2 s2.heap.objs.size (.lst []))) _ s8 _ H8 (.ref s2.heap.objs.size) [y8] (.ref s2.heap.objs.size) [v8] (fun _ H9=>H9=upd H8 s2.heap.objs.size (.lst (acc++[y8]))) I8 rfl (.cons r8 .nil) ⟨_,acc,y8,rfl,rfl,q8,hlen,rfl⟩) (fun _ s9 ⟨_,H9,I9,_,e9⟩=>?_) fun _ _ z=>False.elim z;subst e9;refine⟨m',hm',i+1,acc++[y8],some y,_,I9.unpinned,T.keep _ _ _ st6 fun b hb o e=>(I9.pin (b,o) (List.mem_append_right _ (List.mem_append_right _ (cU hb e)))).1,fun b hb=>?_,w8⟩;obtain⟨o,e,d⟩:=T.obj _ _ st6 b hb;exact(I9.pin (b,o) (List.mem_append_right _ (List.mem_append_right _ (cU hb e)))).2.1
 exact codeAny_compStart_list loop (T.self _ 0 _ _ _ st4 loop)
theorem rz{wi:TI}(hcalm:X.calm=true)(C:yo X scope cl x fv)(hi:PI X (.Name x px) iter wi)(he:∀(fp:List Addr) (s₀:Shared) (H₀:Hp),PE (X.blk (x::fv.map (·.1)) scope cl fp s₀ H₀) elt te)
  (hs:∀v,foldedSetIterable iter X.env v=pure v:=by intro _;rfl):PE X (.ListComp elt [⟨.Name x px,iter,[],0⟩] scope pos) (sQ wi fv te):=by
 intro pins s σ H Q I h;rw[eval_ListComp];refine wpAny_comprehension_free (use:=none) rfl hs C.clos C.kind C.names (wpAny_mono (hi pins s σ H _ I h) (fun v s1 h1=>wpAny_mono h1 (fun itv s2 h2=>?_) fun _ _ z=>z) fun _ _ z=>z);obtain⟨it,fp,tn,J,H2,rfl,I2,T,st2,f2,rd⟩:=h2;refine oa (Qf:=Q) hcalm C I2 T st2 f2 rd (he fp) fun p D H' s' ns nL nH n0 nC nP I8 q=>?_;obtain⟨m,hn⟩:=ns;exact⟨m,hn,fun h'' sb=>⟨.ref p,H',I8.turned (t':=s'.toks) (fun b o hb e=>(sb.2 b hb).trans e) nH nL (.inr n0) nC nP,rfl,q⟩⟩
theorem mH{wi:TI}{y:Str}{j:Nat}{py spos:Pos}(hcalm:X.calm=true)(C:yo X scope cl x fv)(hN:X.N.Nodup)(hj:X.N[j]? = some y)(hy:X.env.scope.names.lookup y=some .local)(hi:PI X (.Name x px) iter wi)(he:∀(fp:List Addr) (s₀:Shared) (H₀:Hp),PE (X.blk (x::fv.map (·.1)) scope cl fp s₀ H₀) elt te)
  (hsw:swapsWith (.ListComp elt [⟨.Name x px,iter,[],0⟩] scope pos) (some (.Name y py)) spos.line X.env=pure true:=by rfl)
  (hs:∀v,foldedSetIterable iter X.env v=pure v:=by intro _;rfl):PS X (.Assign [.Name y py] (.ListComp elt [⟨.Name x px,iter,[],0⟩] scope pos) spos) (ld (sQ wi fv te) (gF j)):=by
 intro pins s σ H D I h;rw[exec_Assign_Name_used _ _ _ _ hsw];refine wpAny_bind (wpAny_standAt (wpAny_bind ?_));show wpAny _ _ (do let _ <- comprehension (.ListComp elt [⟨.Name x px,iter,[],0⟩] scope pos) scope X.env _ (newList []) false (eval iter X.env) (some (assign (.Name y py) X.env))) _ _ s
 refine wpAny_bind (wpAny_mono (wpAny_comprehension_free (use:=some (assign (.Name y py) X.env)) (Q:=fun _ s'=>SP X pins D .next s') rfl hs C.clos C.kind C.names
  (wpAny_mono (hi pins s σ H _ I h) (fun v s1 h1=>wpAny_mono h1 (fun itv s2 h2=>?_) fun _ _ z=>z) fun _ _ z=>z)) (fun _ s' hq=>wpAny_pure (wpAny_pure hq)) fun _ _ z=>z)
 obtain⟨it,fp,tn,J,H2,rfl,I2,T,st2,f2,rd⟩:=h2;refine oa (Qf:=fun v H'=>gF j v σ H' D.nx) hcalm C I2 T st2 f2 rd (he fp) fun p D' H' s' ns nL nH n0 nC nP I8 q=>?_;obtain⟨m,hn⟩:=ns;show wpAny _ _ (assign (.Name y py) X.env (.ref p)) _ _ _;refine wpAny_assign_Name (jL I8 hN hj (.inl hy) (v:=.ref p) rfl (fun s9 I9 ⟨a,sb,ha⟩=>?_) (.inr hy));have aD:D'≠a:=by
  rintro rfl;rcases ha with z|z
  ·exact nL z
  ·exact nC y _ z rfl
 exact⟨m,hn.sameBut sb aD,fun h'' sb2=>⟨_,H',I9.turned (t':=s9.toks) (fun b o hb e=>(sb2.2 b hb).trans e) nH nL (.inr n0) nC nP,q⟩⟩
end
end L2
namespace L2
open PySem PySem.Spec PyProof.Rows
def iX(s:Stmt):Scope:=match s with
 | .Assign _ (.ListComp _ _ sc _) _=>sc
 | _=>{ kind:=.function,names:=[],isGenerator:=false,isCoroutine:=false }
end L2
namespace L2
open PySem PySem.Spec PyProof.Rows
theorem dl{X:Cx}{K:W.Frag}(h:X.K=K):IxR X (CV K):=h▸ai
end L2
namespace L2
open PySem PySem.Spec PyProof.Rows
theorem j9{K:W.Frag}{a:Addr}{xs:List V}{fv:List (Str×Nat)}{te:TE}{σ:St}{H1:Hp}{Qp:Hp->Prop}{l:Addr}(Pv:Nat->List V->Hp->Prop)(h0:Pv 0 [] (upd H1 l (.lst [])))(hp:∀i acc H2,i≤xs.length->Pv i acc H2->SqL K H2 a xs∧H2 l=some (.lst acc)∧acc.length<sizeLine)
  (hs:∀i x acc H2 (Kc:VK),xs[i]? = some x->Pv i acc H2->(∀y H4,H4 l=some (.lst acc)->Pv (i+1) (acc++[y]) (upd H4 l (.lst (acc++[y])))->Kc y H4)->te (some x::fvs fv σ) H2 Kc) (hd:∀acc H2,Pv xs.length acc H2->Qp H2) :
  ∃W:Nat->Nat->List V->Hp->Prop,(∃m,W 0 m [] (upd H1 l (.lst [])))∧∀i m acc H2,W i m acc H2 ->
   H2 l=some (.lst acc)∧acc.length<sizeLine∧(((Itl K a).stop i H2∧Qp H2)∨((Itl K a).go i H2∧∀x H3,(Itl K a).yld i H2 x H3->te (some x::fvs fv σ) H3 fun y H4=>H4 l=some (.lst acc)∧∃m',m'<m∧W (i+1) m' (acc++[y]) (upd H4 l (.lst (acc++[y]))))):=by
 refine⟨fun i m acc H2=>m=xs.length - i∧i≤xs.length∧Pv i acc H2,⟨xs.length,by simp,Nat.zero_le _,h0⟩,?_⟩;rintro i m acc H2 ⟨rfl,hi,p⟩;obtain⟨q1,q2,q3⟩:=hp i acc H2 hi p;refine⟨q2,q3,?_⟩
 by_cases hlt:i<xs.length
 ·refine .inr ⟨⟨xs,xs[i],q1,List.getElem?_eq_getElem hlt⟩,fun x H3 y=>?_⟩
  obtain⟨e1,e2⟩:=y;subst e1;exact hs i x acc _ _ (e2 xs q1) p fun y H4 z1 z2=>⟨z1,xs.length - (i+1),by omega,rfl,hlt,z2⟩
 ·have e:i=xs.length:=by omega
  subst e;exact .inl ⟨⟨xs,q1,Nat.le_refl _⟩,hd acc H2 p⟩
end L2
namespace L2
open PySem PySem.Spec PyProof.Rows
theorem mY{xs:List V}{us:List Value}{j:Nat}(r:aM xs us)(h:j<us.length):∃a,xs[j]? = some a∧bj a us[j]:=by
 have hl:=r.length;have hj:j<xs.length:=by omega
 obtain⟨u,e,q⟩:=r.get (i:=j) (x:=xs[j]) (List.getElem?_eq_getElem hj);rw[List.getElem?_eq_getElem h]at e;cases e;exact⟨xs[j],List.getElem?_eq_getElem hj,q⟩
section
variable {X:Cx} {pins:List (Addr×Obj)} {σ:St} {H:Hp} {s:Shared}
end
end L2
namespace L2
open PySem
theorem xF.units10{k:Nat}{A:Around}(r:xF k A):A.units+10<cLine:=by have:=r.un;omega
end L2
namespace L2
open PySem PySem.Spec PyProof.Rows
def CPX(i j:Int):Prop:=0≤j∧(Builtin.Int.intBits i:Int)*j≤2^27
theorem iE{X:Cx}:OpR X (binaryOp .Pow) (rI CPX fun i j=>.int (i^j.toNat)):=opI fun _ _ _ _ _ _ _ hc q=>pow_int hc.1 hc.2 q
theorem sG{i:Int}{n:Nat}(h:ao i≤n)(hn:n≤100000):CPX i 2:=⟨by decide,by
 have e:(2:Int)^27=134217728:=by decide
 have h':Builtin.Int.intBits i≤n:=h;rw[e];omega⟩
end L2
namespace Sp3
open PySem PySem.Spec L2 Mth Sp1 Sp2
end Sp3
namespace Sp3
open PySem PySem.Spec L2 Mth Sp1 Sp2
theorem wW.mono{H H':Hp}{x:V}(h:wW H x)(s:Same H H'):wW H' x:=by
 obtain⟨⟨t,k⟩,pt⟩:=h;refine⟨⟨t,k.mono s⟩,fun p xs e1 e2 y hy=>?_⟩;subst e1;have e3:H p=some (.tup xs):=by
  cases k with
  | lst e=>rw[s _ _ e]at e2;cases e2
  | tup e=>rw[s _ _ e]at e2;cases e2;exact e
  | dict e=>rw[s _ _ e]at e2;cases e2
 obtain⟨t',k'⟩:=pt p xs rfl e3 y hy;exact⟨t',k'.mono s⟩
abbrev Crn:=List (Addr×Int×Int)
end Sp3
namespace PySem
open Sem (wp)
section
variable {prog:Program} {w:World} {A:Around} {E:Value->Shared->Prop} {h:Heap} {g:Array GenState} {d:Drawn} {t:Nat} {os:OsState} {a:Addr} {o:Obj}
 {nm q:Str} {C N:Addr} {bs bm:List Value} {hdct:Bool} {sn:List Str} {sub:List Value} {ab:Bool} {col:Option Bool} {dd:Option Addr} {k0 k1 k2 k3 k5:Option Value} {newId:String}
end
end PySem
namespace L2
open PySem PySem.Spec PyProof.Rows
section
variable {X:Cx}
end
section
variable {X:Cx} {pins:List (Addr×Obj)} {σ:St} {H:Hp} {s:Shared}
theorem vO.track{a:Addr}{o:HO}(I:vO X pins σ H s)(hn:H a=none)(h0:X.s₀.heap.get? a=none)(hl:a≠X.env.locals)(hc:∀x c,X.env.cells.lookup x=some c->c≠a)(hp:∀p∈X.pn++pins,p.1≠a)
  (ho:cC X.prog X.w (upd H a o) s.heap a o):vO X pins σ (upd H a o) s where
 ok:=I.ok
 os:=I.os
 bare:=I.bare
 base:={
  keep:=I.base.keep
  slot:=I.base.slot
  free:=fun b ob e n hx=>by
   rw[aT (fun z=>by subst z;rw[h0]at e;cases e)];exact I.base.free b ob e n hx
  there:=I.base.there
  tups:=fun b xs q=>by
   have z:=I.base.tups b xs q;rw[aT (aN z hn)];exact z
  frzs:=fun b ob u q=>by
   have z:=I.base.frzs b ob u q;rw[aT (aN z hn)];exact z
  tbls:=fun b ps q=>by
   obtain⟨m,z⟩:=I.base.tbls b ps q;exact⟨m,by rw[aT (aN z hn)];exact z⟩ }
 loc:=I.loc
 cell:=I.cell
 free:=by rw[aT (Ne.symm hl)];exact I.free
 freeC:=fun x c e=>by rw[aT (hc x c e)];exact I.freeC x c e
 pin:=fun p m=>by
  obtain⟨p1,p2,p3⟩:=I.pin p m;exact⟨p1,by rw[aT (hp p m)];exact p2,p3⟩
 hok:=fun b u q=>by
  by_cases hb:b=a
  ·subst hb
   rw[upd_same]at q;cases q;exact ho
  ·rw[aT hb]at q
   exact(I.hok b u q).stay (fun _ _ _ r=>r) (fun c r=>by rw[aT (aN r hn)];exact r) fun c xs r=>by rw[aT (aN r hn)];exact r
 len:=I.len
end
section
variable {X:Cx}
end
end L2
namespace Sp8
open PySem PySem.Spec L2 Mth Sp1 Sp2 Sp3
end Sp8
namespace L2
open PySem PySem.Spec PyProof.Rows
theorem SqT.mod{K:W.Frag}{H:Hp}{a:Addr}{oc:Value}{od:Option Addr}{its:Array Value}{n:Nat}{sl:Array (Option Value)}{xs:List V}(hk:K.lookup a=some ⟨oc,od,.seq its n,sl⟩)(hc:oc = .type "tuple")(hz:its.size≤100)(r:aM xs its.toList):SqT K H a xs :=
 .inr ⟨_,its,n,hk,hc,rfl,Nat.le_of_lt (bJ (by omega)),r⟩
end L2
namespace Sp24
open PySem PySem.Spec L2 Mth Sp1 Sp2 Sp3 Sp8
end Sp24
namespace L2
open PySem PySem.Spec PyProof.Rows
theorem mX:bootBuiltins "all" = some (.builtin "all"):=by decide +kernel
theorem vn{bs:List Bool}{us:List Value}{i:Nat}{v:Value}(r:aM (bs.map V.bl) us)(h:us[i]? = some v):∃b,bs[i]? = some b∧v = .bool b:=by
 have hl:=r.length;rw[List.length_map]at hl;have hi:i<us.length:=(List.getElem?_eq_some_iff.mp h).1;have hj:i<bs.length:=by omega
 obtain⟨u,e,q⟩:=r.get (i:=i) (x:=.bl bs[i]) (by rw[List.getElem?_map,List.getElem?_eq_getElem hj];rfl);rw[h]at e;cases e;exact⟨bs[i],List.getElem?_eq_getElem hj,q⟩
theorem oY(bs:List Bool):((List.range bs.length).all fun i=>(bs[i]?).getD true)=bs.all id:=by
 rw[Bool.eq_iff_iff];simp only[List.all_eq_true,List.mem_range,id];constructor
 ·intro h b hb
  obtain⟨i,hi,rfl⟩:=List.mem_iff_getElem.mp hb;have z:=h i hi;rw[List.getElem?_eq_getElem hi]at z;exact z
 ·intro h i hi
  rw[List.getElem?_eq_getElem hi];exact h _ (List.getElem_mem hi)
theorem jt{X:Cx}(hc:X.calm=true):gP X (.builtin "all") (fun xs H Q=>∃(p:Addr) (bs:List Bool),xs = [.ref p]∧SqL X.K H p (bs.map V.bl)∧Q (.bl (bs.all id)) H):=by
 intro pins s σ H xs us Q I r h;obtain⟨p,bs,rfl,hq,q⟩:=h;obtain⟨u,rfl,rx⟩:=dj r;cases rx;obtain⟨its,rv,pl,_⟩:=I.list hq;have hl:=pl.isList;have lt:p<s.heap.objs.size:=by
  obtain⟨_,e,_⟩:=hl;exact Heap.lt_size e
 refine call_all_walk (wpAny_pyIter_list hl ?_);refine⟨s.heap.objs.size,[s.heap.objs.size,p],[s.heap.objs.size],its.toArray.size,_,_,fun i=>(bs[i]?).getD true,rfl,Walks.list (A:=X.A.in1) (I.ok.hd hc) _ p (Nat.ne_of_lt lt) its.toArray,?_⟩;refine⟨⟨⟨_,Heap.get?_push_size _ rfl,rfl,rfl⟩,hl.push _⟩,fun i v s' Q' E' hP hQ=>?_,fun h' tk hk=>?_⟩
 ·obtain⟨b,e,rfl⟩:=vn rv (by simpa using hP)
  simp only[e,Option.getD_some]at hQ;exact wpAny_truthy_bool hQ
 ·have el:its.toArray.size=bs.length:=by
   have:=rv.length;rw[List.length_map]at this;rw[List.size_toArray];omega
  rw[el,oY];refine⟨.bl _,H,I.kept (t':=tk) fun b o e=>?_,rfl,q⟩;exact hk b o (fun hm=>by rw[List.mem_singleton.mp hm]at e;exact Nat.lt_irrefl _ (Heap.lt_size e)) (Heap.get?_push_of_some _ e)
end L2
namespace Sp7
open PySem PySem.Spec L2 Mth Sp1 Sp2 Sp3
def u6:Int:=999999999999
def Sm(x:Int):Prop:=-u6≤x∧x≤u6
structure LineM(H:Hp)(l:Addr)(qs:Crn):Prop where
 lst:H l=some (.lst (qs.map fun q=>V.ref q.1))
 crn:∀q∈qs,H q.1=some (.tup [.int q.2.1,.int q.2.2])∧Sm q.2.1∧Sm q.2.2
theorem LineM.mono{H H':Hp}{l:Addr}{qs:Crn}(L:LineM H l qs)(s:Same H H'):LineM H' l qs:=⟨s _ _ L.lst,fun q h=>⟨s _ _ (L.crn q h).1,(L.crn q h).2⟩⟩
def retScope(s:Stmt):Scope:=match s with
 | .Return (some (.Call _ [.ListComp _ _ sc _] _ _)) _=>sc
 | .Return (some (.ListComp _ _ sc _)) _=>sc
 | _=>{ kind:=.function,names:=[],isGenerator:=false,isCoroutine:=false }
end Sp7
namespace L2
open PySem PySem.Spec PyProof.Rows
theorem bits_add2{i j:Int}{m n:Nat}(hi:ao i≤m)(hj:ao j≤n):ao (i+j)≤max m n+1:=cx (af hi (Nat.le_max_left _ _)) (af hj (Nat.le_max_right _ _))
theorem oV{i j:Int}{n:Nat}(hj:0<j)(h:ao j≤n):ao (i % j)≤n:=cG (Int.emod_nonneg _ (by omega)) (Int.le_of_lt (Int.emod_lt_of_pos _ hj)) h
theorem aR{p:Prop}[Decidable p](h:decide p=true):p:=of_decide_eq_true h
theorem bI{p:Prop}[Decidable p](h:decide p=false):¬p:=of_decide_eq_false h
theorem CM.of{i j:Int}{m n:Nat}(hi:ao i≤m)(hj:ao j≤n)(h:m≤1000000∧n≤1000000):CM i j:=CM.b hi hj (by have:(2:Nat)^20=1048576:=(by decide);omega) (by have:(2:Nat)^20=1048576:=(by decide);omega)
theorem bits_of_le{i:Int}{m n:Nat}(h:ao i≤m)(hm:m≤n):ao i≤n:=Nat.le_trans h hm
end L2
namespace L2
open PySem PySem.Spec PyProof.Rows
def SameT(H H':Hp):Prop:=∀b xs,H b=some (.tup xs)->H' b=some (.tup xs)
theorem Same.t{H H':Hp}(s:Same H H'):SameT H H':=fun b xs e=>s b _ e
theorem SameT.trans{H H1 H2:Hp}(a:SameT H H1)(b:SameT H1 H2):SameT H H2:=fun c xs e=>b c xs (a c xs e)
theorem SameT.upd{H:Hp}{l:Addr}{xs ys:List V}(hl:H l=some (.lst xs)):SameT H (upd H l (.lst ys)):=fun b zs e=>by
 rw[aT (pK e hl (by intro z;cases z))];exact e
theorem Same.upd{H0 H:Hp}{l:Addr}{o:HO}(s:Same H0 H)(hl:H0 l=none):Same H0 (upd H l o):=fun b u e=>by
 rw[aT (aN e hl)];exact s b u e
def qV(J:It)(fv:List (Str×Nat))(te:TE)(σ:St)(H1:Hp)(Q:VK):Prop:=∀p,H1 p=none->∃W:Nat->Nat->List V->Hp->Prop,(∃m,W 0 m [] (upd H1 p (.lst [])))∧∀i m acc H2,W i m acc H2 ->
 H2 p=some (.lst acc)∧acc.length<sizeLine∧((J.stop i H2∧Q (.ref p) H2)∨(J.go i H2∧∀x H3,J.yld i H2 x H3->te (some x::fvs fv σ) H3 fun y H4=>H4 p=some (.lst acc)∧∃m',m'<m∧W (i+1) m' (acc++[y]) (upd H4 p (.lst (acc++[y])))))
def pb(wi:TI)(fv:List (Str×Nat))(te:TE):TE:=fun σ H Q=>wi σ H fun J H1=>qV J fv te σ H1 Q
section
variable {X:Cx} {scope:Scope} {cl:List (Str×Addr)} {x:Str} {fv:List (Str×Nat)} {elt iter:Expr} {px pos:Pos} {te:TE}
theorem gC{wi:TI}(hcalm:X.calm=true)(C:yo X scope cl x fv)(hi:PI X (.Name x px) iter wi)(he:∀(fp:List Addr) (s₀:Shared) (H₀:Hp),PE (X.blk (x::fv.map (·.1)) scope cl fp s₀ H₀) elt te)
  (hs:∀v,foldedSetIterable iter X.env v=pure v:=by intro _;rfl):PE X (.ListComp elt [⟨.Name x px,iter,[],0⟩] scope pos) (pb wi fv te):=rz hcalm C hi he hs
theorem eW{wi:TI}{y:Str}{j:Nat}{py spos:Pos}(hcalm:X.calm=true)(C:yo X scope cl x fv)(hN:X.N.Nodup)(hj:X.N[j]? = some y)(hy:X.env.scope.names.lookup y=some .local)(hi:PI X (.Name x px) iter wi)(he:∀(fp:List Addr) (s₀:Shared) (H₀:Hp),PE (X.blk (x::fv.map (·.1)) scope cl fp s₀ H₀) elt te)
  (hsw:swapsWith (.ListComp elt [⟨.Name x px,iter,[],0⟩] scope pos) (some (.Name y py)) spos.line X.env=pure true:=by rfl)
  (hs:∀v,foldedSetIterable iter X.env v=pure v:=by intro _;rfl):PS X (.Assign [.Name y py] (.ListComp elt [⟨.Name x px,iter,[],0⟩] scope pos) spos) (ld (pb wi fv te) (gF j)):=mH hcalm C hN hj hy hi he hsw hs
end
theorem ij{K:W.Frag}{a:Addr}{xs:List V}{fv:List (Str×Nat)}{te:TE}{σ:St}{H1:Hp}{Q:VK}(hL:SqL K H1 a xs)(hlen:xs.length<1000)(R:Nat->V->Hp->Prop)(hR:∀i v H H',SameT H H'->R i v H->R i v H')
  (hs:∀i x H2 (Kc:VK),xs[i]? = some x->Same H1 H2->(∀y H4,Same H2 H4->R i y H4->Kc y H4)->te (some x::fvs fv σ) H2 Kc)
  (hd:∀l ys H',H1 l=none->Same H1 H'->H' l=some (.lst ys)->ys.length=xs.length->(∀i y,ys[i]? = some y->R i y H')->Q (.ref l) H') :
  qV (Itl K a) fv te σ H1 Q:=by
 intro l hl;refine j9 (K:=K) (a:=a) (xs:=xs) (l:=l) (fv:=fv) (Qp:=fun H2=>Q (.ref l) H2) (fun i acc H2=>acc.length=i∧Same H1 H2∧H2 l=some (.lst acc)∧∀j y,acc[j]? = some y->R j y H2)
  ⟨rfl,Same.new hl,upd_same,fun j y h=>by simp at h⟩ ?_ ?_ ?_
 ·rintro i acc H2 hi ⟨e1,sm,e3,_⟩
  exact⟨sm.seq hL,e3,bJ (by omega)⟩
 ·rintro i x acc H2 Kc hx ⟨e1,sm,e3,hr⟩ kk
  refine hs i x H2 Kc hx sm fun y H4 s4 ry=>kk y H4 (s4 _ _ e3) ⟨by simp[e1],(sm.trans s4).upd hl,upd_same,fun j z hz=>?_⟩;have t4:=SameT.upd (ys:=acc++[y]) (s4 _ _ e3);rcases Nat.lt_trichotomy j acc.length with h|h|h
  ·rw[List.getElem?_append_left h]at hz
   exact hR _ _ _ _ (s4.t.trans t4) (hr j z hz)
  ·subst h
   rw[List.getElem?_append_right (Nat.le_refl _),Nat.sub_self]at hz;cases hz;rw[e1];exact hR _ _ _ _ t4 ry
  ·rw[List.getElem?_eq_none (by simp;omega)]at hz
   cases hz
 ·rintro acc H2 ⟨e1,sm,e3,hr⟩
  exact hd l acc H2 hl sm e3 e1 hr
theorem nice_tuple:qU "tuple":=.inr (.inr (.inl rfl))
theorem nice_list:qU "list":=.inr (.inr (.inr (.inl rfl)))
theorem nice_str:qU "str":=.inr (.inr (.inr (.inr rfl)))
end L2
namespace L2
open PySem PySem.Spec PyProof.Rows
section
variable {X:Cx} {pos:Pos} {es:List Expr} {ta:TA}
inductive Dj (f:List V->HO) (xs:List V) (H1:Hp) (Q:VK):Prop
 | mk (z:xs.length≤sizeLine) (q:∀p H2,Same H1 H2->H2 p=some (f xs)->H1 p=none->Q (.ref p) H2):Dj f xs H1 Q
def k9(t:TA):TE:=fun σ H Q=>t σ H fun xs H1=>Dj .tup xs H1 Q
def uH(t:TA):TE:=fun σ H Q=>t σ H fun xs H1=>Dj .lst xs H1 Q
theorem aA{x1}(h:PA X es ta):PE X (.Tuple es x1 pos) (k9 ta):=by
 intro pins s σ H Q I hq;refine wpAny_Tuple_spliced (thn (h pos pins s σ H _ I hq) fun us s1 ⟨xs,H1,I1,r,z,q⟩=>⟨by rw[<- r.length];exact z,?_⟩);have hf:H1 s1.heap.objs.size=none:=I1.hok.fresh (Nat.le_refl _);refine⟨.ref s1.heap.objs.size,upd H1 s1.heap.objs.size (.tup xs),I1.laid (t':=s1.toks) (fun b u e=>Heap.get?_push_of_some _ e) (Nat.le_refl _) ?_,rfl,q _ _ (Same.new hf) upd_same hf⟩;exact⟨z,us,r,⟨_,Heap.get?_push_size _ rfl,rfl,_,rfl⟩⟩
theorem bW(h:PA X es ta):PE X (.List es pos) (uH ta):=by
 intro pins s σ H Q I hq;refine wpAny_List_spliced (thn (h pos pins s σ H _ I hq) fun us s1 ⟨xs,H1,I1,r,z,q⟩=>⟨by rw[<- r.length];exact z,?_⟩);have hf:H1 s1.heap.objs.size=none:=I1.hok.fresh (Nat.le_refl _);refine⟨.ref s1.heap.objs.size,upd H1 s1.heap.objs.size (.lst xs),I1.laid (t':=s1.toks) (fun b u e=>Heap.get?_push_of_some _ e) (Nat.le_refl _) ?_,rfl,q _ _ (Same.new hf) upd_same hf⟩;exact⟨z,us,0,r,Heap.get?_push_size _ rfl⟩
inductive C4 (K:W.Frag) (x:V) (lo:Option Int) (hi:Option Int) (H:Hp) (Q:VK):Prop
 | mk:∀a xs,(x = .ref a)->(SqL K H a xs)->(∀p H2,Same H H2->H2 p=some (.lst (js xs lo hi))->H p=none->Q (.ref p) H2)->C4 K x lo hi H Q
theorem eU:SlR X (C4 X.K):=fun pins s σ H x v vl vu lo hi sl Q I rx hs pl pu ⟨a,xs,e,hx,q⟩ =>
 qY pins s σ H x v vl vu lo hi sl Q I rx hs pl pu ⟨a,xs,e,hx,fun p hp=>q p _ (Same.new hp) upd_same hp⟩
inductive CP (x:V) (y:V) (H:Hp) (Q:VK):Prop
 | mk:∀l b xs zs,(x = .ref l)->(y = .ref b)->(H l=some (.lst xs))->(H b=some (.lst zs))->(xs.length+zs.length≤sizeLine)->(∀p H2,Same H H2->H2 p=some (.lst (xs++zs))->H p=none->Q (.ref p) H2)->CP x y H Q
theorem nn:OpR X (binaryOp .Add) CP:=fun pins s σ H x y v u Q I rx ry ⟨l,b,xs,zs,e1,e2,h1,h2,hz,q⟩ =>
 tV pins s σ H x y v u Q I rx ry ⟨l,b,xs,zs,e1,e2,h1,h2,hz,fun p hp=>q p _ (Same.new hp) upd_same hp⟩
inductive C5 (x:V) (y:V) (H:Hp) (Q:VK):Prop
 | mk:∀l k xs,(x = .ref l)->(y = .int k)->(H l=some (.lst xs))->(-(2^63)≤k)->(k<2^63)->(xs.length*k.toNat≤sizeLine)->(∀p H2,Same H H2->H2 p=some (.lst (List.replicate k.toNat xs).flatten)->H p=none->Q (.ref p) H2)->C5 x y H Q
theorem rC:OpR X (binaryOp .Mult) C5:=fun pins s σ H x y v u Q I rx ry ⟨l,k,xs,e1,e2,h1,h2,h3,hz,q⟩ =>
 tT pins s σ H x y v u Q I rx ry ⟨l,k,xs,e1,e2,h1,h2,h3,hz,fun p hp=>q p _ (Same.new hp) upd_same hp⟩
structure Cr(H H':Hp)(l:Addr)(xs ys:List V):Prop where
 was:H l=some (.lst xs)
 now:H' l=some (.lst ys)
 oth:∀b,b≠l->H' b=H b
theorem Cr.mk'{H:Hp}{l:Addr}{xs ys:List V}(h:H l=some (.lst xs)):Cr H (L2.upd H l (.lst ys)) l xs ys:=⟨h,upd_same,fun _ n=>aT n⟩
theorem Cr.t{H H':Hp}{l:Addr}{xs ys:List V}(u:Cr H H' l xs ys):SameT H H':=fun b zs e=>by
 rw[u.oth b (pK e u.was (by intro z;cases z))];exact e
theorem Cr.same{H0 H H':Hp}{l:Addr}{xs ys:List V}(u:Cr H H' l xs ys)(s:Same H0 H)(h:H0 l=none):Same H0 H':=fun b o e=>by
 rw[u.oth b (aN e h)];exact s b o e
theorem Cr.at{H H':Hp}{l b:Addr}{xs ys:List V}{o:HO}(u:Cr H H' l xs ys)(n:b≠l)(e:H b=some o):H' b=some o:=by
 rw[u.oth b n];exact e
inductive Ah (x:V) (vs:List V) (H:Hp) (Q:VK):Prop
 | mk:∀l xs y,(x = .ref l)->(vs = [y])->(H l=some (.lst xs))->(xs.length<sizeLine)->(∀H',Cr H H' l xs (xs++[y])->Q .non H')->Ah x vs H Q
theorem cF:MtM X "list.append" Ah:=fun pins s σ H x xs v us Q I rx rs ⟨l,ys,y,e1,e2,h,hz,q⟩ =>
 gY pins s σ H x xs v us Q I rx rs ⟨l,ys,y,e1,e2,h,hz,q _ (.mk' h)⟩
inductive CK (o:V) (i:V) (v:V) (H:Hp) (Q:(Hp->Prop)):Prop
 | mk:∀p xs k j,(o = .ref p)->(i = .int k)->(H p=some (.lst xs))->(ixN xs.length k=some j)->(∀H',Cr H H' p xs (xs.set j v)->Q H')->CK o i v H Q
theorem fD:uC X CK:=fun pins s σ H o i v uo ui uv Q I ro ri rv ⟨p,xs,k,j,e1,e2,h,hj,q⟩ =>
 pi pins s σ H o i v uo ui uv Q I ro ri rv ⟨p,xs,k,j,e1,e2,h,hj,q _ (.mk' h)⟩
end
end L2
namespace L2
open PySem PySem.Spec PyProof.Rows
theorem uX{K:W.Frag}{H:Hp}{l:Addr}{xs:List V}{i:Int}{Q:VK}(e:H l=some (.lst xs))(h0:0≤i)(h1:i<(xs.length:Int))(h:∀v∈xs,Q v H):CL K (.ref l) (.int i) H Q:=by
 obtain⟨v,hv,mv⟩:=Sp1.atI_mem h0 h1;exact⟨l,xs,i,v,rfl,rfl,SqL.of e,hv,h v mv⟩
theorem hU{α:Type}{xs:List α}(h:xs.length=3):∃a b c,xs = [a,b,c]:=match xs,h with | [a,b,c],_=>⟨a,b,c,rfl⟩
theorem cj{α:Type}{xs:List α}(h:xs.length=2):∃a b,xs = [a,b]:=match xs,h with | [a,b],_=>⟨a,b,rfl⟩
theorem ir{α:Type}{xs:List α}(h:xs.length=4):∃a b c d,xs = [a,b,c,d]:=match xs,h with | [a,b,c,d],_=>⟨a,b,c,d,rfl⟩
theorem qc{α:Type}{xs:List α}(h:xs.length=5):∃a b c d e,xs = [a,b,c,d,e]:=match xs,h with | [a,b,c,d,e],_=>⟨a,b,c,d,e,rfl⟩
theorem len6{α:Type}{xs:List α}(h:xs.length=6):∃a b c d e f,xs = [a,b,c,d,e,f]:=match xs,h with | [a,b,c,d,e,f],_=>⟨a,b,c,d,e,f,rfl⟩
end L2
namespace L2
open PySem PySem.Spec PyProof.Rows
section
variable {X:Cx} {pins:List (Addr×Obj)} {σ:St} {H:Hp} {s:Shared}
theorem vO.turnedL{h':Heap}{t':Nat}{ch:List Addr}(I:vO X pins σ H s)(k:∀b o,b∉ch->s.heap.get? b=some o->h'.get? b=some o)(hf:∀b∈ch,eE X pins H b):vO X pins σ H { s with heap:=h',toks:=t' }:=by
 have nit:∀b u,H b=some u->b∉ch:=fun b u e z=>by
  have n:=(hf b z).1;rw[n]at e;cases e
 refine I.step (g':=s.gens) (d':=s.drawn) (ch:=ch) (fun b hb=>?_) (fun b o _ _ hc e _=>k b o hc e) (fun b o _ _ hc e _=>⟨o.slots,k b o hc e⟩) (fun _ _ _ _ n=>n)
  (fun b o hc e=>⟨o,k b o hc e⟩) (fun _ _ e=>e) (fun _ _ _ e=>e) (fun b ps e=>⟨#[],by rw[e];simp⟩) (fun m hm=>?_) (fun b u e=>?_) I.bare
 ·obtain⟨f0,f1,f2,f3,f4,f5⟩:=hf b hb
  exact⟨f3,f1,f4,f5⟩
 ·obtain⟨o,es,ep,ho,r⟩:=hm
  exact⟨o,es,ep,k _ o (fun z=>(hf _ z).2.1 rfl) ho,r⟩
 ·refine(I.hok b u e).stay (fun c v hc q=>k c v ?_ q) (fun _ q=>q) fun _ _ q=>q
  rcases hc with z|z
  ·rw[z];exact nit b u e
  ·exact nit c _ z
theorem jJ{E:Value->Shared->Prop}{elts:List Expr}{kt:Nat}{pos:Pos}{i n:Nat}{z:Addr}{fpw wr:List Addr}{Pt:Nat->Array Value->Prop}{Stt:Nat->Heap->Prop}{Mid:Nat->Addr->Heap->Prop}{R:Value->Shared->Prop}
  (W:WalksT X.prog X.w X.A z fpw wr n Pt Stt Mid) (I:vO X pins σ H s) (hwr:∀b∈wr,eE X pins H b) (hi:i<n) (st:Stt i s.heap)
  (k:∀T vals s2,Pt i vals->s.heap.objs.size≤T->s2.heap.IsTuple T vals->Stt (i+1) s2.heap->vO X pins σ H s2->(∀b o,b∉wr->s.heap.get? b=some o->s2.heap.get? b=some o)->R (.ref T) s2) :
  wpAny (model X.prog X.w) X.A (pyNext (.ref z)) (fun r s1=>∃u,r=some u∧wpAny (model X.prog X.w) X.A (letOwnedTupleGo (.Tuple elts kt pos) (.ref z) u) (fun _ s2=>R u s2) E s1) E s:=by
 refine W.item i s _ E hi st fun T vals h' tk hp hT tup mid kk=>⟨.ref T,rfl,?_⟩;refine W.go elts kt pos i T _ _ E mid fun h2 st2 k2=>?_;have kall:∀b o,b∉wr->s.heap.get? b=some o->h2.get? b=some o:=fun b o hb e=>k2 b o hb (kk b o hb e);obtain⟨o,eo,ro⟩:=tup;exact k T vals _ hp hT ⟨o,k2 T o (W.apart i T _ mid) eo,ro⟩ st2 (I.turnedL (t':=tk) kall hwr) kall
theorem jK{T:Addr}{s2:Shared}{xs:List V}{us:List Value}(I:vO X pins σ H s)(J:vO X pins σ H s2)(hT:s.heap.objs.size≤T)(ht:s2.heap.IsTuple T us.toArray)(r:aM xs us)(hz:xs.length≤sizeLine):vO X pins σ (upd H T (.tup xs)) s2∧H T=none:=by
 have hn:H T=none:=I.hok.fresh hT;obtain⟨f0,f1,f2,f3,f4,f5⟩:=I.fpOk hT hn;refine⟨J.track hn ?_ f1 f4 f5 ⟨hz,us,r,ht⟩,hn⟩;cases e:X.s₀.heap.get? T with
 | none=>rfl
 | some o =>
  have h1:=Heap.lt_size e;have h2:=I.sz;exact absurd (Nat.lt_of_lt_of_le h1 (Nat.le_trans h2 hT)) (Nat.lt_irrefl _)
end
def Itz(K:W.Frag)(l1 l2:Addr):It :=
  ⟨fun i H=>∃xs ys x y,SqL K H l1 xs∧SqL K H l2 ys∧xs[i]? = some x∧ys[i]? = some y,
   fun i H v H'=>∃p x y,v = .ref p∧H p=none∧H'=upd H p (.tup [x,y])∧∀xs ys,SqL K H l1 xs->SqL K H l2 ys->xs[i]? = some x∧ys[i]? = some y,
   fun i H=>∃xs ys,SqL K H l1 xs∧SqL K H l2 ys∧i=min xs.length ys.length⟩
def Ite(K:W.Frag)(l:Addr):It :=
  ⟨fun i H=>∃xs x,SqL K H l xs∧xs[i]? = some x,
   fun i H v H'=>∃p x,v = .ref p∧H p=none∧H'=upd H p (.tup [.int (i:Int),x])∧∀xs,SqL K H l xs->xs[i]? = some x,
   fun i H=>∃xs,SqL K H l xs∧i=xs.length⟩
theorem o5{P:Program}{w:World}{K:W.Frag}{elts:List Expr}{kt:Nat}{pos:Pos}(z TI TO i1 i2 l1 l2:Addr)(D:ZipApart z TI TO i1 i2 l1 l2) :
  BT P w K (.Tuple elts kt pos) (Itz K l1 l2) [z,TI,TO,i1,i2] z (fun i h=>IsZip h z TI TO .none∧IsPair h TI (.ref i1) (.ref i2)∧(∃a b,IsPair h TO a b)∧h.IsListIter i1 l1 i∧h.IsListIter i2 l2 i) where
 mem:=by simp
 obj:=fun i h st b hb=>by
  obtain⟨hz,hTI,⟨a,c,hTO⟩,⟨o1,e1,c1,d1⟩,⟨o2,e2,c2,d2⟩⟩:=st;simp only[List.mem_cons,List.not_mem_nil,or_false]at hb;rcases hb with rfl|rfl|rfl|rfl|rfl
  ·exact⟨_,hz,fun v y=>by cases y⟩
  ·exact⟨_,hTI,fun v y=>by cases y⟩
  ·exact⟨_,hTO,fun v y=>by cases y⟩
  ·exact⟨o1,e1,fun v y=>by rw[d1]at y;cases y⟩
  ·exact⟨o2,e2,fun v y=>by rw[d2]at y;cases y⟩
 keep:=fun i h h' st k=>by
  obtain⟨hz,hTI,⟨a,c,hTO⟩,h1,h2⟩:=st;exact⟨k z (by simp) _ hz,k TI (by simp) _ hTI,⟨a,c,k TO (by simp) _ hTO⟩,h1.at fun o e=>k i1 (by simp) o e,h2.at fun o e=>k i2 (by simp) o e⟩
 item:=by
  intro X hP hw hK hc i pins s σ H E I hf st hg;subst hP hw hK;obtain⟨xs,ys,x,y,q1,q2,hx,hy⟩:=hg;obtain⟨its,r1,p1,_⟩:=I.list q1;obtain⟨jts,r2,p2,_⟩:=I.list q2;obtain⟨u1,hu1,ru1⟩:=r1.get hx;obtain⟨u2,hu2,ru2⟩:=r2.get hy;have W:=WalksT.zip2 (prog:=X.prog) (w:=X.w) (I.ok.hd hc) z TI TO i1 i2 l1 l2 D its.toArray jts.toArray;have hn:i<min its.toArray.size jts.toArray.size:=by
   have g1:=(List.getElem?_eq_some_iff.mp hu1).1;have g2:=(List.getElem?_eq_some_iff.mp hu2).1;simp only[List.size_toArray];omega
  obtain⟨hz,hTI,hTO,h1,h2⟩:=st;refine jJ W I (fun b hb=>hf b (by simp at hb ⊢;rcases hb with h|h|h|h <;> simp[h])) hn ⟨hz,hTI,hTO,h1,h2,p1.isList,p2.isList⟩ fun T vals s2 hp hT tup st2 J2 kall=>?_;obtain⟨v1,v2,e1,e2,rfl⟩:=hp;have e1':its[i]? = some v1:=by simpa using e1
  have e2':jts[i]? = some v2:=by simpa using e2
  rw[hu1]at e1';rw[hu2]at e2';cases e1';cases e2';obtain⟨J3,nT⟩:=jK (xs:=[x,y]) (us:=[u1,u2]) I J2 hT tup (.cons ru1 (.cons ru2 .nil)) (Sp1.sz (by simp));obtain⟨hz2,hTI2,hTO2,h12,h22,_,_⟩:=st2;refine⟨.ref T,upd H T (.tup [x,y]),J3,rfl,⟨T,x,y,rfl,nT,rfl,fun as bs qa qb=>?_⟩,⟨hz2,hTI2,hTO2,h12,h22⟩,fun b hb=>?_⟩
  ·rw[I.list_inj qa q1,I.list_inj qb q2]
   exact⟨hx,hy⟩
  ·have hb':∃o,s.heap.get? b=some o:=by
    obtain⟨a,c,hTO⟩:=hTO;obtain⟨o1,e1,_⟩:=h1;obtain⟨o2,e2,_⟩:=h2;simp only[List.mem_cons,List.not_mem_nil,or_false]at hb;rcases hb with rfl|rfl|rfl|rfl|rfl
    ·exact⟨_,hz⟩
    ·exact⟨_,hTI⟩
    ·exact⟨_,hTO⟩
    ·exact⟨_,e1⟩
    ·exact⟨_,e2⟩
   obtain⟨o,eo⟩:=hb';rw[aT (Nat.ne_of_lt (Nat.lt_of_lt_of_le (Heap.lt_size eo) hT))];exact(hf b hb).1
 done:=by
  intro X hP hw hK hc i pins s σ H E I hf st hg;subst hP hw hK;obtain⟨xs,ys,q1,q2,rfl⟩:=hg;obtain⟨its,r1,p1,_⟩:=I.list q1;obtain⟨jts,r2,p2,_⟩:=I.list q2;have W:=WalksT.zip2 (prog:=X.prog) (w:=X.w) (I.ok.hd hc) z TI TO i1 i2 l1 l2 D its.toArray jts.toArray;obtain⟨hz,hTI,hTO,h1,h2⟩:=st;have el:min its.toArray.size jts.toArray.size=min xs.length ys.length:=by
   rw[List.size_toArray,List.size_toArray,r1.length,r2.length]
  refine W.done s _ E ?_ fun h' tk kk=>⟨rfl,I.turnedL (t':=tk) kk fun b hb=>hf b (by simp at hb ⊢;rcases hb with h|h|h|h <;> simp[h])⟩;rw[el];exact⟨hz,hTI,hTO,h1,h2,p1.isList,p2.isList⟩
 self:=fun _ _ _ _ _ st h=>wpAny_pyIter_zip st.1 h
theorem oo{P:Program}{w:World}{K:W.Frag}{elts:List Expr}{kt:Nat}{pos:Pos}(e it l:Addr)(hei:e≠it)(hle:l≠e)(hli:l≠it) :
  BT P w K (.Tuple elts kt pos) (Ite K l) [e,it] e (fun i h=>(∃old,IsEnum h e it i old)∧h.IsListIter it l i) where
 mem:=by simp
 obj:=fun i h st b hb=>by
  obtain⟨⟨old,he⟩,⟨o1,e1,c1,d1⟩⟩:=st;simp only[List.mem_cons,List.not_mem_nil,or_false]at hb;rcases hb with rfl|rfl
  ·exact⟨_,he,fun v y=>by cases y⟩
  ·exact⟨o1,e1,fun v y=>by rw[d1]at y;cases y⟩
 keep:=fun i h h' st k=>by
  obtain⟨⟨old,he⟩,h1⟩:=st;exact⟨⟨old,k e (by simp) _ he⟩,h1.at fun o x=>k it (by simp) o x⟩
 item:=by
  intro X hP hw hK hc i pins s σ H E I hf st hg;subst hP hw hK;obtain⟨xs,x,q1,hx⟩:=hg;obtain⟨its,r1,p1,_⟩:=I.list q1;obtain⟨u1,hu1,ru1⟩:=r1.get hx;have W:=WalksT.enumerate (prog:=X.prog) (w:=X.w) (I.ok.hd hc) e it l hei hle hli its.toArray;have hn:i<its.toArray.size:=by
   have g1:=(List.getElem?_eq_some_iff.mp hu1).1;simp only[List.size_toArray];omega
  obtain⟨he,h1⟩:=st;refine jJ W I (fun b hb=>hf b (by simpa using hb)) hn ⟨he,h1,p1.isList⟩ fun T vals s2 hp hT tup st2 J2 kall=>?_;obtain⟨tk,v1,e1,rfl⟩:=hp;have e1':its[i]? = some v1:=by simpa using e1
  rw[hu1]at e1';cases e1';obtain⟨J3,nT⟩:=jK (xs:=[.int (i:Int),x]) (us:=[.int i tk,u1]) I J2 hT tup (.cons ⟨_,rfl⟩ (.cons ru1 .nil)) (Sp1.sz (by simp));obtain⟨he2,h12,_⟩:=st2;refine⟨.ref T,upd H T (.tup [.int (i:Int),x]),J3,rfl,⟨T,x,rfl,nT,rfl,fun as qa=>?_⟩,⟨he2,h12⟩,fun b hb=>?_⟩
  ·rw[I.list_inj qa q1]
   exact hx
  ·have hb':∃o,s.heap.get? b=some o:=by
    obtain⟨old,he⟩:=he;obtain⟨o1,e1,_⟩:=h1;simp only[List.mem_cons,List.not_mem_nil,or_false]at hb;rcases hb with rfl|rfl
    ·exact⟨_,he⟩
    ·exact⟨_,e1⟩
   obtain⟨o,eo⟩:=hb';rw[aT (Nat.ne_of_lt (Nat.lt_of_lt_of_le (Heap.lt_size eo) hT))];exact(hf b hb).1
 done:=by
  intro X hP hw hK hc i pins s σ H E I hf st hg;subst hP hw hK;obtain⟨xs,q1,rfl⟩:=hg;obtain⟨its,r1,p1,_⟩:=I.list q1;have W:=WalksT.enumerate (prog:=X.prog) (w:=X.w) (I.ok.hd hc) e it l hei hle hli its.toArray;obtain⟨he,h1⟩:=st;refine W.done s _ E ?_ fun h' tk kk=>⟨rfl,I.turnedL (t':=tk) kk fun b hb=>hf b (by simpa using hb)⟩;rw[List.size_toArray,<- r1.length];exact⟨he,h1,p1.isList⟩
 self:=fun _ _ _ _ _ st h=>by
  obtain⟨⟨old,he⟩,_⟩:=st;exact wpAny_pyIter_enum he h
section
variable {X:Cx} {elts:List Expr} {kt:Nat} {tpos:Pos}
def vF(K:W.Frag)(ta:TA):TI:=fun σ H R=>ta σ H fun vs H1=>∃a b,vs = [.ref a,.ref b]∧(∃xs,SqL K H1 a xs)∧(∃ys,SqL K H1 b ys)∧R (Itz K a b) H1
def vb(K:W.Frag)(ta:TA):TI:=fun σ H R=>ta σ H fun vs H1=>∃a,vs = [.ref a]∧(∃xs,SqL K H1 a xs)∧R (Ite K a) H1
theorem ur:bootBuiltins "zip" = some (.type "zip"):=by decide +kernel
theorem k7:bootBuiltins "enumerate" = some (.type "enumerate"):=by decide +kernel
theorem km{a b:Expr}{ta:TA}{p pos:Pos}(hg:Gl X "zip")(hm:X.mg "zip" = none)(ha:PA X [a,b] ta)(hs:starEach [a,b] X.env = [(false,eval a X.env),(false,eval b X.env)]:=by rfl)(hs2:starEach [b] X.env = [(false,eval b X.env)]:=by rfl) :
  PI X (.Tuple elts kt tpos) (.Call (.Name "zip" p) [a,b] [] pos) (vF X.K ta):=by
 intro pins s σ H R I h;refine Call_ (fj I hg hm ur (PyProof.Rows.callWith_type1 (thn (ha pos pins s σ H _ I h) fun us s1 ⟨vs,H1,I1,r1,q1⟩=>?_) (by rw[hs,hs2]) (by rw[hs2];rfl)));obtain⟨l1,l2,e,⟨xs,hx⟩,⟨ys,hy⟩,q⟩:=q1;subst e;cases r1 with
 | cons r rr =>
  cases rr with
  | cons r' rr =>
   cases rr;cases r;cases r';obtain⟨its,_,p1,_⟩:=I1.list hx;obtain⟨jts,_,p2,_⟩:=I1.list hy;refine call_zip_2 p1.isList p2.isList fun h' hz hTI hTO hi1 hi2 hsz hk=>?_;refine wpAny_pyIter_zip hz ?_;have a1:l1<s1.heap.objs.size:=by obtain⟨_,e,_⟩:=p1.isList;exact Heap.lt_size e
   have a2:l2<s1.heap.objs.size:=by obtain⟨_,e,_⟩:=p2.isList;exact Heap.lt_size e
   refine⟨s1.heap.objs.size+4,[s1.heap.objs.size+4,s1.heap.objs.size+2,s1.heap.objs.size+3,s1.heap.objs.size,s1.heap.objs.size+1],_,_,H1,rfl,I1.kept (t':=s1.toks) hk,o5 _ _ _ _ _ l1 l2 (zipApart_new a1 a2),⟨hz,hTI,⟨_,_,hTO⟩,hi1,hi2⟩,fun b hb=>?_,q⟩;have hb':s1.heap.objs.size≤b:=by
    simp only[List.mem_cons,List.not_mem_nil,or_false]at hb;rcases hb with rfl|rfl|rfl|rfl|rfl <;> omega
   exact I1.fpOk hb' (I1.hok.fresh hb')
theorem ni{a:Expr}{ta:TA}{p pos:Pos}(hg:Gl X "enumerate")(hm:X.mg "enumerate" = none)(ha:PA X [a] ta)(hs:starEach [a] X.env = [(false,eval a X.env)]:=by rfl) :
  PI X (.Tuple elts kt tpos) (.Call (.Name "enumerate" p) [a] [] pos) (vb X.K ta):=by
 intro pins s σ H R I h;refine Call_ (fj I hg hm k7 (PyProof.Rows.callWith_type1 (thn (ha pos pins s σ H _ I h) fun us s1 ⟨vs,H1,I1,r1,q1⟩=>?_) hs rfl));obtain⟨l,e,⟨xs,hx⟩,q⟩:=q1;subst e;cases r1 with
 | cons r rr =>
  cases rr;cases r;obtain⟨its,_,p1,_⟩:=I1.list hx;refine call_enumerate_list p1.isList fun h' he hi hsz hk=>?_;refine wpAny_pyIter_enum he ?_;have a1:l<s1.heap.objs.size:=by obtain⟨_,e,_⟩:=p1.isList;exact Heap.lt_size e
  refine⟨s1.heap.objs.size+1,[s1.heap.objs.size+1,s1.heap.objs.size],_,_,H1,rfl,I1.kept (t':=s1.toks) hk,oo _ _ l (Nat.succ_ne_self _) (Nat.ne_of_lt (Nat.lt_succ_of_lt a1)) (Nat.ne_of_lt a1),⟨⟨_,he⟩,hi⟩,fun b hb=>?_,q⟩;have hb':s1.heap.objs.size≤b:=by
   simp only[List.mem_cons,List.not_mem_nil,or_false]at hb;rcases hb with rfl|rfl <;> omega
  exact I1.fpOk hb' (I1.hok.fresh hb')
end
theorem kG{K:W.Frag}{a b:Addr}{xs ys:List V}{g:TG}{tb:TS}{D:eP}{σ:St}{H:Hp}(Pv:Nat->St->Hp->Prop)(h0:Pv 0 σ H)(hl:∀i σ H,i≤min xs.length ys.length->Pv i σ H->SqL K H a xs∧SqL K H b ys)
  (hs:∀i x y p σ H H1,xs[i]? = some x->ys[i]? = some y->Pv i σ H->Same H H1->H1 p=some (.tup [x,y])->g (.ref p) σ H1 fun σ2 H2=>tb { D with nx:=Pv (i+1),ct:=Pv (i+1),bk:=D.nx } σ2 H2) (hd:∀σ H,Pv (min xs.length ys.length) σ H->D.nx σ H) :
  ∃W:Nat->Nat->St->Hp->Prop,(∃m,W 0 m σ H)∧∀i m σ H,W i m σ H ->
   ((Itz K a b).stop i H∧D.nx σ H)∨((Itz K a b).go i H∧∃N:St->Hp->Prop,(∀σ' H',N σ' H'->∃m',m'<m∧W (i+1) m' σ' H')∧∀x H',(Itz K a b).yld i H x H'->g x σ H' fun σ2 H2=>tb { D with nx:=N,ct:=N,bk:=D.nx } σ2 H2):=by
 refine⟨fun i m σ H=>m=min xs.length ys.length - i∧i≤min xs.length ys.length∧Pv i σ H,⟨_,rfl,Nat.zero_le _,h0⟩,?_⟩;rintro i m σ H ⟨rfl,hi,p⟩;obtain⟨q1,q2⟩:=hl i σ H hi p
 by_cases hlt:i<min xs.length ys.length
 ·have h1:i<xs.length:=by omega
  have h2:i<ys.length:=by omega
  refine .inr ⟨⟨xs,ys,xs[i],ys[i],q1,q2,by simp[h1],by simp[h2]⟩,Pv (i+1),fun σ' H' p'=>⟨_,by omega,rfl,hlt,p'⟩,fun v H' y=>?_⟩;obtain⟨t,x,y,rfl,nt,rfl,e⟩:=y;obtain⟨e1,e2⟩:=e xs ys q1 q2;exact hs i x y t σ H _ e1 e2 p (Same.new nt) upd_same
 ·have e:i=min xs.length ys.length:=by omega
  subst e;exact .inl ⟨⟨xs,ys,q1,q2,rfl⟩,hd σ H p⟩
theorem lH{K:W.Frag}{a:Addr}{xs:List V}{g:TG}{tb:TS}{D:eP}{σ:St}{H:Hp}(Pv:Nat->St->Hp->Prop)(h0:Pv 0 σ H)(hl:∀i σ H,i≤xs.length->Pv i σ H->SqL K H a xs)
  (hs:∀i x p σ H H1,xs[i]? = some x->Pv i σ H->Same H H1->H1 p=some (.tup [.int (i:Int),x])->g (.ref p) σ H1 fun σ2 H2=>tb { D with nx:=Pv (i+1),ct:=Pv (i+1),bk:=D.nx } σ2 H2) (hd:∀σ H,Pv xs.length σ H->D.nx σ H) :
  ∃W:Nat->Nat->St->Hp->Prop,(∃m,W 0 m σ H)∧∀i m σ H,W i m σ H ->
   ((Ite K a).stop i H∧D.nx σ H)∨((Ite K a).go i H∧∃N:St->Hp->Prop,(∀σ' H',N σ' H'->∃m',m'<m∧W (i+1) m' σ' H')∧∀x H',(Ite K a).yld i H x H'->g x σ H' fun σ2 H2=>tb { D with nx:=N,ct:=N,bk:=D.nx } σ2 H2):=by
 refine⟨fun i m σ H=>m=xs.length - i∧i≤xs.length∧Pv i σ H,⟨_,rfl,Nat.zero_le _,h0⟩,?_⟩;rintro i m σ H ⟨rfl,hi,p⟩;have q1:=hl i σ H hi p
 by_cases hlt:i<xs.length
 ·refine .inr ⟨⟨xs,xs[i],q1,by simp[hlt]⟩,Pv (i+1),fun σ' H' p'=>⟨_,by omega,rfl,hlt,p'⟩,fun v H' y=>?_⟩
  obtain⟨t,x,rfl,nt,rfl,e⟩:=y;exact hs i x t σ H _ (e xs q1) p (Same.new nt) upd_same
 ·have e:i=xs.length:=by omega
  subst e;exact .inl ⟨⟨xs,q1,rfl⟩,hd σ H p⟩
end L2
namespace L2
open PySem PySem.Spec PyProof.Rows
inductive D where
 | non|bl (b:Bool)|int (i:Int)|str (x:Str)|tup (ds:List D)|lst (ds:List D)
inductive Rp (H:Hp):Nat->V->D->Prop where
 | non {n:Nat}:Rp H n .non .non
 | bl {n:Nat} {b:Bool}:Rp H n (.bl b) (.bl b)
 | int {n:Nat} {i:Int}:Rp H n (.int i) (.int i)
 | str {n:Nat} {x:Str}:Rp H n (.str x) (.str x)
 | tup {n:Nat} {p:Addr} {xs:List V} {ds:List D} (e:H p=some (.tup xs)) (hl:xs.length=ds.length) (h:∀(j:Nat) x d,xs[j]? = some x->ds[j]? = some d->Rp H n x d):Rp H (n+1) (.ref p) (.tup ds)
 | lst {n:Nat} {p:Addr} {xs:List V} {ds:List D} (e:H p=some (.lst xs)) (hl:xs.length=ds.length) (h:∀(j:Nat) x d,xs[j]? = some x->ds[j]? = some d->Rp H n x d):Rp H (n+1) (.ref p) (.lst ds)
mutual
def deq:D->D->Bool
 | .non,.non=>true
 | .bl a,.bl b=>a == b
 | .bl a,.int b=>(if a then 1 else 0) == b
 | .int a,.bl b=>a == (if b then 1 else 0)
 | .int a,.int b=>a == b
 | .str a,.str b=>a == b
 | .tup xs,.tup ys=>fR xs ys
 | .lst xs,.lst ys=>fR xs ys
 | _,_=>false
def fR:List D->List D->Bool
 | [],[]=>true
 | x::xs,y::ys=>deq x y && fR xs ys
 | _,_=>false
end
theorem dY:∀(ds es:List D),((List.range (min ds.length es.length)).all (fun j=>deq (ds.getD j .non) (es.getD j .non)) && ds.length == es.length)=fR ds es
 | [],[]=>by simp[fR]
 | [],e::es=>by simp[fR]
 | d::ds,[]=>by simp[fR]
 | d::ds,e::es=>by
  have ih:=dY ds es;have hm:min (d::ds).length (e::es).length=min ds.length es.length+1:=by simp only[List.length_cons];omega
  rw[hm,List.range_succ_eq_map,List.all_cons,List.all_map];simp only[fR,List.getD_cons_zero,List.length_cons];rw[<- ih,Bool.and_assoc]
  congr 1
  simp[Function.comp_def]
theorem jq{ds es:List D}(h:ds.length≠es.length):fR ds es=false:=by
 rw[<- dY];simp[h]
theorem fL{ds es:List D}(h:ds.length=es.length):(List.range ds.length).all (fun j=>deq (ds.getD j .non) (es.getD j .non))=fR ds es:=by
 rw[<- dY,h];simp
theorem nW{ds es:List D}(hl:ds.length=es.length)(h:∀(j:Nat) d e,ds[j]? = some d->es[j]? = some e->deq d e=true):fR ds es=true:=by
 rw[<- fL hl,List.all_eq_true];intro j hj;have hj':j<ds.length:=List.mem_range.mp hj;have hj2:j<es.length:=by omega
 have e1:ds[j]? = some ds[j]:=List.getElem?_eq_getElem hj';have e2:es[j]? = some es[j]:=List.getElem?_eq_getElem hj2;rw[List.getD_eq_getElem?_getD,List.getD_eq_getElem?_getD,e1,e2];exact h j _ _ e1 e2
theorem jf{α β:Type}{xs:List α}{ds:List β}{j:Nat}{d:β}(hl:xs.length=ds.length)(h:ds[j]? = some d):∃x,xs[j]? = some x:=by
 have:=(List.getElem?_eq_some_iff.mp h).1;exact⟨xs[j],List.getElem?_eq_getElem (by omega)⟩
theorem Rp.self{H:Hp}{n m:Nat}{v:V}{d e:D}(r:Rp H n v d)(q:Rp H m v e):deq d e=true:=by
 induction r generalizing m e with
 | non=>cases q;rfl
 | bl=>cases q;simp[deq]
 | int=>cases q;simp[deq]
 | str=>cases q;simp[deq]
 | tup e1 hl h ih =>
  cases q with
  | tup e2 hl2 h2 =>
   rw[e1]at e2;cases e2;refine nW (by omega) fun j a b ea eb=>?_;obtain⟨x,hx⟩:=jf hl ea;exact ih j x a hx ea (h2 j x b hx eb)
  | lst e2 hl2 h2=>rw[e1]at e2;cases e2
 | lst e1 hl h ih =>
  cases q with
  | tup e2 hl2 h2=>rw[e1]at e2;cases e2
  | lst e2 hl2 h2 =>
   rw[e1]at e2;cases e2;refine nW (by omega) fun j a b ea eb=>?_;obtain⟨x,hx⟩:=jf hl ea;exact ih j x a hx ea (h2 j x b hx eb)
section
variable {X:Cx} {pins:List (Addr×Obj)} {σ:St} {H:Hp} {s:Shared}
theorem fK{A:Around}{xs ys:List V}{us ws:List Value}{ds es:List D}(r:aM xs us)(r':aM ys ws)(hl:xs.length=ds.length)(hl':ys.length=es.length)
  (h:∀(j:Nat) x y d e u w,xs[j]? = some x->ys[j]? = some y->ds[j]? = some d->es[j]? = some e->bj x u->bj y w->SeqAt.EqAt A s u w (deq d e))
  (j:Nat) (h1:j<us.toArray.size) (h2:j<ws.toArray.size):SeqAt.EqAt A s us.toArray[j] ws.toArray[j] (deq (ds.getD j .non) (es.getD j .non)):=by
 rw[List.size_toArray]at h1 h2;obtain⟨a,ea,ra⟩:=mY r h1;obtain⟨c,ec,rc⟩:=mY r' h2;have g1:=(List.getElem?_eq_some_iff.mp ea).1;have g2:=(List.getElem?_eq_some_iff.mp ec).1;have e1:ds[j]? = some ds[j]:=List.getElem?_eq_getElem (by omega);have e2:es[j]? = some es[j]:=List.getElem?_eq_getElem (by omega);rw[List.getD_eq_getElem?_getD,List.getD_eq_getElem?_getD,e1,e2];exact h j a c _ _ _ _ ea ec e1 e2 ra rc
theorem Rp.eqAt{n:Nat}{x:V}{d:D}(r:Rp H n x d):∀{m:Nat} {y:V} {e:D} {A:Around} {u v:Value},Rp H m y e->vO X pins σ H s->bj x u->bj y v->A.units+n<cLine->SeqAt.EqAt A s u v (deq d e):=by
 induction r with
 | non =>
  intro m y e A u v q I ru rv hu;cases ru;cases q with
  | non=>cases rv;exact SeqAt.EqAt.same _
  | bl=>cases rv;exact SeqAt.EqAt.none_bool _
  | int=>obtain⟨_,rfl⟩:=rv;exact SeqAt.EqAt.none_int _ _
  | str=>obtain⟨_,rfl⟩:=rv;exact SeqAt.EqAt.none_str _ _
  | tup e1 hl h=>cases rv;obtain⟨its,_,pl,_⟩:=I.tuple (SqT.of e1);exact SeqAt.EqAt.none_tuple pl (by omega)
  | lst e1 hl h=>cases rv;obtain⟨its,_,pl,_⟩:=I.list (SqL.of e1);exact SeqAt.EqAt.none_list pl.isList (by omega)
 | bl =>
  intro m y e A u v q I ru rv hu;cases ru;cases q with
  | non=>cases rv;exact SeqAt.EqAt.bool_none _
  | bl=>cases rv;exact SeqAt.EqAt.bool_bool _ _
  | int=>obtain⟨_,rfl⟩:=rv;exact SeqAt.EqAt.bool_int _ _ _
  | str=>obtain⟨_,rfl⟩:=rv;exact SeqAt.EqAt.bool_str _ _ _
  | tup e1 hl h=>cases rv;obtain⟨its,_,pl,_⟩:=I.tuple (SqT.of e1);exact SeqAt.EqAt.bool_tuple _ pl (by omega)
  | lst e1 hl h=>cases rv;obtain⟨its,_,pl,_⟩:=I.list (SqL.of e1);exact SeqAt.EqAt.bool_list _ pl.isList (by omega)
 | int =>
  intro m y e A u v q I ru rv hu;obtain⟨_,rfl⟩:=ru;cases q with
  | non=>cases rv;exact SeqAt.EqAt.int_none _ _
  | bl=>cases rv;exact SeqAt.EqAt.int_bool _ _ _
  | int=>obtain⟨_,rfl⟩:=rv;exact SeqAt.EqAt.int_int _ _ _ _
  | str=>obtain⟨_,rfl⟩:=rv;exact SeqAt.EqAt.int_str _ _ _ _
  | tup e1 hl h=>cases rv;obtain⟨its,_,pl,_⟩:=I.tuple (SqT.of e1);exact SeqAt.EqAt.int_tuple _ _ pl (by omega)
  | lst e1 hl h=>cases rv;obtain⟨its,_,pl,_⟩:=I.list (SqL.of e1);exact SeqAt.EqAt.int_list _ _ pl.isList (by omega)
 | str =>
  intro m y e A u v q I ru rv hu;obtain⟨_,rfl⟩:=ru;cases q with
  | non=>cases rv;exact SeqAt.EqAt.str_none _ _
  | bl=>cases rv;exact SeqAt.EqAt.str_bool _ _ _
  | int=>obtain⟨_,rfl⟩:=rv;exact SeqAt.EqAt.str_int _ _ _ _
  | str=>obtain⟨_,rfl⟩:=rv;exact SeqAt.EqAt.str_str _ _ _ _
  | tup e1 hl h=>cases rv;obtain⟨its,_,pl,_⟩:=I.tuple (SqT.of e1);exact SeqAt.EqAt.str_tuple _ _ pl (by omega)
  | lst e1 hl h=>cases rv;obtain⟨its,_,pl,_⟩:=I.list (SqL.of e1);exact SeqAt.EqAt.str_list _ _ pl.isList (by omega)
 | @tup n p xs ds e0 hl h ih =>
  intro m y e A u v q I ru rv hu;cases ru;obtain⟨its,r1,pl,_⟩:=I.tuple (SqT.of e0);cases q with
  | non=>cases rv;exact SeqAt.EqAt.tuple_none pl (by omega)
  | bl=>cases rv;exact SeqAt.EqAt.tuple_bool _ pl (by omega)
  | int=>obtain⟨_,rfl⟩:=rv;exact SeqAt.EqAt.tuple_int _ _ pl (by omega)
  | str=>obtain⟨_,rfl⟩:=rv;exact SeqAt.EqAt.tuple_str _ _ pl (by omega)
  | lst e1 hl1 h1=>cases rv;obtain⟨jts,_,pl',_⟩:=I.list (SqL.of e1);exact SeqAt.EqAt.tuple_list pl pl'.isList (by omega)
  | @tup m p' ys es e1 hl1 h1 =>
   cases rv
   by_cases hne:p=p'
   ·subst hne
    have z:deq (.tup ds) (.tup es)=true:=Rp.self (Rp.tup e0 hl h) (Rp.tup e1 hl1 h1);rw[z];exact SeqAt.EqAt.same _
   ·obtain⟨jts,r2,pl',_⟩:=I.tuple (SqT.of e1)
    have y:=SeqAt.RcAt.tuples (A:=A) (e:=fun j=>deq (ds.getD j .non) (es.getD j .non)) pl pl' (by omega) (fK r1 r2 hl hl1 fun j x y d e u w a b c k ra rb=>ih j x d a c (h1 j y e b k) I ra rb (by show A.units+1+n<cLine;omega));rw[List.size_toArray,List.size_toArray,<- r1.length,<- r2.length,hl,hl1,dY]at y;exact SeqAt.EqAt.of_refs hne y
 | @lst n p xs ds e0 hl h ih =>
  intro m y e A u v q I ru rv hu;cases ru;obtain⟨its,r1,pl,_⟩:=I.list (SqL.of e0);cases q with
  | non=>cases rv;exact SeqAt.EqAt.list_none pl.isList (by omega)
  | bl=>cases rv;exact SeqAt.EqAt.list_bool _ pl.isList (by omega)
  | int=>obtain⟨_,rfl⟩:=rv;exact SeqAt.EqAt.list_int _ _ pl.isList (by omega)
  | str=>obtain⟨_,rfl⟩:=rv;exact SeqAt.EqAt.list_str _ _ pl.isList (by omega)
  | tup e1 hl1 h1=>cases rv;obtain⟨jts,_,pl',_⟩:=I.tuple (SqT.of e1);exact SeqAt.EqAt.list_tuple pl.isList pl' (by omega)
  | @lst m p' ys es e1 hl1 h1 =>
   cases rv
   by_cases hne:p=p'
   ·subst hne
    have z:deq (.lst ds) (.lst es)=true:=Rp.self (Rp.lst e0 hl h) (Rp.lst e1 hl1 h1);rw[z];exact SeqAt.EqAt.same _
   ·obtain⟨jts,r2,pl',_⟩:=I.list (SqL.of e1)
    have g1:=r1.length;have g2:=r2.length
    by_cases hz:ds.length=es.length
    ·have y:=SeqAt.RcAt.lists (A:=A) (e:=fun j=>deq (ds.getD j .non) (es.getD j .non)) pl.isList pl'.isList (by rw[List.size_toArray,List.size_toArray];omega) (by omega) (fK r1 r2 hl hl1 fun j x y d e u w a b c k ra rb=>ih j x d a c (h1 j y e b k) I ra rb (by show A.units+1+n<cLine;omega))
     rw[List.size_toArray,<- r1.length,hl,fL hz]at y;exact SeqAt.EqAt.of_refs hne y
    ·rw[show deq (.lst ds) (.lst es)=false from jq hz]
     exact SeqAt.EqAt.of_refs hne (SeqAt.RcAt.lists_lengths pl.isList pl'.isList (by rw[List.size_toArray,List.size_toArray];simp;omega) (by omega))
end
end L2
namespace L2
open PySem PySem.Spec PyProof.Rows
section
variable {X:Cx} {pins:List (Addr×Obj)} {σ:St} {H:Hp} {s:Shared}
theorem Rp.rcAt{A:Around}{n m:Nat}{x y:V}{d e:D}{u v:Value}(r:Rp H n x d)(q:Rp H m y e)(I:vO X pins σ H s)(ru:bj x u)(rv:bj y v)(hu:A.units+n+1<cLine):SeqAt.RcAt A s u v (deq d e):=by
 cases r with
 | non =>
  cases q with
  | non =>
   cases ru;cases rv;exact SeqAt.RcAt.none_none
  | bl =>
   cases ru;cases rv;exact SeqAt.RcAt.none_bool _
  | int =>
   cases ru;obtain⟨_,rfl⟩:=rv;exact SeqAt.RcAt.none_int _ _
  | str =>
   cases ru;obtain⟨_,rfl⟩:=rv;exact SeqAt.RcAt.none_str _ _
  | @tup m p' ys es e1 hl1 h1 =>
   cases ru;cases rv;obtain⟨jts,r2,pl',_⟩:=I.tuple (SqT.of e1);exact SeqAt.RcAt.none_tuple pl' (by omega)
  | @lst m p' ys es e1 hl1 h1 =>
   cases ru;cases rv;obtain⟨jts,r2,pl',_⟩:=I.list (SqL.of e1);exact SeqAt.RcAt.none_list pl'.isList (by omega)
 | bl =>
  cases q with
  | non =>
   cases ru;cases rv;exact SeqAt.RcAt.bool_none _
  | bl =>
   cases ru;cases rv;exact SeqAt.RcAt.bool_bool _ _
  | int =>
   cases ru;obtain⟨_,rfl⟩:=rv;exact SeqAt.RcAt.bool_int _ _ _
  | str =>
   cases ru;obtain⟨_,rfl⟩:=rv;exact SeqAt.RcAt.bool_str _ _ _
  | @tup m p' ys es e1 hl1 h1 =>
   cases ru;cases rv;obtain⟨jts,r2,pl',_⟩:=I.tuple (SqT.of e1);exact SeqAt.RcAt.bool_tuple _ pl' (by omega)
  | @lst m p' ys es e1 hl1 h1 =>
   cases ru;cases rv;obtain⟨jts,r2,pl',_⟩:=I.list (SqL.of e1);exact SeqAt.RcAt.bool_list _ pl'.isList (by omega)
 | int =>
  cases q with
  | non =>
   obtain⟨_,rfl⟩:=ru;cases rv;exact SeqAt.RcAt.int_none _ _
  | bl =>
   obtain⟨_,rfl⟩:=ru;cases rv;exact SeqAt.RcAt.int_bool _ _ _
  | int =>
   obtain⟨_,rfl⟩:=ru;obtain⟨_,rfl⟩:=rv;exact SeqAt.RcAt.int_int _ _ _ _
  | str =>
   obtain⟨_,rfl⟩:=ru;obtain⟨_,rfl⟩:=rv;exact SeqAt.RcAt.int_str _ _ _ _
  | @tup m p' ys es e1 hl1 h1 =>
   obtain⟨_,rfl⟩:=ru;cases rv;obtain⟨jts,r2,pl',_⟩:=I.tuple (SqT.of e1);exact SeqAt.RcAt.int_tuple _ _ pl' (by omega)
  | @lst m p' ys es e1 hl1 h1 =>
   obtain⟨_,rfl⟩:=ru;cases rv;obtain⟨jts,r2,pl',_⟩:=I.list (SqL.of e1);exact SeqAt.RcAt.int_list _ _ pl'.isList (by omega)
 | str =>
  cases q with
  | non =>
   obtain⟨_,rfl⟩:=ru;cases rv;exact SeqAt.RcAt.str_none _ _
  | bl =>
   obtain⟨_,rfl⟩:=ru;cases rv;exact SeqAt.RcAt.str_bool _ _ _
  | int =>
   obtain⟨_,rfl⟩:=ru;obtain⟨_,rfl⟩:=rv;exact SeqAt.RcAt.str_int _ _ _ _
  | str =>
   obtain⟨_,rfl⟩:=ru;obtain⟨_,rfl⟩:=rv;exact SeqAt.RcAt.str_str _ _ _ _
  | @tup m p' ys es e1 hl1 h1 =>
   obtain⟨_,rfl⟩:=ru;cases rv;obtain⟨jts,r2,pl',_⟩:=I.tuple (SqT.of e1);exact SeqAt.RcAt.str_tuple _ _ pl' (by omega)
  | @lst m p' ys es e1 hl1 h1 =>
   obtain⟨_,rfl⟩:=ru;cases rv;obtain⟨jts,r2,pl',_⟩:=I.list (SqL.of e1);exact SeqAt.RcAt.str_list _ _ pl'.isList (by omega)
 | @tup n p xs ds e0 hl h =>
  cases q with
  | non =>
   cases ru;cases rv;obtain⟨its,r1,pl,_⟩:=I.tuple (SqT.of e0);exact SeqAt.RcAt.tuple_none pl (by omega)
  | bl =>
   cases ru;cases rv;obtain⟨its,r1,pl,_⟩:=I.tuple (SqT.of e0);exact SeqAt.RcAt.tuple_bool _ pl (by omega)
  | int =>
   cases ru;obtain⟨_,rfl⟩:=rv;obtain⟨its,r1,pl,_⟩:=I.tuple (SqT.of e0);exact SeqAt.RcAt.tuple_int _ _ pl (by omega)
  | str =>
   cases ru;obtain⟨_,rfl⟩:=rv;obtain⟨its,r1,pl,_⟩:=I.tuple (SqT.of e0);exact SeqAt.RcAt.tuple_str _ _ pl (by omega)
  | @tup m p' ys es e1 hl1 h1 =>
   cases ru;cases rv;obtain⟨its,r1,pl,_⟩:=I.tuple (SqT.of e0);obtain⟨jts,r2,pl',_⟩:=I.tuple (SqT.of e1);have y:=SeqAt.RcAt.tuples (A:=A) (e:=fun j=>deq (ds.getD j .non) (es.getD j .non)) pl pl' (by omega) (fK r1 r2 hl hl1 fun j x y d e u w a b c k ra rb=>(h j x d a c).eqAt (h1 j y e b k) I ra rb (by show A.units+1+_<cLine;omega));rw[List.size_toArray,List.size_toArray,<- r1.length,<- r2.length,hl,hl1,dY]at y;exact y
  | @lst m p' ys es e1 hl1 h1 =>
   cases ru;cases rv;obtain⟨its,r1,pl,_⟩:=I.tuple (SqT.of e0);obtain⟨jts,r2,pl',_⟩:=I.list (SqL.of e1);exact SeqAt.RcAt.tuple_list pl pl'.isList (by omega)
 | @lst n p xs ds e0 hl h =>
  cases q with
  | non =>
   cases ru;cases rv;obtain⟨its,r1,pl,_⟩:=I.list (SqL.of e0);exact SeqAt.RcAt.list_none pl.isList (by omega)
  | bl =>
   cases ru;cases rv;obtain⟨its,r1,pl,_⟩:=I.list (SqL.of e0);exact SeqAt.RcAt.list_bool _ pl.isList (by omega)
  | int =>
   cases ru;obtain⟨_,rfl⟩:=rv;obtain⟨its,r1,pl,_⟩:=I.list (SqL.of e0);exact SeqAt.RcAt.list_int _ _ pl.isList (by omega)
  | str =>
   cases ru;obtain⟨_,rfl⟩:=rv;obtain⟨its,r1,pl,_⟩:=I.list (SqL.of e0);exact SeqAt.RcAt.list_str _ _ pl.isList (by omega)
  | @tup m p' ys es e1 hl1 h1 =>
   cases ru;cases rv;obtain⟨its,r1,pl,_⟩:=I.list (SqL.of e0);obtain⟨jts,r2,pl',_⟩:=I.tuple (SqT.of e1);exact SeqAt.RcAt.list_tuple pl.isList pl' (by omega)
  | @lst m p' ys es e1 hl1 h1 =>
   cases ru;cases rv;obtain⟨its,r1,pl,_⟩:=I.list (SqL.of e0);obtain⟨jts,r2,pl',_⟩:=I.list (SqL.of e1);have g1:=r1.length;have g2:=r2.length
   by_cases hz:ds.length=es.length
   ·have y:=SeqAt.RcAt.lists (A:=A) (e:=fun j=>deq (ds.getD j .non) (es.getD j .non)) pl.isList pl'.isList (by rw[List.size_toArray,List.size_toArray];omega) (by omega) (fK r1 r2 hl hl1 fun j x y d e u w a b c k ra rb=>(h j x d a c).eqAt (h1 j y e b k) I ra rb (by show A.units+1+_<cLine;omega))
    rw[List.size_toArray,<- r1.length,hl,fL hz]at y;exact y
   ·rw[show deq (.lst ds) (.lst es)=false from jq hz]
    exact SeqAt.RcAt.lists_lengths pl.isList pl'.isList (by rw[List.size_toArray,List.size_toArray];simp;omega) (by omega)
theorem Rp.rcNeAt{A:Around}{n m:Nat}{x y:V}{d e:D}{u v:Value}(r:Rp H n x d)(q:Rp H m y e)(I:vO X pins σ H s)(ru:bj x u)(rv:bj y v)(hu:A.units+n+1<cLine):SeqAt.RcNeAt A s u v (!(deq d e)):=by
 cases r with
 | non =>
  cases q with
  | non =>
   cases ru;cases rv;exact SeqAt.RcNeAt.none_none
  | bl =>
   cases ru;cases rv;exact SeqAt.RcNeAt.none_bool _
  | int =>
   cases ru;obtain⟨_,rfl⟩:=rv;exact SeqAt.RcNeAt.none_int _ _
  | str =>
   cases ru;obtain⟨_,rfl⟩:=rv;exact SeqAt.RcNeAt.none_str _ _
  | @tup m p' ys es e1 hl1 h1 =>
   cases ru;cases rv;obtain⟨jts,r2,pl',_⟩:=I.tuple (SqT.of e1);exact SeqAt.RcNeAt.none_tuple pl' (by omega)
  | @lst m p' ys es e1 hl1 h1 =>
   cases ru;cases rv;obtain⟨jts,r2,pl',_⟩:=I.list (SqL.of e1);exact SeqAt.RcNeAt.none_list pl'.isList (by omega)
 | bl =>
  cases q with
  | non =>
   cases ru;cases rv;exact SeqAt.RcNeAt.bool_none _
  | bl =>
   cases ru;cases rv;exact SeqAt.RcNeAt.bool_bool _ _
  | int =>
   cases ru;obtain⟨_,rfl⟩:=rv;exact SeqAt.RcNeAt.bool_int _ _ _
  | str =>
   cases ru;obtain⟨_,rfl⟩:=rv;exact SeqAt.RcNeAt.bool_str _ _ _
  | @tup m p' ys es e1 hl1 h1 =>
   cases ru;cases rv;obtain⟨jts,r2,pl',_⟩:=I.tuple (SqT.of e1);exact SeqAt.RcNeAt.bool_tuple _ pl' (by omega)
  | @lst m p' ys es e1 hl1 h1 =>
   cases ru;cases rv;obtain⟨jts,r2,pl',_⟩:=I.list (SqL.of e1);exact SeqAt.RcNeAt.bool_list _ pl'.isList (by omega)
 | int =>
  cases q with
  | non =>
   obtain⟨_,rfl⟩:=ru;cases rv;exact SeqAt.RcNeAt.int_none _ _
  | bl =>
   obtain⟨_,rfl⟩:=ru;cases rv;exact SeqAt.RcNeAt.int_bool _ _ _
  | int =>
   obtain⟨_,rfl⟩:=ru;obtain⟨_,rfl⟩:=rv;exact SeqAt.RcNeAt.int_int _ _ _ _
  | str =>
   obtain⟨_,rfl⟩:=ru;obtain⟨_,rfl⟩:=rv;exact SeqAt.RcNeAt.int_str _ _ _ _
  | @tup m p' ys es e1 hl1 h1 =>
   obtain⟨_,rfl⟩:=ru;cases rv;obtain⟨jts,r2,pl',_⟩:=I.tuple (SqT.of e1);exact SeqAt.RcNeAt.int_tuple _ _ pl' (by omega)
  | @lst m p' ys es e1 hl1 h1 =>
   obtain⟨_,rfl⟩:=ru;cases rv;obtain⟨jts,r2,pl',_⟩:=I.list (SqL.of e1);exact SeqAt.RcNeAt.int_list _ _ pl'.isList (by omega)
 | str =>
  cases q with
  | non =>
   obtain⟨_,rfl⟩:=ru;cases rv;exact SeqAt.RcNeAt.str_none _ _
  | bl =>
   obtain⟨_,rfl⟩:=ru;cases rv;exact SeqAt.RcNeAt.str_bool _ _ _
  | int =>
   obtain⟨_,rfl⟩:=ru;obtain⟨_,rfl⟩:=rv;exact SeqAt.RcNeAt.str_int _ _ _ _
  | str =>
   obtain⟨_,rfl⟩:=ru;obtain⟨_,rfl⟩:=rv;exact SeqAt.RcNeAt.str_str _ _ _ _
  | @tup m p' ys es e1 hl1 h1 =>
   obtain⟨_,rfl⟩:=ru;cases rv;obtain⟨jts,r2,pl',_⟩:=I.tuple (SqT.of e1);exact SeqAt.RcNeAt.str_tuple _ _ pl' (by omega)
  | @lst m p' ys es e1 hl1 h1 =>
   obtain⟨_,rfl⟩:=ru;cases rv;obtain⟨jts,r2,pl',_⟩:=I.list (SqL.of e1);exact SeqAt.RcNeAt.str_list _ _ pl'.isList (by omega)
 | @tup n p xs ds e0 hl h =>
  cases q with
  | non =>
   cases ru;cases rv;obtain⟨its,r1,pl,_⟩:=I.tuple (SqT.of e0);exact SeqAt.RcNeAt.tuple_none pl (by omega)
  | bl =>
   cases ru;cases rv;obtain⟨its,r1,pl,_⟩:=I.tuple (SqT.of e0);exact SeqAt.RcNeAt.tuple_bool _ pl (by omega)
  | int =>
   cases ru;obtain⟨_,rfl⟩:=rv;obtain⟨its,r1,pl,_⟩:=I.tuple (SqT.of e0);exact SeqAt.RcNeAt.tuple_int _ _ pl (by omega)
  | str =>
   cases ru;obtain⟨_,rfl⟩:=rv;obtain⟨its,r1,pl,_⟩:=I.tuple (SqT.of e0);exact SeqAt.RcNeAt.tuple_str _ _ pl (by omega)
  | @tup m p' ys es e1 hl1 h1 =>
   cases ru;cases rv;obtain⟨its,r1,pl,_⟩:=I.tuple (SqT.of e0);obtain⟨jts,r2,pl',_⟩:=I.tuple (SqT.of e1);have y:=SeqAt.RcNeAt.tuples (A:=A) (e:=fun j=>deq (ds.getD j .non) (es.getD j .non)) pl pl' (by omega) (fK r1 r2 hl hl1 fun j x y d e u w a b c k ra rb=>(h j x d a c).eqAt (h1 j y e b k) I ra rb (by show A.units+1+_<cLine;omega));rw[List.size_toArray,List.size_toArray,<- r1.length,<- r2.length,hl,hl1,dY]at y;exact y
  | @lst m p' ys es e1 hl1 h1 =>
   cases ru;cases rv;obtain⟨its,r1,pl,_⟩:=I.tuple (SqT.of e0);obtain⟨jts,r2,pl',_⟩:=I.list (SqL.of e1);exact SeqAt.RcNeAt.tuple_list pl pl'.isList (by omega)
 | @lst n p xs ds e0 hl h =>
  cases q with
  | non =>
   cases ru;cases rv;obtain⟨its,r1,pl,_⟩:=I.list (SqL.of e0);exact SeqAt.RcNeAt.list_none pl.isList (by omega)
  | bl =>
   cases ru;cases rv;obtain⟨its,r1,pl,_⟩:=I.list (SqL.of e0);exact SeqAt.RcNeAt.list_bool _ pl.isList (by omega)
  | int =>
   cases ru;obtain⟨_,rfl⟩:=rv;obtain⟨its,r1,pl,_⟩:=I.list (SqL.of e0);exact SeqAt.RcNeAt.list_int _ _ pl.isList (by omega)
  | str =>
   cases ru;obtain⟨_,rfl⟩:=rv;obtain⟨its,r1,pl,_⟩:=I.list (SqL.of e0);exact SeqAt.RcNeAt.list_str _ _ pl.isList (by omega)
  | @tup m p' ys es e1 hl1 h1 =>
   cases ru;cases rv;obtain⟨its,r1,pl,_⟩:=I.list (SqL.of e0);obtain⟨jts,r2,pl',_⟩:=I.tuple (SqT.of e1);exact SeqAt.RcNeAt.list_tuple pl.isList pl' (by omega)
  | @lst m p' ys es e1 hl1 h1 =>
   cases ru;cases rv;obtain⟨its,r1,pl,_⟩:=I.list (SqL.of e0);obtain⟨jts,r2,pl',_⟩:=I.list (SqL.of e1);have g1:=r1.length;have g2:=r2.length
   by_cases hz:ds.length=es.length
   ·have y:=SeqAt.RcNeAt.lists (A:=A) (e:=fun j=>deq (ds.getD j .non) (es.getD j .non)) pl.isList pl'.isList (by rw[List.size_toArray,List.size_toArray];omega) (by omega) (fK r1 r2 hl hl1 fun j x y d e u w a b c k ra rb=>(h j x d a c).eqAt (h1 j y e b k) I ra rb (by show A.units+1+_<cLine;omega))
    rw[List.size_toArray,<- r1.length,hl,fL hz]at y;exact y
   ·rw[show deq (.lst ds) (.lst es)=false from jq hz]
    exact SeqAt.RcNeAt.lists_lengths pl.isList pl'.isList (by rw[List.size_toArray,List.size_toArray];simp;omega) (by omega)
end
section
variable {X:Cx}
inductive Dh (neg:Bool) (x:V) (y:V) (H:Hp) (Q:VK):Prop
 | mk:∀d e,(Rp H 9 x d)->(Rp H 9 y e)->(Q (.bl (if neg then !(deq d e) else deq d e)) H)->Dh neg x y H Q
theorem tU(hu:X.A.units+10<cLine):OpR X (compareOp .Eq) (Dh false):=by
 intro pins s σ H x y v u Q I rx ry h;obtain⟨d,e,rd,re,k⟩:=h;exact rd.rcAt re I rx ry (by omega) _ _ _ _ ⟨.bl _,H,I,rfl,k⟩
theorem pG(hu:X.A.units+10<cLine):OpR X (compareOp .NotEq) (Dh true):=by
 intro pins s σ H x y v u Q I rx ry h;obtain⟨d,e,rd,re,k⟩:=h;exact rd.rcNeAt re I rx ry (by omega) _ _ _ _ ⟨.bl _,H,I,rfl,k⟩
end
section
variable {H:Hp} {n:Nat} {p:Addr} {x y z w:V} {a b c d:D}
theorem Rp.t2(e:H p=some (.tup [x,y]))(ha:Rp H n x a)(hb:Rp H n y b):Rp H (n+1) (.ref p) (.tup [a,b]):=.tup e rfl fun j x d h k=>by
 match j with
 | 0=>cases h;cases k;exact ha
 | 1=>cases h;cases k;exact hb
 | j+2=>simp at h
mutual
theorem jr:∀d:D,deq d d=true
 | .non=>rfl
 | .bl b=>by simp[deq]
 | .int i=>by simp[deq]
 | .str x=>by simp[deq]
 | .tup ds=>by simp only[deq];exact ig ds
 | .lst ds=>by simp only[deq];exact ig ds
theorem ig:∀ds:List D,fR ds ds=true
 | []=>by simp[fR]
 | d::ds=>by simp only[fR,Bool.and_eq_true];exact⟨jr d,ig ds⟩
end
end
end L2
namespace L2
open PySem PySem.Spec PyProof.Rows
structure BF(X:Cx)(scope:Scope)(cl:List (Str×Addr))(xs:List Str)(fv:List (Str×Nat)):Prop where
 clos:closureFor scope X.env=pure cl
 kind:scope.kind = .function
 cell:∀y∈scope.names,y.2≠.cell
 names:∀y∈scope.names,y.2 = .local->scope.names.lookup y.1=some .local
 own:∀x∈xs,scope.names.lookup x=some .local
 cells:∀p∈cl,X.env.cells.lookup p.1=some p.2
 has:((relabel scope X.env).names.all fun q=>!(q.2 == .cell || q.2 == .free) || (cl.lookup q.1).isSome)=true
 nd:(xs++fv.map (·.1)).Nodup
 slot:∀p∈fv,X.N[p.2]? = some p.1∧X.env.kindOf p.1=some .cell∧Vis X.env.scope p.1∧(cl.lookup p.1).isSome=true∧((relabel scope X.env).names.lookup p.1=some .cell)
 stk:X.stack=X.env::X.outer∧X.env.frame=some X.env.locals
 noex:X.ex = []
def PTs(X:Cx)(ifs:List Expr)(tc:TT):Prop :=
 ∀(pins:List (Addr×Obj)) (s:Shared) (σ:St) (H:Hp) (Q:Bool->Hp->Prop),vO X pins σ H s->tc σ H Q ->
  wpAny (model X.prog X.w) X.A (forIn ifs true fun c r=>if r=true then do let ok <- isTrue c X.env (eval c X.env);pure (ForInStep.yield ok) else pure (ForInStep.yield r)) (fun b s'=>∃H',vO X pins σ H' s'∧Q b H') X.xe s
def tu:TT:=fun _ H Q=>Q true H
theorem rg{X:Cx}:PTs X [] tu:=fun pins s σ H Q I h=>wpAny_tests_nil ⟨H,I,h⟩
theorem l9{prog:Program}{w:World}{A:Around}{R:Result->Shared->Prop}{s:Shared}{elt target iter:Expr}{ifs:List Expr}{scope:Scope}{pos:Pos}{it acc:Value}{env:Env}(I:Nat->Shared->Prop)
  (turn:∀n s,I n s->wpAny (model prog w) A (pyNext it) (fun r s₁=>match r with
   | none=>R (.ok .next) s₁
   | some v=>wpAny (model prog w) A (letOwnedTupleGo target it v) (fun _ s₀=>wpAny (model prog w) A (assign target env v) (fun _ s₂ =>
     wpAny (model prog w) A (forIn ifs true fun c r=>if r=true then do let ok <- isTrue c env (eval c env);pure (ForInStep.yield ok) else pure (ForInStep.yield r)) (fun ok s₃ =>
      if ok=true then wpAny (model prog w) A (eval elt env) (fun x s₄ =>
       wpAny (model prog w) A (call (.builtin "list.append") [acc,x]) (fun _ s₅=>∃m,m<n∧I m s₅) (notedBy (model prog w) A env fun e s'=>R (.error e) s') s₄) (notedBy (model prog w) A env fun e s'=>R (.error e) s') s₃
      else ∃m,m<n∧I m s₃) (notedBy (model prog w) A env fun e s'=>R (.error e) s') s₂) (notedBy (model prog w) A env fun e s'=>R (.error e) s') s₀) (notedBy (model prog w) A env fun e s'=>R (.error e) s') s₁) (notedBy (model prog w) A env fun e s'=>R (.error e) s') s)
  (n:Nat) (h:I n s):codeAny (model prog w) A (.compLoop (.ListComp elt [⟨target,iter,ifs,0⟩] scope pos) 0 it acc env) R s:=by
 refine codeAny_loop rfl I (fun n s hI=>?_) n h;show wpAny _ A ((compTurn (.ListComp elt [⟨target,iter,ifs,0⟩] scope pos) 0 it acc env).onRaise (fun x=>do noteFrame x env;theTreesLotGoes x)) _ _ s
 refine wpAny_noted ?_;rw[compTurn_list];refine wpAny_bind (wpAny_standAt (wpAny_bind (wpAny_mono (turn n s hI) (fun r s₁ h₁=>?_) fun _ _ h'=>h')));cases r with
 | none=>exact wpAny_pure h₁
 | some v =>
  refine wpAny_bind (wpAny_mono h₁ (fun _ s₀ h₀=>?_) fun _ _ h'=>h');refine wpAny_bind (wpAny_mono h₀ (fun _ s₂ h₂=>wpAny_bind (wpAny_mono h₂ (fun ok s₃ h₃=>?_) fun _ _ h'=>h')) fun _ _ h'=>h');cases ok with
  | false=>exact wpAny_pure ⟨rfl,h₃⟩
  | true=>exact wpAny_bind (wpAny_bind (wpAny_mono h₃ (fun x s₄ h₄=>wpAny_bind (wpAny_mono h₄ (fun _ s₅ h₅=>wpAny_pure (wpAny_pure ⟨rfl,h₅⟩)) fun _ _ h'=>h')) fun _ _ h'=>h'))
def iS(J:It)(n:Nat)(fv:List (Str×Nat))(g:TG)(tc:TT)(te:TE)(σ:St)(H1:Hp)(Q:VK):Prop:=∀p,H1 p=none->∃W:Nat->Nat->List V->Hp->Prop,(∃m,W 0 m [] (upd H1 p (.lst [])))∧∀i m acc H2,W i m acc H2 ->
 H2 p=some (.lst acc)∧acc.length<sizeLine∧((J.stop i H2∧Q (.ref p) H2)∨(J.go i H2∧∀x H3,J.yld i H2 x H3->∀τ:St,τ.length=n->g x (τ++fvs fv σ) H3 fun σ2 H4=>(∃τ':St,τ'.length=n∧σ2=τ'++fvs fv σ) ∧
  tc σ2 H4 fun b H5=>if b=true then te σ2 H5 (fun y H6=>H6 p=some (.lst acc)∧∃m',m'<m∧W (i+1) m' (acc++[y]) (upd H6 p (.lst (acc++[y])))) else ∃m',m'<m∧W (i+1) m' acc H5))
def tw(wi:TI)(n:Nat)(fv:List (Str×Nat))(g:TG)(tc:TT)(te:TE):TE:=fun σ H Q=>wi σ H fun J H1=>iS J n fv g tc te σ H1 Q
section
variable {X:Cx} {scope:Scope} {cl:List (Str×Addr)} {xs:List Str} {fv:List (Str×Nat)} {elt iter tg:Expr} {ifs:List Expr} {pos:Pos} {te:TE} {tc:TT} {g:TG}
theorem sJ{pins:List (Addr×Obj)}{σ:St}{H:Hp}{s:Shared}{fp:List Addr}(C:BF X scope cl xs fv)(I:vO X pins σ H s)(hf:∀b∈fp,eE X pins H b)(ho:∀b∈fp,b<s.heap.objs.size):(X.blk (xs++fv.map (·.1)) scope cl fp s H).Ok:=by
 have hcl:∀y c,cl.lookup y=some c->X.env.cells.lookup y=some c:=fun y c h=>C.cells _ (ca h);have old:∀b∈fp,X.s₀.heap.objs.size≤b:=fun b hb=>by
  rcases(hf b hb).2.2.2.1 with z|z
  ·rw[C.noex]at z
   cases z
  ·exact z
 refine⟨I.ok.mod,by show(relabel scope X.env).kind=_;exact C.kind,I.ok.glob,I.ok.blt,Nat.le_refl _,fun y z c h1 h2=>I.ok.inj y z c (hcl y c h1) (hcl z c h2),fun y hy=>?_,(fun y c h=>by cases h),I.ok.hd,I.ok.frames,.inl rfl,fun b hb=>?_,fun b o e=>I.bs b o e,Nat.le_trans I.ok.bsz I.sz,fun b o e hb=>?_,fun b hb hm=>?_,I.stack,I.stkFree⟩
 ·have q:=C.has
  rw[List.all_eq_true]at q;have hm:∃k,(y,k)∈(relabel scope X.env).names∧(k = .cell∨k = .free):=by
   rcases hy with hy|hy
   ·exact⟨_,ca hy,.inl rfl⟩
   ·exact⟨_,ca hy,.inr rfl⟩
  obtain⟨k,hk,hk2⟩:=hm;have q2:=q _ hk;have q3:(cl.lookup y).isSome=true:=by
   rcases hk2 with rfl|rfl
   ·simpa using q2
   ·simpa using q2
  exact Option.isSome_iff_exists.mp q3
 ·obtain⟨f0,f1,f2,f3,f4,f5⟩:=hf b hb
  refine⟨?_,fun y c h=>f4 y c (hcl y c h)⟩;exact Nat.ne_of_lt (ho b hb)
 ·have z:=Heap.lt_size e
  have z2:=old b hb;exact absurd (Nat.lt_of_lt_of_le z (Nat.le_trans I.ok.bsz z2)) (Nat.lt_irrefl _)
 ·obtain⟨f0,f1,f2,f3,f4,f5⟩:=hf b hb
  rcases List.mem_cons.mp (I.stkSub b hm) with z|z
  ·exact f1 z
  ·exact f2 z
theorem qO{pins:List (Addr×Obj)}{σ:St}{H:Hp}{s s4:Shared}{fp:List Addr}(C:BF X scope cl xs fv)(I:vO X pins σ H s)(hf:∀b∈fp,eE X pins H b)(ho:∀b∈fp,b<s.heap.objs.size)
  (hs:s4.os=s.os∧s4.gens=s.gens) (ns:s4.heap.Ns s.heap.objs.size fun _=>none) (kp:∀b o,s.heap.get? b=some o->s4.heap.get? b=some o) :
  vO (X.blk (xs++fv.map (·.1)) scope cl fp s H) [] (List.replicate xs.length none++fvs fv σ) H s4:=by
 have hcl:∀y c,cl.lookup y=some c->X.env.cells.lookup y=some c:=fun y c h=>C.cells _ (ca h);refine⟨sJ C I hf ho,hs.1,by rw[hs.2];exact I.bare,Un.kept kp,⟨_,ns,fun i y v e1 e2 e3=>?_⟩,fun y c h=>?_,I.hok.fresh (Nat.le_refl _),fun y c h=>I.freeC y c (hcl y c h),fun p hp=>by simp at hp,I.hok.kept kp,by simp[fvs]⟩
 ·by_cases hi:i<xs.length
  ·rw[List.getElem?_append_left (by rw[List.length_replicate];exact hi),List.getElem?_replicate]at e2
   simp[hi]at e2
  ·obtain⟨j,rfl⟩:∃j,i=xs.length+j:=⟨i - xs.length,by omega⟩
   have e1':(fv.map (·.1))[j]? = some y:=by
    have z:(xs++fv.map (·.1))[xs.length+j]? = some y:=e1;rw[List.getElem?_append_right (by omega)]at z;simpa using z
   have e2':(fvs fv σ)[j]? = some (some v):=by
    rw[List.getElem?_append_right (by rw[List.length_replicate];omega),List.length_replicate]at e2;simpa using e2
   rw[List.getElem?_map]at e1';unfold fvs at e2';rw[List.getElem?_map]at e2';cases hq:fv[j]? with
   | none =>
    rw[hq]at e1';cases e1'
   | some q =>
    rw[hq]at e1' e2';have ey:q.1=y:=Option.some.inj e1';have ev:(σ[q.2]?).join=some v:=Option.some.inj e2';have hm:q∈fv:=List.mem_of_getElem? hq;obtain⟨s1,s2,s3,s4',s5⟩:=C.slot q hm;have ev2:σ[q.2]? = some (some v):=by
     cases hz:σ[q.2]? with
     | none =>
      rw[hz]at ev;cases ev
     | some z =>
      rw[hz]at ev;have ev':z=some v:=ev;rw[ev']
    obtain⟨m,hn,hl⟩:=I.loc;obtain⟨u,r,lk⟩:=hl q.2 q.1 v s1 ev2 s3;obtain⟨c,hc⟩:=Option.isSome_iff_exists.mp s4';refine⟨u,r,.inr ⟨.inl (by rw[<- ey];exact s5),c,by rw[<- ey];exact hc,?_⟩⟩;rcases lk with⟨k,_⟩|⟨_,c',hc',z⟩
    ·rw[s2]at k
     cases k
    ·rw[hcl _ _ hc]at hc'
     cases hc';obtain⟨o,ho',hd⟩:=z;exact⟨o,kp _ _ ho',hd⟩
 ·obtain⟨v,o,ho',hd⟩:=I.cell y c (hcl y c h)
  exact⟨v,o,kp _ _ ho',hd⟩
theorem qN{pins:List (Addr×Obj)}{σ:St}{H2:Hp}{s2:Shared}{it:Addr}{fp:List Addr}{tn:Nat->Heap->Prop}{J:It}{RR:Value->Addr->Result->Shared->Prop}{E:Value->Shared->Prop}{Qf:V->Hp->Prop}
  (hcalm:X.calm=true) (C:BF X scope cl xs fv) (I2:vO X pins σ H2 s2) (T:BT X.prog X.w X.K tg J fp it tn) (st:tn 0 s2.heap) (f2:∀b∈fp,eE X pins H2 b)
  (rd:iS J xs.length fv g tc te σ H2 Qf)
  (hg:∀(s₀:Shared) (H₀:Hp),PG (X.blk (xs++fv.map (·.1)) scope cl fp s₀ H₀) tg g) (ht:∀(s₀:Shared) (H₀:Hp),PTs (X.blk (xs++fv.map (·.1)) scope cl fp s₀ H₀) ifs tc)
  (he:∀(s₀:Shared) (H₀:Hp),PE (X.blk (xs++fv.map (·.1)) scope cl fp s₀ H₀) elt te)
  (hRR:∀(p C:Addr) (H':Hp) (s':Shared),(∃m,s'.heap.Ns C m)->C≠X.env.locals->H' C=none->X.s₀.heap.objs.size≤C->(∀y c,X.env.cells.lookup y=some c->c≠C)->(∀q∈X.pn++pins,q.1≠C)->vO X pins σ H' s'->Qf (.ref p) H'->RR (.ref p) C (.ok .next) s') :
  wpAny (model X.prog X.w) X.A (newList []) (fun acc s₃=>wpAny (model X.prog X.w) X.A (newFunctionEnv scope X.env.globals cl [] X.env.qual none .none (some X.env)) (fun cenv s₄ =>
   codeAny (model X.prog X.w) X.A (.compStart (.ListComp elt [⟨tg,iter,ifs,0⟩] scope pos) 0 (.ref it) acc { cenv with scope:=relabel scope X.env }) (RR acc cenv.locals) s₄) E s₃) E s2:=by
 refine wpAny_newObj_type ?_;have hfresh:=I2.fresh;have I3:vO X pins σ (upd H2 s2.heap.objs.size (.lst [])) { s2 with heap:=s2.heap.push { cls:=.type "list",data:=.seq ([]:List Value).toArray } } :=
  I2.laid (t':=s2.toks) (fun b u q=>Heap.get?_push_of_some _ q) (Nat.le_refl _) ⟨Nat.zero_le _,[],0,.nil,Heap.get?_push_size _ rfl⟩
 generalize hs3:({ s2 with heap:=s2.heap.push { cls:=.type "list",data:=.seq ([]:List Value).toArray } }:Shared)=s3 at I3 ⊢;have hp3:s2.heap.objs.size<s3.heap.objs.size:=by rw[<- hs3];exact Nat.lt_of_lt_of_le (Nat.lt_succ_self _) (Nat.le_of_eq (Heap.size_push _ _).symm)
 have k23:∀b o,s2.heap.get? b=some o->s3.heap.get? b=some o:=fun b o e=>by rw[<- hs3];exact Heap.get?_push_of_some _ e
 have fpo:∀b∈fp,b<s2.heap.objs.size:=fun b hb=>by
  obtain⟨o,e,_⟩:=T.obj 0 _ st b hb;exact Heap.lt_size e
 have f3:∀b∈fp,eE X pins (upd H2 s2.heap.objs.size (.lst [])) b:=fun b hb=>⟨by rw[aT (Nat.ne_of_lt (fpo b hb))];exact(f2 b hb).1,(f2 b hb).2⟩;refine wpAny_newFunctionEnv C.cell (by intro y hy;simp at hy) (fun h1 hns1 hsb1=>?_) C.kind;have kp:∀b o,s3.heap.get? b=some o->h1.get? b=some o:=fun b o e=>(hsb1.2 b (Nat.ne_of_lt (Heap.lt_size e))).trans (Heap.get?_push_of_some _ e);have I4:=qO (s4:={ s3 with heap:=h1,toks:=s3.toks+([]:List (Str×Value)).length }) C I3 f3 (fun b hb=>Nat.lt_trans (fpo b hb) hp3) ⟨rfl,rfl⟩ hns1 kp;have st4:tn 0 h1:=T.keep 0 _ _ st fun b _ o e=>kp b o (k23 b o e);obtain⟨W,⟨m0,w0⟩,step⟩:=rd _ hfresh;have loop:codeAny (model X.prog X.w) X.A (.compLoop (.ListComp elt [⟨tg,iter,ifs,0⟩] scope pos) 0 (.ref it) (.ref s2.heap.objs.size) (compEnvC scope cl s3.heap.objs.size X.env)) (RR (.ref s2.heap.objs.size) s3.heap.objs.size)
   { s3 with heap:=h1,toks:=s3.toks+([]:List (Str×Value)).length }:=by
  refine l9 (fun n s=>∃i acc τ H',τ.length=xs.length∧vO (X.blk (xs++fv.map (·.1)) scope cl fp s3 (upd H2 s2.heap.objs.size (.lst []))) [] (τ++fvs fv σ) H' s∧tn i s.heap∧(∀b∈fp,H' b=none)∧W i n acc H') ?_ m0 ⟨0,[],List.replicate xs.length none,_,List.length_replicate,I4,st4,fun b hb=>(f3 b hb).1,w0⟩;rintro n s ⟨i,acc,τ,H',hτ,I',st',fr',w'⟩;obtain⟨hp,hlen,alt⟩:=step i n acc H' w';have fpk:∀{H5:Hp},(∀b∈fp,H5 b=none)->∀b∈fp,eE (X.blk (xs++fv.map (·.1)) scope cl fp s3 (upd H2 s2.heap.objs.size (.lst []))) [] H5 b:=fun h5 b hb =>
   ⟨h5 b hb,(I'.ok.exf b hb).1,I'.ok.exfs b hb,.inl hb,fun y c e=>(I'.ok.exf b hb).2 y c e,fun q hq=>by simp at hq⟩
  rcases alt with⟨stop,qf⟩|⟨go,turn⟩
  ·refine wpAny_mono (T.done (X.blk (xs++fv.map (·.1)) scope cl fp s3 (upd H2 s2.heap.objs.size (.lst []))) rfl rfl rfl hcalm i [] s _ H' (fun _ _=>False) I' (fpk fr') st' stop) (fun r s5 ⟨hr,I5⟩=>?_) fun _ _ z=>False.elim z
   subst hr;refine hRR _ _ H' s5 (let ⟨m,hn,_⟩:=I5.loc;⟨m,hn⟩) (Nat.ne_of_gt I3.lt) I5.free I3.sz (fun y c e=>?_) (fun q hq=>?_) ?_ qf
   ·obtain⟨v,z⟩:=I3.cell y c e
    exact Nat.ne_of_lt z.lt
   ·exact Nat.ne_of_lt (Heap.lt_size (I3.pin q hq).1)
   ·exact I3.call' (s':=s5) (ch:=fp) I5.os I5.base I5.hok I5.bare fun b hb=>⟨(f2 b hb).2.2.2.1,(f2 b hb).2.1,(f2 b hb).2.2.2.2.1,(f2 b hb).2.2.2.2.2⟩
  ·refine wpAny_mono (T.item (X.blk (xs++fv.map (·.1)) scope cl fp s3 (upd H2 s2.heap.objs.size (.lst []))) rfl rfl rfl hcalm i [] s _ H' (fun _ _=>False) I' (fpk fr') st' go) (fun r s5 ⟨u,hr,h5⟩=>?_) fun _ _ z=>False.elim z
   subst hr;refine wpAny_mono h5 (fun _ s6 ⟨y,H6,I6,r6,y6,st6,fr6⟩=>?_) fun _ _ z=>False.elim z;have I6':=I6.pinned (fpk fr6) (T.obj _ _ st6);have rt:=turn y _ y6 τ hτ;refine wpAny_mono (hg s3 _ _ s6 _ H6 y u _ I6' r6 rt) (fun _ s7 ⟨σ7,H7,I7,⟨τ',hτ',e7⟩,q7⟩=>?_) fun _ _ z=>False.elim z;subst e7;refine wpAny_mono (ht s3 _ _ s7 _ _ _ I7 q7) (fun b s7b ⟨H7b,I7b,q7b⟩=>?_) fun _ _ z=>False.elim z;have kp6:∀{σ9:St} {H9:Hp} {s9:Shared},vO (X.blk (xs++fv.map (·.1)) scope cl fp s3 (upd H2 s2.heap.objs.size (.lst []))) ([]++i6 fp s6.heap) σ9 H9 s9->tn (i+1) s9.heap∧∀b∈fp,H9 b=none:=fun {σ9 H9 s9} I9=>by
    refine⟨T.keep _ _ _ st6 fun b hb o e=>(I9.pin (b,o) (List.mem_append_right _ (List.mem_append_right _ (cU hb e)))).1,fun b hb=>?_⟩;obtain⟨o,e,d⟩:=T.obj _ _ st6 b hb;exact(I9.pin (b,o) (List.mem_append_right _ (List.mem_append_right _ (cU hb e)))).2.1
   cases b with
   | false =>
    obtain⟨m',hm',w8⟩:=q7b;exact⟨m',hm',i+1,acc,τ',_,hτ',I7b.unpinned,(kp6 I7b).1,(kp6 I7b).2,w8⟩
   | true =>
    refine wpAny_mono (he s3 _ _ s7b _ _ _ I7b q7b) (fun v8 s8 ⟨y8,H8,I8,r8,q8,m',hm',w8⟩=>?_) fun _ _ z=>False.elim z;refine wpAny_mono (gY (X:=X.blk (xs++fv.map (·.1)) scope cl fp s3 (upd H2 s2.heap.objs.size (.lst []))) _ s8 _ H8 (.ref s2.heap.objs.size) [y8] (.ref s2.heap.objs.size) [v8] (fun _ H9=>H9=upd H8 s2.heap.objs.size (.lst (acc++[y8]))) I8 rfl (.cons r8 .nil) ⟨_,acc,y8,rfl,rfl,q8,hlen,rfl⟩) (fun _ s9 ⟨_,H9,I9,_,e9⟩=>?_) fun _ _ z=>False.elim z;subst e9;exact⟨m',hm',i+1,acc++[y8],τ',_,hτ',I9.unpinned,(kp6 I9).1,(kp6 I9).2,w8⟩
 exact codeAny_compStart_list loop (T.self _ 0 _ _ _ st4 loop)
theorem pC{wi:TI}(hcalm:X.calm=true)(C:BF X scope cl xs fv)(hi:PI X tg iter wi)(hg:∀(fp:List Addr) (s₀:Shared) (H₀:Hp),PG (X.blk (xs++fv.map (·.1)) scope cl fp s₀ H₀) tg g)(ht:∀(fp:List Addr) (s₀:Shared) (H₀:Hp),PTs (X.blk (xs++fv.map (·.1)) scope cl fp s₀ H₀) ifs tc)(he:∀(fp:List Addr) (s₀:Shared) (H₀:Hp),PE (X.blk (xs++fv.map (·.1)) scope cl fp s₀ H₀) elt te)
  (hs:∀v,foldedSetIterable iter X.env v=pure v:=by intro _;rfl):PE X (.ListComp elt [⟨tg,iter,ifs,0⟩] scope pos) (tw wi xs.length fv g tc te):=by
 intro pins s σ H Q I h;rw[eval_ListComp];refine wpAny_comprehension_free (use:=none) rfl hs C.clos C.kind C.names (wpAny_mono (hi pins s σ H _ I h) (fun v s1 h1=>wpAny_mono h1 (fun itv s2 h2=>?_) fun _ _ z=>z) fun _ _ z=>z);obtain⟨it,fp,tn,J,H2,rfl,I2,T,st2,f2,rd⟩:=h2;refine qN (Qf:=Q) hcalm C I2 T st2 f2 rd (hg fp) (ht fp) (he fp) fun p D H' s' ns nL nH n0 nC nP I8 q=>?_;obtain⟨m,hn⟩:=ns;exact⟨m,hn,fun h'' sb=>⟨.ref p,H',I8.turned (t':=s'.toks) (fun b o hb e=>(sb.2 b hb).trans e) nH nL (.inr n0) nC nP,rfl,q⟩⟩
end
theorem sH{J:It}{n k:Nat}{fv:List (Str×Nat)}{g:TG}{te:TE}{σ:St}{H1:Hp}{Q:VK}(hlen:n<1000)(R:Nat->V->Hp->Prop)(hR:∀i v H H',SameT H H'->R i v H->R i v H')
  (hst:∀H2,Same H1 H2->J.stop n H2) (hgo:∀i H2,i<n->Same H1 H2->J.go i H2)
  (hs:∀i x H2 H3 (τ:St) (Kc:VK),i<n->Same H1 H2->J.yld i H2 x H3->τ.length=k->(∀y H4,Same H2 H4->R i y H4->Kc y H4)->g x (τ++fvs fv σ) H3 fun σ2 H4=>(∃τ':St,τ'.length=k∧σ2=τ'++fvs fv σ)∧te σ2 H4 Kc)
  (hd:∀l ys H',H1 l=none->Same H1 H'->H' l=some (.lst ys)->ys.length=n->(∀i y,ys[i]? = some y->R i y H')->Q (.ref l) H') :
  iS J k fv g tu te σ H1 Q:=by
 intro l hl;refine⟨fun i m acc H2=>m=n - i∧i≤n∧acc.length=i∧Same H1 H2∧H2 l=some (.lst acc)∧∀j y,acc[j]? = some y->R j y H2,⟨n,rfl,Nat.zero_le _,rfl,Same.new hl,upd_same,fun j y h=>by simp at h⟩,?_⟩;rintro i m acc H2 ⟨rfl,hi,e1,sm,e3,hr⟩;refine⟨e3,bJ (by omega),?_⟩
 by_cases hlt:i<n
 ·refine .inr ⟨hgo i H2 hlt sm,fun x H3 y τ hτ=>?_⟩
  refine hs i x H2 H3 τ _ hlt sm y hτ fun y H4 s4 ry=>⟨s4 _ _ e3,n - (i+1),by omega,rfl,hlt,by simp[e1],(sm.trans s4).upd hl,upd_same,fun j z hz=>?_⟩;have t4:=SameT.upd (ys:=acc++[y]) (s4 _ _ e3);rcases Nat.lt_trichotomy j acc.length with h|h|h
  ·rw[List.getElem?_append_left h]at hz
   exact hR _ _ _ _ (s4.t.trans t4) (hr j z hz)
  ·subst h
   rw[List.getElem?_append_right (Nat.le_refl _),Nat.sub_self]at hz;cases hz;rw[e1];exact hR _ _ _ _ t4 ry
  ·rw[List.getElem?_eq_none (by simp;omega)]at hz
   cases hz
 ·have e:i=n:=by omega
  subst e;exact .inl ⟨hst H2 sm,hd l acc H2 hl sm e3 e1 hr⟩
theorem oS{K:W.Frag}{a b:Addr}{xs ys:List V}{fv:List (Str×Nat)}{te:TE}{σ:St}{H1:Hp}{Q:VK}{g:TG}{k:Nat}(q1:SqL K H1 a xs)(q2:SqL K H1 b ys)(hlen:min xs.length ys.length<1000)(R:Nat->V->Hp->Prop)(hR:∀i v H H',SameT H H'->R i v H->R i v H')
  (hs:∀i x y p H2 (τ:St) (Kc:VK),xs[i]? = some x->ys[i]? = some y->Same H1 H2->H2 p=some (.tup [x,y])->τ.length=k->(∀y H4,Same H2 H4->R i y H4->Kc y H4)->g (.ref p) (τ++fvs fv σ) H2 fun σ2 H4=>(∃τ':St,τ'.length=k∧σ2=τ'++fvs fv σ)∧te σ2 H4 Kc)
  (hd:∀l zs H',H1 l=none->Same H1 H'->H' l=some (.lst zs)->zs.length=min xs.length ys.length->(∀i y,zs[i]? = some y->R i y H')->Q (.ref l) H') :
  iS (Itz K a b) k fv g tu te σ H1 Q:=by
 refine sH (n:=min xs.length ys.length) hlen R hR (fun H2 s2=>⟨xs,ys,s2.seq q1,s2.seq q2,rfl⟩) (fun i H2 hi s2=>⟨xs,ys,xs[i],ys[i],s2.seq q1,s2.seq q2,by simp[show i<xs.length by omega],by simp[show i<ys.length by omega]⟩) ?_ hd;intro i x H2 H3 τ Kc hi s2 y hτ kk;obtain⟨p,u,v,rfl,np,rfl,e⟩:=y;obtain⟨e1,e2⟩:=e xs ys (s2.seq q1) (s2.seq q2);have s3:Same H2 (upd H2 p (.tup [u,v])):=Same.new np;exact hs i u v p _ τ Kc e1 e2 (s2.trans s3) upd_same hτ fun y H4 s4 r=>kk y H4 (s3.trans s4) r
end L2
namespace L2
open PySem PySem.Spec PyProof.Rows
end L2
namespace Dr
open PySem PySem.Spec L2 Mth Sp1 Sp2 Sp3 Sp7
def Pot(H:Hp)(p:Addr)(k:Int):Prop:=∃a b c:Int,H p=some (.lst [.int a,.int b,.int c])∧0≤b∧b≤k∧0≤c∧c<2147483647
def But(p:Addr)(H H':Hp):Prop:=∀b o,b≠p->H b=some o->H' b=some o
theorem But.refl{p:Addr}{H:Hp}:But p H H:=fun _ _ _ e=>e
theorem But.trans{p:Addr}{H H1 H2:Hp}(a:But p H H1)(b:But p H1 H2):But p H H2:=fun c o n e=>b c o n (a c o n e)
theorem But.of{p:Addr}{H H':Hp}(s:Same H H'):But p H H':=fun c o _ e=>s c o e
theorem But.same{p:Addr}{H0 H H':Hp}(b:But p H H')(s:Same H0 H)(h:H0 p=none):Same H0 H':=fun c o e=>b c o (aN e h) (s c o e)
theorem Pot.mono{H:Hp}{p:Addr}{k k':Int}(h:Pot H p k)(hk:k≤k'):Pot H p k':=by
 obtain⟨a,b,c,e,h0,h1,h2,h3⟩:=h;exact⟨a,b,c,e,h0,by omega,h2,h3⟩
theorem Pot.same{H H':Hp}{p:Addr}{k:Int}(h:Pot H p k)(s:Same H H'):Pot H' p k:=by
 obtain⟨a,b,c,e,h0⟩:=h;exact⟨a,b,c,s _ _ e,h0⟩
theorem But.t{p:Addr}{H H':Hp}{k:Int}(b:But p H H')(h:Pot H p k):SameT H H':=fun c xs e=>by
 obtain⟨x,y,z,ep,_⟩:=h;exact b c _ (pK e ep (by intro z;cases z)) e
theorem Pot.ne{H:Hp}{p l:Addr}{k:Int}(h:Pot H p k)(hl:H l=none):l≠p:=fun z=>by
 obtain⟨x,y,w,ep,_⟩:=h;subst z;rw[hl]at ep;cases ep
theorem But.none{p l:Addr}{H H':Hp}(b:But p H H')(n:l≠p)(h:H' l=none):H l=none:=by
 cases e:H l with
 | none=>rfl
 | some o =>
  rw[b l o n e]at h;cases h
inductive spCell (K:W.Frag) (vs:List V) (H:Hp) (Q:VK) (x_3:XK):Prop
 | mk:∀(sa:Addr) (ss:List Int) (k:Int),(vs = [.ref sa,.int k])->(SqL K H sa (ss.map V.int))->(0≤k)->(∀c:Int,Q (.int c) H)->spCell K vs H Q x_3
inductive spBegun (vs:List V) (H:Hp) (Q:VK) (x_3:XK):Prop
 | mk:∀c:Int,(vs = [.int c])->(∀(p:Addr) (H':Hp),Same H H'->H p=none->Pot H' p 0->Q (.ref p) H')->spBegun vs H Q x_3
inductive spTk (vs:List V) (H:Hp) (Q:VK) (x_3:XK):Prop
 | mk:∀(p:Addr) (m k:Int),(vs = [.ref p,.int m])->(Pot H p k)->(k≤1000000)->((0<m∧ao m≤8000))->(∀(r:Int) (H':Hp),0≤r->r<m->But p H H'->Pot H' p (k+1)->Q (.int r) H')->spTk vs H Q x_3
inductive spWd (vs:List V) (H:Hp) (Q:VK) (x_3:XK):Prop
 | mk:∀(p:Addr) (m k:Int),(vs = [.ref p,.int m])->(Pot H p k)->(k≤900000)->((0<m∧ao m≤8000))->(∀(r:Int) (H':Hp),0≤r->r<m->But p H H'->Pot H' p (k+4)->Q (.int r) H')->spWd vs H Q x_3
inductive spDLine (vs:List V) (H:Hp) (Q:VK) (x_3:XK):Prop
 | mk:∀(p:Addr) (k:Int),(vs = [.ref p])->(Pot H p k)->(k≤800000)->(∀(l:Addr) (qs:Crn) (H':Hp),LineM H' l qs->1≤qs.length->qs.length≤10->H l=none->But p H H'->Pot H' p (k+100)->Q (.ref l) H')->spDLine vs H Q x_3
inductive Bh (vs:List V) (H:Hp) (Q:VK) (x_3:XK):Prop
 | mk:∀(p:Addr) (n k:Int),(vs = [.ref p,.int n])->(Pot H p k)->(k≤900000)->(∀(r:Int) (H':Hp),Sm r->But p H H'->Pot H' p (k+1)->Q (.int r) H')->Bh vs H Q x_3
inductive Bf (vs:List V) (H:Hp) (Q:VK) (x_3:XK):Prop
 | mk:∀(p l:Addr) (qs:Crn) (k:Int),(vs = [.ref p,.ref l])->(Pot H p k)->(k≤700000)->(LineM H l qs)->((1≤qs.length∧qs.length≤10))->(∀(r:Addr) (rs:Crn) (H':Hp),LineM H' r rs->1≤rs.length->rs.length≤10->H r=none->But p H H'->Q (.ref r) H')->Bf vs H Q x_3
inductive Bi (K:W.Frag) (vs:List V) (H:Hp) (Q:VK) (x_3:XK):Prop
 | mk:∀(sa:Addr) (ss:List Int),(vs = [.ref sa])->(SqL K H sa (ss.map V.int))->(∀(t l r:Addr) (qs rs:Crn) (H':Hp),Same H H'->H' t=some (.tup [.ref l,.ref r])->LineM H' l qs->(1≤qs.length∧qs.length≤10)->LineM H' r rs->(1≤rs.length∧rs.length≤10)->H l=none->H r=none->l≠r->Q (.ref t) H')->Bi K vs H Q x_3
theorem _root_.Sp7.LineM.but{p l:Addr}{H H':Hp}{qs:Crn}{k:Int}(L:LineM H l qs)(b:But p H H')(h:Pot H p k)(n:l≠p):LineM H' l qs:=⟨b l _ n L.lst,fun q hq=>⟨b.t h _ _ (L.crn q hq).1,(L.crn q hq).2⟩⟩
end Dr
namespace Dr
open PySem PySem.Spec L2 Mth Sp1 Sp2 Sp3 Sp7
theorem qg{n:Nat}{i:Int}(h0:0≤i)(h1:i<(n:Int)):ixN n i=some i.toNat:=by
 unfold ixN;rw[if_pos h0,if_pos h1]
theorem pN{K:W.Frag}{H:Hp}{l:Addr}{xs:List V}{i:Int}{Q:VK}(C:Int->Prop)(e:H l=some (.lst xs))(h0:0≤i)(h1:i<(xs.length:Int))(hC:∀v∈xs,∃m,v = .int m∧C m)(h:∀m,C m->Q (.int m) H):CL K (.ref l) (.int i) H Q :=
 uX e h0 h1 fun v hv=>by
  obtain⟨m,rfl,hc⟩:=hC v hv;exact h m hc
theorem uz{qs:Crn}{k:Int}(h0:0≤k)(h1:k<(qs.length:Int)):∃q,qs[k.toNat]? = some q∧atI (qs.map fun (q:Addr×Int×Int)=>V.ref q.1) k=some (.ref q.1):=by
 have hk:k.toNat<qs.length:=by omega
 refine⟨qs[k.toNat],List.getElem?_eq_getElem hk,?_⟩;have:=db (xs:=qs.map fun (q:Addr×Int×Int)=>V.ref q.1) (j:=k.toNat) (v:=.ref qs[k.toNat].1) (by rw[List.getElem?_map,List.getElem?_eq_getElem hk];rfl);rw[show((k.toNat:Nat):Int)=k by omega]at this;exact this
def qi(s:Stmt):Stmt:=match s with
 | .If _ (b::_) _ _=>b
 | _=>.Pass ⟨0,0,0,0⟩
def kj(s:Stmt):Expr:=match s with
 | .Return (some e) _=>e
 | .Assign _ e _=>e
 | .If e _ _ _=>e
 | _=>.Name "" ⟨0,0,0,0⟩
end Dr
namespace Dr
open PySem
def compScope(e:Expr):Scope:=match e with
 | .ListComp _ _ sc _=>sc
 | .Call _ [.ListComp _ _ sc _] _ _=>sc
 | _=>{ kind:=.function,names:=[],isGenerator:=false,isCoroutine:=false }
end Dr
namespace PySem
namespace F
theorem lri_no_len:typeLookup (.type "list_reverseiterator") (Str.ofString "__len__")=pure none:=by rw[typeLookup_type,builtinLookup_eq_fast];kernel_rfl
theorem lri_hint:typeLookup (.type "list_reverseiterator") (Str.ofString "__length_hint__")=pure (some (.builtin "list_reverseiterator.__length_hint__")):=by rw[typeLookup_type,builtinLookup_eq_fast];kernel_rfl
end F
section
variable {prog:Program} {w:World} {A:Around} {E:Value->Shared->Prop} {s:Shared}
theorem iT{it:Addr}{Q:Bool->Shared->Prop}(hT:s.TypeIs (.ref it) "list_reverseiterator")(h:Q false s):wpAny (model prog w) A (Builtin.List.listLengthHint (.ref it)) Q E s:=by
 unfold Builtin.List.listLengthHint;refine wpAny_bind (wpAny_specialOf hT F.lri_no_len ?_);show wpAny _ A (specialOf (Value.ref it) (Str.ofString "__length_hint__") >>= _) _ _ _;refine wpAny_bind (wpAny_specialOf hT F.lri_hint ?_);generalize hid:("list_reverseiterator.__length_hint__" : String)=id0
 wp_delta
 rw[show splitId id0=some ("list_reverseiterator","__length_hint__") from by subst hid;decide +kernel];subst hid;refine wpAny_bind (wpAny_isInstance (T:="list_reverseiterator") (b:=true) hT (by rw[isSubtype_type];kernel_rfl) ?_);refine wpAny_ite_split (fun hab=>absurd hab (by decide)) (fun _=>?_);refine wpAny_ite_split (fun _=>?_) (fun hab=>absurd (by decide +kernel) hab);refine wpAny_ite_split (fun hab=>absurd hab (by decide +kernel)) (fun _=>?_);exact wpAny_pure h
theorem gQ{R:Result->Shared->Prop}{it l:Addr}{items:Array Value}(hh:A.handled=none)(hit:s.heap.IsRevIter it l ((items.size:Int) - 1))(hl:s.heap.IsList l items)(hne:l≠it)(hn:items.size≤sizeLine)(S:Addr)(res:Value)(c₀:Nat)(hSi:S≠it)(hSl:S≠l)
  (hS:s.heap.get? S=some { cls:=.type "list",data:=.seq #[] c₀ })
  (hR:∀h' tk acc' c',(∀b o,b≠S->b≠it->s.heap.get? b=some o->h'.get? b=some o)->h'.get? S=some { cls:=.type "list",dict:=none,data:=.seq acc' c',slots:=#[] } ->
   ItemsOf (fun i v=>items[items.size - 1 - i]? = some v) acc' items.size->R (.ok (.ret res)) { s with heap:=h',toks:=tk }) :
  wpAny (model prog w) A.in1 (Builtin.List.listExtendWith (.ref S) (.ref it) res)
   (fun fin s'=>match fin with | .done f=>R (.ok f) s' | .again c'=>c'.quiet=true∧codeAny (model prog w) A c' R s') (fun e s'=>R (.error e) s') s:=by
 have W:=(Walks.listRev (prog:=prog) (w:=w) (A:=A.in1) hh it l hne items).toS;have hSf:S∉[it,l]:=fun hm=>by
  simp only[List.mem_cons,List.not_mem_nil,or_false]at hm;rcases hm with e|e
  ·exact hSi e
  ·exact hSl e
 unfold Builtin.List.listExtendWith;refine wpAny_bind (wpAny_typeOf hit.typeIs ?_);have h1:Builtin.List.listSameRef (.ref S) (.ref it)=false:=by simp[Builtin.List.listSameRef,hSi]
 have h2:(Value.type "list_reverseiterator" == Value.type "list")=false:=by decide
 have h3:(Value.type "list_reverseiterator" == Value.type "tuple")=false:=by decide
 simp only[h1,h2,h3,Bool.or_false,Bool.false_eq_true,if_false];refine wpAny_bind (wpAny_pyIter_revIter hit ?_);refine wpAny_bind (wpAny_holding (iT hit.typeIs ?_));refine wpAny_ite_split (fun hab=>absurd hab (by decide +kernel)) (fun _=>?_);refine wpAny_pure ⟨plainId_quiet F.plain_extend_loop _,codeAny_extend_loopS W hn S hSf res items.size 0 s #[] c₀ rfl (Nat.zero_le _) ⟨Nat.zero_le _,by simpa using hit,hl⟩ hS (ItemsOf.nil _) fun s' acc' c' hm hS' hacc=>?_⟩;rw[Moved.eq_with hm];refine hR s'.heap s'.toks acc' c' (fun b o hb hi e=>hm.heap b o (fun hmem=>?_) e) hS' hacc;rcases List.mem_cons.mp hmem with e'|hmem
 ·exact hb e'
 ·exact hi (List.mem_singleton.mp hmem)
theorem jG{Q:Value->Shared->Prop}{it l:Addr}{items:Array Value}(hh:A.handled=none)(hit:s.heap.IsRevIter it l ((items.size:Int) - 1))(hl:s.heap.IsList l items)(hne:l≠it)(hn:items.size≤sizeLine)
  (hQ:∀h' tk acc' c',(∀b o,b≠it->s.heap.get? b=some o->h'.get? b=some o) ->
   h'.get? s.heap.objs.size=some { cls:=.type "list",dict:=none,data:=.seq acc' c',slots:=#[] }->ItemsOf (fun i v=>items[items.size - 1 - i]? = some v) acc' items.size->Q (.ref s.heap.objs.size) { s with heap:=h',toks:=tk }) :
  wpAny (model prog w) A (call (.type "list") [.ref it]) Q E s:=by
 obtain⟨oi,hoi,_⟩:=id hit;obtain⟨ol,hol,_⟩:=id hl;have hi:=Heap.lt_size hoi;have hll:=Heap.lt_size hol;refine callType_codes (Q₁:=fun obj s₁=>obj = .ref s.heap.objs.size∧s₁={ s with heap:=s.heap.push { cls:=.type "list",data:=.seq #[] } }) F.called_list (F.typeCall_list_1 _) F.entry_list_init
  (code_list_new _ ⟨rfl,rfl⟩) fun obj s₁ h₁=>?_
 obtain⟨rfl,rfl⟩:=h₁;have hS:(s.heap.push { cls:=.type "list",data:=.seq #[] }).get? s.heap.objs.size=some { cls:=.type "list",data:=.seq #[] }:=Heap.get?_push_size _ rfl;refine⟨⟨_,hS,rfl⟩,F.args_list_init_2 _ _,?_⟩;show wpAny _ _ (do let old <- Builtin.List.listItems (.ref s.heap.objs.size);Builtin.List.listUpdate (.ref s.heap.objs.size) (fun _=>#[]);letGo old.toList.reverse;Builtin.List.listExtendWith (.ref s.heap.objs.size) (.ref it) .none) _ _ _
 refine wpAny_bind ?_;unfold Builtin.List.listItems;refine wpAny_bind (wpAny_seqItems hS rfl (wpAny_pure ?_));show wpAny _ _ (updateSeq s.heap.objs.size (fun _=>#[]) >>= fun _=>letGo (#[]:Array Value).toList.reverse >>= fun _=>Builtin.List.listExtendWith (.ref s.heap.objs.size) (.ref it) .none) _ _ _;refine wpAny_bind (wpAny_updateSeq hS rfl ?_);have hS₂:=Heap.get?_update_self (Obj.mapSeq (fun _=>(#[]:Array Value))) hS rfl;have oth:∀b o,b≠s.heap.objs.size->s.heap.get? b=some o->((s.heap.push { cls:=.type "list",data:=.seq #[] }).update s.heap.objs.size (Obj.mapSeq (fun _=>(#[]:Array Value)))).get? b=some o :=
  fun b o hb e=>(Heap.get?_update_other _ _ (Ne.symm hb)).trans (Heap.get?_push_of_some _ e)
 refine wpAny_bind (wpAny_letGo ?_);refine gQ (A:=A.in1) hh (hit.at fun o e=>oth it o (Nat.ne_of_lt hi) e) (hl.at fun o e=>oth l o (Nat.ne_of_lt hll) e) hne hn _ .none _ (Nat.ne_of_gt hi) (Nat.ne_of_gt hll) hS₂ fun h' tk acc' c' hk hS' hacc=>?_;exact⟨rfl,hQ h' tk acc' c' (fun b o hb e=>hk b o (Nat.ne_of_lt (Heap.lt_size e)) hb (oth b o (Nat.ne_of_lt (Heap.lt_size e)) e)) hS' hacc⟩
end
end PySem
namespace L2
open PySem PySem.Spec PyProof.Rows
section
variable {X:Cx} {e:Expr} {te:TE} {p1 p2 q1 q2:Pos}
theorem mj:bootBuiltins "reversed" = some (.type "reversed"):=by decide +kernel
def o8(K:W.Frag)(te:TE):TE:=fun σ H Q=>te σ H fun x H1=>∃a xs,[x] = [.ref a]∧SqL K H1 a xs∧∀l H2,Same H1 H2->H2 l=some (.lst xs.reverse)->H1 l=none->Q (.ref l) H2
theorem lj(hcalm:X.calm=true)(gl:Gl X "list")(ml:X.mg "list" = none)(gr:Gl X "reversed")(mr:X.mg "reversed" = none)(he:PE X e te)
  (h1:starEach [.Call (.Name "reversed" p1) [e] [] q1] X.env = [(false,eval (.Call (.Name "reversed" p1) [e] [] q1) X.env)]:=by rfl) (h2:starEach [e] X.env = [(false,eval e X.env)]:=by rfl) :
  PE X (.Call (.Name "list" p2) [.Call (.Name "reversed" p1) [e] [] q1] [] q2) (o8 X.K te):=by
 intro pins s σ H Q I h;have h':(bP te fV) σ H (fun vs H1=>∃a xs,vs = [.ref a]∧SqL X.K H1 a xs∧∀l H2,Same H1 H2->H2 l=some (.lst xs.reverse)->H1 l=none->Q (.ref l) H2):=h;have inner:wpAny (model X.prog X.w) X.A (eval (.Call (.Name "reversed" p1) [e] [] q1) X.env) (fun u s1=>∃(it a:Addr) (xs:List V) (its:List Value) (H1:Hp),u = .ref it∧vO X pins σ H1 s1∧aM xs its∧s1.heap.IsList a its.toArray∧xs.length≤sizeLine∧a≠it∧eE X pins H1 it∧s1.heap.IsRevIter it a ((its.toArray.size:Int) - 1) ∧
   ∀l H2,Same H1 H2->H2 l=some (.lst xs.reverse)->H1 l=none->Q (.ref l) H2) X.xe s:=by
  refine wpAny_Call_Name_kw (fj I gr mr mj (PyProof.Rows.callWith_type1 (thn ((aa he ad h2) q1 pins s σ H (fun vs H1=>∃a xs,vs = [.ref a]∧SqL X.K H1 a xs∧∀l H2,Same H1 H2->H2 l=some (.lst xs.reverse)->H1 l=none->Q (.ref l) H2) I ?_) fun us s1 ⟨vs,H1,I1,r1,q⟩=>?_) h2 rfl))
  ·exact h'
  ·obtain⟨a,xs,rfl,hx,k⟩:=q
   obtain⟨u,rfl,ru⟩:=dj r1;cases ru;obtain⟨its,rv,pl,hz⟩:=I1.list hx;refine call_reversed_list pl.isList ?_;have al:a<s1.heap.objs.size:=by obtain⟨_,e,_⟩:=pl.isList;exact Heap.lt_size e
   have kp:∀b o,s1.heap.get? b=some o->(s1.heap.push (revObj a ((its.toArray.size:Int) - 1))).get? b=some o:=fun b o e=>Heap.get?_push_of_some _ e;exact⟨_,a,xs,its,H1,rfl,I1.kept (t':=s1.toks) kp,rv,pl.isList.at fun o e=>kp _ o e,hz,Nat.ne_of_lt al,I1.fpOk (Nat.le_refl _) (I1.hok.fresh (Nat.le_refl _)),⟨_,Heap.get?_push_size _ rfl,rfl,rfl⟩,k⟩
 refine wpAny_Call_Name_kw (fj I gl ml n9 (PyProof.Rows.callWith_type1 ?_ h1 rfl));rw[h1];refine Calls.spliced_cons (thn inner fun u s1 ⟨it,a,xs,its,H1,eu,I1,rv,hl,hz,hne,fp,hrev,k⟩=>?_);subst eu;refine Calls.spliced_nil ?_;have hlen:=rv.length;refine jG (I.ok.hd hcalm) hrev hl hne (by rw[List.size_toArray];omega) fun h' tk acc' c' hk hS hacc=>?_;obtain⟨f0,f1,f2,f3,f4,f5⟩:=fp;have hfr:H1 s1.heap.objs.size=none:=I1.hok.fresh (Nat.le_refl _);have J1:vO X pins σ H1 { s1 with heap:=h',toks:=tk }:=I1.turned (fun b o hb e=>hk b o hb e) f0 f1 f3 f4 f5;have hv:aM xs.reverse acc'.toList:=by
  have e:acc'=its.reverse.toArray:=by
   obtain⟨h3,h4⟩:=hacc;refine Array.ext ?_ fun j hj1 hj2=>?_
   ·rw[h3];simp
   ·have z:=h4 j _ (Array.getElem?_eq_getElem hj1)
    rw[List.size_toArray]at z;have hj:j<its.length:=by simpa using hj2
    have z':its[its.length - 1 - j]? = some acc'[j]:=by simpa using z
    have y:its.reverse[j]? = its[its.length - 1 - j]?:=by rw[List.getElem?_reverse hj]
    rw[z']at y;have y2:its.reverse.toArray[j]? = some acc'[j]:=by simpa using y
    rw[Array.getElem?_eq_getElem hj2]at y2;exact(Option.some.inj y2).symm
  rw[e];exact rv.reverse
 have hn:X.s₀.heap.get? s1.heap.objs.size=none:=by
  cases e:X.s₀.heap.get? s1.heap.objs.size with
  | none=>rfl
  | some o=>exact absurd (Nat.lt_of_lt_of_le (Heap.lt_size e) I1.sz) (Nat.lt_irrefl _)
 obtain⟨g0,g1,g2,g3,g4,g5⟩:=I1.fpOk (H':=H1) (Nat.le_refl _) hfr;have J2:=J1.track (o:=.lst xs.reverse) hfr hn g1 g4 g5 ⟨by rw[List.length_reverse];exact hz,acc'.toList,c',hv,by simpa using hS⟩;exact⟨.ref s1.heap.objs.size,_,J2,rfl,k _ _ (Same.new hfr) upd_same hfr⟩
end
section
variable {X:Cx}
end
end L2
namespace Wk
open PySem PySem.Spec L2 Mth Sp1 Sp2 Sp3 Sp7 Dr
structure Pr where
 p:Addr
 x:Addr
 y:Addr
 a:Int
 b:Int
 c:Int
 d:Int
structure PrAt(H:Hp)(q:Pr):Prop where
 p_:H q.p=some (.tup [.ref q.x,.ref q.y])
 x_:H q.x=some (.tup [.int q.a,.int q.b])
 y_:H q.y=some (.tup [.int q.c,.int q.d])
 lx:wS q.a q.b
 ly:wS q.c q.d
 nx:0≤q.a
 ny:0≤q.c
 ba:ao q.a≤200
 bb:ao q.b≤60
 bc:ao q.c≤200
 bd:ao q.d≤60
theorem PrAt.t{H H':Hp}{q:Pr}(h:PrAt H q)(s:SameT H H'):PrAt H' q:=⟨s _ _ h.p_,s _ _ h.x_,s _ _ h.y_,h.lx,h.ly,h.nx,h.ny,h.ba,h.bb,h.bc,h.bd⟩
theorem PrAt.sx{H:Hp}{q:Pr}(h:PrAt H q):zA q.a q.b:=⟨h.lx.pos,af h.ba (by decide),af h.bb (by decide)⟩
theorem PrAt.sy{H:Hp}{q:Pr}(h:PrAt H q):zA q.c q.d:=⟨h.ly.pos,af h.bc (by decide),af h.bd (by decide)⟩
def prs(ps:List Pr):List V:=ps.map fun q=>V.ref q.p
structure vU(H:Hp)(l:Addr)(ps:List Pr):Prop where
 lst:H l=some (.lst (prs ps))
 pr:∀q∈ps,PrAt H q
theorem vU.mono{H H':Hp}{l:Addr}{ps:List Pr}(h:vU H l ps)(s:Same H H'):vU H' l ps:=⟨s _ _ h.lst,fun q hq=>(h.pr q hq).t s.t⟩
theorem aX(ps:List Pr):(prs ps).length=ps.length:=List.length_map _
theorem cD{ps:List Pr}{i:Nat}{v:V}(h:(prs ps)[i]? = some v):∃q,ps[i]? = some q∧v = .ref q.p:=by
 unfold prs at h;rw[List.getElem?_map]at h;obtain⟨q,hq,rfl⟩:=Option.map_eq_some_iff.mp h;exact⟨q,hq,rfl⟩
def aB:Str:="hops"
def aL:Str:="free"
def a6:Str:="part"
def wOn:Str:="on"
def goB(way:Str)(a b c d:Int):Bool :=
 if way=aB then (decide (b=1) && (decide (d=1) && (decide (c - a=0) || decide (c - a=1))))
 else if way=aL then aK a b c d
 else (!decide (c*b<a*d)) && aK a b c d
def dE(way:Str)(u v:Pr):Bool:=goB way u.a u.b v.a v.b && goB way u.c u.d v.c v.d
def cE(way:Str):List Pr->Bool
 | u::v::r=>dE way u v && cE way (v::r)
 | _=>true
def isP(a b n:Int):Bool:=decide (a=n) && decide (b=1)
def gM(n m:Int)(way:Str)(f l:Pr):Bool :=
 if isP f.a f.b 0 && isP l.a l.b n then (if way=a6 then true else isP f.c f.d 0 && isP l.c l.d m) else false
def inB(n m:Int)(q:Pr):Bool:=(decide (q.a≤n*q.b)) && (decide (q.c≤m*q.d))
def ck(n m:Int)(way:Str)(ps:List Pr):Bool :=
 match ps with
 | []=>false
 | f::r=>(f::r).all (inB n m) && (gM n m way f ((f::r).getLast (by simp)) && cE way (f::r))
theorem cQ(n m:Int)(way:Str)(f:Pr)(r:List Pr):ck n m way (f::r)=((f::r).all (inB n m) && (gM n m way f ((f::r).getLast (by simp)) && cE way (f::r))):=rfl
def cn(n m:Int)(H:Hp):V->Bool
 | .ref p=>match H p with
  | some (.tup [x,y])=>aO n H x && aO m H y
  | _=>false
 | _=>false
def cS(n m:Int)(H:Hp):V->Bool
 | .ref p=>match H p with
  | some (.lst xs)=>!xs.isEmpty && xs.all (cn n m H)
  | _=>false
 | _=>false
structure C0(H:Hp)(v:V):Prop where
 kn:∃t,Kn H v t
 parts:∀p xs,v = .ref p->H p=some (.tup xs)->∀y∈xs,wW H y∧∀q a b,y = .ref q->H q=some (.tup [.int a,.int b])->ao a≤200∧ao b≤60
structure CS(H:Hp)(v:V):Prop where
 kn:∃t,Kn H v t
 parts:∀p xs,v = .ref p->H p=some (.lst xs)->xs.length<900∧∀y∈xs,C0 H y
inductive BH (vs:List V) (H:Hp) (Q:VK) (x_3:XK):Prop
 | mk:∀(l1 l2:Addr) (xs1 xs2:List V) (v:V),(vs = [.ref l1,.ref l2,v])->((H l1=some (.lst xs1)∧xs1.length≤100))->((H l2=some (.lst xs2)∧xs2.length≤100))->(C0 H v)->(Q (.bl (cn ((xs1.length:Int) - 1) ((xs2.length:Int) - 1) H v)) H)->BH vs H Q x_3
inductive AK (vs:List V) (H:Hp) (Q:VK) (x_3:XK):Prop
 | mk:∀(l1 l2:Addr) (xs1 xs2:List V) (v:V),(vs = [.ref l1,.ref l2,v])->((H l1=some (.lst xs1)∧xs1.length≤100))->((H l2=some (.lst xs2)∧xs2.length≤100))->(CS H v)->(∀H',Same H H'->Q (.bl (cS ((xs1.length:Int) - 1) ((xs2.length:Int) - 1) H v)) H')->AK vs H Q x_3
theorem nE{H H':Hp}{p:Addr}{t:String}{o:HO}(k:Kn H (.ref p) t)(s:Same H H')(e:H' p=some o):H p=some o:=by
 cases k with
 | lst e1=>rw[s _ _ e1]at e;rw[e1];exact e
 | tup e1=>rw[s _ _ e1]at e;rw[e1];exact e
 | dict e1=>rw[s _ _ e1]at e;rw[e1];exact e
theorem C0.mono{H H':Hp}{v:V}(h:C0 H v)(s:Same H H'):C0 H' v:=by
 obtain⟨⟨t,k⟩,pt⟩:=h;refine⟨⟨t,k.mono s⟩,fun p xs e1 e2 y hy=>?_⟩;subst e1;obtain⟨th,bd⟩:=pt p xs rfl (nE k s e2) y hy;refine⟨wW.mono th s,fun q a b e3 e4=>?_⟩;subst e3;obtain⟨t2,k2⟩:=th.kn;exact bd q a b rfl (nE k2 s e4)
theorem cH{n:Int}{H H':Hp}{v:V}(h:wW H v)(s:Same H H'):aO n H' v=aO n H v:=by
 obtain⟨t,k⟩:=h.kn;cases k with
 | non=>rfl
 | bl b=>rfl
 | int i=>rfl
 | str x=>rfl
 | lst e=>simp only[aO,e,s _ _ e]
 | tup e=>simp only[aO,e,s _ _ e]
 | dict e=>simp only[aO,e,s _ _ e]
theorem fH{n m:Int}{H:Hp}{p:Addr}{x y:V}(e:H p=some (.tup [x,y])):cn n m H (.ref p)=(aO n H x && aO m H y):=by simp only[cn,e]
theorem mK{n m:Int}{H H':Hp}{v:V}(h:C0 H v)(s:Same H H'):cn n m H' v=cn n m H v:=by
 obtain⟨⟨t,k⟩,pt⟩:=h;cases k with
 | non=>rfl
 | bl b=>rfl
 | int i=>rfl
 | str x=>rfl
 | lst e=>simp only[cn,e,s _ _ e]
 | dict e=>simp only[cn,e,s _ _ e]
 | @tup p xs e =>
  match xs,e with
  | [],e=>simp only[cn,e,s _ _ e]
  | [x],e=>simp only[cn,e,s _ _ e]
  | [x,y],e =>
   rw[fH e,fH (s _ _ e),cH (pt _ _ rfl e x (by simp)).1 s,cH (pt _ _ rfl e y (by simp)).1 s]
  | x::y::z::r,e=>simp only[cn,e,s _ _ e]
theorem oA{n m:Int}{H:Hp}{v:V}(h:C0 H v)(hv:cn n m H v=true):∃q:Pr,v = .ref q.p∧PrAt H q∧inB n m q=true:=by
 unfold cn at hv
 split at hv
 ·split at hv
  ·rename_i p _ x y e
   rw[Bool.and_eq_true]at hv;obtain⟨p1,a,b,rfl,e1,lw1,n1,r1⟩:=fX hv.1;obtain⟨p2,c,d,rfl,e2,lw2,n2,r2⟩:=fX hv.2;have b1:=(h.parts p _ rfl e (.ref p1) (by simp)).2 p1 a b rfl e1;have b2:=(h.parts p _ rfl e (.ref p2) (by simp)).2 p2 c d rfl e2;refine⟨⟨p,p1,p2,a,b,c,d⟩,rfl,⟨e,e1,e2,lw1,lw2,n1,n2,b1.1,b1.2,b2.1,b2.2⟩,?_⟩;unfold inB;rw[Bool.and_eq_true,decide_eq_true_eq,decide_eq_true_eq];exact⟨r1,r2⟩
  ·cases hv
 ·cases hv
theorem i9{n m:Int}{H:Hp}{p:Addr}{xs:List V}(e:H p=some (.lst xs)):cS n m H (.ref p)=(!xs.isEmpty && xs.all (cn n m H)):=by simp only[cS,e]
theorem ja{n m:Int}{H:Hp}{v:V}(h:CS H v)(hv:cS n m H v=true):∃(l:Addr) (ps:List Pr),v = .ref l∧vU H l ps∧ps≠[]∧ps.all (inB n m)=true∧ps.length<900:=by
 have hv0:=hv;unfold cS at hv
 split at hv
 ·split at hv
  ·rename_i p _ xs e
   rw[Bool.and_eq_true]at hv;obtain⟨hl,hy⟩:=h.parts p xs rfl e;have ch:∀xs:List V,(∀y∈xs,C0 H y)->xs.all (cn n m H)=true->∃ps:List Pr,xs=prs ps∧(∀q∈ps,PrAt H q)∧ps.all (inB n m)=true:=by
    intro xs
    induction xs with
    | nil=>exact fun _ _=>⟨[],rfl,(fun q h=>nomatch h),rfl⟩
    | cons x xs ih =>
     intro h1 h2;rw[List.all_cons,Bool.and_eq_true]at h2;obtain⟨ps,e1,e2,e3⟩:=ih (fun y hy=>h1 y (List.mem_cons_of_mem _ hy)) h2.2;obtain⟨q,rfl,pq,iq⟩:=oA (h1 x List.mem_cons_self) h2.1;refine⟨q::ps,by rw[e1];rfl,fun r hr=>?_,by rw[List.all_cons,iq,e3];rfl⟩;rcases List.mem_cons.mp hr with rfl|hr
     ·exact pq
     ·exact e2 r hr
   obtain⟨ps,rfl,e2,e3⟩:=ch xs hy hv.2;refine⟨p,ps,rfl,⟨e,e2⟩,fun z=>?_,e3,by rw[aX]at hl;exact hl⟩;subst z;exact absurd hv.1 (by simp[prs])
  ·cases hv
 ·cases hv
theorem Kn.cases_lst'{H:Hp}{n m:Int}{y:V}{t:String}(k:Kn H y t):(∃p xs,y = .ref p∧H p=some (.lst xs)∧t = "list")∨(cS n m H y=false∧fk t "list" = false):=by
 cases k with
 | lst e=>exact .inl ⟨_,_,rfl,e,rfl⟩
 | non=>exact .inr ⟨rfl,by decide⟩
 | bl b=>exact .inr ⟨rfl,by decide⟩
 | str x=>exact .inr ⟨rfl,by decide⟩
 | int a=>exact .inr ⟨rfl,by decide⟩
 | tup e=>exact .inr ⟨by simp only[cS,e],by decide⟩
 | dict e=>exact .inr ⟨by simp only[cS,e],by decide⟩
theorem Kn.cases_tp'{H:Hp}{n m:Int}{y:V}{t:String}(k:Kn H y t):(∃p xs,y = .ref p∧H p=some (.tup xs)∧t = "tuple")∨(cn n m H y=false∧fk t "tuple" = false):=by
 cases k with
 | tup e=>exact .inl ⟨_,_,rfl,e,rfl⟩
 | non=>exact .inr ⟨rfl,by decide⟩
 | bl b=>exact .inr ⟨rfl,by decide⟩
 | str x=>exact .inr ⟨rfl,by decide⟩
 | int a=>exact .inr ⟨rfl,by decide⟩
 | lst e=>exact .inr ⟨by simp only[cn,e],by decide⟩
 | dict e=>exact .inr ⟨by simp only[cn,e],by decide⟩
theorem PrAt.th{H:Hp}{q:Pr}(h:PrAt H q):C0 H (.ref q.p):=by
 refine⟨⟨_,.tup h.p_⟩,fun p xs e1 e2 y hy=>?_⟩;cases e1;rw[h.p_]at e2;cases e2;have two:∀{a b:Int} {z:Addr},H z=some (.tup [.int a,.int b])->ao a≤200->ao b≤60->wW H (.ref z)∧∀q a b,V.ref z = .ref q->H q=some (.tup [.int a,.int b])->ao a≤200∧ao b≤60:=fun {a b z} e ha hb=>by
  refine⟨th_tup e fun v hv=>?_,fun q a' b' e1 e2=>?_⟩
  ·simp only[List.mem_cons,List.not_mem_nil,or_false]at hv
   rcases hv with rfl|rfl <;> exact⟨_,.int _⟩
  ·cases e1
   rw[e]at e2;cases e2;exact⟨ha,hb⟩
 simp only[List.mem_cons,List.not_mem_nil,or_false]at hy;rcases hy with rfl|rfl
 ·exact two h.x_ h.ba h.bb
 ·exact two h.y_ h.bc h.bd
theorem vU.th{H:Hp}{l:Addr}{ps:List Pr}(h:vU H l ps)(hl:ps.length<900):CS H (.ref l):=by
 refine⟨⟨_,.lst h.lst⟩,fun p xs e1 e2=>?_⟩;cases e1;rw[h.lst]at e2;cases e2;refine⟨by rw[aX];exact hl,fun y hy=>?_⟩;obtain⟨q,hq,rfl⟩:=List.mem_map.mp hy;exact(h.pr q hq).th
theorem PrAt.pv{n m:Int}{H:Hp}{q:Pr}(h:PrAt H q):cn n m H (.ref q.p)=inB n m q:=by
 rw[fH h.p_,dC h.x_,dC h.y_,lB h.lx,lB h.ly,decide_eq_true h.nx,decide_eq_true h.ny];rfl
theorem vU.pv{n m:Int}{H:Hp}{l:Addr}{ps:List Pr}(h:vU H l ps):cS n m H (.ref l)=(!ps.isEmpty && ps.all (inB n m)):=by
 rw[i9 h.lst];unfold prs;rw[List.all_map]
 congr 1
 ·cases ps <;> rfl
 ·apply Bool.eq_iff_iff.mpr
  rw[List.all_eq_true,List.all_eq_true];exact⟨fun z q hq=>by rw[<- (h.pr q hq).pv];exact z q hq,fun z q hq=>by show cn n m H (.ref q.p)=true;rw[(h.pr q hq).pv];exact z q hq⟩
def dG(w:Str):Prop:=w=wOn∨w=a6∨w=aL∨w=aB
instance (w:Str):Decidable (dG w):=inferInstanceAs (Decidable (_∨_))
inductive Bb (C:Addr) (vs:List V) (H:Hp) (Q:VK) (E:XK):Prop
 | mk:∀(x:V) (t:String),(vs = [x])->(Kn H x t)->(((∃w,x = .str w∧dG w∧Q .non H)∨((∀w,x = .str w->¬dG w)∧E (.ref C) none H)))->Bb C vs H Q E
inductive BP (vs:List V) (H:Hp) (Q:VK) (x_3:XK):Prop
 | mk:∀(l1 l2 l:Addr) (xs1 xs2:List V) (f:Pr) (r:List Pr) (w:Str),(vs = [.ref l1,.ref l2,.ref l,.str w])->(H l1=some (.lst xs1))->(H l2=some (.lst xs2))->(vU H l (f::r))->(∀H',Same H H'->Q (.bl (gM ((xs1.length:Int) - 1) ((xs2.length:Int) - 1) w f ((f::r).getLast (by simp)))) H')->BP vs H Q x_3
inductive AS (g:Int->Int->Int->Int->Bool) (vs:List V) (H:Hp) (Q:VK) (x_3:XK):Prop
 | mk:∀(p q:Addr) (a b c d:Int),(vs = [.ref p,.ref q])->(H p=some (.tup [.int a,.int b]))->(H q=some (.tup [.int c,.int d]))->(zA a b)->(zA c d)->(∀H',Same H H'->Q (.bl (g a b c d)) H')->AS g vs H Q x_3
inductive CA (vs:List V) (H:Hp) (Q:VK) (x_3:XK):Prop
 | mk:∀(p q:Addr) (a b c d:Int) (w:Str),(vs = [.ref p,.ref q,.str w])->(H p=some (.tup [.int a,.int b]))->(H q=some (.tup [.int c,.int d]))->(zA a b)->(zA c d)->(∀H',Same H H'->Q (.bl (goB w a b c d)) H')->CA vs H Q x_3
inductive Bc (vs:List V) (H:Hp) (Q:VK) (x_3:XK):Prop
 | mk:∀(l:Addr) (ps:List Pr) (w:Str),(vs = [.ref l,.str w])->(vU H l ps)->(ps.length<900)->(∀H',Same H H'->Q (.bl (cE w ps)) H')->Bc vs H Q x_3
def sO(n m:Int)(w:Str)(H:Hp)(v:V)(b:Bool):Prop:=(cS n m H v=false∧b=false)∨∃(l:Addr) (ps:List Pr),v = .ref l∧vU H l ps∧b=ck n m w ps
inductive Ag (C:Addr) (vs:List V) (H:Hp) (Q:VK) (E:XK):Prop
 | mk:∀(l1 l2:Addr) (xs1 xs2:List V) (v x:V) (t:String),(vs = [.ref l1,.ref l2,v,x])->((H l1=some (.lst xs1)∧xs1.length≤100))->((H l2=some (.lst xs2)∧xs2.length≤100))->(CS H v)->(Kn H x t)->(((∃w,x = .str w∧dG w∧∀(b:Bool) (H':Hp),Same H H'->sO ((xs1.length:Int) - 1) ((xs2.length:Int) - 1) w H v b->Q (.bl b) H')∨((∀w,x = .str w->¬dG w)∧E (.ref C) none H)))->Ag C vs H Q E
end Wk
namespace L2
open PySem PySem.Spec PyProof.Rows
theorem rk{X:Cx}{K:W.Frag}{pos:Pos}{es:List Expr}{k:Nat}{t:TGs}{n:Nat}(hK:X.K=K)(hc:X.calm=true)(h:PGs X es t)
  (hn:(assignEach es X.env).length=n:=by rfl) (hst:(assignEach es X.env).findIdx? (·.1)=none:=by rfl):PG X (.Tuple es k pos) (Dk K n t):=by
 subst hK;exact cu hc h hn hst
end L2
namespace Fnc
open PySem PySem.Spec L2 Mth Sp1 Sp2 Sp3 Sp7 Dr Wk
def ltB(a b c d:Int):Bool:=decide (a*d<c*b)
def cP(u v:Pr):Bool:=!ltB u.a u.b v.a v.b && !ltB v.c v.d u.c u.d
def eJ(u v:Pr):Bool:=decide ([u.a,u.b] = [v.a,v.b]) && (decide (u.b=1) && aK u.c u.d v.c v.d)
def fS(u v:Pr):Bool:=decide ([u.c,u.d] = [v.c,v.d]) && (decide (u.d=1) && aK u.a u.b v.a v.b)
def lD(n:Int)(u v:Pr):Bool:=if n=0 then eJ u v else fS u v
def cg(u v:Pr):Bool:=eJ u v || fS u v
def dQ(u v:Pr):Bool:=(decide (v.a - u.a≤0) && decide (u.c - v.c≤1)) || (decide (v.a - u.a≤1) && decide (u.c - v.c≤0))
def cO(way:Str)(u v:Pr):Bool:=if way=aB then dQ u v else if way=aL then cg u v else (cP u v || cg u v)
def bo(way:Str):List Pr->Bool
 | u::v::r=>cO way u v && bo way (v::r)
 | _=>true
def dO(n m:Int)(way:Str)(f l:Pr):Bool:=if way=a6 then (isP f.c f.d m && isP l.c l.d 0) else ((isP f.c f.d m || isP f.a f.b 0) && (isP l.c l.d 0 || isP l.a l.b n))
def bV(q:Pr):Bool:=decide (q.b=1) && decide (q.d=1)
def bU(n m:Int)(way:Str)(ps:List Pr):Bool :=
 match ps with
 | []=>false
 | f::r=>(f::r).all (inB n m) && ((if way=aB then (f::r).all bV else true) && (dO n m way f ((f::r).getLast (by simp)) && bo way (f::r)))
theorem cw(n m:Int)(way:Str)(f:Pr)(r:List Pr):bU n m way (f::r)=((f::r).all (inB n m) && ((if way=aB then (f::r).all bV else true) && (dO n m way f ((f::r).getLast (by simp)) && bo way (f::r)))):=rfl
theorem cV{w:Str}:∀{ps:List Pr},bo w ps=true↔∀(j:Nat) u v,ps[j]? = some u->ps[j+1]? = some v->cO w u v=true
 | []=>by simp[bo]
 | [u]=>by simp[bo]
 | u::v::r=>by
  unfold bo;rw[Bool.and_eq_true,cV (ps:=v::r)];constructor
  ·rintro⟨h1,h2⟩ j x y ex ey
   cases j with
   | zero=>cases ex;cases ey;exact h1
   | succ j=>exact h2 j x y (by simpa using ex) (by simpa using ey)
  ·intro h
   exact⟨h 0 u v rfl rfl,fun j x y ex ey=>h (j+1) x y (by simpa using ex) (by simpa using ey)⟩
inductive zz (g:Pr->Pr->Bool) (vs:List V) (H:Hp) (Q:VK) (x_3:XK):Prop
 | mk:∀u v:Pr,(vs = [.ref u.p,.ref v.p])->(PrAt H u)->(PrAt H v)->(∀H',Same H H'->Q (.bl (g u v)) H')->zz g vs H Q x_3
inductive Bl (vs:List V) (H:Hp) (Q:VK) (x_3:XK):Prop
 | mk:∀(u v:Pr) (n:Int),(vs = [.ref u.p,.ref v.p,.int n])->((n=0∨n=1))->(PrAt H u)->(PrAt H v)->(∀H',Same H H'->Q (.bl (lD n u v)) H')->Bl vs H Q x_3
inductive BL (vs:List V) (H:Hp) (Q:VK) (x_3:XK):Prop
 | mk:∀(u v:Pr) (wy:Str),(vs = [.ref u.p,.ref v.p,.str wy])->(PrAt H u)->(PrAt H v)->(∀H',Same H H'->Q (.bl (cO wy u v)) H')->BL vs H Q x_3
inductive Cv (vs:List V) (H:Hp) (Q:VK) (x_3:XK):Prop
 | mk:∀u:Pr,(vs = [.ref u.p])->(PrAt H u)->(Q (.bl (bV u)) H)->Cv vs H Q x_3
inductive Bn (vs:List V) (H:Hp) (Q:VK) (x_3:XK):Prop
 | mk:∀(l1 l2 l:Addr) (xs1 xs2:List V) (f:Pr) (r:List Pr) (wy:Str),(vs = [.ref l1,.ref l2,.ref l,.str wy])->(H l1=some (.lst xs1))->(H l2=some (.lst xs2))->(vU H l (f::r))->(∀H',Same H H'->Q (.bl (dO ((xs1.length:Int) - 1) ((xs2.length:Int) - 1) wy f ((f::r).getLast (by simp)))) H')->Bn vs H Q x_3
inductive AU (vs:List V) (H:Hp) (Q:VK) (x_3:XK):Prop
 | mk:∀(l:Addr) (ps:List Pr) (wy:Str),(vs = [.ref l,.str wy])->(vU H l ps)->(ps.length<900)->(∀H',Same H H'->Q (.bl (bo wy ps)) H')->AU vs H Q x_3
def qA(n m:Int)(wy:Str)(H:Hp)(v:V)(b:Bool):Prop:=(cS n m H v=false∧b=false)∨∃(l:Addr) (ps:List Pr),v = .ref l∧vU H l ps∧b=bU n m wy ps
inductive zv (C:Addr) (vs:List V) (H:Hp) (Q:VK) (E:XK):Prop
 | mk:∀(l1 l2:Addr) (xs1 xs2:List V) (v x:V) (t:String),(vs = [.ref l1,.ref l2,v,x])->((H l1=some (.lst xs1)∧xs1.length≤100))->((H l2=some (.lst xs2)∧xs2.length≤100))->(CS H v)->(Kn H x t)->(((∃wy,x = .str wy∧dG wy∧∀(b:Bool) (H':Hp),Same H H'->qA ((xs1.length:Int) - 1) ((xs2.length:Int) - 1) wy H v b->Q (.bl b) H')∨((∀wy,x = .str wy->¬dG wy)∧E (.ref C) none H)))->zv C vs H Q E
theorem di(i j:Int):decide (V.int i=V.int j)=decide (i=j):=by
 rw[Bool.eq_iff_iff];simp
theorem ds{u v:Str}{b:Bool}(h:decide (V.str u=V.str v)=b):decide (u=v)=b:=by
 rw[<- h,Bool.eq_iff_iff];simp
theorem lz{H:Hp}{u v:Pr}(pu:PrAt H u)(pv:PrAt H v):(ao u.a≤2000∧ao u.b≤2000∧ao v.a≤2000∧ao v.b≤2000)∧(ao v.c≤2000∧ao v.d≤2000∧ao u.c≤2000∧ao u.d≤2000) :=
 ⟨⟨af pu.ba (by decide),af pu.bb (by decide),af pv.ba (by decide),af pv.bb (by decide)⟩,⟨af pv.bc (by decide),af pv.bd (by decide),af pu.bc (by decide),af pu.bd (by decide)⟩⟩
end Fnc
namespace Fnc
open PySem PySem.Spec L2 Mth Sp1 Sp2 Sp3 Sp7 Dr Wk
end Fnc
namespace Fnc
open PySem PySem.Spec L2 Mth Sp1 Sp2 Sp3 Sp7 Dr Wk
def ptB(wy:Str):Bool:=decide (wy=a6)
def e1B(m:Int)(wy:Str)(f:Pr):Bool:=isP f.c f.d m || (!ptB wy && isP f.a f.b 0)
def e2B(n:Int)(wy:Str)(z:Pr):Bool:=isP z.c z.d 0 || (!ptB wy && isP z.a z.b n)
theorem qz(n m:Int)(wy:Str)(f z:Pr):dO n m wy f z=(e1B m wy f && e2B n wy z):=by
 unfold dO e1B e2B ptB
 by_cases h:wy=a6
 ·rw[if_pos h,decide_eq_true h]
  simp
 ·rw[if_neg h,decide_eq_false h]
  simp
end Fnc
namespace L2
open PySem PySem.Spec PyProof.Rows
section
variable {X:Cx} {e:Expr} {te:TE} {st:Expr} {ts:TO} {pos p2:Pos}
end
end L2
namespace Sp11
open PySem PySem.Spec L2 Mth Sp1 Sp2
inductive xR (C:Addr) (vs:List V) (H:Hp) (Q:VK) (E:XK):Prop
 | mk:∀(a b:Int) (n:Nat),(vs = [.int a,.int b])->((ao a≤n∧ao b≤n∧n≤4500))->((b=0->E (.ref C) none H))->((b≠0->∀(p:Addr) (t u:Int),vP a b t u->ao t≤n->ao u≤n->H p=none->Q (.ref p) (upd H p (.tup [.int t,.int u]))))->xR C vs H Q E
structure yE(H:Hp)(p:Addr)(a b:Int)(n:Nat):Prop where
 at_:H p=some (.tup [.int a,.int b])
 low:wS a b
 ba:ao a≤n
 bb:ao b≤n
theorem yE.mono{H H':Hp}{p:Addr}{a b:Int}{n:Nat}(f:yE H p a b n)(s:Same H H'):yE H' p a b n:=⟨s _ _ f.at_,f.low,f.ba,f.bb⟩
theorem yE.wide{H:Hp}{p:Addr}{a b:Int}{m n:Nat}(f:yE H p a b m)(h:m≤n):yE H p a b n:=⟨f.at_,f.low,af f.ba h,af f.bb h⟩
inductive yY (num den:Int->Int->Int->Int->Int) (vs:List V) (H:Hp) (Q:VK) (x_3:XK):Prop
 | mk:∀(p q:Addr) (a b c d:Int) (n:Nat),(vs = [.ref p,.ref q])->(yE H p a b n)->(yE H q c d n)->(n≤2200)->(den a b c d≠0)->(∀(r:Addr) (t u:Int) (H':Hp),vP (num a b c d) (den a b c d) t u->yE H' r t u (2*n+1)->Same H H'->Q (.ref r) H')->yY num den vs H Q x_3
def numAt(x y t b:Int):Int:=x*b+(y - x)*(t % b)
inductive Bg (vs:List V) (H:Hp) (Q:VK) (x_3:XK):Prop
 | mk:∀(x y:Int) (p:Addr) (t b:Int),(vs = [.int x,.int y,.ref p])->(yE H p t b 200)->(ao x≤60)->(ao y≤60)->(∀(r:Addr) (u v:Int) (H':Hp),vP (numAt x y t b) b u v->yE H' r u v 262->Same H H'->Q (.ref r) H')->Bg vs H Q x_3
def iW(qs:List (Addr×Int×Int))(t b:Int):Int×Int:=(qs.getD (t / b).toNat (0,0,0)).2
def jQ(qs:List (Addr×Int×Int))(t b:Int):Int×Int:=(qs.getD (min ((t / b).toNat+1) (qs.length - 1)) (0,0,0)).2
def ptX(qs:List (Addr×Int×Int))(t b:Int):Int:=numAt (iW qs t b).1 (jQ qs t b).1 t b
def ptY(qs:List (Addr×Int×Int))(t b:Int):Int:=numAt (iW qs t b).2 (jQ qs t b).2 t b
structure AY(H:Hp)(r:Addr)(X Y b:Int)(n:Nat):Prop where
 ex:∃(rx ry:Addr) (u v c d:Int),H r=some (.tup [.ref rx,.ref ry])∧yE H rx u v n∧yE H ry c d n∧vP X b u v∧vP Y b c d
theorem AY.mono{H H':Hp}{r:Addr}{X Y b:Int}{n:Nat}(p:AY H r X Y b n)(s:Same H H'):AY H' r X Y b n:=by
 obtain⟨rx,ry,u,v,c,d,e,f,g,h,k⟩:=p.ex;exact⟨⟨rx,ry,u,v,c,d,s _ _ e,f.mono s,g.mono s,h,k⟩⟩
inductive AJ (C:Addr) (vs:List V) (H:Hp) (Q:VK) (E:XK):Prop
 | mk:∀(l:Addr) (qs:List (Addr×Int×Int)) (x:V),(vs = [.ref l,x])->(vR H l qs)->(1≤qs.length)->(qs.length≤20)->(wW H x)->((aO ((qs.length:Int) - 1) H x=false->E (.ref C) none H))->((∀(p:Addr) (t b:Int),x = .ref p->H p=some (.tup [.int t,.int b])->wS t b->0≤t->t≤((qs.length:Int) - 1)*b->ao t≤200∧ao b≤200 ∧
  ∀(r:Addr) (H':Hp),AY H' r (ptX qs t b) (ptY qs t b) b 262->Same H H'->Q (.ref r) H'))->AJ C vs H Q E
end Sp11
namespace Sp11
open PySem PySem.Spec L2 Mth Sp1 Sp2
structure Cs(H:Hp)(r:Addr)(u v c d:Int)(n:Nat):Prop where
 ex:∃rx ry:Addr,H r=some (.tup [.ref rx,.ref ry])∧yE H rx u v n∧yE H ry c d n
theorem Cs.mono{H H':Hp}{r:Addr}{u v c d:Int}{n:Nat}(p:Cs H r u v c d n)(s:Same H H'):Cs H' r u v c d n:=by
 obtain⟨rx,ry,e,f,g⟩:=p.ex;exact⟨⟨rx,ry,s _ _ e,f.mono s,g.mono s⟩⟩
inductive Bd (vs:List V) (H:Hp) (Q:VK) (x_3:XK):Prop
 | mk:∀(p q:Addr) (u v c d u' v' c' d':Int),(vs = [.ref p,.ref q])->(Cs H p u v c d 262)->(Cs H q u' v' c' d' 262)->(∀(r:Addr) (a b e f:Int) (H':Hp),vP (u'*v - u*v') (v'*v) a b->vP (c'*d - c*d') (d'*d) e f->Cs H' r a b e f 525->Same H H'->Q (.ref r) H')->Bd vs H Q x_3
inductive AL (vs:List V) (H:Hp) (Q:VK) (x_3:XK):Prop
 | mk:∀(p q:Addr) (a b e f a' b' e' f':Int),(vs = [.ref p,.ref q])->(Cs H p a b e f 525)->(Cs H q a' b' e' f' 525)->(∀(r:Addr) (m n m' n' s w:Int) (H':Hp),vP (a*a') (b*b') m n->vP (e*e') (f*f') m' n'->vP (m*n'+m'*n) (n*n') s w->yE H' r s w 2103->Same H H'->Q (.ref r) H')->AL vs H Q x_3
def sqN(X Y b X' Y' b':Int):Int:=(X'*b - X*b')*(X'*b - X*b')+(Y'*b - Y*b')*(Y'*b - Y*b')
def sqD(b b':Int):Int:=(b*b')*(b*b')
inductive Cf (vs:List V) (H:Hp) (Q:VK) (x_3:XK):Prop
 | mk:∀(p q:Addr) (X Y b X' Y' b':Int),(vs = [.ref p,.ref q])->(AY H p X Y b 262)->(AY H q X' Y' b' 262)->(0<b)->(0<b')->(∀(r:Addr) (s w:Int) (H':Hp),vP (sqN X Y b X' Y' b') (sqD b b') s w->yE H' r s w 2103->Same H H'->Q (.ref r) H')->Cf vs H Q x_3
theorem nV{X b X' b' u v u' v' a e:Int}(hv:v≠0)(hv':v'≠0)(h1:X*v=u*b)(h2:X'*v'=u'*b')(h3:(u'*v - u*v')*e=a*(v'*v)):(X'*b - X*b')*e=a*(b*b'):=by
 have z:(v*v')*((X'*b - X*b')*e)=(v*v')*(a*(b*b')):=by
  have z1:(v*v')*((X'*b - X*b')*e)=(X'*v'*(b*v) - X*v*(b'*v'))*e:=by grind
  rw[z1,h1,h2];have z2:(u'*b'*(b*v) - u*b*(b'*v'))*e=b*b'*((u'*v - u*v')*e):=by grind
  rw[z2,h3]
  grind
 exact Int.eq_of_mul_eq_mul_left (Int.mul_ne_zero hv hv') z
theorem sR{D B a e m n:Int}(he:e≠0)(h1:D*e=a*B)(h2:a*a*n=m*(e*e)):D*D*n=m*(B*B):=by
 have z:(e*e)*(D*D*n)=(e*e)*(m*(B*B)):=by
  have z1:(e*e)*(D*D*n)=(D*e)*(D*e)*n:=by grind
  rw[z1,h1];have z2:a*B*(a*B)*n=B*B*(a*a*n):=by grind
  rw[z2,h2]
  grind
 exact Int.eq_of_mul_eq_mul_left (Int.mul_ne_zero he he) z
theorem tF{S T G m n m' n' s w:Int}(hn:n≠0)(hn':n'≠0)(h1:S*n=m*G)(h2:T*n'=m'*G)(h3:(m*n'+m'*n)*w=s*(n*n')):(S+T)*w=s*G:=by
 have z:(n*n')*((S+T)*w)=(n*n')*(s*G):=by
  have z1:(n*n')*((S+T)*w)=(S*n*n'+T*n'*n)*w:=by grind
  rw[z1,h1,h2];have z2:(m*G*n'+m'*G*n)*w=G*((m*n'+m'*n)*w):=by grind
  rw[z2,h3]
  grind
 exact Int.eq_of_mul_eq_mul_left (Int.mul_ne_zero hn hn') z
theorem m4{X Y b X' Y' b' u v c d u' v' c' d' a e a' e' m n m' n' s w:Int}(f1:vP X b u v)(f2:vP Y b c d)(f3:vP X' b' u' v')(f4:vP Y' b' c' d')(g1:vP (u'*v - u*v') (v'*v) a e)(g2:vP (c'*d - c*d') (d'*d) a' e')
  (k1:vP (a*a) (e*e) m n) (k2:vP (a'*a') (e'*e') m' n') (k3:vP (m*n'+m'*n) (n*n') s w):vP (sqN X Y b X' Y' b') (sqD b b') s w:=by
 refine⟨k3.low,?_⟩;have p1:=f1.low.pos;have p2:=f2.low.pos;have p3:=f3.low.pos;have p4:=f4.low.pos;have p5:=g1.low.pos;have p6:=g2.low.pos;have p7:=k1.low.pos;have p8:=k2.low.pos;have q1:=nV (by omega) (by omega) f1.eq f3.eq g1.eq;have q2:=nV (by omega) (by omega) f2.eq f4.eq g2.eq;have q3:=sR (by omega) q1 k1.eq;have q4:=sR (by omega) q2 k2.eq;exact tF (by omega) (by omega) q3 q4 k3.eq
structure zw(H:Hp)(p:Addr)(t b n:Int):Prop where
 at_:H p=some (.tup [.int t,.int b])
 low:wS t b
 lo:0≤t
 hi:t≤n*b
 bt:ao t≤200
 bb:ao b≤200
theorem zw.mono{H H':Hp}{p:Addr}{t b n:Int}(f:zw H p t b n)(s:Same H H'):zw H' p t b n:=⟨s _ _ f.at_,f.low,f.lo,f.hi,f.bt,f.bb⟩
theorem zw.th{H:Hp}{p:Addr}{t b n:Int}(f:zw H p t b n):wW H (.ref p):=th_tup f.at_ fun v hv=>by
 simp only[List.mem_cons,List.not_mem_nil,or_false]at hv;rcases hv with rfl|rfl <;> exact⟨_,.int _⟩
theorem zw.place{H:Hp}{p:Addr}{t b n:Int}(f:zw H p t b n):aO n H (.ref p)=true:=fF f.at_ f.low f.lo f.hi
theorem cH{n:Int}{H H':Hp}{x:V}{k:String}(kn:Kn H x k)(s:Same H H'):aO n H' x=aO n H x:=by
 cases kn with
 | non=>rfl
 | bl b=>rfl
 | int i=>rfl
 | str x=>rfl
 | lst e=>simp only[aO,e,s _ _ e]
 | tup e=>simp only[aO,e,s _ _ e]
 | dict e=>simp only[aO,e,s _ _ e]
theorem wW.mono{H H':Hp}{x:V}(h:wW H x)(s:Same H H'):wW H' x:=by
 obtain⟨⟨t,k⟩,pt⟩:=h;refine⟨⟨t,k.mono s⟩,fun p xs e1 e2 y hy=>?_⟩;subst e1;have e3:H p=some (.tup xs):=by
  cases k with
  | lst e=>rw[s _ _ e]at e2;cases e2
  | tup e=>rw[s _ _ e]at e2;cases e2;exact e
  | dict e=>rw[s _ _ e]at e2;cases e2
 obtain⟨t',k'⟩:=pt p xs rfl e3 y hy;exact⟨t',k'.mono s⟩
abbrev Crn:=List (Addr×Int×Int)
def sqF(qs:Crn)(t b:Int)(qs':Crn)(t' b':Int):Int:=sqN (ptX qs t b) (ptY qs t b) b (ptX qs' t' b') (ptY qs' t' b') b'
def aH(qs:Crn):Int:=(qs.length:Int) - 1
inductive Ae (C:Addr) (vs:List V) (H:Hp) (Q:VK) (E:XK):Prop
  | mk:∀(l l':Addr) (qs qs':Crn) (x y:V),(vs = [.ref l,x,.ref l',y])->(vR H l qs)->(vR H l' qs')->((1≤qs.length∧qs.length≤20))->((1≤qs'.length∧qs'.length≤20))->(wW H x)->(wW H y)->(((aO (aH qs) H x=false∧E (.ref C) none H) ∨
   (∃(p:Addr) (t b:Int),x = .ref p∧zw H p t b (aH qs) ∧
     ((aO (aH qs') H y=false∧∀H',Same H H'->E (.ref C) none H') ∨
      (∃(q:Addr) (t' b':Int),y = .ref q∧zw H q t' b' (aH qs') ∧
        ∀(r:Addr) (s w:Int) (H':Hp),vP (sqF qs t b qs' t' b') (sqD b b') s w->yE H' r s w 2103->Same H H'->Q (.ref r) H')))))->Ae C vs H Q E
inductive Ch (vs:List V) (H:Hp) (Q:VK) (x_3:XK):Prop
 | mk:∀(l p:Addr) (qs:Crn) (t b:Int),(vs = [.ref l,.ref p])->(vR H l qs)->((1≤qs.length∧qs.length≤20))->(zw H p t b (aH qs))->(∀(r:Addr) (H':Hp),H' r=some (.tup [.int (ptX qs t b),.int (ptY qs t b),.int b])->Same H H'->Q (.ref r) H')->Ch vs H Q x_3
theorem dg{H:Hp}{l:Addr}{qs:Crn}(L:vR H l qs)(j:Nat):ao (qs.getD j (0,0,0)).2.1≤50∧ao (qs.getD j (0,0,0)).2.2≤50:=by
 rw[List.getD_eq_getElem?_getD]
 by_cases h:j<qs.length
 ·rw[List.getElem?_eq_getElem h]
  exact(L.crn _ (List.getElem_mem h)).2
 ·rw[List.getElem?_eq_none (by omega)]
  exact⟨by decide,by decide⟩
theorem lq{x y t b:Int}(hb:0<b)(bx:ao x≤50)(by':ao y≤50)(bb:ao b≤200):ao (numAt x y t b)≤262:=by
 have br:ao (t % b)≤200:=cG (Int.emod_nonneg _ (by omega)) (Int.le_of_lt (Int.emod_lt_of_pos _ hb)) bb;exact af (cx (n:=251) (af (bits_mul bx bb) (by decide)) (bits_mul (aW by' bx) br)) (by decide)
theorem fE{H:Hp}{l:Addr}{qs:Crn}{t b:Int}(L:vR H l qs)(hb:0<b)(bb:ao b≤200):ao (ptX qs t b)≤262∧ao (ptY qs t b)≤262 :=
 ⟨lq hb (dg L _).1 (dg L _).1 bb,lq hb (dg L _).2 (dg L _).2 bb⟩
end Sp11
namespace Sp11
open PySem PySem.Spec L2 Mth Sp1 Sp2
def cr(c:Int×Int->Int)(qs:Crn)(j:Nat):Int:=c (qs.getD j (0,0,0)).2
def ptC(c:Int×Int->Int)(qs:Crn)(t b:Int):Int:=numAt (c (iW qs t b)) (c (jQ qs t b)) t b
theorem sU{c:Int×Int->Int}{qs:Crn}{t b:Int}{k:Nat}(hb:0<b)(hk:k+1<qs.length)(h1:(k:Int)*b≤t)(h2:t≤((k:Int)+1)*b) :
  ptC c qs t b=cr c qs k*b+(cr c qs (k+1) - cr c qs k)*(t - (k:Int)*b):=by
 have e0:=Int.emod_add_mul_ediv t b;rw[Int.mul_comm]at e0;have r0:=Int.emod_nonneg t (show b≠0 by omega);have r1:=Int.emod_lt_of_pos t hb;unfold ptC Sp11.numAt iW jQ
 by_cases hlt:t<((k:Int)+1)*b
 ·have ek:t / b=(k:Int):=by
   refine Int.le_antisymm ?_ (nS hb h1);have h3:t / b<(k:Int)+1:=Int.ediv_lt_of_lt_mul hb hlt;omega
  have er:t % b=t - (k:Int)*b:=by rw[ek]at e0;omega
  rw[ek,er,Int.toNat_natCast,Nat.min_eq_left (by omega)];rfl
 ·have et:t=((k:Int)+1)*b:=by omega
  have ek:t / b=(k:Int)+1:=by rw[et];exact Int.mul_ediv_cancel _ (by omega)
  have er:t % b=0:=by rw[et];exact Int.mul_emod_left _ _
  rw[ek,er,show((k:Int)+1).toNat=k+1 by omega,Int.mul_zero,Int.add_zero];have e2:t - (k:Int)*b=b:=by rw[et,Int.add_mul,Int.one_mul];omega
  rw[e2];show cr c qs (k+1)*b=_;generalize cr c qs (k+1)=x;generalize cr c qs k=y;rw[Int.sub_mul];omega
def rq(a b:Int):Rat:=(a:Rat) / (b:Rat)
theorem cz{a:Int}(h:a≠0):(a:Rat)≠0:=fun z=>h (Rat.intCast_eq_zero_iff.mp z)
theorem eG{m n u v:Int}(f:vP m n u v)(hn:n≠0):rq u v=rq m n:=by
 have h1:(m:Rat)*(v:Rat)=(u:Rat)*(n:Rat):=by rw[<- Rat.intCast_mul,<- Rat.intCast_mul,f.eq]
 have h2:=cz hn;have h3:=cz (show v≠0 by have:=f.low.pos;omega);unfold rq
 grind
theorem jR{u v m n:Int}(hv:v≠0)(hn:n≠0)(h:rq u v=rq m n):u*n=m*v:=by
 have h2:=cz hn;have h3:=cz hv;unfold rq at h;have h1:(u:Rat)*(n:Rat)=(m:Rat)*(v:Rat):=by grind
 rw[<- Rat.intCast_mul,<- Rat.intCast_mul]at h1;exact Rat.intCast_inj.mp h1
theorem tK{a b c d:Int}(hb:b≠0)(hd:d≠0):rq (a*d - c*b) (b*d)=rq a b - rq c d:=by
 have:=cz hb;have:=cz hd;unfold rq;rw[Rat.intCast_sub,Rat.intCast_mul,Rat.intCast_mul,Rat.intCast_mul]
 grind
theorem tN{a b c d:Int}(hb:b≠0)(hd:d≠0):rq (a*d+c*b) (b*d)=rq a b+rq c d:=by
 have:=cz hb;have:=cz hd;unfold rq;rw[Rat.intCast_add,Rat.intCast_mul,Rat.intCast_mul,Rat.intCast_mul]
 grind
theorem tL{a b c d:Int}:rq (a*c) (b*d)=rq a b*rq c d:=by
 unfold rq;rw[Rat.intCast_mul,Rat.intCast_mul]
 grind
theorem tM{a b c d:Int}:rq (a*d) (b*c)=rq a b / rq c d:=by
 unfold rq;rw[Rat.intCast_mul,Rat.intCast_mul]
 grind
theorem lZ{a b c d s w:Int}(hb:b≠0)(hd:d≠0)(f:vP (a*d - c*b) (b*d) s w):rq s w=rq a b - rq c d:=by
 rw[eG f (Int.mul_ne_zero hb hd),tK hb hd]
theorem qB{a b c d s w:Int}(hb:b≠0)(hd:d≠0)(f:vP (a*d+c*b) (b*d) s w):rq s w=rq a b+rq c d:=by
 rw[eG f (Int.mul_ne_zero hb hd),tN hb hd]
theorem l4{a b c d s w:Int}(hb:b≠0)(hd:d≠0)(f:vP (a*c) (b*d) s w):rq s w=rq a b*rq c d:=by
 rw[eG f (Int.mul_ne_zero hb hd),tL]
theorem vi{a b c d s w:Int}(hb:b≠0)(hc:c≠0)(f:vP (a*d) (b*c) s w):rq s w=rq a b / rq c d:=by
 rw[eG f (Int.mul_ne_zero hb hc),tM]
theorem nzl{a b:Int}(h:wS a b):b≠0:=by have:=h.pos;omega
theorem j5{m n u v:Int}{i j:Nat}(hn:0<n)(f:vP m n u v)(hm:ao m≤i)(hj:ao n≤j):ao u≤i∧ao v≤j:=by
 have hg:=da (a:=m) (b:=n) (by omega);obtain⟨e1,e2⟩:=il (by omega) f (fA hn);subst e1 e2;exact⟨cy hg hm,cy hg hj⟩
def nM(X Y b X1 Y1 b1 X2 Y2 b2:Int):Int:=((X2*b1 - X1*b2)*(X*b1 - X1*b)+(Y2*b1 - Y1*b2)*(Y*b1 - Y1*b))*b2
def nN(b X1 Y1 b1 X2 Y2 b2:Int):Int:=b*((X2*b1 - X1*b2)*(X2*b1 - X1*b2)+(Y2*b1 - Y1*b2)*(Y2*b1 - Y1*b2))
theorem pk{x y z X1 Y1 z1 X2 Y2 z2:Rat}(hz:z≠0)(h1:z1≠0)(h2:z2≠0)(hN:z*((X2*z1 - X1*z2)*(X2*z1 - X1*z2)+(Y2*z1 - Y1*z2)*(Y2*z1 - Y1*z2))≠0) :
  ((x / z - X1 / z1)*(X2 / z2 - X1 / z1)+(y / z - Y1 / z1)*(Y2 / z2 - Y1 / z1)) / ((X2 / z2 - X1 / z1)*(X2 / z2 - X1 / z1)+(Y2 / z2 - Y1 / z1)*(Y2 / z2 - Y1 / z1)) =
   (((X2*z1 - X1*z2)*(x*z1 - X1*z)+(Y2*z1 - Y1*z2)*(y*z1 - Y1*z))*z2) / (z*((X2*z1 - X1*z2)*(X2*z1 - X1*z2)+(Y2*z1 - Y1*z2)*(Y2*z1 - Y1*z2))):=by
 have k1:x=x / z*z:=by grind
 have k2:y=y / z*z:=by grind
 have k3:X1=X1 / z1*z1:=by grind
 have k4:Y1=Y1 / z1*z1:=by grind
 have k5:X2=X2 / z2*z2:=by grind
 have k6:Y2=Y2 / z2*z2:=by grind
 generalize x / z=p at *;generalize y / z=q at *;generalize X1 / z1=a at *;generalize Y1 / z1=a' at *;generalize X2 / z2=c at *;generalize Y2 / z2=c' at *;subst k1 k2 k3 k4 k5 k6;have m0:∀{u v:Rat},u≠0->v≠0->u*v≠0:=fun hu hv z=>by
  rcases Rat.mul_eq_zero.mp z with z|z
  ·exact hu z
  ·exact hv z
 have hK:z*(z1*z1)*(z2*z2)≠0:=m0 (m0 hz (m0 h1 h1)) (m0 h2 h2);have e1:((c*z2*z1 - a*z1*z2)*(p*z*z1 - a*z1*z)+(c'*z2*z1 - a'*z1*z2)*(q*z*z1 - a'*z1*z))*z2=(z*(z1*z1)*(z2*z2))*((p - a)*(c - a)+(q - a')*(c' - a')):=by grind
 have e2:z*((c*z2*z1 - a*z1*z2)*(c*z2*z1 - a*z1*z2)+(c'*z2*z1 - a'*z1*z2)*(c'*z2*z1 - a'*z1*z2))=(z*(z1*z1)*(z2*z2))*((c - a)*(c - a)+(c' - a')*(c' - a')):=by grind
 rw[e2]at hN;rw[e1,e2];generalize (p - a)*(c - a)+(q - a')*(c' - a')=T at *;generalize (c - a)*(c - a)+(c' - a')*(c' - a')=S at *;generalize z*(z1*z1)*(z2*z2)=k at *;have hS:S≠0:=fun z=>hN (by rw[z,Rat.mul_zero])
 grind
theorem rG{X Y b X1 Y1 b1 X2 Y2 b2 u v c d u1 v1 c1 d1 u2 v2 c2 d2 a e a' e' g h g' h' m n m' n' i j m2 n2 m2' n2' i2 j2 s w:Int}(hb:b≠0)(hb1:b1≠0)(hb2:b2≠0)
  (f1:vP X b u v) (f2:vP Y b c d) (f3:vP X1 b1 u1 v1) (f4:vP Y1 b1 c1 d1) (f5:vP X2 b2 u2 v2) (f6:vP Y2 b2 c2 d2)
  (g1:vP (u2*v1 - u1*v2) (v2*v1) a e) (g2:vP (c2*d1 - c1*d2) (d2*d1) a' e') (g3:vP (u*v1 - u1*v) (v*v1) g h) (g4:vP (c*d1 - c1*d) (d*d1) g' h')
  (k1:vP (g*a) (h*e) m n) (k2:vP (g'*a') (h'*e') m' n') (k3:vP (m*n'+m'*n) (n*n') i j) (l1:vP (a*a) (e*e) m2 n2) (l2:vP (a'*a') (e'*e') m2' n2') (l3:vP (m2*n2'+m2'*n2) (n2*n2') i2 j2)
  (hi:i2≠0) (fin:vP (i*j2) (j*i2) s w) (hN:nN b X1 Y1 b1 X2 Y2 b2≠0):s*nN b X1 Y1 b1 X2 Y2 b2=nM X Y b X1 Y1 b1 X2 Y2 b2*w:=by
 refine jR (nzl fin.low) hN ?_;have q1:=eG f1 hb;have q2:=eG f2 hb;have q3:=eG f3 hb1;have q4:=eG f4 hb1;have q5:=eG f5 hb2;have q6:=eG f6 hb2;have r1:=lZ (nzl f5.low) (nzl f3.low) g1;have r2:=lZ (nzl f6.low) (nzl f4.low) g2;have r3:=lZ (nzl f1.low) (nzl f3.low) g3;have r4:=lZ (nzl f2.low) (nzl f4.low) g4;have s1:=l4 (nzl g3.low) (nzl g1.low) k1;have s2:=l4 (nzl g4.low) (nzl g2.low) k2;have s3:=qB (nzl k1.low) (nzl k2.low) k3;have t1:=l4 (nzl g1.low) (nzl g1.low) l1;have t2:=l4 (nzl g2.low) (nzl g2.low) l2;have t3:=qB (nzl l1.low) (nzl l2.low) l3;have w1:=vi (nzl k3.low) hi fin;rw[w1,s3,t3,s1,s2,t1,t2,r1,r2,r3,r4,q1,q2,q3,q4,q5,q6];have hN':=cz hN;unfold nN at hN';unfold rq nM nN;simp only[Rat.intCast_mul,Rat.intCast_add,Rat.intCast_sub]at hN' ⊢;exact pk (cz hb) (cz hb1) (cz hb2) hN'
theorem pJ{X1 Y1 b1 X2 Y2 b2 u1 v1 c1 d1 u2 v2 c2 d2 a e a' e' m2 n2 m2' n2' i2 j2:Int}(hb1:0<b1)(hb2:0<b2)(f3:vP X1 b1 u1 v1)(f4:vP Y1 b1 c1 d1)(f5:vP X2 b2 u2 v2)(f6:vP Y2 b2 c2 d2)
  (g1:vP (u2*v1 - u1*v2) (v2*v1) a e) (g2:vP (c2*d1 - c1*d2) (d2*d1) a' e') (l1:vP (a*a) (e*e) m2 n2) (l2:vP (a'*a') (e'*e') m2' n2') (l3:vP (m2*n2'+m2'*n2) (n2*n2') i2 j2)
  (hS:0<(X2*b1 - X1*b2)*(X2*b1 - X1*b2)+(Y2*b1 - Y1*b2)*(Y2*b1 - Y1*b2)):0<i2:=by
 have f:=m4 f3 f4 f5 f6 g1 g2 l1 l2 l3;have e:=f.eq;unfold sqN at e;have hj:=f.low.pos;have hd:0<sqD b1 b2:=Int.mul_pos (Int.mul_pos hb1 hb2) (Int.mul_pos hb1 hb2);have h:0<i2*sqD b1 b2:=by rw[<- e];exact Int.mul_pos hS (by omega)
 exact Int.pos_of_mul_pos_left h hd
def cX(qs:Crn)(k:Nat):Int:=(qs.getD k (0,0,0)).2.1
def cY(qs:Crn)(k:Nat):Int:=(qs.getD k (0,0,0)).2.2
def dL(dx dy:Int):Int:=dx*dx+dy*dy
def dA(X Y b bx by_ dx dy:Int):Int:=(X - bx*b)*dx+(Y - by_*b)*dy
structure BU(n k:Nat)(l1 l2 h1 h2:Int):Prop where
 kn:k+1<n
 lo:(k:Int)*l2≤l1
 lt:l1*h2<h1*l2
 hi:h1≤((k:Int)+1)*h2
def Cl(L al b lu l2 hu h2 Tu B:Int):Prop:=(Tu=lu∧B=l2∧(L=0∨al*l2<lu*(L*b)))∨(Tu=hu∧B=h2∧L≠0∧¬al*l2<lu*(L*b)∧hu*(L*b)<al*h2) ∨
 (L≠0∧¬al*l2<lu*(L*b)∧¬hu*(L*b)<al*h2∧Tu*(L*b)=al*B)
def kL(qs:Crn)(k:Nat):Int:=dL (cX qs (k+1) - cX qs k) (cY qs (k+1) - cY qs k)
def kA(X Y b:Int)(qs:Crn)(k:Nat):Int:=dA X Y b (cX qs k) (cY qs k) (cX qs (k+1) - cX qs k) (cY qs (k+1) - cY qs k)
def LPc(X Y b:Int)(qs:Crn)(l1 l2 h1 h2 T B:Int):Prop:=(l1=h1∧l2=h2∧T=l1∧B=l2) ∨
 ∃k:Nat,BU qs.length k l1 l2 h1 h2∧Cl (kL qs k) (kA X Y b qs k) b (l1 - (k:Int)*l2) l2 (h1 - (k:Int)*h2) h2 (T - (k:Int)*B) B
def InS(n:Nat)(l1 l2 h1 h2:Int):Prop:=(l1=h1∧l2=h2)∨∃k:Nat,BU n k l1 l2 h1 h2
theorem BU.fl{n k:Nat}{l1 l2 h1 h2:Int}(h:BU n k l1 l2 h1 h2)(hl:0<l2)(hh:0<h2):l1 / l2=(k:Int):=by
 refine Int.le_antisymm ?_ (nS hl h.lo);have h1:l1<((k:Int)+1)*l2:=by
  have a:l1*h2<((k:Int)+1)*l2*h2:=by
   have:=Int.mul_le_mul_of_nonneg_right h.hi (show 0≤l2 by omega);have:=h.lt
   grind
  exact Int.lt_of_mul_lt_mul_right a (by omega)
 have h3:=Int.ediv_lt_of_lt_mul hl h1;omega
theorem iZ{qs:Crn}{t b:Int}{k:Nat}(hb:0<b)(hk:k+1<qs.length)(h1:(k:Int)*b≤t)(h2:t≤((k:Int)+1)*b):ptX qs t b=cX qs k*b+(cX qs (k+1) - cX qs k)*(t - (k:Int)*b):=sU (c:=fun z=>z.1) hb hk h1 h2
theorem iY{qs:Crn}{t b:Int}{k:Nat}(hb:0<b)(hk:k+1<qs.length)(h1:(k:Int)*b≤t)(h2:t≤((k:Int)+1)*b):ptY qs t b=cY qs k*b+(cY qs (k+1) - cY qs k)*(t - (k:Int)*b):=sU (c:=fun z=>z.2) hb hk h1 h2
theorem uT{X Y b bx by_ dx dy lu l2 hu h2:Int}:nM X Y b (bx*l2+dx*lu) (by_*l2+dy*lu) l2 (bx*h2+dx*hu) (by_*h2+dy*hu) h2=(hu*l2 - lu*h2)*h2*(l2*dA X Y b bx by_ dx dy - lu*(dL dx dy*b)):=by
 unfold nM dA dL
 grind
theorem uS{b bx by_ dx dy lu l2 hu h2:Int}:nN b (bx*l2+dx*lu) (by_*l2+dy*lu) l2 (bx*h2+dx*hu) (by_*h2+dy*hu) h2=b*((hu*l2 - lu*h2)*(hu*l2 - lu*h2)*dL dx dy):=by
 unfold nN dL
 grind
theorem pB{l1 l2 h1 h2 s w a e m n T B:Int}(hl:l2≠0)(hh:h2≠0)(hw:w≠0)(f1:vP (h1*l2 - l1*h2) (h2*l2) a e)(f2:vP (s*a) (w*e) m n)(f3:vP (l1*n+m*l2) (l2*n) T B):rq T B=rq l1 l2+rq s w*(rq h1 h2 - rq l1 l2):=by
 rw[qB hl (nzl f2.low) f3,l4 hw (nzl f1.low) f2,lZ hh hl f1]
theorem vz:rq 0 1=0:=by decide +kernel
theorem vw:rq 1 1=1:=by decide +kernel
theorem sV{l1 l2 h1 h2 a e m n T B:Int}(Ll:wS l1 l2)(hh:h2≠0)(f1:vP (h1*l2 - l1*h2) (h2*l2) a e)(f2:vP (0*a) (1*e) m n)(f3:vP (l1*n+m*l2) (l2*n) T B):T=l1∧B=l2:=by
 have e:=pB (nzl Ll) hh (by decide) f1 f2 f3;rw[vz,Rat.zero_mul,Rat.add_zero]at e;exact bq f3.low Ll (jR (nzl f3.low) (nzl Ll) e)
theorem uO{l1 l2 h1 h2 a e m n T B:Int}(hl:l2≠0)(Lh:wS h1 h2)(f1:vP (h1*l2 - l1*h2) (h2*l2) a e)(f2:vP (1*a) (1*e) m n)(f3:vP (l1*n+m*l2) (l2*n) T B):T=h1∧B=h2:=by
 have e:=pB hl (nzl Lh) (by decide) f1 f2 f3;rw[vw,Rat.one_mul,show rq l1 l2+(rq h1 h2 - rq l1 l2)=rq h1 h2 by grind]at e;exact bq f3.low Lh (jR (nzl f3.low) (nzl Lh) e)
theorem tR{l1 l2 h1 h2 s w a e m n T B k L al b:Int}(hl:0<l2)(hh:0<h2)(hw:w≠0)(hL:0<L)(hb:0<b)(hd:0<h1*l2 - l1*h2)(f1:vP (h1*l2 - l1*h2) (h2*l2) a e)(f2:vP (s*a) (w*e) m n)(f3:vP (l1*n+m*l2) (l2*n) T B)
  (hs:s*(b*((h1*l2 - l1*h2)*(h1*l2 - l1*h2)*L))=(h1*l2 - l1*h2)*h2*(l2*al - (l1 - k*l2)*(L*b))*w):(T - k*B)*(L*b)=al*B:=by
 have e:=pB (by omega) (by omega) hw f1 f2 f3;have hB:=nzl f3.low;have hBq:=cz hB;have q1:=cz (show l2≠0 by omega);have q2:=cz (show h2≠0 by omega);have q3:=cz hw;have q4:=cz (show L≠0 by omega);have q5:=cz (show b≠0 by omega);have q6:=cz (show h1*l2 - l1*h2≠0 by omega);have e2:rq h1 h2 - rq l1 l2=((h1*l2 - l1*h2:Int):Rat)*((h2:Rat)⁻¹*(l2:Rat)⁻¹):=by
  unfold rq;rw[Rat.intCast_sub,Rat.intCast_mul,Rat.intCast_mul]
  grind
 rw[e2]at e;generalize h1*l2 - l1*h2=D at *;have hs':(s:Rat)*(b*(D*D*L))=D*h2*(l2*al - (l1 - k*l2)*(L*b))*w:=by
  have:=congrArg (fun z:Int=>(z:Rat)) hs;simpa only[Rat.intCast_mul,Rat.intCast_sub]using this
 have e3:rq s w*D=h2*(l2*al - (l1 - k*l2)*(L*b))*((L:Rat)⁻¹*(b:Rat)⁻¹):=by
  unfold rq
  grind
 have e4:rq T B=k+al*((L:Rat)⁻¹*(b:Rat)⁻¹):=by
  rw[e,show rq s w*(D*((h2:Rat)⁻¹*(l2:Rat)⁻¹))=(rq s w*D)*((h2:Rat)⁻¹*(l2:Rat)⁻¹) by grind,e3];unfold rq
  grind
 have e5:(T - k*B)*((L:Rat)*b)=al*(B:Rat):=by
  unfold rq at e4
  grind
 have e6:(((T - k*B)*(L*b):Int):Rat)=((al*B:Int):Rat):=by
  simp only[Rat.intCast_mul,Rat.intCast_sub];exact e5
 exact Rat.intCast_inj.mp e6
theorem sqS(X Y b bx by_ dx dy u B:Int):sqN X Y b (bx*B+dx*u) (by_*B+dy*u) B=B*B*((X - bx*b)*(X - bx*b)+(Y - by_*b)*(Y - by_*b)) - 2*B*u*b*dA X Y b bx by_ dx dy+u*u*b*b*dL dx dy:=by
 unfold sqN dA dL
 grind
theorem fI{D E:Int}(h:(0≤D∧0≤E)∨(D≤0∧E≤0)):0≤D*E:=by
 rcases h with⟨h1,h2⟩|⟨h1,h2⟩
 ·exact Int.mul_nonneg h1 h2
 ·have:=Int.mul_nonneg (show 0≤-D by omega) (show 0≤-E by omega)
  rwa [Int.neg_mul_neg]at this
theorem uq{L al b lu l2 hu h2 u B um Bm:Int}(hb:0<b)(hl:0<l2)(hh:0<h2)(hB:0<B)(hm:0<Bm)(hL:0≤L)(zL:L=0->al=0)(h:Cl L al b lu l2 hu h2 u B)(m1:lu*Bm≤um*l2)(m2:um*h2≤hu*Bm) :
  0≤(B*um - Bm*u)*(b*L*(B*um+Bm*u) - 2*B*Bm*al):=by
 have zero:L=0->0≤(B*um - Bm*u)*(b*L*(B*um+Bm*u) - 2*B*Bm*al):=fun z=>by
  rw[zL z,z];simp
 have bL:0≤b*L:=Int.mul_nonneg (by omega) hL;rcases h with⟨rfl,rfl,h|h⟩|⟨rfl,rfl,h0,_,h⟩|⟨h0,_,_,h⟩
 ·exact zero h
 ·refine fI (.inl ⟨by have:=Int.mul_comm u Bm;have:=Int.mul_comm um B;omega,?_⟩)
  have a1:=Int.mul_le_mul_of_nonneg_left (Int.le_of_lt h) (show 0≤Bm by omega);have a2:=Int.mul_le_mul_of_nonneg_left m1 bL
  grind
 ·refine fI (.inr ⟨by have:=Int.mul_comm u Bm;have:=Int.mul_comm um B;omega,?_⟩)
  have a1:=Int.mul_le_mul_of_nonneg_left (Int.le_of_lt h) (show 0≤Bm by omega);have a2:=Int.mul_le_mul_of_nonneg_left m2 bL
  grind
 ·have hLb:0<L*b:=Int.mul_pos (by omega) hb
  have e:(L*b)*((B*um - Bm*u)*(b*L*(B*um+Bm*u) - 2*B*Bm*al))=(B*(um*(L*b) - Bm*al))*(B*(um*(L*b) - Bm*al)):=by
   have e1:(B*um - Bm*u)*(L*b)=B*um*(L*b) - Bm*(u*(L*b)):=by grind
   have e2:b*L*(B*um+Bm*u) - 2*B*Bm*al=B*um*(L*b)+Bm*(u*(L*b)) - 2*B*Bm*al:=by grind
   rw[e2,show(L*b)*((B*um - Bm*u)*(B*um*(L*b)+Bm*(u*(L*b)) - 2*B*Bm*al))=((B*um - Bm*u)*(L*b))*(B*um*(L*b)+Bm*(u*(L*b)) - 2*B*Bm*al) by grind,e1,h]
   grind
  have:0≤(L*b)*((B*um - Bm*u)*(b*L*(B*um+Bm*u) - 2*B*Bm*al)):=by rw[e];exact fI (by omega)
  exact Int.nonneg_of_mul_nonneg_right this hLb
theorem lE(qs:Crn)(k:Nat):0≤kL qs k:=by
 unfold kL dL;have h1:∀x:Int,0≤x*x:=fun x=>fI (by omega);have:=h1 (cX qs (k+1) - cX qs k);have:=h1 (cY qs (k+1) - cY qs k);omega
theorem mZ{x y:Int}(h:x*x+y*y=0):x=0∧y=0:=by
 have h1:∀x:Int,0≤x*x:=fun x=>fI (by omega);have a:=h1 x;have b:=h1 y;constructor
 ·have:x*x=0:=by omega
  rcases Int.mul_eq_zero.mp this with z|z <;> exact z
 ·have:y*y=0:=by omega
  rcases Int.mul_eq_zero.mp this with z|z <;> exact z
theorem rP{X Y b:Int}{qs:Crn}{k:Nat}(h:kL qs k=0):kA X Y b qs k=0:=by
 obtain⟨h1,h2⟩:=mZ (h:(cX qs (k+1) - cX qs k)*(cX qs (k+1) - cX qs k)+(cY qs (k+1) - cY qs k)*(cY qs (k+1) - cY qs k)=0);unfold kA dA;rw[h1,h2];simp
theorem uh{N D s w:Int}(e:N*w=s*D):¬N*w<s*D:=by omega
theorem tY{qs qs':Crn}{t b l1 l2 h1 h2 T B m1 m2 s w:Int}(hb:0<b)(Ll:wS l1 l2)(Lh:wS h1 h2)(hB:wS T B)(hm:wS m1 m2)(h:LPc (ptX qs t b) (ptY qs t b) b qs' l1 l2 h1 h2 T B)(a1:l1*m2≤m1*l2)(a2:m1*h2≤h1*m2)(f:vP (sqF qs t b qs' T B) (sqD b B) s w)
  (t0:l1*B≤T*l2) (t1:T*h2≤h1*B):¬sqF qs t b qs' m1 m2*w<s*sqD b m2:=by
 have hB:=hB.pos;have hl:=Ll.pos;have hh:=Lh.pos;rcases h with⟨rfl,rfl,rfl,rfl⟩|⟨k,st,cl⟩
 ·obtain⟨rfl,rfl⟩:=bq hm Ll (by omega)
  exact uh f.eq
 ·have hm:=hm.pos
  have i1:∀{u v:Int},0<v->l1*v≤u*l2->(k:Int)*v≤u:=fun {u v} hv z=>by
   have z1:=Int.mul_le_mul_of_nonneg_right st.lo (show 0≤v by omega);have:(k:Int)*v*l2≤u*l2:=by grind
   exact Int.le_of_mul_le_mul_right this (by omega)
  have i2:∀{u v:Int},0<v->u*h2≤h1*v->u≤((k:Int)+1)*v:=fun {u v} hv z=>by
   have z1:=Int.mul_le_mul_of_nonneg_right st.hi (show 0≤v by omega);have:u*h2≤((k:Int)+1)*v*h2:=by grind
   exact Int.le_of_mul_le_mul_right this (by omega)
  have e:=f.eq;have hw:=f.low.pos;unfold sqF at e ⊢;rw[iZ (by omega) st.kn (i1 (by omega) t0) (i2 (by omega) t1),iY (by omega) st.kn (i1 (by omega) t0) (i2 (by omega) t1),sqS]at e;rw[iZ (by omega) st.kn (i1 (by omega) a1) (i2 (by omega) a2),iY (by omega) st.kn (i1 (by omega) a1) (i2 (by omega) a2),sqS];have z:=uq (um:=m1 - (k:Int)*m2) (Bm:=m2) hb (by omega) (by omega) (by omega) (by omega) (lE qs' k) rP cl (by grind) (by grind)
  change _*w=_ at e
  unfold kA kL at z;generalize dA (ptX qs t b) (ptY qs t b) b (cX qs' k) (cY qs' k) (cX qs' (k+1) - cX qs' k) (cY qs' (k+1) - cY qs' k)=al at *;generalize dL (cX qs' (k+1) - cX qs' k) (cY qs' (k+1) - cY qs' k)=L at *;generalize (ptX qs t b - cX qs' k*b)*(ptX qs t b - cX qs' k*b)+(ptY qs t b - cY qs' k*b)*(ptY qs t b - cY qs' k*b)=G at *;generalize T - (k:Int)*B=u at *;generalize m1 - (k:Int)*m2=um at *;unfold sqD at e ⊢;intro c;have z2:0≤b*((B*um - m2*u)*(b*L*(B*um+m2*u) - 2*B*m2*al)):=Int.mul_nonneg (by omega) z;have z3:(B*B*G - 2*B*u*b*al+u*u*b*b*L)*(m2*m2)≤(m2*m2*G - 2*m2*um*b*al+um*um*b*b*L)*(B*B):=by grind
  generalize B*B*G - 2*B*u*b*al+u*u*b*b*L=NT at *;generalize m2*m2*G - 2*m2*um*b*al+um*um*b*b*L=Nm at *;have hp:0<b*b:=Int.mul_pos hb hb;have c2:=Int.mul_lt_mul_of_pos_right c (Int.mul_pos hp (Int.mul_pos (show 0<B by omega) (show 0<B by omega)));have z4:=Int.mul_le_mul_of_nonneg_right z3 (show 0≤b*b*w from Int.mul_nonneg (by omega) (by omega));have e2:s*(b*m2*(b*m2))*(b*b*(B*B))=NT*w*(m2*m2)*(b*b):=by rw[e];grind
  have e3:Nm*w*(b*b*(B*B))=Nm*(B*B)*(b*b*w):=by grind
  have e4:NT*(m2*m2)*(b*b*w)=NT*w*(m2*m2)*(b*b):=by grind
  omega
def NP(X Y b X1 Y1 b1 X2 Y2 b2 s w:Int):Prop:=((X1*b2=X2*b1∧Y1*b2=Y2*b1)∧s=0∧w=1) ∨
 (0<nN b X1 Y1 b1 X2 Y2 b2∧((nM X Y b X1 Y1 b1 X2 Y2 b2<0∧s=0∧w=1)∨(nN b X1 Y1 b1 X2 Y2 b2<nM X Y b X1 Y1 b1 X2 Y2 b2∧s=1∧w=1) ∨
  (0≤nM X Y b X1 Y1 b1 X2 Y2 b2∧nM X Y b X1 Y1 b1 X2 Y2 b2≤nN b X1 Y1 b1 X2 Y2 b2∧0<w∧s*nN b X1 Y1 b1 X2 Y2 b2=nM X Y b X1 Y1 b1 X2 Y2 b2*w)))
theorem uR{s w M N:Int}(hw:0<w)(hN:0<N)(e:s*N=M*w):(s<0↔M<0)∧(w<s↔N<M):=by
 have sg:∀{a c:Int},0<c->(a<0↔a*c<0):=fun {a c} hc=>⟨fun h=>Int.mul_neg_of_neg_of_pos h hc,fun h=>by
  by_cases z:a<0
  ·exact z
  ·exact absurd h (by have:=Int.mul_nonneg (show 0≤a by omega) (show 0≤c by omega);omega)⟩
 constructor
 ·rw[sg hN,e,<- sg hw]
 ·have h1:w<s↔(w - s)*N<0:=by rw[<- sg hN];omega
  have h2:N<M↔(N - M)*w<0:=by rw[<- sg hw];omega
  rw[h1,h2,Int.sub_mul,Int.sub_mul,e,Int.mul_comm w N]
theorem qd{X Y b:Int}{qs:Crn}{l1 l2 h1 h2 s w a e m n T B:Int}(hb:0<b)(Ll:wS l1 l2)(Lh:wS h1 h2)(ins:InS qs.length l1 l2 h1 h2)(np:NP X Y b (ptX qs l1 l2) (ptY qs l1 l2) l2 (ptX qs h1 h2) (ptY qs h1 h2) h2 s w)
  (f1:vP (h1*l2 - l1*h2) (h2*l2) a e) (f2:vP (s*a) (w*e) m n) (f3:vP (l1*n+m*l2) (l2*n) T B):LPc X Y b qs l1 l2 h1 h2 T B∧l1*B≤T*l2∧T*h2≤h1*B:=by
 have hl:=Ll.pos;have hh:=Lh.pos;rcases ins with⟨rfl,rfl⟩|⟨k,st⟩
 ·rcases np with⟨_,rfl,rfl⟩|⟨h,_⟩
  ·obtain⟨rfl,rfl⟩:=sV Ll (nzl Ll) f1 f2 f3
   exact⟨.inl ⟨rfl,rfl,rfl,rfl⟩,Int.le_refl _,Int.le_refl _⟩
  ·unfold nN at h
   simp at h
 have hlt:=st.lt;have up:l1≤((k:Int)+1)*l2:=by
  have a:l1*h2≤((k:Int)+1)*l2*h2:=by
   have:=Int.mul_le_mul_of_nonneg_right st.hi (show 0≤l2 by omega)
   grind
  exact Int.le_of_mul_le_mul_right a (by omega)
 have lo:(k:Int)*h2≤h1:=by
  have a:(k:Int)*h2*l2≤h1*l2:=by
   have:=Int.mul_le_mul_of_nonneg_right st.lo (show 0≤h2 by omega)
   grind
  exact Int.le_of_mul_le_mul_right a (by omega)
 unfold NP at np;rw[iZ (by omega) st.kn st.lo up,iY (by omega) st.kn st.lo up,iZ (by omega) st.kn lo st.hi,iY (by omega) st.kn lo st.hi,uS,uT]at np;have eD:(h1 - (k:Int)*h2)*l2 - (l1 - (k:Int)*l2)*h2=h1*l2 - l1*h2:=by grind
 rw[eD]at np;have hD:0<h1*l2 - l1*h2:=by omega
 have lowC:(kL qs k=0∨kA X Y b qs k*l2<(l1 - (k:Int)*l2)*(kL qs k*b))->s=0->w=1->LPc X Y b qs l1 l2 h1 h2 T B∧l1*B≤T*l2∧T*h2≤h1*B:=fun c es ew=>by
  subst es ew;obtain⟨rfl,rfl⟩:=sV Ll (nzl Lh) f1 f2 f3;exact⟨.inr ⟨k,st,.inl ⟨rfl,rfl,c⟩⟩,Int.le_refl _,by omega⟩
 rcases np with⟨⟨e1,e2⟩,es,ew⟩|⟨hN,np⟩
 ·refine lowC (.inl ?_) es ew
  have g:∀{x d:Int},(x*l2+d*(l1 - (k:Int)*l2))*h2=(x*h2+d*(h1 - (k:Int)*h2))*l2->d=0:=fun {x d} h=>by
   have:d*(h1*l2 - l1*h2)=0:=by grind
   rcases Int.mul_eq_zero.mp this with z|z
   ·exact z
   ·omega
  unfold kL dL;rw[g e1,g e2];rfl
 have hL:0<kL qs k:=by
  have h:=lE qs k
  by_cases z:kL qs k=0
  ·unfold kL at z
   rw[z]at hN;simp at hN
  ·omega
 have hal:kA X Y b qs k=dA X Y b (cX qs k) (cY qs k) (cX qs (k+1) - cX qs k) (cY qs (k+1) - cY qs k):=rfl;have hkl:kL qs k=dL (cX qs (k+1) - cX qs k) (cY qs (k+1) - cY qs k):=rfl;rw[<- hal,<- hkl]at np;have sgn:∀{D x:Int},0<D->(D*x<0↔x<0):=fun {D x} hd=>⟨fun h=>by
  by_cases z:x<0
  ·exact z
  ·exact absurd h (by have:=Int.mul_nonneg (show 0≤D by omega) (show 0≤x by omega);omega),fun h=>Int.mul_neg_of_pos_of_neg hd h⟩
 have hDh:0<(h1*l2 - l1*h2)*h2:=Int.mul_pos hD (by omega);have hDl:0<(h1*l2 - l1*h2)*l2:=Int.mul_pos hD (by omega);have cM:(h1*l2 - l1*h2)*h2*(l2*kA X Y b qs k - (l1 - (k:Int)*l2)*(kL qs k*b))<0↔kA X Y b qs k*l2<(l1 - (k:Int)*l2)*(kL qs k*b):=by
  rw[sgn hDh,Int.mul_comm l2];omega
 have cN:b*((h1*l2 - l1*h2)*(h1*l2 - l1*h2)*kL qs k)<(h1*l2 - l1*h2)*h2*(l2*kA X Y b qs k - (l1 - (k:Int)*l2)*(kL qs k*b))↔(h1 - (k:Int)*h2)*(kL qs k*b)<kA X Y b qs k*h2:=by
  have z:b*((h1*l2 - l1*h2)*(h1*l2 - l1*h2)*kL qs k) - (h1*l2 - l1*h2)*h2*(l2*kA X Y b qs k - (l1 - (k:Int)*l2)*(kL qs k*b))=(h1*l2 - l1*h2)*l2*((h1 - (k:Int)*h2)*(kL qs k*b) - kA X Y b qs k*h2):=by grind
  have y:=sgn (x:=(h1 - (k:Int)*h2)*(kL qs k*b) - kA X Y b qs k*h2) hDl;rw[<- z]at y;omega
 have nneg:∀{x:Int},0≤x->¬x<0:=fun h=>by omega
 rcases np with⟨h,es,ew⟩|⟨h,es,ew⟩|⟨h,h',hw,es⟩
 ·exact lowC (.inr (cM.mp h)) es ew
 ·subst es ew
  obtain⟨rfl,rfl⟩:=uO (nzl Ll) Lh f1 f2 f3;refine⟨.inr ⟨k,st,.inr (.inl ⟨rfl,rfl,by omega,fun c=>?_,cN.mp h⟩)⟩,by omega,Int.le_refl _⟩;have:=cM.mpr c;have hN':0<b*((T*l2 - l1*B)*(T*l2 - l1*B)*kL qs k):=hN;omega
 ·have c1:¬kA X Y b qs k*l2<(l1 - (k:Int)*l2)*(kL qs k*b):=fun c=>nneg h (cM.mpr c)
  have c2:¬(h1 - (k:Int)*h2)*(kL qs k*b)<kA X Y b qs k*h2:=fun c=>by have:=cN.mpr c;omega
  have e:=tR (k:=(k:Int)) (L:=kL qs k) (al:=kA X Y b qs k) (b:=b) (by omega) (by omega) (by omega) hL hb hD f1 f2 f3 es;have hB:=f3.low.pos;have hLb:0<kL qs k*b:=Int.mul_pos hL hb;refine⟨.inr ⟨k,st,.inr (.inr ⟨by omega,c1,c2,e⟩)⟩,?_,?_⟩
  ·have z:=Int.mul_le_mul_of_nonneg_right (Int.not_lt.mp c1) (show 0≤B by omega)
   have r1:(T - (k:Int)*B)*l2*(kL qs k*b)=kA X Y b qs k*l2*B:=by rw[Int.mul_right_comm,e,Int.mul_right_comm]
   have r2:(l1 - (k:Int)*l2)*B*(kL qs k*b)=(l1 - (k:Int)*l2)*(kL qs k*b)*B:=Int.mul_right_comm _ _ _;have z2:(l1 - (k:Int)*l2)*B*(kL qs k*b)≤(T - (k:Int)*B)*l2*(kL qs k*b):=by omega
   have:=Int.le_of_mul_le_mul_right z2 hLb
   grind
  ·have z:=Int.mul_le_mul_of_nonneg_right (Int.not_lt.mp c2) (show 0≤B by omega)
   have r1:(T - (k:Int)*B)*h2*(kL qs k*b)=kA X Y b qs k*h2*B:=by rw[Int.mul_right_comm,e,Int.mul_right_comm]
   have r2:(h1 - (k:Int)*h2)*B*(kL qs k*b)=(h1 - (k:Int)*h2)*(kL qs k*b)*B:=Int.mul_right_comm _ _ _;have z2:(T - (k:Int)*B)*h2*(kL qs k*b)≤(h1 - (k:Int)*h2)*B*(kL qs k*b):=by omega
   have:=Int.le_of_mul_le_mul_right z2 hLb
   grind
theorem nF{H:Hp}{l:Addr}{qs:Crn}(L:vR H l qs)(k:Nat):ao (kL qs k)≤103:=by
 have h1:=dg L k;have h2:=dg L (k+1);have a:=aW h2.1 h1.1;have b:=aW h2.2 h1.2;exact af (cx (bits_mul a a) (bits_mul b b)) (by decide)
theorem rQ{H:Hp}{l:Addr}{qs:Crn}{X Y b:Int}(L:vR H l qs)(k:Nat)(bX:ao X≤262)(bY:ao Y≤262)(bb:ao b≤60):ao (kA X Y b qs k)≤400:=by
 have h1:=dg L k;have h2:=dg L (k+1);have a:=aW h2.1 h1.1;have c:=aW h2.2 h1.2;exact af (cx (bits_mul (aW bX (af (bits_mul h1.1 bb) (show 110≤262 by decide))) a) (bits_mul (aW bY (af (bits_mul h1.2 bb) (show 110≤262 by decide))) c)) (by decide)
theorem rM{H:Hp}{l:Addr}{qs:Crn}{X Y b l1 l2 h1 h2 T B:Int}(L:vR H l qs)(h20:qs.length≤20)(hb:0<b)(bb:ao b≤60)(lw:wS T B)(h:LPc X Y b qs l1 l2 h1 h2 T B)(b2:ao l2≤60)(b4:ao h2≤60)(t0:0≤T)(t1:T≤aH qs*B):ao T≤200∧ao B≤163:=by
 have hB:=lw.pos;have b3:ao B≤163:=by
  rcases h with⟨_,_,rfl,rfl⟩|⟨k,st,⟨_,rfl,_⟩|⟨_,rfl,_⟩|⟨h0,_,_,e⟩⟩
  ·exact af b2 (by decide)
  ·exact af b2 (by decide)
  ·exact af b4 (by decide)
  ·have hL:=lE qs k
   have hLb:0<kL qs k*b:=Int.mul_pos (by omega) hb;have f:vP (kA X Y b qs k+(k:Int)*(kL qs k*b)) (kL qs k*b) T B:=⟨lw,by grind⟩;exact(j5 hLb f (Nat.le_refl _) (bits_mul (nF L k) bb)).2
 refine⟨?_,b3⟩;have:aH qs*B≤20*B:=Int.mul_le_mul_of_nonneg_right (by unfold aH;omega) (by omega);exact af (cG t0 (Int.le_trans t1 this) (bits_mul (show ao 20≤5 by decide) b3)) (by decide)
theorem oz{H:Hp}{l:Addr}{qs:Crn}{X Y b l1 l2 h1 h2 s w:Int}{k:Nat}(L:vR H l qs)(hb:0<b)(hl:0<l2)(hh:0<h2)(bb:ao b≤60)(b2:ao l2≤60)(b4:ao h2≤60)(st:BU qs.length k l1 l2 h1 h2)(bX:ao X≤262∧ao Y≤262)(lw:wS s w)
  (hN:0<nN b (ptX qs l1 l2) (ptY qs l1 l2) l2 (ptX qs h1 h2) (ptY qs h1 h2) h2) (e:s*nN b (ptX qs l1 l2) (ptY qs l1 l2) l2 (ptX qs h1 h2) (ptY qs h1 h2) h2=nM X Y b (ptX qs l1 l2) (ptY qs l1 l2) l2 (ptX qs h1 h2) (ptY qs h1 h2) h2*w):ao s≤900∧ao w≤900:=by
 have hlt:=st.lt;have p1:=fE (t:=l1) L hl (af b2 (by decide));have p2:=fE (t:=h1) L hh (af b4 (by decide));have q:∀{x:Int} {z:Int},0<z->ao z≤60->∀{x:Int},ao x≤262->ao (x*z)≤322:=fun _ hz _ hx=>bits_mul hx hz;have u1:=aW (bits_mul p2.1 b2) (bits_mul p1.1 b4);have u2:=aW (bits_mul p2.2 b2) (bits_mul p1.2 b4);have v1:=aW (bits_mul bX.1 b2) (bits_mul p1.1 bb);have v2:=aW (bits_mul bX.2 b2) (bits_mul p1.2 bb);have bM:ao (nM X Y b (ptX qs l1 l2) (ptY qs l1 l2) l2 (ptX qs h1 h2) (ptY qs h1 h2) h2)≤900:=af (bits_mul (cx (bits_mul u1 v1) (bits_mul u2 v2)) b4) (by decide);have bN:ao (nN b (ptX qs l1 l2) (ptY qs l1 l2) l2 (ptX qs h1 h2) (ptY qs h1 h2) h2)≤900:=af (bits_mul bb (cx (bits_mul u1 u1) (bits_mul u2 u2))) (by decide);exact j5 hN ⟨lw,e.symm⟩ bM bN
end Sp11
namespace Crs
abbrev Pt:=Rat×Rat
def Sh(s t:Rat):Prop:=∃k:Int,(k:Rat)≤s∧s≤(k:Rat)+1∧(k:Rat)≤t∧t≤(k:Rat)+1
def Bw(a b c:Rat):Prop:=(a≤c∧c≤b)∨(b≤c∧c≤a)
def Bx(f g p:Pt):Prop:=Bw f.1 g.1 p.1∧Bw f.2 g.2 p.2
def Wh(x:Rat):Prop:=∃i:Int,x=(i:Rat)
def Vs(f g:Pt):Prop:=f.1=g.1∧Wh f.1∧Sh f.2 g.2
def Hs(f g:Pt):Prop:=f.2=g.2∧Wh f.2∧Sh f.1 g.1
def Bk(f g:Pt):Prop:=g.1≤f.1∧f.2≤g.2
theorem qh{i j:Int}:((i:Rat)<(j:Rat))↔i<j:=Rat.intCast_lt_intCast
theorem int_le{i j:Int}:((i:Rat)≤(j:Rat))↔i≤j:=Rat.intCast_le_intCast
theorem int_add1(i:Int):((i+1:Int):Rat)=(i:Rat)+1:=by rw[Rat.intCast_add];rfl
theorem sS{s t:Rat}{i:Int}(h:Sh s t)(h1:s<(i:Rat))(h2:(i:Rat)<t):False:=by
 obtain⟨k,a1,a2,a3,a4⟩:=h;have b1:(k:Rat)<(i:Rat):=by grind
 have b2:(i:Rat)<((k+1:Int):Rat):=by rw[int_add1];grind
 rw[qh]at b1 b2;omega
theorem first_of{α:Type}{P:α->Prop}:∀{W:List α},(∃p∈W,P p)->∃s p,W[s]? = some p∧P p∧∀(j:Nat) q,j<s->W[j]? = some q->¬P q
 | [],⟨p,h,_⟩=>absurd h (by simp)
 | a::r,⟨p,h,hp⟩=>by
  rcases Classical.em (P a) with ha|ha
  ·exact⟨0,a,rfl,ha,fun j q h=>absurd h (by omega)⟩
  ·have h':∃p∈r,P p:=by
    rcases List.mem_cons.mp h with e|h
    ·subst e;exact absurd hp ha
    ·exact⟨p,h,hp⟩
   obtain⟨s,q,e,hq,hl⟩:=first_of h';refine⟨s+1,q,by simpa using e,hq,fun j z hj hz=>?_⟩;cases j with
   | zero=>cases hz;exact ha
   | succ j=>exact hl j z (by omega) (by simpa using hz)
theorem last_of{α:Type}{P:α->Prop}:∀{W:List α},(∃p∈W,P p)->∃s p,W[s]? = some p∧P p∧∀(j:Nat) q,s<j->W[j]? = some q->¬P q
 | [],⟨p,h,_⟩=>absurd h (by simp)
 | a::r,⟨p,h,hp⟩=>by
  rcases Classical.em (∃p∈r,P p) with h'|h'
  ·obtain⟨s,q,e,hq,hl⟩:=last_of h'
   refine⟨s+1,q,by simpa using e,hq,fun j z hj hz=>?_⟩;cases j with
   | zero=>omega
   | succ j=>exact hl j z (by omega) (by simpa using hz)
  ·have e:p=a:=by
    rcases List.mem_cons.mp h with e|h
    ·exact e
    ·exact absurd ⟨p,h,hp⟩ h'
   subst e;refine⟨0,p,rfl,hp,fun j z hj hz hz'=>?_⟩;cases j with
   | zero=>omega
   | succ j=>exact h' ⟨z,List.mem_of_getElem? (by simpa using hz),hz'⟩
structure Mono(W:List Pt):Prop where
 st:∀(j:Nat) u v,W[j]? = some u->W[j+1]? = some v->(u.1≤v.1∧u.2≤v.2)∧Sh u.1 v.1∧Sh u.2 v.2
theorem Mono.le{W:List Pt}(h:Mono W):∀(d i:Nat) u v,W[i]? = some u->W[i+d]? = some v->u.1≤v.1∧u.2≤v.2
 | 0,i,u,v,e1,e2=>by
  rw[Nat.add_zero,e1]at e2;cases e2;exact⟨Rat.le_refl,Rat.le_refl⟩
 | d+1,i,u,v,e1,e2=>by
  have hl:=(List.getElem?_eq_some_iff.mp e2).1;have e3:W[i+d]? = some (W[i+d]'(by omega)):=List.getElem?_eq_getElem (by omega);obtain⟨a1,a2⟩:=h.le d i u _ e1 e3;obtain⟨⟨b1,b2⟩,_⟩:=h.st (i+d) _ v e3 e2;exact⟨Rat.le_trans a1 b1,Rat.le_trans a2 b2⟩
theorem Mono.le'{W:List Pt}(h:Mono W){i j:Nat}{u v:Pt}(hij:i≤j)(e1:W[i]? = some u)(e2:W[j]? = some v):u.1≤v.1∧u.2≤v.2:=by
 obtain⟨d,rfl⟩:=Nat.exists_eq_add_of_le hij;exact h.le d i u v e1 e2
theorem Mono.hitx{W:List Pt}(h:Mono W){p:Pt}{i:Int}(mp:p∈W)(hp:(i:Rat)≤p.1)(h0:∀u,W[0]? = some u->u.1≤(i:Rat)):∃q∈W,q.1=(i:Rat)∧q.2≤p.2:=by
 obtain⟨k,hk⟩:=List.mem_iff_getElem?.mp mp;obtain⟨s,q,e,hq,hl⟩:=first_of (P:=fun z:Pt=>(i:Rat)≤z.1) ⟨p,mp,hp⟩;have hsk:s≤k:=by
  rcases Nat.lt_or_ge k s with z|z
  ·exact absurd hp (hl k p z hk)
  ·exact z
 refine⟨q,List.mem_of_getElem? e,?_,(h.le' hsk e hk).2⟩;cases s with
 | zero=>exact Rat.le_antisymm (h0 q e) hq
 | succ s =>
  have e3:W[s]? = some (W[s]'(by have:=(List.getElem?_eq_some_iff.mp e).1;omega)):=List.getElem?_eq_getElem _;have n:=hl s _ (by omega) e3;obtain⟨_,sh,_⟩:=h.st s _ q e3 e;rcases Classical.em (q.1=(i:Rat)) with z|z
  ·exact z
  ·exact(sS sh (i:=i) (by grind) (by grind)).elim
def Eg(W:List Pt)(f:Pt):Prop:=f∈W∨∃(j:Nat) (u v:Pt),W[j]? = some u∧W[j+1]? = some v∧((u.2=f.2∧v.2=f.2∧Bw u.1 v.1 f.1∧Sh u.1 v.1)∨(u.1=f.1∧v.1=f.1∧Bw u.2 v.2 f.2∧Sh u.2 v.2))
structure FOn(G:List Pt):Prop where
 st:∀(j:Nat) f g,G[j]? = some f->G[j+1]? = some g->Bk f g∨Vs f g∨Hs f g
theorem cross_on{W G:List Pt}{N M:Int}(hW:Mono W)(hG:FOn G)(wn:0<W.length)(gn:0<G.length)
  (win:∀p∈W,(0≤p.1∧p.1≤(N:Rat))∧0≤p.2∧p.2≤(M:Rat)) (gin:∀p∈G,(0≤p.1∧p.1≤(N:Rat))∧0≤p.2∧p.2≤(M:Rat))
  (w0:∀u,W[0]? = some u->u.1=0) (wl:∀u,W[W.length - 1]? = some u->u.1=(N:Rat))
  (g0:∀f,G[0]? = some f->f.2=(M:Rat)∨(f.1=0∧∀u,W[0]? = some u->u.2=0))
  (gl:∀f,G[G.length - 1]? = some f->f.2=0∨(f.1=(N:Rat)∧∀u,W[W.length - 1]? = some u->u.2=(M:Rat))) :
  (∃f∈G,Eg W f)∨∃p∈W,∃(j:Nat) (f g:Pt),G[j]? = some f∧G[j+1]? = some g∧¬Bk f g∧Bx f g p:=by
 have eW0:W[0]? = some W[0]:=List.getElem?_eq_getElem wn;have eWl:W[W.length - 1]? = some W[W.length - 1]:=List.getElem?_eq_getElem (by omega);have mW0:=List.mem_of_getElem? eW0;have mWl:=List.mem_of_getElem? eWl;have eG0:G[0]? = some G[0]:=List.getElem?_eq_getElem gn
 let A:Pt->Prop:=fun f=>∃p∈W,f.1≤p.1∧p.2≤f.2
 have A0:A G[0]:=by
  rcases g0 _ eG0 with h|⟨h,k⟩
  ·refine⟨_,mWl,?_,?_⟩
   ·rw[wl _ eWl];exact(gin _ (List.mem_of_getElem? eG0)).1.2
   ·rw[h];exact(win _ mWl).2.2
  ·refine⟨_,mW0,?_,?_⟩
   ·rw[h];exact(win _ mW0).1.1
   ·rw[k _ eW0];exact(gin _ (List.mem_of_getElem? eG0)).2.1
 obtain⟨s,f,e,hA,hl⟩:=last_of (P:=A) ⟨_,List.mem_of_getElem? eG0,A0⟩;have hs:=(List.getElem?_eq_some_iff.mp e).1;have mf:=List.mem_of_getElem? e;obtain⟨p,mp,p1,p2⟩:=hA;rcases Nat.lt_or_ge (s+1) G.length with z|z
 ·have e3:G[s+1]? = some G[s+1]:=List.getElem?_eq_getElem z
  have n:=hl (s+1) _ (by omega) e3;have nA:∀q∈W,G[s+1].1≤q.1->G[s+1].2<q.2:=fun q mq h1=>by
   rcases Classical.em (G[s+1].2<q.2) with h|h
   ·exact h
   ·exact absurd ⟨q,mq,h1,by grind⟩ n
  generalize G[s+1]=g at *;have nb:¬Bk f g:=fun ⟨b1,b2⟩=>n ⟨p,mp,by grind,by grind⟩;refine .inr ?_;rcases hG.st s f g e e3 with h|⟨h1,⟨i,hi⟩,h3⟩|⟨h1,⟨i,hi⟩,h3⟩
  ·exact absurd h nb
  ·obtain⟨q,mq,q1,q2⟩:=hW.hitx mp (i:=i) (by grind) (fun u hu=>by
    rw[w0 u hu,<- hi];exact(gin f mf).1.1)
   have:=nA q mq (by grind);exact⟨q,mq,s,f,g,e,e3,nb,.inl ⟨by grind,by grind⟩,.inr ⟨by grind,by grind⟩⟩
  ·have p1':=nA p mp
   obtain⟨k,hk⟩:=List.mem_iff_getElem?.mp mp;obtain⟨t,q,eq,hq,hlq⟩:=last_of (P:=fun z:Pt=>z.2≤(i:Rat)) ⟨p,mp,by grind⟩;have hkt:k≤t:=by
    rcases Nat.lt_or_ge t k with y|y
    ·exact absurd (show p.2≤(i:Rat) by grind) (hlq k p y hk)
    ·exact y
   have mq:=List.mem_of_getElem? eq;have le:=(hW.le' hkt hk eq).1;have qx:q.1<g.1:=by
    rcases Classical.em (q.1<g.1) with y|y
    ·exact y
    ·have:=nA q mq (by grind)
     grind
   have qy:q.2=(i:Rat):=by
    rcases Nat.lt_or_ge (t+1) W.length with y|y
    ·have e5:W[t+1]? = some W[t+1]:=List.getElem?_eq_getElem y
     have n5:=hlq (t+1) _ (by omega) e5;obtain⟨_,_,sh⟩:=hW.st t q _ eq e5;rcases Classical.em (q.2=(i:Rat)) with x|x
     ·exact x
     ·exact(sS sh (i:=i) (by grind) (by grind)).elim
    ·have ht:=(List.getElem?_eq_some_iff.mp eq).1
     have ex:=wl q (by rw[show W.length - 1=t by omega];exact eq);have:=(gin g (List.mem_of_getElem? e3)).1.2
     grind
   exact⟨q,mq,s,f,g,e,e3,nb,.inl ⟨by grind,by grind⟩,.inl ⟨by grind,by grind⟩⟩
 ·have ef:G[G.length - 1]? = some f:=by rw[show G.length - 1=s by omega];exact e
  refine .inl ⟨f,mf,?_⟩;obtain⟨k,hk⟩:=List.mem_iff_getElem?.mp mp;rcases gl f ef with h|⟨h,hm⟩
  ·obtain⟨t,q,eq,hq,hlq⟩:=first_of (P:=fun z:Pt=>f.1≤z.1) ⟨p,mp,p1⟩
   have htk:t≤k:=by
    rcases Nat.lt_or_ge k t with y|y
    ·exact absurd p1 (hlq k p y hk)
    ·exact y
   have mq:=List.mem_of_getElem? eq;have le:=(hW.le' htk eq hk).2;have q0:=(win q mq).2.1;have qy:q.2=f.2:=by grind
   rcases Classical.em (q.1=f.1) with y|y
   ·exact .inl (by rw[show f=q from Prod.ext y.symm qy.symm];exact mq)
   ·cases t with
    | zero =>
     have:=w0 q eq;have:=(gin f mf).1.1
     grind
    | succ t =>
     have e5:W[t]? = some (W[t]'(by have:=(List.getElem?_eq_some_iff.mp eq).1;omega)):=List.getElem?_eq_getElem _;have n5:=hlq t _ (by omega) e5;obtain⟨⟨_,le2⟩,sh,_⟩:=hW.st t _ q e5 eq;have u0:=(win _ (List.mem_of_getElem? e5)).2.1;exact .inr ⟨t,_,q,e5,eq,.inl ⟨by grind,qy,.inl ⟨by grind,hq⟩,sh⟩⟩
  ·obtain⟨t,q,eq,hq,hlq⟩:=last_of (P:=fun z:Pt=>z.2≤f.2) ⟨p,mp,p2⟩
   have hkt:k≤t:=by
    rcases Nat.lt_or_ge t k with y|y
    ·exact absurd p2 (hlq k p y hk)
    ·exact y
   have mq:=List.mem_of_getElem? eq;have le:=(hW.le' hkt hk eq).1;have q1:=(win q mq).1.2;have qx:q.1=f.1:=by grind
   rcases Classical.em (q.2=f.2) with y|y
   ·exact .inl (by rw[show f=q from Prod.ext qx.symm y.symm];exact mq)
   ·rcases Nat.lt_or_ge (t+1) W.length with x|x
    ·have e5:W[t+1]? = some W[t+1]:=List.getElem?_eq_getElem x
     have n5:=hlq (t+1) _ (by omega) e5;obtain⟨⟨le2,_⟩,_,sh⟩:=hW.st t q _ eq e5;have u1:=(win _ (List.mem_of_getElem? e5)).1.2;exact .inr ⟨t,q,_,eq,e5,.inr ⟨qx,by grind,.inl ⟨hq,by grind⟩,sh⟩⟩
    ·have ht:=(List.getElem?_eq_some_iff.mp eq).1
     have:=hm q (by rw[show W.length - 1=t by omega];exact eq);have:=(gin f mf).2.2
     grind
def pt1(x t:Rat)(f g:Pt):Bool:=decide (x<f.1) && (decide (f.2≤t) ^^ decide (g.2≤t))
def dt1(x t:Rat)(f g:Pt):Bool:=(decide (x<f.1) ^^ decide (x<g.1)) && decide (g.2≤t)
def par(x t:Rat):List Pt->Bool
 | f::g::r=>pt1 x t f g ^^ par x t (g::r)
 | _=>false
def dal(x t:Rat):List Pt->Bool
 | f::g::r=>dt1 x t f g ^^ dal x t (g::r)
 | _=>false
theorem pF{x t x' t':Rat}:∀{G:List Pt},(∀(j:Nat) f g,G[j]? = some f->G[j+1]? = some g->pt1 x t f g=pt1 x' t' f g)->par x t G=par x' t' G
 | [],_=>rfl
 | [_],_=>rfl
 | f::g::r,h=>by
  unfold par;rw[h 0 f g rfl rfl,pF (G:=g::r) fun j f g e1 e2=>h (j+1) f g (by simpa using e1) (by simpa using e2)]
theorem qF{x t x' t':Rat}:∀{G:List Pt},(∀(j:Nat) f g,G[j]? = some f->G[j+1]? = some g->dt1 x t f g=dt1 x' t' f g)->dal x t G=dal x' t' G
 | [],_=>rfl
 | [_],_=>rfl
 | f::g::r,h=>by
  unfold dal;rw[h 0 f g rfl rfl,qF (G:=g::r) fun j f g e1 e2=>h (j+1) f g (by simpa using e1) (by simpa using e2)]
theorem lg(x t:Rat):∀(f l:Pt) (r:List Pt),(f::r).getLast? = some l->par x t (f::r)=(((decide (x<f.1) && decide (f.2≤t)) ^^ (decide (x<l.1) && decide (l.2≤t))) ^^ dal x t (f::r))
 | f,l,[],h=>by
  cases h;show false=(((decide (x<f.1) && decide (f.2≤t)) ^^ (decide (x<f.1) && decide (f.2≤t))) ^^ false);rw[Bool.xor_self];rfl
 | f,l,g::r,h=>by
  have ih:=lg x t g l r (by rw[<- h,List.getLast?_cons_cons]);unfold par dal;rw[ih];unfold pt1 dt1;generalize decide (x<f.1)=a;generalize decide (x<g.1)=b;generalize decide (x<l.1)=c;generalize decide (f.2≤t)=d;generalize decide (g.2≤t)=e;generalize decide (l.2≤t)=k;generalize dal x t (g::r)=y;revert a b c d e k y;decide
def On(G:List Pt)(p:Pt):Prop:=p∈G∨∃(j:Nat) (f g:Pt),G[j]? = some f∧G[j+1]? = some g∧Bx f g p
structure FFr(G:List Pt):Prop where
 st:∀(j:Nat) f g,G[j]? = some f->G[j+1]? = some g->Vs f g∨Hs f g
theorem ii{p q:Prop}[Decidable p][Decidable q](h:p↔q):decide p=decide q:=by
 by_cases hp:p
 ·rw[decide_eq_true hp,decide_eq_true (h.mp hp)]
 ·rw[decide_eq_false hp,decide_eq_false (fun z=>hp (h.mpr z))]
theorem mo(c lo:Rat)(h:lo<c):∀G:List Pt,∃z,lo≤z∧z<c∧∀f∈G,f.1<c->f.1≤z
 | []=>⟨lo,Rat.le_refl,h,fun f hf=>absurd hf (by simp)⟩
 | f::r=>by
  obtain⟨z,z1,z2,z3⟩:=mo c lo h r;rcases Classical.em (f.1<c∧z<f.1) with k|k
  ·refine⟨f.1,by grind,k.1,fun g hg gc=>?_⟩
   rcases List.mem_cons.mp hg with e|hg
   ·rw[e];exact Rat.le_refl
   ·have:=z3 g hg gc;grind
  ·refine⟨z,z1,z2,fun g hg gc=>?_⟩
   rcases List.mem_cons.mp hg with e|hg
   ·subst e;grind
   ·exact z3 g hg gc
structure Sd(N M:Int)(G:List Pt)(f l:Pt):Prop where
 h0:G[0]? = some f
 hl:G[G.length - 1]? = some l
 st:FFr G
 gin:∀p∈G,(0≤p.1∧p.1≤(N:Rat))∧0≤p.2∧p.2≤(M:Rat)
 b:f.2=(M:Rat)∨f.1=0
 e:l.2=0∨l.1=(N:Rat)
def ext(l:Pt)(t:Rat):Bool:=if l.2=0 then false else !decide (l.2≤t)
def dB(G:List Pt)(f l:Pt)(x t:Rat):Bool:=(par x t G ^^ (decide (x<f.1) && decide (f.2≤t))) ^^ ext l t
theorem jN{N M:Int}{G:List Pt}{f l:Pt}(S:Sd N M G f l)(x t:Rat):dB G f l x t=(((decide (x<l.1) && decide (l.2≤t)) ^^ dal x t G) ^^ ext l t):=by
 have h0:=S.h0;have hl:=S.hl;cases G with
 | nil=>cases h0
 | cons a r =>
  cases h0;unfold dB;rw[lg x t f l r (by rw[List.getLast?_eq_getElem?];exact hl)];generalize (decide (x<f.1) && decide (f.2≤t))=u;generalize (decide (x<l.1) && decide (l.2≤t))=v;generalize dal x t (f::r)=y;generalize ext l t=z;revert u v y z;decide
theorem gS{N M:Int}{G:List Pt}{f l:Pt}(S:Sd N M G f l){x x' t:Rat}(hx:x≤x')(h1:∀(j:Nat) f g,G[j]? = some f->G[j+1]? = some g->Vs f g->x<f.1->f.1≤x'->decide (f.2≤t)=decide (g.2≤t))(h2:x<f.1->f.1≤x'->¬f.2≤t):dB G f l x t=dB G f l x' t:=by
 unfold dB;have e1:par x t G=par x' t G:=pF fun j a b ea eb=>by
  unfold pt1;rcases S.st.st j a b ea eb with h|h
  ·rcases Classical.em (x<a.1∧a.1≤x') with k|k
   ·rw[h1 j a b ea eb h k.1 k.2]
    simp
   ·rw[ii (show x<a.1↔x'<a.1 by constructor <;> intro z <;> grind)]
  ·rw[h.1]
   simp
 have e2:(decide (x<f.1) && decide (f.2≤t))=(decide (x'<f.1) && decide (f.2≤t)):=by
  rcases Classical.em (x<f.1∧f.1≤x') with k|k
  ·rw[decide_eq_false (h2 k.1 k.2),Bool.and_false,Bool.and_false]
  ·rw[ii (show x<f.1↔x'<f.1 by constructor <;> intro z <;> grind)]
 rw[e1,e2]
theorem jO{N M:Int}{G:List Pt}{f l:Pt}(S:Sd N M G f l){x t t':Rat}(h0:0≤t)(ht:t≤t')(hx:x<(N:Rat))(h1:∀(j:Nat) f g,G[j]? = some f->G[j+1]? = some g->Hs f g->t<g.2->g.2≤t'->decide (x<f.1)=decide (x<g.1)):dB G f l x t=dB G f l x t':=by
 rw[jN S,jN S];have e1:dal x t G=dal x t' G:=qF fun j a b ea eb=>by
  unfold dt1;rcases S.st.st j a b ea eb with h|h
  ·rw[h.1]
   simp
  ·rcases Classical.em (t<b.2∧b.2≤t') with k|k
   ·rw[h1 j a b ea eb h k.1 k.2]
    simp
   ·rw[ii (show b.2≤t↔b.2≤t' by constructor <;> intro z <;> grind)]
 rw[e1];unfold ext;rcases Classical.em (l.2=0) with z|z
 ·rw[if_pos z,if_pos z,ii (show l.2≤t↔l.2≤t' by constructor <;> intro y <;> grind)]
 ·rw[if_neg z,if_neg z]
  have hn:l.1=(N:Rat):=by
   rcases S.e with h|h
   ·exact absurd h z
   ·exact h
  rw[hn,decide_eq_true hx];generalize decide (l.2≤t)=u;generalize decide (l.2≤t')=v;generalize dal x t' G=y;revert u v y;decide
theorem mB{a:Rat}{i:Int}(h:Wh a)(h1:(i:Rat)<a)(h2:a<(i:Rat)+1):False:=by
 obtain⟨k,rfl⟩:=h;rw[<- int_add1]at h2;rw[qh]at h1 h2;omega
theorem jP{N M:Int}{G:List Pt}{f l:Pt}(S:Sd N M G f l){i j:Int}(i0:0≤i)(i1:i+1≤N)(j0:0≤j)(j1:j+1≤M){p:Pt}(x0:(i:Rat)≤p.1)(x1:p.1≤(i:Rat)+1)(y0:(j:Rat)≤p.2)(y1:p.2≤(j:Rat)+1)(off:¬On G p) :
  dB G f l p.1 p.2=dB G f l ((i:Rat)+1 / 2) ((j:Rat)+1 / 2):=by
 have iN:(i:Rat)+1≤(N:Rat):=by rw[<- int_add1,int_le];exact i1
 have jM:(j:Rat)+1≤(M:Rat):=by rw[<- int_add1,int_le];exact j1
 have i0':(0:Rat)≤(i:Rat):=by rw[show(0:Rat)=((0:Int):Rat) from rfl,int_le];exact i0
 have j0':(0:Rat)≤(j:Rat):=by rw[show(0:Rat)=((0:Int):Rat) from rfl,int_le];exact j0
 obtain⟨z,z1,z2,z3⟩:=mo ((i:Rat)+1) (i:Rat) (by grind) G;have mf:=List.mem_of_getElem? S.h0;obtain⟨x,hx0,hx1,hxp,hxe⟩:∃x:Rat,(i:Rat)≤x∧x<(i:Rat)+1∧x≤p.1∧(x=p.1∨(p.1=(i:Rat)+1∧∀f∈G,f.1<(i:Rat)+1->f.1≤x)):=by
  rcases Classical.em (p.1=(i:Rat)+1) with h|h
  ·exact⟨z,z1,z2,by grind,.inr ⟨h,z3⟩⟩
  ·exact⟨p.1,x0,by grind,Rat.le_refl,.inl rfl⟩
 have s1:dB G f l x p.2=dB G f l p.1 p.2:=by
  refine gS S hxp (fun k a b ea eb v a1 a2=>?_) (fun a1 a2 a3=>?_)
  ·have ha:a.1=p.1:=by
    rcases hxe with h|⟨h,h'⟩
    ·grind
    ·rcases Classical.em (a.1<(i:Rat)+1) with y|y
     ·have:=h' a (List.mem_of_getElem? ea) y
      grind
     ·grind
   refine ii ?_;have v1:=v.1;constructor
   ·intro h
    rcases Classical.em (b.2≤p.2) with y|y
    ·exact y
    ·exact absurd (.inr ⟨k,a,b,ea,eb,.inl ⟨by grind,by grind⟩,.inl ⟨h,by grind⟩⟩) off
   ·intro h
    rcases Classical.em (a.2≤p.2) with y|y
    ·exact y
    ·exact absurd (.inr ⟨k,a,b,ea,eb,.inl ⟨by grind,by grind⟩,.inr ⟨h,by grind⟩⟩) off
  ·rcases S.b with h|h
   ·have:=(S.gin f mf).2.2
    have ha:f.1=p.1:=by
     rcases hxe with h|⟨h,h'⟩
     ·grind
     ·rcases Classical.em (f.1<(i:Rat)+1) with y|y
      ·have:=h' f mf y
       grind
      ·grind
    have hb:f.2=p.2:=by grind
    exact off (.inl (by rw[show p=f from Prod.ext ha.symm hb.symm];exact mf))
   ·grind
 have s2:dB G f l x p.2=dB G f l x ((j:Rat)+1 / 2):=by
  have key:∀(k:Nat) a b,G[k]? = some a->G[k+1]? = some b->Hs a b->b.2=p.2->p.2=(j:Rat)+1->decide (x<a.1)=decide (x<b.1):=fun k a b ea eb h e1 e2=>by
   have h1:=h.1;refine ii ?_;have far:∀c∈G,x<c.1->p.1≤c.1:=fun c mc hc=>by
    rcases hxe with h|⟨h,h'⟩
    ·grind
    ·rcases Classical.em (c.1<(i:Rat)+1) with y|y
     ·have:=h' c mc y
      grind
     ·grind
   have ma:=List.mem_of_getElem? ea;have mb:=List.mem_of_getElem? eb;constructor
   ·intro g
    rcases Classical.em (x<b.1) with y|y
    ·exact y
    ·have:=far a ma g
     exact absurd (.inr ⟨k,a,b,ea,eb,.inr ⟨by grind,by grind⟩,.inl ⟨by grind,by grind⟩⟩) off
   ·intro g
    rcases Classical.em (x<a.1) with y|y
    ·exact y
    ·have:=far b mb g
     exact absurd (.inr ⟨k,a,b,ea,eb,.inl ⟨by grind,by grind⟩,.inl ⟨by grind,by grind⟩⟩) off
  have whole:∀(k:Nat) a b,G[k]? = some a->G[k+1]? = some b->Hs a b->(j:Rat)<b.2->b.2≤(j:Rat)+1->b.2=(j:Rat)+1:=fun k a b ea eb h e1 e2=>by
   rcases Classical.em (b.2=(j:Rat)+1) with y|y
   ·exact y
   ·exact(mB (i:=j) (a:=b.2) (by rw[<- h.1];exact h.2.1) e1 (by grind)).elim
  rcases Classical.em (p.2≤(j:Rat)+1 / 2) with y|y
  ·refine jO S (by grind) y (by grind) fun k a b ea eb h e1 e2=>?_
   have:=whole k a b ea eb h (by grind) (by grind)
   grind
  ·refine(jO S (by grind) (by grind) (by grind) fun k a b ea eb h e1 e2=>?_).symm
   have:=whole k a b ea eb h (by grind) (by grind);exact key k a b ea eb h (by grind) (by grind)
 have s3:dB G f l x ((j:Rat)+1 / 2)=dB G f l ((i:Rat)+1 / 2) ((j:Rat)+1 / 2):=by
  have nf:∀y:Rat,(i:Rat)≤y->y<f.1->¬f.2≤(j:Rat)+1 / 2:=fun y a1 a2=>by
   rcases S.b with h|h
   ·grind
   ·grind
  rcases Classical.em (x≤(i:Rat)+1 / 2) with y|y
  ·refine gS S y (fun k a b ea eb v a1 a2=>(mB (i:=i) v.2.1 (by grind) (by grind)).elim) (fun a1 a2=>nf x hx0 a1)
  ·refine(gS S (by grind) (fun k a b ea eb v a1 a2=>(mB (i:=i) v.2.1 (by grind) (by grind)).elim) (fun a1 a2=>nf _ (by grind) a1)).symm
 rw[<- s1,s2,s3]
theorem nj{x t:Rat}:∀{G:List Pt},(∀p∈G,p.1≤x)->par x t G=false
 | [],_=>rfl
 | [_],_=>rfl
 | f::g::r,h=>by
  unfold par;rw[nj (G:=g::r) fun p hp=>h p (List.mem_cons_of_mem _ hp)];unfold pt1;have:=h f (by simp);rw[decide_eq_false (by grind)];rfl
theorem nk{t:Rat}:∀{G:List Pt} {f l:Pt},G[0]? = some f->G[G.length - 1]? = some l->(∀(j:Nat) f g,G[j]? = some f->G[j+1]? = some g->decide (f.2≤t)≠decide (g.2≤t)->0<f.1)->par 0 t G=(decide (f.2≤t) ^^ decide (l.2≤t))
 | [],f,l,h,_,_=>by cases h
 | [a],f,l,h1,h2,_=>by
  cases h1;cases h2;simp[par]
 | a::b::r,f,l,h1,h2,h=>by
  cases h1;have ih:=nk (G:=b::r) (f:=b) (l:=l) rfl (by rw[<- h2];simp) fun j f g e1 e2=>h (j+1) f g (by simpa using e1) (by simpa using e2);unfold par;rw[ih];unfold pt1;rcases Classical.em (decide (a.2≤t)=decide (b.2≤t)) with z|z
  ·rw[z]
   generalize decide (b.2≤t)=u;generalize decide (l.2≤t)=v;generalize decide ((0:Rat)<a.1)=y;revert u v y;decide
  ·rw[decide_eq_true (h 0 a b rfl rfl z)]
   generalize decide (a.2≤t)=x;generalize decide (b.2≤t)=u;generalize decide (l.2≤t)=v;revert x u v;decide
theorem fit{N:Int}{s t:Rat}(hN:1≤N)(h:Sh s t)(s0:0≤s)(s1:s≤(N:Rat))(t0:0≤t)(t1:t≤(N:Rat)):∃i:Int,0≤i∧i+1≤N∧((i:Rat)≤s∧s≤(i:Rat)+1)∧(i:Rat)≤t∧t≤(i:Rat)+1:=by
 obtain⟨k,a1,a2,a3,a4⟩:=h;rcases Int.lt_or_le k 0 with z|z
 ·have e:(k:Rat)+1≤0:=by rw[<- int_add1,show(0:Rat)=((0:Int):Rat) from rfl,int_le];omega
  refine⟨0,Int.le_refl _,by omega,⟨?_,?_⟩,?_,?_⟩ <;> rw[show((0:Int):Rat)=0 from rfl] <;> grind
 ·rcases Int.lt_or_le k N with y|y
  ·exact⟨k,z,by omega,⟨a1,a2⟩,a3,a4⟩
  ·have e:(N:Rat)≤(k:Rat):=by rw[int_le];exact y
   have e2:((N - 1:Int):Rat)+1=(N:Rat):=by rw[<- int_add1];congr 1;omega
   refine⟨N - 1,by omega,by omega,⟨?_,?_⟩,?_,?_⟩ <;> grind
theorem cross_free{W G:List Pt}{N M:Int}{f l:Pt}(hN:1≤N)(hM:1≤M)(S:Sd N M G f l)(wn:0<W.length)
  (win:∀p∈W,(0≤p.1∧p.1≤(N:Rat))∧0≤p.2∧p.2≤(M:Rat)) (ws:∀(j:Nat) u v,W[j]? = some u->W[j+1]? = some v->Sh u.1 v.1∧Sh u.2 v.2)
  (w0:∀u,W[0]? = some u->u=(0,0)) (wl:∀u,W[W.length - 1]? = some u->u=((N:Rat),(M:Rat))):∃p∈W,On G p:=by
 refine Classical.byContradiction fun no=>?_;have off:∀p∈W,¬On G p:=fun p hp h=>no ⟨p,hp,h⟩;have eW0:W[0]? = some W[0]:=List.getElem?_eq_getElem wn;have eWl:W[W.length - 1]? = some W[W.length - 1]:=List.getElem?_eq_getElem (by omega);have same:∀(k:Nat) u,W[k]? = some u->dB G f l u.1 u.2=dB G f l W[0].1 W[0].2:=fun k=>by
  induction k with
  | zero=>intro u hu;rw[eW0]at hu;cases hu;rfl
  | succ k ih =>
   intro v hv;have hk:=(List.getElem?_eq_some_iff.mp hv).1;have eu:W[k]? = some W[k]:=List.getElem?_eq_getElem (by omega);rw[<- ih _ eu];obtain⟨sx,sy⟩:=ws k _ v eu hv;have mu:=List.mem_of_getElem? eu;have mv:=List.mem_of_getElem? hv;obtain⟨⟨u1,u2⟩,u3,u4⟩:=win _ mu;obtain⟨⟨v1,v2⟩,v3,v4⟩:=win _ mv;obtain⟨i,i0,i1,⟨a1,a2⟩,a3,a4⟩:=fit hN sx u1 u2 v1 v2;obtain⟨j,j0,j1,⟨b1,b2⟩,b3,b4⟩:=fit hM sy u3 u4 v3 v4;rw[jP S i0 i1 j0 j1 a1 a2 b1 b2 (off _ mu),jP S i0 i1 j0 j1 a3 a4 b3 b4 (off _ mv)]
 have e:=same _ _ eWl;rw[w0 _ eW0,wl _ eWl]at e;have mf:=List.mem_of_getElem? S.h0;have ml:=List.mem_of_getElem? S.hl;have o0:=off _ (List.mem_of_getElem? eW0);rw[w0 _ eW0]at o0;have last:dB G f l (N:Rat) (M:Rat)=false:=by
  unfold dB ext;rw[nj fun p hp=>(S.gin p hp).1.2,decide_eq_false (show ¬(N:Rat)<f.1 by have:=(S.gin f mf).1.2;grind),decide_eq_true (show l.2≤(M:Rat) from(S.gin l ml).2.2)]
  split <;> rfl
 have first:dB G f l 0 0=true:=by
  unfold dB ext;rw[nk S.h0 S.hl fun j a b ea eb ne=>by
   rcases Classical.em (0<a.1) with z|z
   ·exact z
   ·exfalso
    have a0:=(S.gin a (List.mem_of_getElem? ea)).1.1;have ea1:a.1=0:=by grind
    have ya:=(S.gin a (List.mem_of_getElem? ea)).2.1;have yb:=(S.gin b (List.mem_of_getElem? eb)).2.1;rcases S.st.st j a b ea eb with h|h
    ·have h1:=h.1
     refine o0 (.inr ⟨j,a,b,ea,eb,.inl ⟨by show a.1≤0;grind,by show 0≤b.1;grind⟩,?_⟩);rcases Classical.em (a.2≤0) with y|y
     ·exact .inl ⟨y,yb⟩
     ·rcases Classical.em (b.2≤0) with x|x
      ·exact .inr ⟨x,ya⟩
      ·rw[decide_eq_false y,decide_eq_false x]at ne
       exact absurd rfl ne
    ·rw[h.1]at ne
     exact ne rfl]
  have key:(decide (f.2≤0))=(decide ((0:Rat)<f.1) && decide (f.2≤0)):=by
   rcases Classical.em (f.2≤0) with y|y
   ·have y0:=(S.gin f mf).2.1
    have x0:=(S.gin f mf).1.1;have:(0:Rat)<f.1:=by
     rcases Classical.em ((0:Rat)<f.1) with z|z
     ·exact z
     ·exact absurd (.inl (by rw[show((0:Rat),(0:Rat))=f from Prod.ext (show(0:Rat)=f.1 by grind) (show(0:Rat)=f.2 by grind)];exact mf)) o0
    rw[decide_eq_true y,decide_eq_true this];rfl
   ·rw[decide_eq_false y,Bool.and_false]
  rw[<- key];rcases Classical.em (l.2=0) with z|z
  ·rw[if_pos z,decide_eq_true (show l.2≤0 by grind)]
   generalize decide (f.2≤0)=u;revert u;decide
  ·rw[if_neg z]
   generalize decide (f.2≤0)=u;generalize decide (l.2≤0)=v;revert u v;decide
 have e':dB G f l (N:Rat) (M:Rat)=dB G f l 0 0:=e;rw[last,first]at e'
 cases e'
end Crs
namespace Hd
open PySem PySem.W PySem.Spec L2
def rN(o:Obj):Bool:=match o.data with
 | .freed=>false
 | _=>true
def oD:Nat->List Obj->Frag
 | _,[]=>[]
 | n,a::r=>bif rN a then (n,a)::oD (n+1) r else oD (n+1) r
theorem nq:∀(l:List Obj) (n a:Nat) (o:Obj),(oD n l).lookup a=some o->n≤a∧l[a - n]? = some o∧rN o=true
 | [],_,_,_,e=>by cases e
 | x::r,n,a,o,e=>by
  have up:(oD (n+1) r).lookup a=some o->n≤a∧(x::r)[a - n]? = some o∧rN o=true:=fun e=>by
   obtain⟨h1,h2,h3⟩:=nq r (n+1) a o e;refine⟨by omega,?_,h3⟩;have:a - n=(a - (n+1))+1:=by omega
   rw[this];exact h2
  unfold oD at e;cases hl:rN x with
  | false =>
   rw[hl]at e;exact up e
  | true =>
   rw[hl,cond_true,List.lookup_cons]at e;cases hb:a == n with
   | true =>
    rw[hb]at e;have hb:=beq_iff_eq.mp hb;subst hb;cases e;exact⟨Nat.le_refl _,by simp,hl⟩
   | false =>
    rw[hb]at e;exact up e
def frag(h:Heap):Frag:=oD 0 h.objs.toList
theorem sk(h:Heap):(frag h).In h:=by
 intro a o e;obtain⟨_,q,hl⟩:=nq _ _ _ _ e;have q:h.objs[a]? = some o:=by simpa using q
 unfold Heap.get?;rw[q];obtain⟨c,d,dt,sl⟩:=o;cases dt <;> first|rfl|cases hl
def fnFact(K:Frag)(x:Str):Option (Arguments×List Stmt×Scope×Value):=match nsIn K mainGlobals x with
 | some (some (.ref f))=>(match K.lookup f with
  | some ⟨_,_,.func fd,_⟩=>(match fd.body,fd.closure with
   | .stmts b,[]=>bif (fd.name == x && (fd.qualname == x && (Nat.beq fd.globals mainGlobals && (Nat.beq fd.builtins builtinsNs && codeIn K fd.code x)))) then some (fd.params,b,fd.scope,fd.defaults) else none
   | _,_=>none)
  | _=>none)
 | _=>none
theorem im{K:Frag}{x:Str}{a:Arguments}{b:List Stmt}{sc:Scope}{dv:Value}(e:fnFact K x=some (a,b,sc,dv)) :
  ∃(f:Addr) (oc:Value) (od:Option Addr) (kV doc pm:Value) (an:Option Addr) (cdv ct:Value) (osl:Array (Option Value)),
   nsIn K mainGlobals x=some (some (.ref f))∧K.lookup f=some ⟨oc,od,.func (fnOf x x a b sc dv kV doc pm an cdv ct),osl⟩∧codeIn K cdv x=true∧keepIn K (.ref f)=true:=by
 unfold fnFact at e
 split at e
 ·rename_i f hf
  split at e
  ·rename_i oc od fd osl hl
   split at e
   ·rename_i b' hb hc
    cases hq:(fd.name == x && (fd.qualname == x && (Nat.beq fd.globals mainGlobals && (Nat.beq fd.builtins builtinsNs && codeIn K fd.code x)))) with
    | false=>rw[hq]at e;cases e
    | true =>
     rw[hq]at e;simp only[Bool.and_eq_true]at hq;obtain⟨h1,h2,h3,h4,h5⟩:=hq
     replace h1:=eq_of_beq h1
     replace h2:=eq_of_beq h2
     replace h3:=Nat.eq_of_beq_eq_true h3
     replace h4:=Nat.eq_of_beq_eq_true h4
     simp only[cond_true,Option.some.injEq,Prod.mk.injEq]at e;obtain⟨e1,e2,e3,e4⟩:=e;obtain⟨n,qn,ps,bd,s,gl,cl,df,kw,dc,pm,an,cd,ct,bl⟩:=fd;simp only at h1 h2 h3 h4 h5 e1 e2 e3 e4 hb hc;subst h1 h2 h3 h4 e1 e2 e3 e4 hb hc;refine⟨f,oc,od,kw,dc,pm,an,cd,ct,osl,hf,hl,h5,?_⟩;unfold keepIn;dsimp only;rw[hl]
   ·cases e
  ·cases e
 ·cases e
theorem df_of{K:Frag}{mg:Str->Option Value}{h:Heap}{x:Str}{st:Stmt}(X:K.In h)(G:h.Ns mainGlobals mg)(e:fnFact K x=some (aU st,az st,ag st,.none)):Df K mg x st:=by
 obtain⟨f,oc,od,kV,doc,pm,an,cdv,ct,osl,h1,h2,h3,h4⟩:=im e;exact vm X G h1 h2 h3 h4
def oe:Value->V
 | .none=>.non
 | .bool b=>.bl b
 | .int i _=>.int i
 | .str x _=>.str x
 | .bytes b _=>.byt b
 | .float b _=>.flt b
 | .ref a=>.ref a
 | .type n=>.ty n
 | _=>.ty "no plain value"
def gU:Value->Bool
 | .ellipsis | .notImplemented | .builtin _=>false
 | _=>true
theorem oW:∀{v:Value},gU v=true->bj (oe v) v
 | .none,_=>rfl
 | .bool _,_=>rfl
 | .int _ t,_=>⟨t,rfl⟩
 | .str _ t,_=>⟨t,rfl⟩
 | .bytes _ t,_=>⟨t,rfl⟩
 | .float _ t,_=>⟨t,rfl⟩
 | .ref _,_=>rfl
 | .type _,_=>rfl
 | .ellipsis,h=>by cases h
 | .notImplemented,h=>by cases h
 | .builtin _,h=>by cases h
theorem gR:∀{l:List Value},l.all gU=true->aM (l.map oe) l
 | [],_=>.nil
 | _::_,h=>by
  rw[List.all_cons,Bool.and_eq_true]at h;exact .cons (oW h.1) (gR h.2)
def pj(K:Frag)(v:Value):Option (List V):=match v with
 | .ref a=>(match K.lookup a with
  | some ⟨_,_,.seq its _,_⟩=>bif its.toList.all gU then some (its.toList.map oe) else none
  | _=>none)
 | _=>none
theorem mF{K:Frag}{v:Value}{ds:List V}(e:pj K v=some ds):∃(a:Addr) (o:Obj) (its:List Value) (n:Nat),v = .ref a∧K.lookup a=some o∧o.data = .seq its.toArray n∧aM ds its:=by
 unfold pj at e
 split at e
 ·rename_i a
  split at e
  ·rename_i oc od its n osl hl
   cases hq:its.toList.all gU with
   | false=>rw[hq]at e;cases e
   | true =>
    rw[hq]at e;cases e;exact⟨a,_,its.toList,n,rfl,hl,rfl,gR hq⟩
  ·cases e
 ·cases e
def fnFactD(K:Frag)(x:Str):Option (Arguments×List Stmt×Scope×List V):=match fnFact K x with
 | some (a,b,s,dv)=>(match pj K dv with
  | some ds=>some (a,b,s,ds)
  | none=>none)
 | none=>none
theorem dfd_of{K:Frag}{mg:Str->Option Value}{h:Heap}{x:Str}{st:Stmt}{ds:List V}(X:K.In h)(G:h.Ns mainGlobals mg)(e:fnFactD K x=some (aU st,az st,ag st,ds)):Cj K mg x st ds:=by
 unfold fnFactD at e
 split at e
 ·rename_i a b s dv hf
  split at e
  ·rename_i ds' hs
   simp only[Option.some.injEq,Prod.mk.injEq]at e;obtain⟨e1,e2,e3,e4⟩:=e;subst e1 e2 e3 e4;obtain⟨f,oc,od,kV,doc,pm,an,cdv,ct,osl,h1,h2,h3,h4⟩:=im hf;obtain⟨T,oT,its,n,rfl,hl,hd,hv⟩:=mF hs;exact uk X G h1 h2 h3 h4 hl hd hv
  ·cases e
 ·cases e
def cls(K:Frag)(x:Str):Addr:=match nsIn K mainGlobals x with
 | some (some (.ref C))=>C
 | _=>0
def excFact(K:Frag)(x:Str):Bool:=match nsIn K mainGlobals x with
 | some (some (.ref C))=>excIn K C [.type "ValueError",.type "Exception",.type "BaseException",.type "object"] "ValueError.__new__"
 | _=>false
theorem exc_of{K:Frag}{mg:Str->Option Value}{h:Heap}{x:Str}(X:K.In h)(G:h.Ns mainGlobals mg)(e:excFact K x=true):Al K mg x (cls K x):=by
 unfold excFact at e
 split at e
 ·rename_i C hC
  have:cls K x=C:=by unfold cls;rw[hC]
  rw[this];exact ug X G hC e
 ·cases e
def tupFact(K:Frag)(x:Str):Option (List V):=match nsIn K mainGlobals x with
 | some (some (.ref a))=>(match K.lookup a with
  | some ⟨.type "tuple",_,.seq its _,_⟩=>bif its.toList.all gU then some (its.toList.map oe) else none
  | _=>none)
 | _=>none
theorem tup_of{K:Frag}{x:Str}{ds:List V}(e:tupFact K x=some ds):∃(a:Addr) (od:Option Addr) (its:List Value) (n:Nat) (osl:Array (Option Value)),nsIn K mainGlobals x=some (some (.ref a))∧K.lookup a=some ⟨.type "tuple",od,.seq its.toArray n,osl⟩∧aM ds its:=by
 unfold tupFact at e
 split at e
 ·rename_i a ha
  split at e
  ·rename_i od its n osl hl
   cases hq:its.toList.all gU with
   | false=>rw[hq]at e;cases e
   | true =>
    rw[hq]at e;cases e;exact⟨a,od,its.toList,n,osl,ha,hl,gR hq⟩
  ·cases e
 ·cases e
def noFact(K:Frag)(x:Str):Bool:=match nsIn K mainGlobals x with
 | some none=>true
 | _=>false
theorem no_of{K:Frag}{x:Str}(e:noFact K x=true):nsIn K mainGlobals x=some none:=by
 unfold noFact at e
 split at e
 ·rename_i h
  exact h
 ·cases e
theorem at_map{α β:Type}{f g:α->β}{l:List α}(e:l.map f=l.map g)(i:Nat){a:α}(h:l[i]? = some a):f a=g a:=by
 have q:=congrArg (fun l:List β=>l[i]?) e;simp only[List.getElem?_map,h,Option.map_some,Option.some.injEq]at q;exact q
theorem at_all{α:Type}{f:α->Bool}{l:List α}(e:l.all f=true)(i:Nat){a:α}(h:l[i]? = some a):f a=true :=
 List.all_eq_true.mp e a (List.mem_of_getElem? h)
def hook{α:Type}(facts:Frag->α)(val:α):Hook :=
 ⟨α,fun s=>facts (frag s.heap),fun _=>val,fun _ h=>∃K:Frag,K.In h∧facts K=val,fun _ s e=>⟨_,sk s.heap,e⟩,fun _ _ _ ⟨K,hi,e⟩ k=>⟨K,Frag.In.keeps hi k,e⟩⟩
theorem law_walk{l:OpenLaw}{k:Nat}{q:Program}{loose:List Str}{XP:(Str->Option Value)->Heap->Prop}{d:DefRec}{α:Type}{facts:Frag->α}{val:α}(hk:xF k callerA)(hn:l.most=some 63)(hdf:d.params.defaults = [])
  (F:∀(K:Frag),facts K=val->∀(w:World) (mg:Str->Option Value) (fa:Addr) (h:Heap),K.In h->h.Ns mainGlobals mg->mg d.name=some (.ref fa) ->
   ∃fd:FuncData,(∀(s:Shared) (u:Value),BindsTo s fd ⟨[u],[]⟩ [("script",u)])∧∀base:Heap,K.In base->base.Ns mainGlobals mg->Aj l.prog w K mg base CX0 k fa fd ["script"] (lh K)) :
  WalkO q loose XP (Hook.says (hook facts val)) l.row.toRowW d [] (fun f vs=>PySem.call f vs):=by
 intro w s₀ s₁ mg mb G Y;obtain⟨K,hin,hf⟩:=Y;exact L2.law_walk (l:=l) (k:=k) (q:=q) (loose:=loose) (XP:=XP) (YP:=fun _ h=>K.In h) (d:=d) (K:=fun _=>K) hk hn hdf (fun _ _ y=>y) (fun w mg fa h=>F K hf w mg fa h) w s₀ s₁ mg mb G hin
end Hd
namespace Hd
open PySem PySem.W PySem.Spec L2
theorem vals_sz{ds:List V}{its:List Value}(u:aM ds its)(h:ds.length≤100):its.toArray.size≤100:=by
 rw[List.size_toArray,<- u.length];exact h
end Hd
namespace L2
open PySem PySem.Spec PyProof.Rows
structure BG(K:W.Frag)(mg:Str->Option Value)(x y:Str)(st:Stmt):Prop where
 ex:∃(f:Addr) (oc:Value) (od:Option Addr) (kV doc pm:Value) (an:Option Addr) (cdv ct:Value) (osl:Array (Option Value)),
  mg x=some (.ref f)∧K.lookup f=some ⟨oc,od,.func (W.fnOf y y (aU st) (az st) (ag st) .none kV doc pm an cdv ct),osl⟩∧W.codeIn K cdv y=true∧W.keepIn K (.ref f)=true
theorem ul{K:W.Frag}{mg:Str->Option Value}{h:Heap}{x y:Str}{st:Stmt}{f:Addr}{oc:Value}{od an:Option Addr}{osl:Array (Option Value)}{kV doc pm cdv ct:Value}(X:K.In h)(G:h.Ns mainGlobals mg)
  (a:W.nsIn K mainGlobals x=some (some (.ref f))) (l:K.lookup f=some ⟨oc,od,.func (W.fnOf y y (aU st) (az st) (ag st) .none kV doc pm an cdv ct),osl⟩) (c:W.codeIn K cdv y=true) (k:W.keepIn K (.ref f)=true) :
  BG K mg x y st:=⟨⟨f,oc,od,kV,doc,pm,an,cdv,ct,osl,W.mg_of X G a,l,c,k⟩⟩
theorem BG.fn{P:Program}{w:World}{K:W.Frag}{mg:Str->Option Value}{base:Heap}{x y:Str}{st:Stmt}{N ps:List Str}{k:Nat}{sp:Sp}(D:BG K mg x y st)(S:vL N ps (ag st))
  (hbind:∀(kV doc pm:Value) (an:Option Addr) (cdv ct:Value) (us:List Value),us.length=ps.length->bindArgs (W.fnOf y y (aU st) (az st) (ag st) .none kV doc pm an cdv ct) ⟨us,[]⟩=pure (ps.zip us))
  (len:∀vs H Q E,sp vs H Q E->vs.length=ps.length)
  (hbody:∀(f:Addr) (cdv:Value) (A:Around) (outer:List Env) (s:Shared) (H:Hp) (vs:List V) (Q:VK) (E:XK),xF k (A.deeper (envOfC y (ag st) s.heap.objs.size f cdv))->sp vs H Q E ->
   ∃t,PSs (bD CX0 P w K mg base N y (ag st) f cdv A outer s H E).nox (az st) t∧t { nx:=fun _ H'=>Q .non H',rt:=Q } (eQ N vs) H):Fn P w K mg base x ps (k+1) sp:=by
 obtain⟨f,oc,od,kV,doc,pm,an,cdv,ct,osl,hm,lk,hcd,hk⟩:=D.ex;refine⟨⟨f,_,_,hm,hk,hbind kV doc pm an cdv ct,⟨lk,rfl⟩,nR lk hcd S len fun A outer s H vs Q E hr hsp=>?_⟩⟩;obtain⟨t,h,q⟩:=hbody f cdv A outer s H vs Q E hr hsp;exact⟨t,h.nox,q⟩
end L2
namespace Hd
open PySem PySem.W PySem.Spec L2
theorem pair2{α β:Type _}{a a':α}{b b':β}(h:a=a')(g:b=b'):(a,b)=(a',b'):=by rw[h,g]
def fnFactA(K:Frag)(x y:Str):Option (Arguments×List Stmt×Scope×Value):=match nsIn K mainGlobals x with
 | some (some (.ref f))=>(match K.lookup f with
  | some ⟨_,_,.func fd,_⟩=>(match fd.body,fd.closure with
   | .stmts b,[]=>bif (fd.name == y && (fd.qualname == y && (Nat.beq fd.globals mainGlobals && (Nat.beq fd.builtins builtinsNs && codeIn K fd.code y)))) then some (fd.params,b,fd.scope,fd.defaults) else none
   | _,_=>none)
  | _=>none)
 | _=>none
theorem kU{K:Frag}{x y:Str}{a:Arguments}{b:List Stmt}{sc:Scope}{dv:Value}(e:fnFactA K x y=some (a,b,sc,dv)) :
  ∃(f:Addr) (oc:Value) (od:Option Addr) (kV doc pm:Value) (an:Option Addr) (cdv ct:Value) (osl:Array (Option Value)),
   nsIn K mainGlobals x=some (some (.ref f))∧K.lookup f=some ⟨oc,od,.func (fnOf y y a b sc dv kV doc pm an cdv ct),osl⟩∧codeIn K cdv y=true∧keepIn K (.ref f)=true:=by
 unfold fnFactA at e
 split at e
 ·rename_i f hf
  split at e
  ·rename_i oc od fd osl hl
   split at e
   ·rename_i b' hb hc
    cases hq:(fd.name == y && (fd.qualname == y && (Nat.beq fd.globals mainGlobals && (Nat.beq fd.builtins builtinsNs && codeIn K fd.code y)))) with
    | false=>rw[hq]at e;cases e
    | true =>
     rw[hq]at e;simp only[Bool.and_eq_true]at hq;obtain⟨h1,h2,h3,h4,h5⟩:=hq
     replace h1:=eq_of_beq h1
     replace h2:=eq_of_beq h2
     replace h3:=Nat.eq_of_beq_eq_true h3
     replace h4:=Nat.eq_of_beq_eq_true h4
     simp only[cond_true,Option.some.injEq,Prod.mk.injEq]at e;obtain⟨e1,e2,e3,e4⟩:=e;obtain⟨n,qn,ps,bd,s,gl,cl,df,kw,dc,pm,an,cd,ct,bl⟩:=fd;simp only at h1 h2 h3 h4 h5 e1 e2 e3 e4 hb hc;subst h1 h2 h3 h4 e1 e2 e3 e4 hb hc;refine⟨f,oc,od,kw,dc,pm,an,cd,ct,osl,hf,hl,h5,?_⟩;unfold keepIn;dsimp only;rw[hl]
   ·cases e
  ·cases e
 ·cases e
theorem dfa_of{K:Frag}{mg:Str->Option Value}{h:Heap}{x y:Str}{st:Stmt}(X:K.In h)(G:h.Ns mainGlobals mg)(e:fnFactA K x y=some (aU st,az st,ag st,.none)):BG K mg x y st:=by
 obtain⟨f,oc,od,kV,doc,pm,an,cdv,ct,osl,h1,h2,h3,h4⟩:=kU e;exact ul X G h1 h2 h3 h4
end Hd
namespace Hd
open PySem PySem.W PySem.Spec L2
end Hd
namespace Hd
open PySem PySem.W PySem.Spec L2
end Hd
local macro_rules | `(tactic| walk_at "bt")=>`(tactic| first
 | assumption
 | (apply L2.bits_mul <;> walk_at "bt")
 | (apply L2.bits_add2 <;> walk_at "bt")
 | (apply L2.bits_sub2 <;> walk_at "bt")
 | (apply L2.bits_neg;walk_at "bt")
 | (apply L2.bits_abs;walk_at "bt")
 | exact L2.bits_lit)
local macro_rules | `(tactic| walk_at "bl")=>`(tactic| (apply L2.bits_of_le;(walk_at "bt");decide))
local macro_rules | `(tactic| walk_at "cm")=>`(tactic| first
 | exact L2.CM.l ⟨by decide,by decide⟩
 | exact L2.CM.r ⟨by decide,by decide⟩
 | (apply L2.CM.of;(walk_at "bt");(walk_at "bt");decide))
local macro_rules | `(tactic| walk_at "at")=>`(tactic| first
 | assumption
 | exact L2.upd_same
 | (refine L2.Same.at (by assumption) ?_;walk_at "at")
 | (refine L2.SameT.at (by assumption) ?_;walk_at "at"))
local macro_rules | `(tactic| walk_at "sm")=>`(tactic| first
 | assumption
 | exact L2.Same.rfl'
 | (refine L2.Same.trans ?_ (by assumption);walk_at "sm"))
local macro_rules | `(tactic| walk_at "kn")=>`(tactic| first
 | assumption
 | exact⟨_,.int _⟩|exact⟨_,.bl _⟩|exact⟨_,.str _⟩|exact⟨_,.non⟩
 | exact⟨_,.tup (by walk_at "at")⟩|exact⟨_,.lst (by walk_at "at")⟩|exact⟨_,.dict (by walk_at "at")⟩)
local macro_rules | `(tactic| walk_at "nice")=>`(tactic| first
 | exact L2.nice_int|exact L2.nice_bool|exact L2.nice_tuple|exact L2.nice_list|exact L2.nice_str)
local macro_rules | `(tactic| walk_at "th")=>`(tactic| first
 | assumption
 | exact Sp1.th_flat .non (fun p e=>nomatch e)|exact Sp1.th_flat (.int _) (fun p e=>nomatch e)|exact Sp1.th_flat (.bl _) (fun p e=>nomatch e)|exact Sp1.th_flat (.str _) (fun p e=>nomatch e)
 | exact Sp1.th_lst (by walk_at "at")
 | (refine' Sp1.th_tup ?hat ?hkn;(case hat=>walk_at "at");(case hkn=>(simp only[List.mem_cons,List.not_mem_nil,or_false,forall_eq_or_imp,forall_eq,false_imp_iff,implies_true];(try (first|(walk_at "kn")|(repeat' apply And.intro) <;> walk_at "kn")))))
 )
local macro_rules | `(tactic| walk_at "r1")=>`(tactic| first
 | (refine⟨_,rfl,?_⟩)
 | (refine⟨_,_,rfl,rfl,?_⟩)
 | (refine⟨_,_,rfl,rfl,by walk_at "cm",?_⟩)
 | (refine⟨_,_,rfl,rfl,(by show(0:Int)<_;decide),?_⟩)
 | (refine⟨_,_,rfl,rfl,⟨by decide,by decide⟩,?_⟩)
 | (refine⟨_,_,rfl,rfl,⟨by decide,by decide,by decide⟩,?_⟩)
 | (refine' ⟨_,_,_,_,rfl,rfl,L2.SqT.of ?hat,?hix,?nxt⟩;(case hat=>walk_at "at");(case hix=>exact rfl))
 | (refine' ⟨_,_,_,_,rfl,rfl,L2.SqL.of ?hat,?hix,?nxt⟩;(case hat=>walk_at "at");(case hix=>exact rfl))
 | (refine⟨by walk_at "cm",?_⟩)
 | (refine⟨(by show(0:Int)<_;decide),?_⟩)
 | (refine⟨⟨by decide,by decide⟩,?_⟩)
 | (refine⟨⟨by decide,by decide,by decide⟩,?_⟩)
 | (refine⟨Sp1.sz (by simp),fun _ _ _ _ _=>?_⟩)
 | (refine⟨Sp1.sz (by simp),L2.alloc fun _ _ _ _=>?_⟩)
 | (refine' ⟨_,_,_,_,rfl,rfl,?hat,?hbt,Sp1.sz ?hsz,fun _ _ _ _ _=>?nxt⟩;(case hat=>walk_at "at");(case hbt=>walk_at "at");(case hsz=>simp))
 | (refine' ⟨_,_,_,_,rfl,rfl,?hat,?hbt,Sp1.sz ?hsz,L2.alloc fun _ _ _ _=>?nxt⟩;(case hat=>walk_at "at");(case hbt=>walk_at "at");(case hsz=>simp))
 | (refine' ⟨_,_,rfl,.inl (L2.SqL.of ?hat),?nxt⟩;(case hat=>walk_at "at"))
 | (refine' ⟨_,_,rfl,.inr (L2.SqT.of ?hat),?nxt⟩;(case hat=>walk_at "at"))
 | (refine' L2.alloc fun _ _ _ _=>?nxt))
local macro_rules | `(tactic| walk_at "rd")=>`(tactic| repeat (walk_at "r1"))
namespace K19
open PySem PySem.Spec L2 Mth Sp1 Sp2 Sp11 Sp7 Dr Wk Fnc
def top(i:Nat):Stmt:=Challenge.pw_oneleash_k19_whole_no_walk_below_a_fence.main.body.getD i (.Pass ⟨0,0,0,0⟩)
def iO:List (Str×Nat):=[(Str.ofString "is_whole",8),(Str.ofString "common_divisor",9),(Str.ofString "plus",11),(Str.ofString "minus",12),(Str.ofString "times",13),(Str.ofString "over",14),(Str.ofString "less",15),(Str.ofString "floor_of",16),(Str.ofString "number_of_least",17),(Str.ofString "number_of_greatest",18),(Str.ofString "is_ratio",19),(Str.ofString "last_of",21),(Str.ofString "is_place",23),(Str.ofString "look_at_place",24),(Str.ofString "is_pair",25),(Str.ofString "are_pairs",26),(Str.ofString "number_at",27),(Str.ofString "point_at",28),(Str.ofString "share_a_stretch",29)]
def iM:List (Str×Nat):=[(Str.ofString "step_from",30),(Str.ofString "inner_product",31),(Str.ofString "square_between",32),(Str.ofString "square_of",33),(Str.ofString "nearest_part",34),(Str.ofString "least_along",35),(Str.ofString "look_at_way",38),(Str.ofString "steps_back",42),(Str.ofString "keeps_corner",43),(Str.ofString "slides",44),(Str.ofString "has_whole_places",45),(Str.ofString "hops_aside",46),(Str.ofString "is_measured_between",52),(Str.ofString "least_between",53),(Str.ofString "slide_square",54),(Str.ofString "measured_squares",55),(Str.ofString "goes_on",60),(Str.ofString "goes_freely",61),(Str.ofString "hops",62)]
def iL:List (Str×Nat):=[(Str.ofString "_law_cell_at",70),(Str.ofString "_law_folded",71),(Str.ofString "_law_begun",72),(Str.ofString "_law_take",73),(Str.ofString "_law_wide",74),(Str.ofString "_law_drawn_line",75),(Str.ofString "_law_moved",76),(Str.ofString "_law_drawn_other",77),(Str.ofString "_law_lines",78),(Str.ofString "_law_divisor",79),(Str.ofString "_law_ratio",80),(Str.ofString "_law_below",81),(Str.ofString "_law_point_at",82),(Str.ofString "_law_square_of",83),(Str.ofString "_law_lesser",84),(Str.ofString "_law_foot",85),(Str.ofString "_law_least_along",86),(Str.ofString "_law_greater",87),(Str.ofString "_law_spot_on",88)]
def iK:List (Str×Nat):=[(Str.ofString "_law_any",89),(Str.ofString "_law_ahead",94),(Str.ofString "_law_home",95),(Str.ofString "_law_drawn_walk",96),(Str.ofString "_law_down",97),(Str.ofString "_law_over",98),(Str.ofString "_law_next",99),(Str.ofString "_law_ended",100),(Str.ofString "_law_drawn_fence",101),(Str.ofString "_law_drawn_way",102),(Str.ofString "_law_back",103),(Str.ofString "_law_measured",104),(Str.ofString "_law_fence_square",105),(Str.ofString "_law_walk_square",106),(Str.ofString "_law_also",107),(Str.ofString "_law_held",108),(Str.ofString "law",109)]
def iI:List (Str×Nat×List V):=[(Str.ofString "ratio",10,[.int 1]),(Str.ofString "is_fence",51,[.str "on"]),(Str.ofString "fence_square",56,[.str "on"]),(Str.ofString "is_walk",67,[.str "on"]),(Str.ofString "walk_square",68,[.str "on"])]
def vh:List Str:=[Str.ofString "NoRatio",Str.ofString "NoWay",Str.ofString "NoWalk",Str.ofString "NoFence",Str.ofString "NoPlace",Str.ofString "LeashError"]
def hNo:List Str:=[Str.ofString "abs",Str.ofString "all",Str.ofString "bool",Str.ofString "enumerate",Str.ofString "int",Str.ofString "isinstance",Str.ofString "len",Str.ofString "list",Str.ofString "max",Str.ofString "min",Str.ofString "range",Str.ofString "reversed",Str.ofString "str",Str.ofString "tuple",Str.ofString "zip"]
def rX:List (Str×List V):=[(Str.ofString "WAYS",[.str "on",.str "part",.str "free",.str "hops"])]
def iJ:List (Str×Str×Nat):=[(Str.ofString "has_right_ends_fences",Str.ofString "has_right_ends",40),(Str.ofString "may_step_fences",Str.ofString "may_step",47),(Str.ofString "has_right_steps_fences",Str.ofString "has_right_steps",49),(Str.ofString "has_right_ends_walks",Str.ofString "has_right_ends",58),(Str.ofString "may_step_walks",Str.ofString "may_step",63),(Str.ofString "has_right_steps_walks",Str.ofString "has_right_steps",65)]
def hF0(K:W.Frag):List (Option (Arguments×List Stmt×Scope×Value)):=iO.map (fun p=>Hd.fnFact K p.1)
def hG0:List (Option (Arguments×List Stmt×Scope×Value)):=iO.map (fun p=>some (aU (top p.2),az (top p.2),ag (top p.2),.none))
def hF1(K:W.Frag):List (Option (Arguments×List Stmt×Scope×Value)):=iM.map (fun p=>Hd.fnFact K p.1)
def hG1:List (Option (Arguments×List Stmt×Scope×Value)):=iM.map (fun p=>some (aU (top p.2),az (top p.2),ag (top p.2),.none))
def hF2(K:W.Frag):List (Option (Arguments×List Stmt×Scope×Value)):=iL.map (fun p=>Hd.fnFact K p.1)
def hG2:List (Option (Arguments×List Stmt×Scope×Value)):=iL.map (fun p=>some (aU (top p.2),az (top p.2),ag (top p.2),.none))
def hF3(K:W.Frag):List (Option (Arguments×List Stmt×Scope×Value)):=iK.map (fun p=>Hd.fnFact K p.1)
def hG3:List (Option (Arguments×List Stmt×Scope×Value)):=iK.map (fun p=>some (aU (top p.2),az (top p.2),ag (top p.2),.none))
def hF4(K:W.Frag):List (Option (Arguments×List Stmt×Scope×List V))×Bool×Bool×List (Option (List V))×List (Option (Arguments×List Stmt×Scope×Value)):=(iI.map (fun p=>Hd.fnFactD K p.1),vh.all (Hd.excFact K),hNo.all (Hd.noFact K),rX.map (fun p=>Hd.tupFact K p.1),iJ.map (fun p=>Hd.fnFactA K p.1 p.2.1))
def hG4:List (Option (Arguments×List Stmt×Scope×List V))×Bool×Bool×List (Option (List V))×List (Option (Arguments×List Stmt×Scope×Value)):=(iI.map (fun p=>some (aU (top p.2.1),az (top p.2.1),ag (top p.2.1),p.2.2)),true,true,rX.map (fun p=>some p.2),iJ.map (fun p=>some (aU (top p.2.2),az (top p.2.2),ag (top p.2.2),.none)))
def hFacts(K:W.Frag):(List (Option (Arguments×List Stmt×Scope×Value)))×(List (Option (Arguments×List Stmt×Scope×Value)))×(List (Option (Arguments×List Stmt×Scope×Value)))×(List (Option (Arguments×List Stmt×Scope×Value)))×(List (Option (Arguments×List Stmt×Scope×List V))×Bool×Bool×List (Option (List V))×List (Option (Arguments×List Stmt×Scope×Value))):=(hF0 (K),hF1 (K),hF2 (K),hF3 (K),hF4 (K))
def hGood:(List (Option (Arguments×List Stmt×Scope×Value)))×(List (Option (Arguments×List Stmt×Scope×Value)))×(List (Option (Arguments×List Stmt×Scope×Value)))×(List (Option (Arguments×List Stmt×Scope×Value)))×(List (Option (Arguments×List Stmt×Scope×List V))×Bool×Bool×List (Option (List V))×List (Option (Arguments×List Stmt×Scope×Value))):=(hG0,hG1,hG2,hG3,hG4)
def hView:Program:=W.view Challenge.pw_oneleash_k19_whole_no_walk_below_a_fence [109]
def hLoose:List Str:=[Str.ofString "LeashError",Str.ofString "NoRatio",Str.ofString "NoPlace",Str.ofString "NoWay",Str.ofString "NoWalk",Str.ofString "NoFence",Str.ofString "is_whole",Str.ofString "common_divisor",Str.ofString "ratio",Str.ofString "plus",Str.ofString "minus",Str.ofString "times",Str.ofString "over",Str.ofString "less",Str.ofString "floor_of",Str.ofString "number_of_least",Str.ofString "number_of_greatest",Str.ofString "is_ratio",Str.ofString "last_of",Str.ofString "is_place",Str.ofString "look_at_place",Str.ofString "is_pair",Str.ofString "are_pairs",Str.ofString "number_at",Str.ofString "point_at",Str.ofString "share_a_stretch",Str.ofString "step_from",Str.ofString "inner_product",Str.ofString "square_between",Str.ofString "square_of",Str.ofString "nearest_part",Str.ofString "least_along",Str.ofString "WAYS",Str.ofString "look_at_way",Str.ofString "has_right_ends",Str.ofString "has_right_ends_fences",Str.ofString "steps_back",Str.ofString "keeps_corner",Str.ofString "slides",Str.ofString "has_whole_places",Str.ofString "hops_aside",Str.ofString "may_step",Str.ofString "may_step_fences",Str.ofString "has_right_steps",Str.ofString "has_right_steps_fences",Str.ofString "is_fence",Str.ofString "is_measured_between",Str.ofString "least_between",Str.ofString "slide_square",Str.ofString "measured_squares",Str.ofString "fence_square",Str.ofString "has_right_ends_walks",Str.ofString "goes_on",Str.ofString "goes_freely",Str.ofString "hops",Str.ofString "may_step_walks",Str.ofString "has_right_steps_walks",Str.ofString "is_walk",Str.ofString "walk_square",Str.ofString "_law_cell_at",Str.ofString "_law_folded",Str.ofString "_law_begun",Str.ofString "_law_take",Str.ofString "_law_wide",Str.ofString "_law_drawn_line",Str.ofString "_law_moved",Str.ofString "_law_drawn_other",Str.ofString "_law_lines",Str.ofString "_law_divisor",Str.ofString "_law_ratio",Str.ofString "_law_below",Str.ofString "_law_point_at",Str.ofString "_law_square_of",Str.ofString "_law_lesser",Str.ofString "_law_foot",Str.ofString "_law_least_along",Str.ofString "_law_greater",Str.ofString "_law_spot_on",Str.ofString "_law_any",Str.ofString "_law_whole",Str.ofString "_law_is_ratio",Str.ofString "_law_is_place",Str.ofString "_law_near",Str.ofString "_law_ahead",Str.ofString "_law_home",Str.ofString "_law_drawn_walk",Str.ofString "_law_down",Str.ofString "_law_over",Str.ofString "_law_next",Str.ofString "_law_ended",Str.ofString "_law_drawn_fence",Str.ofString "_law_drawn_way",Str.ofString "_law_back",Str.ofString "_law_measured",Str.ofString "_law_fence_square",Str.ofString "_law_walk_square",Str.ofString "_law_also",Str.ofString "_law_held"]
noncomputable def hRunS(w:World):=(W.openEnds treeTable Challenge.pw_oneleash_k19_whole_no_walk_below_a_fence w 100000).map (fun s=>(W.openSeen hView hLoose (importedModules Challenge.pw_oneleash_k19_whole_no_walk_below_a_fence.main.body) (fun _=>true) true s,hF4 (Hd.frag s.heap)))
noncomputable def hEndS:=some ((W.openGood hView hLoose,hG4))
theorem hRunS_self:@hRunS = @hRunS:=rfl
theorem hEndS_self:@hEndS = @hEndS:=rfl
set_option maxHeartbeats 0 in
lay_quick K19.hRunS K19.hEndS
name_quick hRunSQ for K19.hRunS by K19.hRunS_self
name_quick hEndSQ for K19.hEndS by K19.hEndS_self
set_option maxHeartbeats 0 in
theorem rY(w:World):W.Fast.hRunSQ w=W.Fast.hEndSQ:=by kernel_rfl
theorem vc(w:World):hRunS w=hEndS:=(congrFun W.Fast.hRunSQ_eq w).trans ((rY w).trans W.Fast.hEndSQ_eq.symm)
noncomputable def hRun0(w:World):=(W.openEnds treeTable Challenge.pw_oneleash_k19_whole_no_walk_below_a_fence w 100000).map (fun s=>hF0 (Hd.frag s.heap))
noncomputable def hEnd0:=some (hG0)
theorem hRun0_self:@hRun0 = @hRun0:=rfl
theorem hEnd0_self:@hEnd0 = @hEnd0:=rfl
set_option maxHeartbeats 0 in
lay_quick K19.hRun0 K19.hEnd0
name_quick hRun0Q for K19.hRun0 by K19.hRun0_self
name_quick hEnd0Q for K19.hEnd0 by K19.hEnd0_self
set_option maxHeartbeats 0 in
theorem si(w:World):W.Fast.hRun0Q w=W.Fast.hEnd0Q:=by kernel_rfl
theorem vg(w:World):hRun0 w=hEnd0:=(congrFun W.Fast.hRun0Q_eq w).trans ((si w).trans W.Fast.hEnd0Q_eq.symm)
noncomputable def hRun1(w:World):=(W.openEnds treeTable Challenge.pw_oneleash_k19_whole_no_walk_below_a_fence w 100000).map (fun s=>hF1 (Hd.frag s.heap))
noncomputable def hEnd1:=some (hG1)
theorem hRun1_self:@hRun1 = @hRun1:=rfl
theorem hEnd1_self:@hEnd1 = @hEnd1:=rfl
set_option maxHeartbeats 0 in
lay_quick K19.hRun1 K19.hEnd1
name_quick hRun1Q for K19.hRun1 by K19.hRun1_self
name_quick hEnd1Q for K19.hEnd1 by K19.hEnd1_self
set_option maxHeartbeats 0 in
theorem sf(w:World):W.Fast.hRun1Q w=W.Fast.hEnd1Q:=by kernel_rfl
theorem vf(w:World):hRun1 w=hEnd1:=(congrFun W.Fast.hRun1Q_eq w).trans ((sf w).trans W.Fast.hEnd1Q_eq.symm)
noncomputable def hRun2(w:World):=(W.openEnds treeTable Challenge.pw_oneleash_k19_whole_no_walk_below_a_fence w 100000).map (fun s=>hF2 (Hd.frag s.heap))
noncomputable def hEnd2:=some (hG2)
theorem hRun2_self:@hRun2 = @hRun2:=rfl
theorem hEnd2_self:@hEnd2 = @hEnd2:=rfl
set_option maxHeartbeats 0 in
lay_quick K19.hRun2 K19.hEnd2
name_quick hRun2Q for K19.hRun2 by K19.hRun2_self
name_quick hEnd2Q for K19.hEnd2 by K19.hEnd2_self
set_option maxHeartbeats 0 in
theorem se(w:World):W.Fast.hRun2Q w=W.Fast.hEnd2Q:=by kernel_rfl
theorem ve(w:World):hRun2 w=hEnd2:=(congrFun W.Fast.hRun2Q_eq w).trans ((se w).trans W.Fast.hEnd2Q_eq.symm)
noncomputable def hRun3(w:World):=(W.openEnds treeTable Challenge.pw_oneleash_k19_whole_no_walk_below_a_fence w 100000).map (fun s=>hF3 (Hd.frag s.heap))
noncomputable def hEnd3:=some (hG3)
theorem hRun3_self:@hRun3 = @hRun3:=rfl
theorem hEnd3_self:@hEnd3 = @hEnd3:=rfl
set_option maxHeartbeats 0 in
lay_quick K19.hRun3 K19.hEnd3
name_quick hRun3Q for K19.hRun3 by K19.hRun3_self
name_quick hEnd3Q for K19.hEnd3 by K19.hEnd3_self
set_option maxHeartbeats 0 in
theorem rZ(w:World):W.Fast.hRun3Q w=W.Fast.hEnd3Q:=by kernel_rfl
theorem vd(w:World):hRun3 w=hEnd3:=(congrFun W.Fast.hRun3Q_eq w).trans ((rZ w).trans W.Fast.hEnd3Q_eq.symm)
theorem vG(w:World):(W.openEnds treeTable Challenge.pw_oneleash_k19_whole_no_walk_below_a_fence w 100000).map (fun s=>(W.openSeen hView hLoose (importedModules Challenge.pw_oneleash_k19_whole_no_walk_below_a_fence.main.body) (fun _=>true) true s,hFacts (Hd.frag s.heap)))=some (W.openGood hView hLoose,hGood):=by
 have rS:(W.openEnds treeTable Challenge.pw_oneleash_k19_whole_no_walk_below_a_fence w 100000).map (fun s=>(W.openSeen hView hLoose (importedModules Challenge.pw_oneleash_k19_whole_no_walk_below_a_fence.main.body) (fun _=>true) true s,hF4 (Hd.frag s.heap)))=some ((W.openGood hView hLoose,hG4)):=vc w;have r0:(W.openEnds treeTable Challenge.pw_oneleash_k19_whole_no_walk_below_a_fence w 100000).map (fun s=>hF0 (Hd.frag s.heap))=some (hG0):=vg w;have r1:(W.openEnds treeTable Challenge.pw_oneleash_k19_whole_no_walk_below_a_fence w 100000).map (fun s=>hF1 (Hd.frag s.heap))=some (hG1):=vf w;have r2:(W.openEnds treeTable Challenge.pw_oneleash_k19_whole_no_walk_below_a_fence w 100000).map (fun s=>hF2 (Hd.frag s.heap))=some (hG2):=ve w;have r3:(W.openEnds treeTable Challenge.pw_oneleash_k19_whole_no_walk_below_a_fence w 100000).map (fun s=>hF3 (Hd.frag s.heap))=some (hG3):=vd w
 skip
 generalize (W.openEnds treeTable Challenge.pw_oneleash_k19_whole_no_walk_below_a_fence w 100000)=x at *;cases x with
 | none=>cases rS
 | some s =>
  have zS:=Option.some.inj rS;have z0:=Option.some.inj r0;have z1:=Option.some.inj r1;have z2:=Option.some.inj r2;have z3:=Option.some.inj r3;show some (W.openSeen hView hLoose (importedModules Challenge.pw_oneleash_k19_whole_no_walk_below_a_fence.main.body) (fun _=>true) true s,hFacts (Hd.frag s.heap))=_;unfold hFacts hGood;have z:=(congrArg Prod.fst zS);have q4:=(congrArg Prod.snd zS);have q0:=z0;have q1:=z1;have q2:=z2;have q3:=z3;exact congrArg some (Hd.pair2 z (Hd.pair2 q0 (Hd.pair2 q1 (Hd.pair2 q2 (Hd.pair2 q3 q4)))))
structure Txt(mg:Str->Option Value):Prop where
 z_abs:mg "abs" = none
 z_all:mg "all" = none
 z_bool:mg "bool" = none
 z_enumerate:mg "enumerate" = none
 z_int:mg "int" = none
 z_isinstance:mg "isinstance" = none
 z_len:mg "len" = none
 z_list:mg "list" = none
 z_max:mg "max" = none
 z_min:mg "min" = none
 z_range:mg "range" = none
 z_reversed:mg "reversed" = none
 z_str:mg "str" = none
 z_tuple:mg "tuple" = none
 z_zip:mg "zip" = none
section
variable {P:Program} {w:World} {K:W.Frag} {mg:Str->Option Value} {base:Heap}
theorem gE{α:Type}{xs:List α}(h:xs.length=1):∃a,xs = [a]:=match xs,h with | [a],_=>⟨a,rfl⟩
inductive Ck (vs:List V) (H:Hp) (Q:VK) (x_3:XK):Prop
 | mk:∀(p q:Addr) (a b c d:Int),(vs = [.ref p,.ref q])->(H p=some (.tup [.int a,.int b]))->(H q=some (.tup [.int c,.int d]))->((ao a≤5000∧ao b≤5000∧ao c≤5000∧ao d≤5000))->(Q (.bl (decide (a*d<c*b))) H)->Ck vs H Q x_3
inductive BK (vs:List V) (H:Hp) (Q:VK) (x_3:XK):Prop
 | mk:∀(p p1 p2:Addr) (X Y b X1 Y1 b1 X2 Y2 b2:Int),(vs = [.ref p,.ref p1,.ref p2])->(AY H p X Y b 262)->(AY H p1 X1 Y1 b1 262)->(AY H p2 X2 Y2 b2 262)->(0<b)->(0<b1)->(0<b2)->(∀(r:Addr) (t u:Int) (H':Hp),yE H' r t u 4207->NP X Y b X1 Y1 b1 X2 Y2 b2 t u->Same H H'->Q (.ref r) H')->BK vs H Q x_3
def uE(l l':Addr)(qs qs':Crn)(t b l1 l2 h1 h2:Int)(H:Hp)(Q:VK):Prop:=ao b≤60∧ao l2≤60∧ao h2≤60∧InS qs'.length l1 l2 h1 h2 ∧
 ∀(r rs rp:Addr) (s w T B:Int) (H':Hp),H' r=some (.tup [.ref rs,.ref rp])->yE H' rs s w 2103->zw H' rp T B (aH qs')->LPc (ptX qs t b) (ptY qs t b) b qs' l1 l2 h1 h2 T B->l1*B≤T*l2->T*h2≤h1*B->vP (sqF qs t b qs' T B) (sqD b B) s w->Same H H'->Q (.ref r) H'
inductive Bj (C:Addr) (vs:List V) (H:Hp) (Q:VK) (E:XK):Prop
 | mk:∀(l l':Addr) (qs qs':Crn) (x y z:V),(vs = [.ref l,x,.ref l',y,z])->(vR H l qs)->(vR H l' qs')->((1≤qs.length∧qs.length≤20))->((1≤qs'.length∧qs'.length≤20))->(wW H x)->(wW H y)->(wW H z)->(((aO (aH qs) H x=false∧E (.ref C) none H)∨∃(p:Addr) (t b:Int),x = .ref p∧zw H p t b (aH qs) ∧
  ((aO (aH qs') H y=false∧∀H',Same H H'->E (.ref C) none H')∨∃(q:Addr) (l1 l2:Int),y = .ref q∧zw H q l1 l2 (aH qs') ∧
   ((aO (aH qs') H z=false∧∀H',Same H H'->E (.ref C) none H')∨∃(q':Addr) (h1 h2:Int),z = .ref q'∧zw H q' h1 h2 (aH qs')∧uE l l' qs qs' t b l1 l2 h1 h2 H Q))))->Bj C vs H Q E
theorem rj{p:Addr}{qs:Crn}{t b:Int}{H:Hp}{G:Prop}(pl:zw H p t b (aH qs))(z:aO ((qs.length:Int) - 1) H (.ref p)=false):G:=by
 rw[show aO ((qs.length:Int) - 1) H (.ref p)=true from pl.place]at z;cases z
theorem rh{p:Addr}{qs:Crn}{t b:Int}{H:Hp}{G:Addr->Hp->Prop}(pl:zw H p t b (aH qs))(k:∀(r:Addr) (H':Hp),AY H' r (ptX qs t b) (ptY qs t b) b 262->Same H H'->G r H')(p0:Addr)(t0 b0:Int)(e0:V.ref p = .ref p0)(eH:H p0=some (.tup [.int t0,.int b0]))(_:wS t0 b0)(_:0≤t0)(_:t0≤((qs.length:Int) - 1)*b0) :
  ao t0≤200∧ao b0≤200∧∀(r:Addr) (H':Hp),AY H' r (ptX qs t0 b0) (ptY qs t0 b0) b0 262->Same H H'->G r H':=by
 cases e0;have e2:=pl.at_;rw[eH]at e2;cases e2;exact⟨pl.bt,pl.bb,k⟩
theorem tP{qs:Crn}{x:V}{H:Hp}(no:aO (aH qs) H x=false){p0:Addr}{t0 b0:Int}(e0:x = .ref p0)(eH:H p0=some (.tup [.int t0,.int b0]))(lw:wS t0 b0)(t00:0≤t0)(t01:t0≤((qs.length:Int) - 1)*b0){G:Prop}:G:=by
 subst e0;rw[show aO (aH qs) H (.ref p0)=true from fF eH lw t00 t01]at no;cases no
theorem sT{H:Hp}{r:Addr}{u v c d:Int}{n:Nat}(p:Cs H r u v c d n):Rp H 9 (.ref r) (.tup [.tup [.int u,.int v],.tup [.int c,.int d]]):=by
 obtain⟨rx,ry,e,f,g⟩:=p.ex;exact Rp.t2 e (Rp.t2 f.at_ .int .int) (Rp.t2 g.at_ .int .int)
theorem iP{X1 b1 X2 b2 u1 v1 u2 v2:Int}(h1:b1≠0)(h2:b2≠0)(f:vP X1 b1 u1 v1)(g:vP X2 b2 u2 v2):X1*b2=X2*b1↔(u1=u2∧v1=v2):=by
 have e1:=eG f h1;have e2:=eG g h2;constructor
 ·intro h
  refine bq f.low g.low (jR (nzl f.low) (nzl g.low) ?_);rw[e1,e2];have q1:=cz h1;have q2:=cz h2;have h3:(X1:Rat)*(b2:Rat)=(X2:Rat)*(b1:Rat):=by rw[<- Rat.intCast_mul,<- Rat.intCast_mul,h]
  unfold rq
  grind
 ·rintro⟨rfl,rfl⟩
  exact jR h1 h2 (by rw[<- e1,<- e2])
theorem uc{x:Str}{ps:List Str}{k:Nat}{ds:List V}{sp sp':Sp}(F:Fx P w K mg base x ps k ds sp)(h:∀vs H Q E,sp' vs H Q E->sp vs H Q E):Fx P w K mg base x ps k ds sp':=by
 obtain⟨f,fd,its,h1,h2,h3,h4,h5,h6⟩:=F.ex;exact⟨⟨f,fd,its,h1,h2,h3,h4,h5,h6.imp h⟩⟩
theorem mG{C:Addr}(F:Fx P w K mg base "ratio" ["top","bottom"] 2 [.int 1] (xR C)):Fx P w K mg base "ratio" ["top","bottom"] 2 [.int 1] (Be C) :=
 uc F fun vs H Q E ⟨a,b,e,bd,h0,h1⟩=>⟨a,b,2000,e,⟨bd.1,bd.2,by decide⟩,h0,h1⟩
theorem uf{x:Str}{ps:List Str}{k:Nat}{sp sp':Sp}(F:Fn P w K mg base x ps k sp)(h:∀vs H Q E,sp' vs H Q E->sp vs H Q E):Fn P w K mg base x ps k sp':=by
 obtain⟨f,fd,o,h1,h2,h3,h4,h6⟩:=F.ex;exact⟨⟨f,fd,o,h1,h2,h3,h4,h6.imp h⟩⟩
theorem hJ(F:Fn P w K mg base "less" ["a","b"] 1 Ck):Fn P w K mg base "less" ["a","b"] 1 wY :=
 uf F fun vs H Q E ⟨p,q,a,b,c,d,e,h1,h2,⟨b1,b2,b3,b4⟩,k⟩=>⟨p,q,a,b,c,d,e,h1,h2,⟨af b1 (by decide),af b2 (by decide),af b3 (by decide),af b4 (by decide)⟩,k⟩
theorem smk{N M:List Str}{c:Scope}(a:c.kind=.function:=by rfl)(b:c.isCoroutine=false:=by rfl)(d:c.isGenerator=false:=by rfl)(e:N.Nodup:=by decide +kernel)(f:N.take M.length=M:=by rfl)(g:∀x∈M,c.names.lookup x=some .local∨c.names.lookup x=some .cell:=by decide +kernel)(h:∀y∈c.names,y.2≠.free:=by decide +kernel):vL N M c:=⟨a,b,d,e,f,g,h⟩
theorem BY:vL ["thing"] ["thing"] (ag (top 8)):=smk
theorem lU(zZ:Df K mg "is_whole" (top 8))(T:Txt mg):Fn P w K mg base "is_whole" ["thing"] 1 AI:=by
 refine zZ.fn BY (fun _ _ _ _ _ _ us hl=>by obtain⟨_,rfl⟩:=gE hl;rfl) (fun vs H Q E h=>?_) (fun f cdv A outer s H vs Q E hr h=>?_)
 ·obtain⟨x,t,rfl,_⟩:=h
  rfl
 ·obtain⟨x,t,rfl,k,q⟩:=h
  refine⟨_,(ah (am (bZ (aJ cJ (by rfl) T.z_isinstance cf (aa (pv 0) (aa (jS T.z_int qK) ad))) (bG (d9 (aJ cJ (by rfl) T.z_isinstance cf (aa (pv 0) (aa (jS T.z_bool sI) ad)))))))),?_⟩;refine⟨_,rfl,x,t,"int",rfl,k,.inl rfl,_,rfl,?_⟩;refine aw (fun hc=>?_) (fun hc=>?_)
  ·refine⟨_,rfl,x,t,"bool",rfl,k,.inr (.inl rfl),_,rfl,?_⟩
   rw[(jH k).1 hc];exact q
  ·rw[(jH k).2 hc]at q
   exact q
theorem wk:vL ["one","other","rest"] ["one","other"] (ag (top 9)):=smk
theorem gK(xO:Df K mg "common_divisor" (top 9))(T:Txt mg):Fn P w K mg base "common_divisor" ["one","other"] 1 Ci:=by
 refine xO.fn wk (fun _ _ _ _ _ _ us hl=>by obtain⟨_,_,rfl⟩:=cj hl;rfl) (fun vs H Q E h=>?_) (fun f cdv A outer s H vs Q E hr h=>?_)
 ·obtain⟨a,b,rfl,_⟩:=h
  rfl
 ·obtain⟨a,b,rfl,q⟩:=h
  refine⟨_,(ae (au (i:=0) wk.nd rfl (Or.inl rfl) (aJ fB (by rfl) T.z_abs jv (aa (pv 0) ad))) (ae (au (i:=1) wk.nd rfl (Or.inl rfl) (aJ fB (by rfl) T.z_abs jv (aa (pv 1) ad))) (ae (gz PassesOwn.never (aq dF (pv 1) ac (ar _)) (ae (au (i:=2) wk.nd rfl (Or.inl rfl) (ap cT (pv 0) (pv 1))) (ae (au (i:=0) wk.nd rfl (Or.inl rfl) (pv 1)) (ah (au (i:=1) wk.nd rfl (Or.inl rfl) (pv 2)))))) (ah (am (pv 0)))))),?_⟩;refine⟨_,rfl,a,rfl,_,rfl,b,rfl,?_⟩;refine gj (fun σ H'=>∃x y r,σ = [some (.int x),some (.int y),r]∧H'=H∧0≤x∧0≤y∧Int.gcd x y=Int.gcd a b)
   (fun σ _=>match σ with | [_,some (.int y),_]=>y.toNat|_=>0) ⟨_,_,_,rfl,rfl,jx a,jx b,by rw[nK,qo]⟩ ?_ ?_
  ·rintro σ H' ⟨x,y,r,rfl,rfl,hx,hy,hg⟩
   refine⟨_,rfl,rfl,_,rfl,?_⟩;refine aw (fun hc=>?_) (fun hc=>?_)
   ·have hy0:¬y=0:=by simpa using hc
    have hy1:0<y:=by omega
    refine⟨_,rfl,_,rfl,x,y,rfl,rfl,hy1,_,rfl,_,rfl,⟨y,x % y,_,rfl,rfl,hy,Int.emod_nonneg _ hy0,?_⟩,?_⟩
    ·rw[qm hx hy1]
     exact hg
    ·have h1:=Int.emod_lt_of_pos x hy1
     have h2:=Int.emod_nonneg x hy0;show(x % y).toNat<y.toNat;omega
   ·have hy0:y=0:=by simpa using hc
    subst hy0;refine⟨_,rfl,?_⟩;have e:(Int.gcd a b:Int)=x:=by rw[<- hg];exact gcd_zero hx
    rw[e]at q;exact q
  ·rintro σ H' Q1 Q2 hq ⟨v,e,hs,k,ek,r⟩
   exact⟨v,e,hs,k,ek,hq _ _ r⟩
theorem Br:vL ["top","bottom","divisor"] ["top","bottom"] (ag (top 10)):=smk
theorem qt{C:Addr}(Bv:Cj K mg "ratio" (top 10) [.int 1])(Aq:Al K mg "NoRatio" C)(xb:Fn P w K mg base "is_whole" ["thing"] 1 AI)(wq:Fn P w K mg base "common_divisor" ["one","other"] 1 Ci):Fx P w K mg base "ratio" ["top","bottom"] 2 [.int 1] (xR C):=by
 refine Bv.fx Br (fun T kV doc pm an cdv ct us its oT n s hv hl ho hs=>?_) (fun T kV doc pm an cdv ct us its oT n s hv hl ho hs=>?_) (fun vs H Q E h=>?_) (fun f cdv A outer s H vs Q E hr h=>?_)
 ·obtain⟨u,rfl,_⟩:=dj hv
  match us,hl with
  | [_,_],_=>exact BindsTo.of_defaults rfl ho hs rfl rfl
 ·obtain⟨u,rfl,_⟩:=dj hv
  have hl1:us.length=1:=by simpa using hl
  match us,hl1 with
  | [_],_=>exact BindsTo.of_defaults rfl ho hs rfl rfl
 ·obtain⟨a,b,nb,rfl,_⟩:=h
  rfl
 ·obtain⟨a,b,nb,rfl,⟨ba,bb,hnb⟩,k0,k1⟩:=h
  refine⟨_,(ae (aE (cK (ci (aS (ak xb (hr.mono (by decide)) (by rfl) (aa (pv 0) ad)))) (cK (ci (aS (ak xb (hr.mono (by decide)) (by rfl) (aa (pv 1) ad)))) (cq (aq aQ (pv 1) ac (ar _))))).pt (ah (eZ Aq (by rfl))) av) (ae (au (i:=2) Br.nd rfl (Or.inl rfl) (ak wq (hr.mono (by decide)) (by rfl) (aa (pv 0) (aa (pv 1) ad)))) (ae (aE (aq ll (pv 1) ac (ar _)) (ah (au (i:=2) Br.nd rfl (Or.inl rfl) (i7 fU (pv 2)))) av) (ah (am (mJ (aa (ap ln (pv 0) (pv 2)) (aa (ap ln (pv 1) (pv 2)) ad)))))))),?_⟩;refine⟨_,rfl,_,_,rfl,.int a,_,rfl,kC ?_⟩;refine⟨_,rfl,_,_,rfl,.int b,_,rfl,kC ?_⟩;refine⟨_,rfl,rfl,_,rfl,?_⟩;refine aw (fun hc=>?_) (fun hc=>?_)
  ·exact k0 (by simpa using hc)
  ·have hb:b≠0:=by simpa using hc
   have hg:=da (a:=a) (b:=b) hb;have bg:ao (Int.gcd a b:Int)≤8000:=af (jZ hb bb) (by omega);refine⟨_,rfl,_,rfl,a,b,rfl,?_⟩;refine⟨_,rfl,_,_,rfl,rfl,_,rfl,?_⟩;refine aw (fun hd=>?_) (fun hd=>?_)
   ·have hlt:b<0:=by simpa using hd
    refine⟨_,rfl,_,rfl,?_⟩;refine⟨_,rfl,_,rfl,_,_,rfl,rfl,⟨by omega,bits_neg bg⟩,_,rfl,_,rfl,_,_,rfl,rfl,⟨by omega,bits_neg bg⟩,sz (by simp),fun p hp=>?_⟩;exact k1 hb p _ _ (j4 hb _ (by rw[if_pos hlt])) (fN ba) (fN bb) hp
   ·have hlt:¬b<0:=by simpa using hd
    refine⟨_,rfl,_,rfl,_,_,rfl,rfl,⟨by omega,bg⟩,_,rfl,_,rfl,_,_,rfl,rfl,⟨by omega,bg⟩,sz (by simp),fun p hp=>?_⟩;exact k1 hb p _ _ (j4 hb _ (by rw[if_neg hlt])) (fN ba) (fN bb) hp
theorem B6:vL ["a"] ["a"] (ag (top 16)):=smk
theorem lY(Ad:Df K mg "floor_of" (top 16)):Fn P w K mg base "floor_of" ["a"] 1 AM:=by
 refine Ad.fn B6 (fun _ _ _ _ _ _ us hl=>by obtain⟨_,rfl⟩:=gE hl;rfl) (fun vs H Q E h=>?_) (fun f cdv A outer s H vs Q E hr h=>?_)
 ·obtain⟨p,a,b,rfl,_⟩:=h
  rfl
 ·obtain⟨p,a,b,rfl,hp,⟨hb,bb⟩,k⟩:=h
  refine⟨_,(ah (am (ap bH (aj ai (pv 0) ac (fun _ _=>rfl)) (aj ai (pv 0) ac (fun _ _=>rfl))))),?_⟩;exact⟨_,rfl,p,_,_,_,rfl,rfl,SqT.of hp,rfl,_,rfl,p,_,_,_,rfl,rfl,SqT.of hp,rfl,a,b,rfl,rfl,⟨hb,af bb (by decide)⟩,k⟩
theorem BZ:vL ["thing"] ["thing"] (ag (top 19)):=smk
theorem lV(Aa:Df K mg "is_ratio" (top 19))(xb:Fn P w K mg base "is_whole" ["thing"] 1 AI)(wq:Fn P w K mg base "common_divisor" ["one","other"] 1 Ci)(T:Txt mg):Fn P w K mg base "is_ratio" ["thing"] 2 CB:=by
 refine Aa.fn BZ (fun _ _ _ _ _ _ us hl=>by obtain⟨_,rfl⟩:=gE hl;rfl) (fun vs H Q E h=>?_) (fun f cdv A outer s H vs Q E hr h=>?_)
 ·obtain⟨x,rfl,_⟩:=h
  rfl
 ·obtain⟨x,rfl,th,q⟩:=h
  obtain⟨t,k⟩:=th.kn;refine⟨_,(ae (aE (cK (ci (aS (aJ cJ (by rfl) T.z_isinstance cf (aa (pv 0) (aa (jS T.z_tuple mi) ad))))) (cq (aq dF (aJ bz (by rfl) T.z_len dP (aa (pv 0) ad)) ac (ar _)))).pt (ah (am cI)) av) (ae (aE (cK (ci (aS (ak xb (hr.mono (by decide)) (by rfl) (aa (aj ai (pv 0) ac (fun _ _=>rfl)) ad)))) (cq (ci (aS (ak xb (hr.mono (by decide)) (by rfl) (aa (aj ai (pv 0) ac (fun _ _=>rfl)) ad)))))).pt (ah (am cI)) av) (ah (am (bZ (a7 sW (aj ai (pv 0) ac (fun _ _=>rfl)) ac (ar _)) (bG (a7 aQ (ak wq (hr.mono (by decide)) (by rfl) (aa (aj ai (pv 0) ac (fun _ _=>rfl)) (aa (aj ai (pv 0) ac (fun _ _=>rfl)) ad))) ac (ar _)))))))),?_⟩;refine⟨_,rfl,x,t,"tuple",rfl,k,.inr (.inr (.inl rfl)),_,rfl,?_⟩;rcases Kn.cases_tup k with⟨p,xs,rfl,e,rfl⟩|⟨hl,hs⟩
  ·-- a tuple
   rw[pV e]at q;refine kC ?_;refine⟨_,rfl,p,xs,rfl,.inr (SqT.of e),rfl,_,rfl,?_⟩;refine aw (fun hc=>?_) (fun hc=>?_)
   ·have hn:xs.length≠2:=by
     intro z;rw[z]at hc;exact absurd hc (by decide)
    rw[pY hn]at q;exact q
   ·have hn:xs.length=2:=by
     have z:(xs.length:Int)=2:=by simpa using hc
     omega
    match xs,hn,e,q with
    | [y,z],_,e,q =>
     obtain⟨ty,ky⟩:=th.parts p _ rfl e y (by simp);obtain⟨tz,kz⟩:=th.parts p _ rfl e z (by simp);refine⟨_,rfl,p,_,_,_,rfl,rfl,SqT.of e,rfl,y,ty,rfl,ky,_,rfl,?_⟩;rcases Kn.cases_int ky with⟨a,rfl,rfl⟩|⟨ny,ey⟩
     ·refine kC ?_
      refine⟨_,rfl,p,_,_,_,rfl,rfl,SqT.of e,rfl,z,tz,rfl,kz,_,rfl,?_⟩;rcases Kn.cases_int kz with⟨b,rfl,rfl⟩|⟨nz,ez⟩
      ·refine kC ?_
       refine⟨_,rfl,p,_,_,_,rfl,rfl,SqT.of e,rfl,b,1,rfl,rfl,_,rfl,?_⟩;have q':Q (.bl (ku a b)) H:=q;unfold ku at q';refine aw (fun hc=>?_) (fun hc=>?_)
       ·refine⟨_,rfl,p,_,_,_,rfl,rfl,SqT.of e,rfl,_,rfl,p,_,_,_,rfl,rfl,SqT.of e,rfl,a,b,rfl,rfl,?_⟩
        rw[hc,Bool.true_and]at q';have e1:decide (V.int (Int.gcd a b:Int)=V.int 1)=decide (Int.gcd a b=1):=by
         rw[Bool.eq_iff_iff];simp;omega
        rw[<- e1]at q';exact q'
       ·rw[hc,Bool.false_and]at q'
        exact q'
      ·rw[ez,pX nz]at *
       exact q
     ·rw[ey,pZ ny]at *
      exact q
  ·rw[hs]
   rw[hl]at q;exact q
theorem Cn:vL ["line"] ["line"] (ag (top 21)):=smk
theorem mP(Ax:Df K mg "last_of" (top 21))(T:Txt mg):Fn P w K mg base "last_of" ["line"] 1 An:=by
 refine Ax.fn Cn (fun _ _ _ _ _ _ us hl=>by obtain⟨_,rfl⟩:=gE hl;rfl) (fun vs H Q E h=>?_) (fun f cdv A outer s H vs Q E hr h=>?_)
 ·obtain⟨p,xs,rfl,_⟩:=h
  rfl
 ·obtain⟨p,xs,rfl,e,q⟩:=h
  exact⟨_,(ah (am (ap aV (aJ bz (by rfl) T.z_len dP (aa (pv 0) ad)) ac))),_,rfl,p,xs,rfl,.inl (SqL.of e),_,_,rfl,rfl,q⟩
theorem B0:vL ["line","thing"] ["line","thing"] (ag (top 23)):=smk
theorem lW(Ab:Df K mg "is_place" (top 23))(zM:Fn P w K mg base "is_ratio" ["thing"] 2 CB)(we:Fn P w K mg base "last_of" ["line"] 1 An):Fn P w K mg base "is_place" ["line","thing"] 3 zu:=by
 refine Ab.fn B0 (fun _ _ _ _ _ _ us hl=>by obtain⟨_,_,rfl⟩:=cj hl;rfl) (fun vs H Q E h=>?_) (fun f cdv A outer s H vs Q E hr h=>?_)
 ·obtain⟨p,xs,x,rfl,_⟩:=h
  rfl
 ·obtain⟨p,xs,x,rfl,e,hl,th,q⟩:=h
  refine⟨_,(ah (am (bZ (ak zM (hr.mono (by decide)) (by rfl) (aa (pv 1) ad)) (bG (pE jV jV ac (aj ai (pv 1) ac (fun _ _=>rfl)) (ap aG (ak we (hr.mono (by decide)) (by rfl) (aa (pv 0) ad)) (aj ai (pv 1) ac (fun _ _=>rfl)))))))),?_⟩;refine⟨_,rfl,x,rfl,th,_,rfl,aw (fun hc=>?_) (fun hc=>?_)⟩
  ·obtain⟨u,a,b,rfl,eu,lw⟩:=lC hc
   rw[dC eu,lB lw,Bool.true_and]at q;refine⟨_,rfl,u,_,_,_,rfl,rfl,SqT.of eu,rfl,_,_,rfl,rfl,_,rfl,aw (fun hd=>?_) (fun hd=>?_)⟩
   ·rw[hd,Bool.true_and]at q
    exact⟨_,rfl,p,xs,rfl,e,_,rfl,u,_,_,_,rfl,rfl,SqT.of eu,rfl,_,_,rfl,rfl,CM.l (sZ (by omega) (by omega)),_,_,rfl,rfl,q⟩
   ·rw[hd,Bool.false_and]at q
    exact q
  ·rw[i5 hc]at q
   exact q
theorem AF:vL ["line","thing"] ["line","thing"] (ag (top 24)):=smk
theorem hX{C:Addr}(xV:Df K mg "look_at_place" (top 24))(Ar:Al K mg "NoPlace" C)(xl:Fn P w K mg base "is_place" ["line","thing"] 3 zu):Fx P w K mg base "look_at_place" ["line","thing"] 4 [] (BM C):=by
 refine xV.fx AF (fun _ _ _ _ _ _ us hl=>by obtain⟨_,_,rfl⟩:=cj hl;rfl) (fun vs H Q E h=>?_) (fun f cdv A outer s H vs Q E hr h=>?_)
 ·obtain⟨p,xs,x,rfl,_⟩:=h
  rfl
 ·obtain⟨p,xs,x,rfl,e,hl,th,k0,k1⟩:=h
  refine⟨_,(ah (aE (ci (aS (ak xl (hr.mono (by decide)) (by rfl) (aa (pv 0) (aa (pv 1) ad))))) (ah (eZ Ar (by rfl))) av)),?_⟩;refine⟨_,rfl,_,rfl,p,xs,x,rfl,e,hl,th,_,rfl,aw (fun hc=>?_) (fun hc=>?_)⟩
  ·exact k0 (by simpa using hc)
  ·exact k1 (by simpa using hc)
theorem Dl:vL ["a","b"] ["a","b"] (ag (top 11)):=smk
theorem sv{C:Addr}(Cb:Df K mg "plus" (top 11))(wx:Fx P w K mg base "ratio" ["top","bottom"] 2 [.int 1] (xR C)):Fn P w K mg base "plus" ["a","b"] 3 (yY (fun a b c d=>a*d+c*b) (fun a b c d=>b*d)):=by
 refine Cb.fn Dl (fun _ _ _ _ _ _ us hl=>by obtain⟨_,_,rfl⟩:=cj hl;rfl) (fun vs H Q E h=>?_) (fun f cdv A outer s H vs Q E hr h=>?_)
 ·obtain⟨p,q,a,b,c,d,n,rfl,_⟩:=h
  rfl
 ·obtain⟨p,q,a,b,c,d,n,rfl,fp,fq,hn,hden,k⟩:=h
  have ep:=fp.at_;have eq:=fq.at_;have cm:∀{i j:Int},ao i≤n->ao j≤n->CM i j:=fun hi hj=>CM.b hi hj (Nat.le_trans hn (by decide)) (Nat.le_trans hn (by decide));have fin:∀(r:Addr) (t u:Int),vP (a*d+c*b) (b*d) t u->ao t≤2*n+1->ao u≤2*n+1->H r=none->Q (.ref r) (upd H r (.tup [.int t,.int u])):=fun r t u fr bt bu hr'=>by
   obtain⟨H1,e1,s1,f1⟩:=lG (o:=.tup [.int t,.int u]) hr';rw[e1];exact k r t u H1 fr ⟨f1,fr.low,bt,bu⟩ s1
  refine⟨_,(ah (am (cR wx (hr.mono (by decide)) (by rfl) (aa (ap aY (ap aG (aj ai (pv 0) ac (fun _ _=>rfl)) (aj ai (pv 1) ac (fun _ _=>rfl))) (ap aG (aj ai (pv 1) ac (fun _ _=>rfl)) (aj ai (pv 0) ac (fun _ _=>rfl)))) (aa (ap aG (aj ai (pv 0) ac (fun _ _=>rfl)) (aj ai (pv 1) ac (fun _ _=>rfl))) ad))))),?_⟩;refine⟨_,rfl,p,_,_,_,rfl,rfl,SqT.of ep,rfl,_,rfl,q,_,_,_,rfl,rfl,SqT.of eq,rfl,_,_,rfl,rfl,cm fp.ba fq.bb,_,rfl,q,_,_,_,rfl,rfl,SqT.of eq,rfl,_,rfl,p,_,_,_,rfl,rfl,SqT.of ep,rfl,_,_,rfl,rfl,cm fq.ba fp.bb,_,_,rfl,rfl,?_⟩;refine⟨_,rfl,p,_,_,_,rfl,rfl,SqT.of ep,rfl,_,rfl,q,_,_,_,rfl,rfl,SqT.of eq,rfl,_,_,rfl,rfl,cm fp.bb fq.bb,_,_,2*n+1,rfl,⟨af (cx (n:=2*n) (af (bits_mul fp.ba fq.bb) (by omega)) (af (bits_mul fq.ba fp.bb) (by omega))) (by omega),af (bits_mul fp.bb fq.bb) (by omega),by omega⟩,fun z=>absurd z hden,fun _ r t u fr bt bu hr'=>fin r t u fr bt bu hr'⟩
theorem CZ:vL ["a","b"] ["a","b"] (ag (top 12)):=smk
theorem qw{C:Addr}(By:Df K mg "minus" (top 12))(wx:Fx P w K mg base "ratio" ["top","bottom"] 2 [.int 1] (xR C)):Fn P w K mg base "minus" ["a","b"] 3 (yY (fun a b c d=>a*d - c*b) (fun a b c d=>b*d)):=by
 refine By.fn CZ (fun _ _ _ _ _ _ us hl=>by obtain⟨_,_,rfl⟩:=cj hl;rfl) (fun vs H Q E h=>?_) (fun f cdv A outer s H vs Q E hr h=>?_)
 ·obtain⟨p,q,a,b,c,d,n,rfl,_⟩:=h
  rfl
 ·obtain⟨p,q,a,b,c,d,n,rfl,fp,fq,hn,hden,k⟩:=h
  have ep:=fp.at_;have eq:=fq.at_;have cm:∀{i j:Int},ao i≤n->ao j≤n->CM i j:=fun hi hj=>CM.b hi hj (Nat.le_trans hn (by decide)) (Nat.le_trans hn (by decide));have fin:∀(r:Addr) (t u:Int),vP (a*d - c*b) (b*d) t u->ao t≤2*n+1->ao u≤2*n+1->H r=none->Q (.ref r) (upd H r (.tup [.int t,.int u])):=fun r t u fr bt bu hr'=>by
   obtain⟨H1,e1,s1,f1⟩:=lG (o:=.tup [.int t,.int u]) hr';rw[e1];exact k r t u H1 fr ⟨f1,fr.low,bt,bu⟩ s1
  refine⟨_,(ah (am (cR wx (hr.mono (by decide)) (by rfl) (aa (ap aV (ap aG (aj ai (pv 0) ac (fun _ _=>rfl)) (aj ai (pv 1) ac (fun _ _=>rfl))) (ap aG (aj ai (pv 1) ac (fun _ _=>rfl)) (aj ai (pv 0) ac (fun _ _=>rfl)))) (aa (ap aG (aj ai (pv 0) ac (fun _ _=>rfl)) (aj ai (pv 1) ac (fun _ _=>rfl))) ad))))),?_⟩;refine⟨_,rfl,p,_,_,_,rfl,rfl,SqT.of ep,rfl,_,rfl,q,_,_,_,rfl,rfl,SqT.of eq,rfl,_,_,rfl,rfl,cm fp.ba fq.bb,_,rfl,q,_,_,_,rfl,rfl,SqT.of eq,rfl,_,rfl,p,_,_,_,rfl,rfl,SqT.of ep,rfl,_,_,rfl,rfl,cm fq.ba fp.bb,_,_,rfl,rfl,?_⟩;refine⟨_,rfl,p,_,_,_,rfl,rfl,SqT.of ep,rfl,_,rfl,q,_,_,_,rfl,rfl,SqT.of eq,rfl,_,_,rfl,rfl,cm fp.bb fq.bb,_,_,2*n+1,rfl,⟨af (aW (n:=2*n) (af (bits_mul fp.ba fq.bb) (by omega)) (af (bits_mul fq.ba fp.bb) (by omega))) (by omega),af (bits_mul fp.bb fq.bb) (by omega),by omega⟩,fun z=>absurd z hden,fun _ r t u fr bt bu hr'=>fin r t u fr bt bu hr'⟩
theorem CY:vL ["a","b"] ["a","b"] (ag (top 13)):=smk
theorem qr{C:Addr}(Bu:Df K mg "times" (top 13))(wx:Fx P w K mg base "ratio" ["top","bottom"] 2 [.int 1] (xR C)):Fn P w K mg base "times" ["a","b"] 3 (yY (fun a b c d=>a*c) (fun a b c d=>b*d)):=by
 refine Bu.fn CY (fun _ _ _ _ _ _ us hl=>by obtain⟨_,_,rfl⟩:=cj hl;rfl) (fun vs H Q E h=>?_) (fun f cdv A outer s H vs Q E hr h=>?_)
 ·obtain⟨p,q,a,b,c,d,n,rfl,_⟩:=h
  rfl
 ·obtain⟨p,q,a,b,c,d,n,rfl,fp,fq,hn,hden,k⟩:=h
  have ep:=fp.at_;have eq:=fq.at_;have cm:∀{i j:Int},ao i≤n->ao j≤n->CM i j:=fun hi hj=>CM.b hi hj (Nat.le_trans hn (by decide)) (Nat.le_trans hn (by decide));have fin:∀(r:Addr) (t u:Int),vP (a*c) (b*d) t u->ao t≤2*n+1->ao u≤2*n+1->H r=none->Q (.ref r) (upd H r (.tup [.int t,.int u])):=fun r t u fr bt bu hr'=>by
   obtain⟨H1,e1,s1,f1⟩:=lG (o:=.tup [.int t,.int u]) hr';rw[e1];exact k r t u H1 fr ⟨f1,fr.low,bt,bu⟩ s1
  refine⟨_,(ah (am (cR wx (hr.mono (by decide)) (by rfl) (aa (ap aG (aj ai (pv 0) ac (fun _ _=>rfl)) (aj ai (pv 1) ac (fun _ _=>rfl))) (aa (ap aG (aj ai (pv 0) ac (fun _ _=>rfl)) (aj ai (pv 1) ac (fun _ _=>rfl))) ad))))),?_⟩;exact⟨_,rfl,p,_,_,_,rfl,rfl,SqT.of ep,rfl,_,rfl,q,_,_,_,rfl,rfl,SqT.of eq,rfl,_,_,rfl,rfl,cm fp.ba fq.ba,_,rfl,p,_,_,_,rfl,rfl,SqT.of ep,rfl,_,rfl,q,_,_,_,rfl,rfl,SqT.of eq,rfl,_,_,rfl,rfl,cm fp.bb fq.bb,_,_,2*n+1,rfl,⟨af (bits_mul fp.ba fq.ba) (by omega),af (bits_mul fp.bb fq.bb) (by omega),by omega⟩,fun z=>absurd z hden,fun _ r t u fr bt bu hr'=>fin r t u fr bt bu hr'⟩
theorem Dm:vL ["a","b"] ["a","b"] (ag (top 14)):=smk
theorem sA{C:Addr}(Cc:Df K mg "over" (top 14))(wx:Fx P w K mg base "ratio" ["top","bottom"] 2 [.int 1] (xR C)):Fn P w K mg base "over" ["a","b"] 3 (yY (fun a b c d=>a*d) (fun a b c d=>b*c)):=by
 refine Cc.fn Dm (fun _ _ _ _ _ _ us hl=>by obtain⟨_,_,rfl⟩:=cj hl;rfl) (fun vs H Q E h=>?_) (fun f cdv A outer s H vs Q E hr h=>?_)
 ·obtain⟨p,q,a,b,c,d,n,rfl,_⟩:=h
  rfl
 ·obtain⟨p,q,a,b,c,d,n,rfl,fp,fq,hn,hden,k⟩:=h
  have ep:=fp.at_;have eq:=fq.at_;have cm:∀{i j:Int},ao i≤n->ao j≤n->CM i j:=fun hi hj=>CM.b hi hj (Nat.le_trans hn (by decide)) (Nat.le_trans hn (by decide));have fin:∀(r:Addr) (t u:Int),vP (a*d) (b*c) t u->ao t≤2*n+1->ao u≤2*n+1->H r=none->Q (.ref r) (upd H r (.tup [.int t,.int u])):=fun r t u fr bt bu hr'=>by
   obtain⟨H1,e1,s1,f1⟩:=lG (o:=.tup [.int t,.int u]) hr';rw[e1];exact k r t u H1 fr ⟨f1,fr.low,bt,bu⟩ s1
  refine⟨_,(ah (am (cR wx (hr.mono (by decide)) (by rfl) (aa (ap aG (aj ai (pv 0) ac (fun _ _=>rfl)) (aj ai (pv 1) ac (fun _ _=>rfl))) (aa (ap aG (aj ai (pv 0) ac (fun _ _=>rfl)) (aj ai (pv 1) ac (fun _ _=>rfl))) ad))))),?_⟩;exact⟨_,rfl,p,_,_,_,rfl,rfl,SqT.of ep,rfl,_,rfl,q,_,_,_,rfl,rfl,SqT.of eq,rfl,_,_,rfl,rfl,cm fp.ba fq.bb,_,rfl,p,_,_,_,rfl,rfl,SqT.of ep,rfl,_,rfl,q,_,_,_,rfl,rfl,SqT.of eq,rfl,_,_,rfl,rfl,cm fp.bb fq.ba,_,_,2*n+1,rfl,⟨af (bits_mul fp.ba fq.bb) (by omega),af (bits_mul fp.bb fq.ba) (by omega),by omega⟩,fun z=>absurd z hden,fun _ r t u fr bt bu hr'=>fin r t u fr bt bu hr'⟩
theorem Dn:vL ["a","b"] ["a","b"] (ag (top 15)):=smk
theorem sB(Cd:Df K mg "less" (top 15)):Fn P w K mg base "less" ["a","b"] 1 Ck:=by
 refine Cd.fn Dn (fun _ _ _ _ _ _ us hl=>by obtain⟨_,_,rfl⟩:=cj hl;rfl) (fun vs H Q E h=>?_) (fun f cdv A outer s H vs Q E hr h=>?_)
 ·obtain⟨p,q,a,b,c,d,rfl,_⟩:=h
  rfl
 ·obtain⟨p,q,a,b,c,d,rfl,hp,hq,⟨ba,bb,bc,bd⟩,k⟩:=h
  refine⟨_,(ah (am (a7 ll (ap aG (aj ai (pv 0) ac (fun _ _=>rfl)) (aj ai (pv 1) ac (fun _ _=>rfl))) (ap aG (aj ai (pv 1) ac (fun _ _=>rfl)) (aj ai (pv 0) ac (fun _ _=>rfl))) (ar _)))),?_⟩;refine⟨_,rfl,p,_,_,_,rfl,rfl,SqT.of hp,rfl,_,rfl,q,_,_,_,rfl,rfl,SqT.of hq,rfl,a,d,rfl,rfl,CM.b ba bd (by decide) (by decide),?_⟩;refine⟨_,rfl,q,_,_,_,rfl,rfl,SqT.of hq,rfl,_,rfl,p,_,_,_,rfl,rfl,SqT.of hp,rfl,c,b,rfl,rfl,CM.b bc bb (by decide) (by decide),?_⟩;exact⟨_,_,rfl,rfl,k⟩
theorem AC:vL ["begin","end","place","rest"] ["begin","end","place"] (ag (top 27)):=smk
theorem kJ{C:Addr}(zg:Df K mg "number_at" (top 27))(wx:Fx P w K mg base "ratio" ["top","bottom"] 2 [.int 1] (xR C)):Fn P w K mg base "number_at" ["begin","end","place"] 3 Bg:=by
 refine zg.fn AC (fun _ _ _ _ _ _ us hl=>by obtain⟨_,_,_,rfl⟩:=hU hl;rfl) (fun vs H Q E h=>?_) (fun f cdv A outer s H vs Q E hr h=>?_)
 ·obtain⟨x,y,p,t,b,rfl,_⟩:=h
  rfl
 ·obtain⟨x,y,p,t,b,rfl,fp,bx,by',k⟩:=h
  have hb:=fp.low.pos;have ep:=fp.at_;have br:ao (t % b)≤200:=cG (Int.emod_nonneg _ (by omega)) (Int.le_of_lt (Int.emod_lt_of_pos _ (by omega))) fp.bb;refine⟨_,(ae (au (i:=3) AC.nd rfl (Or.inl rfl) (ap cT (aj ai (pv 2) ac (fun _ _=>rfl)) (aj ai (pv 2) ac (fun _ _=>rfl)))) (ah (am (cR wx (hr.mono (by decide)) (by rfl) (aa (ap aY (ap aG (pv 0) (aj ai (pv 2) ac (fun _ _=>rfl))) (ap aG (ap aV (pv 1) (pv 0)) (pv 3))) (aa (aj ai (pv 2) ac (fun _ _=>rfl)) ad)))))),?_⟩;refine⟨_,rfl,p,_,_,_,rfl,rfl,SqT.of ep,rfl,_,rfl,p,_,_,_,rfl,rfl,SqT.of ep,rfl,_,_,rfl,rfl,(by show(0:Int)<b;omega),?_⟩;refine⟨_,rfl,_,rfl,p,_,_,_,rfl,rfl,SqT.of ep,rfl,_,_,rfl,rfl,CM.b bx fp.bb (by decide) (by decide),_,rfl,_,rfl,_,_,rfl,rfl,_,rfl,_,_,rfl,rfl,CM.b (aW by' bx) br (by decide) (by decide),_,_,rfl,rfl,?_⟩;refine⟨_,rfl,p,_,_,_,rfl,rfl,SqT.of ep,rfl,_,_,262,rfl,⟨af (cx (n:=261) (af (bits_mul bx fp.bb) (by decide)) (bits_mul (aW by' bx) br)) (by decide),af fp.bb (by decide),by decide⟩,fun z=>absurd z (by omega),fun _ r u v fr bu bv hr'=>?_⟩;obtain⟨H1,e1,s1,f1⟩:=lG (o:=.tup [.int u,.int v]) hr';rw[e1];exact k r u v H1 fr ⟨f1,fr.low,bu,bv⟩ s1
theorem yG:vL ["line","place","corner","begin","end"] ["line","place"] (ag (top 28)):=smk
theorem lJ{C:Addr}(zN:Df K mg "point_at" (top 28))(xT:Fx P w K mg base "look_at_place" ["line","thing"] 4 [] (BM C))(xJ:Fn P w K mg base "floor_of" ["a"] 1 AM)(we:Fn P w K mg base "last_of" ["line"] 1 An)(yl:Fn P w K mg base "number_at" ["begin","end","place"] 3 Bg)(T:Txt mg) :
  Fx P w K mg base "point_at" ["line","place"] 5 [] (AJ C):=by
 refine zN.fx yG (fun _ _ _ _ _ _ us hl=>by obtain⟨_,_,rfl⟩:=cj hl;rfl) (fun vs H Q E h=>?_) (fun f cdv A outer s H vs Q E hr h=>?_)
 ·obtain⟨l,qs,x,rfl,_⟩:=h
  rfl
 ·obtain⟨l,qs,x,rfl,L,h1,h20,th,k0,k1⟩:=h
  have hll:(qs.map fun (q:Addr×Int×Int)=>V.ref q.1).length=qs.length:=List.length_map _;refine⟨_,(ae (cW (ff xT (hr.mono (by decide)) (by rfl) (aa (pv 0) (aa (pv 1) ad)))) (ae (au (i:=2) yG.nd rfl (Or.inl rfl) (ak xJ (hr.mono (by decide)) (by rfl) (aa (pv 1) ad))) (ae (au (i:=3) yG.nd rfl (Or.inl rfl) (aj aI (pv 0) (pv 2) (fun _ _=>rfl))) (ae (au (i:=4) yG.nd rfl (Or.inl rfl) (aj aI (pv 0) (aJ (dZ rfl) (by rfl) T.z_min ju (aa (ap aY (pv 2) ac) (aa (ak we (hr.mono (by decide)) (by rfl) (aa (pv 0) ad)) ad))) (fun _ _=>rfl))) (ah (am (mJ (aa (ak yl (hr.mono (by decide)) (by rfl) (aa (aj ai (pv 3) ac (fun _ _=>rfl)) (aa (aj ai (pv 4) ac (fun _ _=>rfl)) (aa (pv 1) ad)))) (aa (ak yl (hr.mono (by decide)) (by rfl) (aa (aj ai (pv 3) ac (fun _ _=>rfl)) (aa (aj ai (pv 4) ac (fun _ _=>rfl)) (aa (pv 1) ad)))) ad))))))))),?_⟩;refine⟨_,rfl,_,rfl,l,_,x,rfl,L.lst,by rw[hll];omega,th,fun z=>k0 (by rw[hll]at z;exact z),fun hx=>?_⟩;rw[hll]at hx;obtain⟨p,t,b,rfl,ep,lw,t0,t1⟩:=fX hx;obtain⟨bt,bb,k⟩:=k1 p t b rfl ep lw t0 t1;have hb:=lw.pos;have fp:yE H p t b 200:=⟨ep,lw,bt,bb⟩;have q0:0≤t / b:=eK (by omega) t0;have qn:t / b≤(qs.length:Int) - 1:=Int.ediv_le_of_le_mul (by omega) t1;refine⟨_,rfl,p,t,b,rfl,ep,⟨by omega,af bb (by decide)⟩,?_⟩;have atq:∀(j:Nat) (k:Int),k=(j:Int)->j<qs.length->atI (qs.map fun (q:Addr×Int×Int)=>V.ref q.1) k=some (.ref (qs.getD j (0,0,0)).1)∧qs.getD j (0,0,0)∈qs:=fun j k ek hj=>by
   have e1:qs.getD j (0,0,0)=qs[j]:=by rw[List.getD_eq_getElem?_getD,List.getElem?_eq_getElem hj];rfl
   rw[e1];subst ek;exact⟨db (by rw[List.getElem?_map,List.getElem?_eq_getElem hj];rfl),List.getElem_mem hj⟩
  obtain⟨a0,m0⟩:=atq (t / b).toNat (t / b) (by omega) (by omega);refine⟨_,rfl,_,rfl,l,_,_,_,rfl,rfl,SqL.of L.lst,a0,?_⟩;obtain⟨a1,m1⟩:=atq (min ((t / b).toNat+1) (qs.length - 1)) (if ((((qs.map fun (q:Addr×Int×Int)=>V.ref q.1).length:Nat):Int) - 1)<t / b+1 then ((((qs.map fun (q:Addr×Int×Int)=>V.ref q.1).length:Nat):Int) - 1) else t / b+1) (by rw[hll];split <;> omega) (by omega)
  refine⟨_,rfl,_,rfl,_,_,rfl,rfl,_,rfl,l,_,rfl,L.lst,_,_,rfl,l,_,_,_,rfl,rfl,SqL.of L.lst,a1,?_⟩;have c0:=L.crn _ m0;have c1:=L.crn _ m1;refine⟨_,rfl,_,_,_,_,rfl,rfl,SqT.of c0.1,rfl,_,rfl,_,_,_,_,rfl,rfl,SqT.of c1.1,rfl,_,rfl,_,_,p,t,b,rfl,fp,af c0.2.1 (by decide),af c1.2.1 (by decide),fun rx u v H1 fr1 g1 s1=>?_⟩;refine⟨_,rfl,_,_,_,_,rfl,rfl,SqT.of (s1 _ _ c0.1),rfl,_,rfl,_,_,_,_,rfl,rfl,SqT.of (s1 _ _ c1.1),rfl,_,rfl,_,_,p,t,b,rfl,fp.mono s1,af c0.2.2 (by decide),af c1.2.2 (by decide),fun ry c d H2 fr2 g2 s2=>?_⟩;refine⟨sz (by simp),fun r hr'=>?_⟩;obtain⟨H3,e3,s3,f3⟩:=lG (o:=.tup [.ref rx,.ref ry]) hr';rw[e3];exact k r H3 ⟨⟨rx,ry,u,v,c,d,f3,(g1.mono s2).mono s3,g2.mono s3,fr1,fr2⟩⟩ (s1.trans (s2.trans s3))
theorem BA:vL ["begin","end"] ["begin","end"] (ag (top 30)):=smk
theorem kH(ze:Df K mg "step_from" (top 30))(yO:Fn P w K mg base "minus" ["a","b"] 3 (yY (fun a b c d=>a*d - c*b) (fun a b c d=>b*d))):Fn P w K mg base "step_from" ["begin","end"] 4 Bd:=by
 refine ze.fn BA (fun _ _ _ _ _ _ us hl=>by obtain⟨_,_,rfl⟩:=cj hl;rfl) (fun vs H Q E h=>?_) (fun f cdv A outer s H vs Q E hr h=>?_)
 ·obtain⟨p,q,u,v,c,d,u',v',c',d',rfl,_⟩:=h
  rfl
 ·obtain⟨p,q,u,v,c,d,u',v',c',d',rfl,fp,fq,k⟩:=h
  obtain⟨px,py,ep,gx,gy⟩:=fp.ex;obtain⟨qx,qy,eq,hx,hy⟩:=fq.ex;have nz:∀{x y:Int},1≤x->1≤y->x*y≠0:=fun hx hy=>Int.mul_ne_zero (by omega) (by omega);refine⟨_,(ah (am (mJ (aa (ak yO (hr.mono (by decide)) (by rfl) (aa (aj ai (pv 1) ac (fun _ _=>rfl)) (aa (aj ai (pv 0) ac (fun _ _=>rfl)) ad))) (aa (ak yO (hr.mono (by decide)) (by rfl) (aa (aj ai (pv 1) ac (fun _ _=>rfl)) (aa (aj ai (pv 0) ac (fun _ _=>rfl)) ad))) ad))))),?_⟩;refine⟨_,rfl,q,_,_,_,rfl,rfl,SqT.of eq,rfl,_,rfl,p,_,_,_,rfl,rfl,SqT.of ep,rfl,qx,px,u',v',u,v,262,rfl,hx,gx,by decide,nz hx.low.pos gx.low.pos,fun r1 a b H1 fr1 g1 s1=>?_⟩;refine⟨_,rfl,q,_,_,_,rfl,rfl,SqT.of (s1 _ _ eq),rfl,_,rfl,p,_,_,_,rfl,rfl,SqT.of (s1 _ _ ep),rfl,qy,py,c',d',c,d,262,rfl,hy.mono s1,gy.mono s1,by decide,nz hy.low.pos gy.low.pos,fun r2 e f H2 fr2 g2 s2=>?_⟩;refine⟨sz (by simp),fun r hr'=>?_⟩;obtain⟨H3,e3,s3,f3⟩:=lG (o:=.tup [.ref r1,.ref r2]) hr';rw[e3];exact k r a b e f H3 fr1 fr2 ⟨⟨r1,r2,f3,(g1.mono s2).mono s3,g2.mono s3⟩⟩ (s1.trans (s2.trans s3))
theorem AH:vL ["one","other"] ["one","other"] (ag (top 31)):=smk
theorem ib(xZ:Df K mg "inner_product" (top 31))(At:Fn P w K mg base "plus" ["a","b"] 3 (yY (fun a b c d=>a*d+c*b) (fun a b c d=>b*d)))(yN:Fn P w K mg base "times" ["a","b"] 3 (yY (fun a b c d=>a*c) (fun a b c d=>b*d))):Fn P w K mg base "inner_product" ["one","other"] 4 AL:=by
 refine xZ.fn AH (fun _ _ _ _ _ _ us hl=>by obtain⟨_,_,rfl⟩:=cj hl;rfl) (fun vs H Q E h=>?_) (fun f cdv A outer s H vs Q E hr h=>?_)
 ·obtain⟨p,q,a,b,e,f,a',b',e',f',rfl,_⟩:=h
  rfl
 ·obtain⟨p,q,a,b,e,f,a',b',e',f',rfl,fp,fq,k⟩:=h
  obtain⟨qx,qy,eq,hx,hy⟩:=fq.ex;obtain⟨px,py,ep,gx,gy⟩:=fp.ex;have nz:∀{x y:Int},1≤x->1≤y->x*y≠0:=fun hx hy=>Int.mul_ne_zero (by omega) (by omega);refine⟨_,(ah (am (ak At (hr.mono (by decide)) (by rfl) (aa (ak yN (hr.mono (by decide)) (by rfl) (aa (aj ai (pv 0) ac (fun _ _=>rfl)) (aa (aj ai (pv 1) ac (fun _ _=>rfl)) ad))) (aa (ak yN (hr.mono (by decide)) (by rfl) (aa (aj ai (pv 0) ac (fun _ _=>rfl)) (aa (aj ai (pv 1) ac (fun _ _=>rfl)) ad))) ad))))),?_⟩;refine⟨_,rfl,p,_,_,_,rfl,rfl,SqT.of ep,rfl,_,rfl,q,_,_,_,rfl,rfl,SqT.of eq,rfl,px,qx,a,b,a',b',525,rfl,gx,hx,by decide,nz gx.low.pos hx.low.pos,fun r1 m n H1 fr1 g1 s1=>?_⟩;refine⟨_,rfl,p,_,_,_,rfl,rfl,SqT.of (s1 _ _ ep),rfl,_,rfl,q,_,_,_,rfl,rfl,SqT.of (s1 _ _ eq),rfl,py,qy,e,f,e',f',525,rfl,gy.mono s1,hy.mono s1,by decide,nz gy.low.pos hy.low.pos,fun r2 m' n' H2 fr2 g2 s2=>?_⟩;exact⟨r1,r2,m,n,m',n',1051,rfl,g1.mono s2,g2,by decide,nz g1.low.pos g2.low.pos,fun r s' w' H3 fr3 g3 s3=>k r m n m' n' s' w' H3 fr1 fr2 fr3 g3 (s1.trans (s2.trans s3))⟩
theorem yF:vL ["begin","end","step"] ["begin","end"] (ag (top 32)):=smk
theorem gG(xK:Df K mg "square_between" (top 32))(w5:Fn P w K mg base "step_from" ["begin","end"] 4 Bd)(wj:Fn P w K mg base "inner_product" ["one","other"] 4 AL):Fn P w K mg base "square_between" ["begin","end"] 5 Cf:=by
 refine xK.fn yF (fun _ _ _ _ _ _ us hl=>by obtain⟨_,_,rfl⟩:=cj hl;rfl) (fun vs H Q E h=>?_) (fun f cdv A outer s H vs Q E hr h=>?_)
 ·obtain⟨p,q,X,Y,b,X',Y',b',rfl,_⟩:=h
  rfl
 ·obtain⟨p,q,X,Y,b,X',Y',b',rfl,fp,fq,hb,hb',k⟩:=h
  obtain⟨px,py,u,v,c,d,ep,gx,gy,f1,f2⟩:=fp.ex;obtain⟨qx,qy,u',v',c',d',eq,hx,hy,f3,f4⟩:=fq.ex;refine⟨_,(ae (au (i:=2) yF.nd rfl (Or.inl rfl) (ak w5 (hr.mono (by decide)) (by rfl) (aa (pv 0) (aa (pv 1) ad)))) (ah (am (ak wj (hr.mono (by decide)) (by rfl) (aa (pv 2) (aa (pv 2) ad)))))),?_⟩;refine⟨_,rfl,_,rfl,p,q,u,v,c,d,u',v',c',d',rfl,⟨⟨px,py,ep,gx,gy⟩⟩,⟨⟨qx,qy,eq,hx,hy⟩⟩,fun r a e a' e' H1 g1 g2 pf s1=>?_⟩;exact⟨_,rfl,_,rfl,r,r,a,e,a',e',a,e,a',e',rfl,pf,pf,fun r2 m n m' n' s' w' H2 k1 k2 k3 g3 s2=>k r2 s' w' H2 (m4 f1 f2 f3 f4 g1 g2 k1 k2 k3) g3 (s1.trans s2)⟩
theorem BB:vL ["one","x","other","y"] ["one","x","other","y"] (ag (top 33)):=smk
theorem kI{C:Addr}(zf:Df K mg "square_of" (top 33))(wm:Fn P w K mg base "square_between" ["begin","end"] 5 Cf)(wD:Fx P w K mg base "point_at" ["line","place"] 5 [] (AJ C)):Fx P w K mg base "square_of" ["one","x","other","y"] 6 [] (Ae C):=by
 refine zf.fx BB (fun _ _ _ _ _ _ us hl=>by obtain⟨_,_,_,_,rfl⟩:=ir hl;rfl) (fun vs H Q E h=>?_) (fun f cdv A outer s H vs Q E hr h=>?_)
 ·obtain⟨l,l',qs,qs',x,y,rfl,_⟩:=h
  rfl
 ·obtain⟨l,l',qs,qs',x,y,rfl,L,L',h1,h1',tx,ty,h⟩:=h
  refine⟨_,(ah (am (ak wm (hr.mono (by decide)) (by rfl) (aa (ff wD (hr.mono (by decide)) (by rfl) (aa (pv 0) (aa (pv 1) ad))) (aa (ff wD (hr.mono (by decide)) (by rfl) (aa (pv 2) (aa (pv 3) ad))) ad))))),?_⟩;refine⟨_,rfl,_,rfl,l,qs,x,rfl,L,h1.1,h1.2,tx,fun z=>?_,fun p t b ep eH lw t0 t1=>?_⟩
  ·rcases h with h|⟨p,t,b,rfl,pl,_⟩
   ·exact h.2
   ·rw[show aO ((qs.length:Int) - 1) H (.ref p)=true from pl.place]at z
    cases z
  rcases h with h|⟨p',t',b',rfl,pl,h⟩
  ·subst ep
   have z:=h.1;rw[show aO (aH qs) H (.ref p)=true from fF eH lw t0 t1]at z;cases z
  cases ep;have e2:=pl.at_;rw[eH]at e2;cases e2;refine⟨pl.bt,pl.bb,fun r H1 pt s1=>?_⟩;refine⟨_,rfl,_,rfl,l',qs',y,rfl,L'.mono s1,h1'.1,h1'.2,wW.mono ty s1,fun z=>?_,fun q u c eq' eH' lw' u0 u1=>?_⟩
  ·rcases h with h|⟨q,u,c,rfl,pl',_⟩
   ·exact h.2 H1 s1
   ·rw[show aO ((qs'.length:Int) - 1) H1 (.ref q)=true from(pl'.mono s1).place]at z
    cases z
  rcases h with h|⟨q',u',c',rfl,pl',k⟩
  ·subst eq'
   have z:=h.1;obtain⟨kd,kn⟩:=ty.kn;rw[<- cH kn s1,show aO (aH qs') H1 (.ref q)=true from fF eH' lw' u0 u1]at z;cases z
  cases eq';have e3:=(pl'.mono s1).at_;rw[eH']at e3;cases e3;refine⟨pl'.bt,pl'.bb,fun r' H2 pt' s2=>?_⟩;have hb:=lw.pos;have hc:=lw'.pos;exact⟨r,r',_,_,_,_,_,_,rfl,pt.mono s2,pt',by omega,by omega,fun r2 s' w' H3 fr f3 s3=>k r2 s' w' H3 fr f3 (s1.trans (s2.trans s3))⟩
theorem wz:vL ["one","other","low","high"] ["one","other"] (ag (top 29)):=smk
theorem fZ{C:Addr}(xy:Df K mg "share_a_stretch" (top 29))(wE:Fn P w K mg base "less" ["a","b"] 1 wY)(xJ:Fn P w K mg base "floor_of" ["a"] 1 AM)(wx:Fx P w K mg base "ratio" ["top","bottom"] 2 [.int 1] (Be C)):Fn P w K mg base "share_a_stretch" ["one","other"] 3 Af:=by
 refine xy.fn wz (fun _ _ _ _ _ _ us hl=>by obtain⟨_,_,rfl⟩:=cj hl;rfl) (fun vs H Q E h=>?_) (fun f cdv A outer s H vs Q E hr h=>?_)
 ·obtain⟨p,q,a,b,c,d,rfl,_⟩:=h
  rfl
 ·obtain⟨p,q,a,b,c,d,rfl,ep,eq,sa,sc,k⟩:=h
  have R:∃u:TS,PSs (bD CX0 P w K mg base ["one","other","low","high"] "share_a_stretch" (ag (top 29)) f cdv A outer s H E).nox ((az (top 29)).drop 3) u∧∀(z1 z2:Option V) (lo hi:Addr) (a b c d:Int),H lo=some (.tup [.int a,.int b])->H hi=some (.tup [.int c,.int d])->zA a b->zA c d ->
    (∀H',Same H H'->Q (.bl (!decide ((a / b+1)*d<c*1))) H')->u { nx:=fun _ H'=>Q .non H',rt:=Q } [z1,z2,some (.ref lo),some (.ref hi)] H:=by
   refine⟨_,(ah (am (d9 (ak wE (hr.mono (by decide)) (by rfl) (aa (rn wx (hr.mono (by decide)) (by rfl) (aa (ap aY (ak xJ (hr.mono (by decide)) (by rfl) (aa (pv 2) ad)) ac) ad)) (aa (pv 3) ad)))))),?_⟩;intro z1 z2 lo hi a b c d elo ehi sa sc k;have b1:ao 1≤2000:=af (m:=1) (by decide) (by decide);have bf:ao (a / b+1)≤1001:=cx (cy sa.pos sa.ba) (af (m:=1) (by decide) (by decide));refine⟨_,rfl,lo,a,b,rfl,elo,⟨sa.pos,af sa.bb (by decide)⟩,_,_,rfl,rfl,_,1,rfl,⟨af bf (by decide),b1⟩,fun z=>absurd z (by decide),fun _ r t u fr bt bu hr'=>?_⟩;obtain⟨et,eu⟩:=il (by decide) fr (oQ ⟨Int.le_refl 1,Int.gcd_one⟩);subst et eu;obtain⟨H1,e1,s1,f1⟩:=lG (o:=.tup [.int (a / b+1),.int 1]) hr';rw[e1];exact⟨_,rfl,r,hi,a / b+1,1,c,d,rfl,f1,s1 _ _ ehi,⟨af bf (by decide),b1,af sc.ba (by decide),af sc.bb (by decide)⟩,_,rfl,k H1 s1⟩
  obtain⟨u,hu,rd⟩:=R;refine⟨_,(ae (au (i:=2) wz.nd rfl (Or.inl rfl) (pv 0)) (ae (au (i:=3) wz.nd rfl (Or.inl rfl) (pv 1)) (ae (aE (aS (ak wE (hr.mono (by decide)) (by rfl) (aa (pv 1) (aa (pv 0) ad)))) (ae (au (i:=2) wz.nd rfl (Or.inl rfl) (pv 1)) (ah (au (i:=3) wz.nd rfl (Or.inl rfl) (pv 0)))) av) hu))),?_⟩;refine⟨_,rfl,_,rfl,?_⟩;refine⟨_,rfl,_,rfl,q,p,c,d,a,b,rfl,eq,ep,⟨af sc.ba (by decide),af sc.bb (by decide),af sa.ba (by decide),af sa.bb (by decide)⟩,_,rfl,aw (fun hc=>?_) (fun hc=>?_)⟩
  ·have h:c*b<a*d:=by simpa using hc
   refine⟨_,rfl,_,rfl,rd _ _ q p c d a b eq ep sc sa fun H' s'=>?_⟩;have z:=k H' s';unfold aK at z;rw[if_pos h]at z;exact z
  ·have h:¬c*b<a*d:=by simpa using hc
   refine rd _ _ p q a b c d ep eq sa sc fun H' s'=>?_;have z:=k H' s';unfold aK at z;rw[if_neg h]at z;exact z
theorem x6:vL ["point","begin","end","step","part"] ["point","begin","end"] (ag (top 34)):=smk
theorem iy(yf:Df K mg "nearest_part" (top 34))(w5:Fn P w K mg base "step_from" ["begin","end"] 4 Bd)(wj:Fn P w K mg base "inner_product" ["one","other"] 4 AL)(B8:Fn P w K mg base "over" ["a","b"] 3 (yY (fun a b c d=>a*d) (fun a b c d=>b*c)))(wE:Fn P w K mg base "less" ["a","b"] 1 Ck):Fn P w K mg base "nearest_part" ["point","begin","end"] 5 BK:=by
 refine yf.fn x6 (fun _ _ _ _ _ _ us hl=>by obtain⟨_,_,_,rfl⟩:=hU hl;rfl) (fun vs H Q E h=>?_) (fun f cdv A outer s H vs Q E hr h=>?_)
 ·obtain⟨p,p1,p2,X,Y,b,X1,Y1,b1,X2,Y2,b2,rfl,_⟩:=h
  rfl
 ·obtain⟨p,p1,p2,X,Y,b,X1,Y1,b1,X2,Y2,b2,rfl,pt,pt1,pt2,hb,hb1,hb2,k⟩:=h
  refine⟨_,(ae (aE (aq (tU hr.units10) (pv 1) (pv 2) (ar _)) (ah (am (aA (aa ac (aa ac ad))))) av) (ae (au (i:=3) x6.nd rfl (Or.inl rfl) (ak w5 (hr.mono (by decide)) (by rfl) (aa (pv 1) (aa (pv 2) ad)))) (ae (au (i:=4) x6.nd rfl (Or.inl rfl) (ak B8 (hr.mono (by decide)) (by rfl) (aa (ak wj (hr.mono (by decide)) (by rfl) (aa (ak w5 (hr.mono (by decide)) (by rfl) (aa (pv 1) (aa (pv 0) ad))) (aa (pv 3) ad))) (aa (ak wj (hr.mono (by decide)) (by rfl) (aa (pv 3) (aa (pv 3) ad))) ad)))) (ae (aE (aS (ak wE (hr.mono (by decide)) (by rfl) (aa (pv 4) (aa (aA (aa ac (aa ac ad))) ad)))) (ah (am (aA (aa ac (aa ac ad))))) av) (ae (aE (aS (ak wE (hr.mono (by decide)) (by rfl) (aa (aA (aa ac (aa ac ad))) (aa (pv 4) ad)))) (ah (am (aA (aa ac (aa ac ad))))) av) (ah (am (pv 4)))))))),?_⟩;obtain⟨px,py,u,v,c,d,ep,gx,gy,f1,f2⟩:=pt.ex;obtain⟨qx,qy,u1,v1,c1,d1,eq,hx,hy,f3,f4⟩:=pt1.ex;obtain⟨rx,ry,u2,v2,c2,d2,er,kx,ky,f5,f6⟩:=pt2.ex;have F0:Cs H p u v c d 262:=⟨⟨px,py,ep,gx,gy⟩⟩;have F1:Cs H p1 u1 v1 c1 d1 262:=⟨⟨qx,qy,eq,hx,hy⟩⟩;have F2:Cs H p2 u2 v2 c2 d2 262:=⟨⟨rx,ry,er,kx,ky⟩⟩;have b01:ao 0≤4207∧ao 1≤4207:=⟨by decide,by decide⟩;have Z:∀{H':Hp} {r:Addr},H' r=some (.tup [.int 0,.int 1])->yE H' r 0 1 4207:=fun e=>⟨e,⟨by decide,by decide⟩,b01.1,b01.2⟩;have O:∀{H':Hp} {r:Addr},H' r=some (.tup [.int 1,.int 1])->yE H' r 1 1 4207:=fun e=>⟨e,⟨by decide,by decide⟩,b01.2,b01.2⟩;refine⟨_,rfl,_,rfl,_,_,sT F1,sT F2,_,rfl,aw (fun h1=>?_) (fun h1=>?_)⟩
  ·have h1:(u1=u2∧v1=v2)∧(c1=c2∧d1=d2):=by simpa[deq,fR]using h1
   exact⟨sz (by simp),fun r H1 s1 f1' _=>k r 0 1 H1 (Z f1') (.inl ⟨⟨(iP (by omega) (by omega) f3 f5).mpr h1.1,(iP (by omega) (by omega) f4 f6).mpr h1.2⟩,rfl,rfl⟩) s1⟩
  have h1:¬((u1=u2∧v1=v2)∧(c1=c2∧d1=d2)):=by simpa[deq,fR]using h1
  have hS:0<(X2*b1 - X1*b2)*(X2*b1 - X1*b2)+(Y2*b1 - Y1*b2)*(Y2*b1 - Y1*b2):=by
   have q:∀x:Int,0≤x*x:=fun x=>fI (by omega);have q1:=q (X2*b1 - X1*b2);have q2:=q (Y2*b1 - Y1*b2)
   by_cases z:(X2*b1 - X1*b2)*(X2*b1 - X1*b2)+(Y2*b1 - Y1*b2)*(Y2*b1 - Y1*b2)=0
   ·obtain⟨z1,z2⟩:=mZ z
    exact absurd ⟨(iP (by omega) (by omega) f3 f5).mp (by omega),(iP (by omega) (by omega) f4 f6).mp (by omega)⟩ h1
   ·omega
  have hN:0<nN b X1 Y1 b1 X2 Y2 b2:=Int.mul_pos hb hS;refine⟨_,rfl,_,rfl,p1,p2,u1,v1,c1,d1,u2,v2,c2,d2,rfl,F1,F2,fun st a e a' e' H1 g1 g2 pf s1=>?_⟩;refine⟨_,rfl,_,rfl,p1,p,u1,v1,c1,d1,u,v,c,d,rfl,F1.mono s1,F0.mono s1,fun st2 a2 e2 a2' e2' H2 g3 g4 pf2 s2=>?_⟩;refine⟨_,rfl,st2,st,a2,e2,a2',e2',a,e,a',e',rfl,pf2,pf.mono s2,fun r1 m n m' n' i j H3 k1 k2 k3 g5 s3=>?_⟩;refine⟨_,rfl,_,rfl,st,st,a,e,a',e',a,e,a',e',rfl,(pf.mono s2).mono s3,(pf.mono s2).mono s3,fun r2 m2 n2 m2' n2' i2 j2 H4 l1 l2 l3 g6 s4=>?_⟩;have hi:=pJ hb1 hb2 f3 f4 f5 f6 g1 g2 l1 l2 l3 hS;have hj:=k3.low.pos;refine⟨r1,r2,i,j,i2,j2,2103,rfl,g5.mono s4,g6,by decide,Int.mul_ne_zero (by omega) (by omega),fun rp t w' H5 fin g7 s5=>?_⟩;have eN:=rG (by omega) (by omega) (by omega) f1 f2 f3 f4 f5 f6 g1 g2 g3 g4 k1 k2 k3 l1 l2 l3 (by omega) fin (by omega);have hw:=fin.low.pos;obtain⟨c1',c2'⟩:=uR (by omega) hN eN;have S5:=s1.trans (s2.trans (s3.trans (s4.trans s5)));have bt:=g7.ba;have bw:=g7.bb;refine⟨_,rfl,sz (by simp),fun zp H6 s6 f6' _=>?_⟩;refine⟨rp,zp,t,w',0,1,rfl,(g7.mono s6).at_,f6',⟨af bt (by decide),af bw (by decide),by decide,by decide⟩,_,rfl,aw (fun h2=>?_) (fun h2=>?_)⟩
  ·have h2:t*1<0*w':=aR h2
   exact⟨sz (by simp),fun r H7 s7 f7 _=>k r 0 1 H7 (Z f7) (.inr ⟨hN,.inl ⟨c1'.mp (by omega),rfl,rfl⟩⟩) (S5.trans (s6.trans s7))⟩
  have h2:¬t*1<0*w':=bI h2;refine⟨sz (by simp),fun op H7 s7 f7 _=>?_⟩;have G7:=(g7.mono s6).mono s7;refine⟨_,rfl,op,rp,1,1,t,w',rfl,f7,G7.at_,⟨by decide,by decide,af bt (by decide),af bw (by decide)⟩,_,rfl,aw (fun h3=>?_) (fun h3=>?_)⟩
  ·have h3:1*w'<t*1:=aR h3
   exact⟨sz (by simp),fun r H8 s8 f8 _=>k r 1 1 H8 (O f8) (.inr ⟨hN,.inr (.inl ⟨c2'.mp (by omega),rfl,rfl⟩)⟩) (S5.trans (s6.trans (s7.trans s8)))⟩
  have h3:¬1*w'<t*1:=bI h3;exact⟨_,rfl,k rp t w' H7 G7 (.inr ⟨hN,.inr (.inr ⟨by omega,by omega,by omega,eN⟩)⟩) (S5.trans (s6.trans s7))⟩
theorem xP:vL ["one","x","other","low","high","point","part","place"] ["one","x","other","low","high"] (ag (top 35)):=smk
theorem jk{C:Addr}(yy:Df K mg "least_along" (top 35))(wD:Fx P w K mg base "point_at" ["line","place"] 5 [] (AJ C))(x9:Fn P w K mg base "nearest_part" ["point","begin","end"] 5 BK)(At:Fn P w K mg base "plus" ["a","b"] 3 (yY (fun a b c d=>a*d+c*b) (fun a b c d=>b*d)))(yN:Fn P w K mg base "times" ["a","b"] 3 (yY (fun a b c d=>a*c) (fun a b c d=>b*d)))(yO:Fn P w K mg base "minus" ["a","b"] 3 (yY (fun a b c d=>a*d - c*b) (fun a b c d=>b*d)))(wm:Fn P w K mg base "square_between" ["begin","end"] 5 Cf):Fx P w K mg base "least_along" ["one","x","other","low","high"] 6 [] (Bj C):=by
 refine yy.fx xP (fun _ _ _ _ _ _ us hl=>by obtain⟨_,_,_,_,_,rfl⟩:=qc hl;rfl) (fun vs H Q E h=>?_) (fun f cdv A outer s H vs Q E hr h=>?_)
 ·obtain⟨l,l',qs,qs',x,y,z,rfl,_⟩:=h
  rfl
 ·obtain⟨l,l',qs,qs',x,y,z,rfl,L,L',h1,h1',tx,ty,tz,h⟩:=h
  refine⟨_,(ae (au (i:=5) xP.nd rfl (Or.inl rfl) (ff wD (hr.mono (by decide)) (by rfl) (aa (pv 0) (aa (pv 1) ad)))) (ae (au (i:=6) xP.nd rfl (Or.inl rfl) (ak x9 (hr.mono (by decide)) (by rfl) (aa (pv 5) (aa (ff wD (hr.mono (by decide)) (by rfl) (aa (pv 2) (aa (pv 3) ad))) (aa (ff wD (hr.mono (by decide)) (by rfl) (aa (pv 2) (aa (pv 4) ad))) ad))))) (ae (au (i:=7) xP.nd rfl (Or.inl rfl) (ak At (hr.mono (by decide)) (by rfl) (aa (pv 3) (aa (ak yN (hr.mono (by decide)) (by rfl) (aa (pv 6) (aa (ak yO (hr.mono (by decide)) (by rfl) (aa (pv 4) (aa (pv 3) ad))) ad))) ad)))) (ah (am (aA (aa (ak wm (hr.mono (by decide)) (by rfl) (aa (pv 5) (aa (ff wD (hr.mono (by decide)) (by rfl) (aa (pv 2) (aa (pv 7) ad))) ad))) (aa (pv 7) ad)))))))),?_⟩;rcases h with h|⟨p,t,b,rfl,pl,h⟩
  ·exact⟨_,rfl,_,rfl,_,_,_,rfl,L,h1.1,h1.2,tx,fun _=>h.2,fun _ _ _ e0 eH lw t0 t1=>tP h.1 e0 eH lw t0 t1⟩
  refine⟨_,rfl,_,rfl,_,_,_,rfl,L,h1.1,h1.2,zw.th pl,rj pl,rh pl fun r H1 pt s1=>?_⟩;obtain⟨ky,ny⟩:=ty.kn;obtain⟨kz,nz⟩:=tz.kn;rcases h with h|⟨q,l1,l2,rfl,pq,h⟩
  ·exact⟨_,rfl,_,rfl,_,rfl,_,_,_,rfl,(L'.mono s1),h1'.1,h1'.2,(wW.mono ty s1),fun _=>(h.2 H1 s1),fun _ _ _ e0 eH lw t0 t1=>tP (by rw[cH ny s1];exact h.1) e0 eH lw t0 t1⟩
  refine⟨_,rfl,_,rfl,_,rfl,_,_,_,rfl,(L'.mono s1),h1'.1,h1'.2,zw.th (pq.mono s1),rj (pq.mono s1),rh (pq.mono s1) fun r1 H2 pt1 s2=>?_⟩;have S2:=s1.trans s2;rcases h with h|⟨q',hi1,hi2,rfl,pq',bb,b2,b4,ins,k⟩
  ·exact⟨_,rfl,_,rfl,_,_,_,rfl,(L'.mono S2),h1'.1,h1'.2,(wW.mono tz S2),fun _=>(h.2 H2 S2),fun _ _ _ e0 eH lw t0 t1=>tP (by rw[cH nz S2];exact h.1) e0 eH lw t0 t1⟩
  have hb:(0:Int)<b:=pl.low.pos;have hl:(0:Int)<l2:=pq.low.pos;have hh:(0:Int)<hi2:=pq'.low.pos;refine⟨_,rfl,_,rfl,_,_,_,rfl,(L'.mono S2),h1'.1,h1'.2,zw.th (pq'.mono S2),rj (pq'.mono S2),rh (pq'.mono S2) fun r2 H3 pt2 s3=>?_⟩;refine⟨r,r1,r2,_,_,_,_,_,_,_,_,_,rfl,(pt.mono s2).mono s3,pt1.mono s3,pt2,hb,hl,hh,fun rp ps pw H4 gp np s4=>?_⟩;have S4:=S2.trans (s3.trans s4);have G1:yE H4 q l1 l2 200:=⟨(pq.mono S4).at_,pq.low,pq.bt,pq.bb⟩;have G2:yE H4 q' hi1 hi2 200:=⟨(pq'.mono S4).at_,pq'.low,pq'.bt,pq'.bb⟩;have hpb:ao ps≤900∧ao pw≤900:=by
   have z1:ao 0≤900∧ao 1≤900:=⟨by decide,by decide⟩;rcases np with⟨_,rfl,rfl⟩|⟨hN,⟨_,rfl,rfl⟩|⟨_,rfl,rfl⟩|⟨_,_,_,e⟩⟩
   ·exact z1
   ·exact z1
   ·exact⟨z1.2,z1.2⟩
   ·rcases ins with⟨rfl,rfl⟩|⟨kk,st⟩
    ·unfold nN at hN
     simp at hN
    ·exact oz (L'.mono S4) hb hl hh bb b2 b4 st (fE L hb pl.bb) gp.low hN e
  have gpb:yE H4 rp ps pw 900:=⟨gp.at_,gp.low,hpb.1,hpb.2⟩;refine⟨_,rfl,_,rfl,_,rfl,_,rfl,q',q,hi1,hi2,l1,l2,200,rfl,G2,G1,by decide,Int.mul_ne_zero (by omega) (by omega),fun rm a e H5 fm gm s5=>?_⟩;refine⟨rp,rm,ps,pw,a,e,900,rfl,gpb.mono s5,gm.wide (by decide),by decide,Int.mul_ne_zero (nzl gp.low) (nzl gm.low),fun rt m n H6 ft gt s6=>?_⟩;refine⟨q,rt,l1,l2,m,n,1801,rfl,((G1.mono s5).mono s6).wide (by decide),gt,by decide,Int.mul_ne_zero (by omega) (nzl gt.low),fun rpl T B H7 fT gT s7=>?_⟩;obtain⟨lp,r0,r1'⟩:=qd hb pq.low pq'.low ins np fm ft fT;have S7:=S4.trans (s5.trans (s6.trans s7));have hB:(0:Int)<B:=fT.low.pos;have t0:0≤T:=by
   have z:=Int.mul_nonneg pq.lo (show 0≤B by omega)
   by_cases c:0≤T
   ·exact c
   ·have:=Int.mul_neg_of_neg_of_pos (show T<0 by omega) hl
    omega
  have t1:T≤aH qs'*B:=by
   have z:=Int.mul_le_mul_of_nonneg_right pq'.hi (show 0≤B by omega);have:T*hi2≤aH qs'*B*hi2:=by rw[Int.mul_right_comm];omega
   exact Int.le_of_mul_le_mul_right this hh
  obtain⟨bT,bB⟩:=rM L' h1'.2 hb bb fT.low lp b2 b4 t0 t1;have PL:zw H7 rpl T B (aH qs'):=⟨gT.at_,fT.low,t0,t1,bT,af bB (by decide)⟩;refine⟨_,rfl,_,rfl,_,rfl,_,_,_,rfl,(L'.mono S7),h1'.1,h1'.2,zw.th PL,rj PL,rh PL fun r3 H8 pt3 s8=>?_⟩;refine⟨r,r3,_,_,_,_,_,_,rfl,(pt.mono (s2.trans (s3.trans (s4.trans (s5.trans (s6.trans s7)))))).mono s8,pt3,hb,hB,fun rs sn sw H9 fs gs s9=>?_⟩;refine⟨_,rfl,sz (by simp),fun rr H10 s10 f10 _=>?_⟩;exact k rr rs rpl sn sw T B H10 f10 (gs.mono s10) (PL.mono (s8.trans (s9.trans s10))) lp r0 r1' fs (S7.trans (s8.trans (s9.trans s10)))
theorem A8:vL ["script","k"] ["script","k"] (ag (top 70)):=smk
theorem jo(yC:Df K mg "_law_cell_at" (top 70))(T:Txt mg):Fn P w K mg base "_law_cell_at" ["script","k"] 1 (Dr.spCell K):=by
 refine yC.fn A8 (fun _ _ _ _ _ _ us hl=>by obtain⟨_,_,rfl⟩:=cj hl;rfl) (fun vs H Q E h=>?_) (fun f cdv A outer s H vs Q E hr h=>?_)
 ·obtain⟨sa,ss,k,rfl,_⟩:=h
  rfl
 ·obtain⟨sa,ss,k,rfl,hS,hk,q⟩:=h
  refine⟨_,(ae (aE (aq ll (pv 1) (aJ bz (by rfl) T.z_len dP (aa (pv 0) ad)) (ar _)) (ah (am (aj aI (pv 0) (pv 1) (fun _ _=>rfl)))) av) (ah (am ac))),?_⟩;refine⟨_,rfl,_,rfl,sa,_,rfl,.inl hS,_,_,rfl,rfl,_,rfl,aw (fun h1=>?_) (fun h1=>?_)⟩
  ·have h1:k<(((ss.map V.int).length:Nat):Int):=aR h1
   rw[List.length_map]at h1;exact⟨_,rfl,_,rfl,sa,_,_,_,rfl,rfl,hS,qR k.toNat (by omega) (by omega),q _⟩
  ·exact q _
theorem y7:vL ["cell","rest"] ["cell"] (ag (top 72)):=smk
theorem kR(zn:Df K mg "_law_begun" (top 72))(T:Txt mg):Fn P w K mg base "_law_begun" ["cell"] 1 Dr.spBegun:=by
 refine zn.fn y7 (fun _ _ _ _ _ _ us hl=>by obtain⟨_,rfl⟩:=gE hl;rfl) (fun vs H Q E h=>?_) (fun f cdv A outer s H vs Q E hr h=>?_)
 ·obtain⟨c,rfl,_⟩:=h
  rfl
 ·obtain⟨c,rfl,q⟩:=h
  refine⟨_,(ae (au (i:=1) y7.nd rfl (Or.inl rfl) ac) (ae (aE (aq sW (aJ fB (by rfl) T.z_abs jv (aa (pv 0) ad)) (ap fY ac ac) (ar _)) (ah (au (i:=1) y7.nd rfl (Or.inl rfl) (ap aY (ap aV (aJ fB (by rfl) T.z_abs jv (aa (pv 0) ad)) (ap fY ac ac)) ac))) av) (ah (am (bW (aa (pv 1) (aa ac (aa (ap cT (pv 0) ac) ad)))))))),?_⟩;refine⟨_,rfl,_,rfl,_,_,rfl,rfl,⟨by decide,by decide,by decide⟩,_,_,rfl,rfl,_,rfl,aw (fun h1=>?_) (fun h1=>?_)⟩
  ·refine⟨_,rfl,_,rfl,_,_,rfl,rfl,⟨by decide,by decide,by decide⟩,_,_,rfl,rfl,_,_,rfl,rfl,?_⟩
   refine⟨_,rfl,_,rfl,_,_,rfl,rfl,(by show(0:Int)<2147483647;decide),sz (by simp),fun p H2 s2 f2 n2=>?_⟩;exact q p H2 s2 n2 ⟨_,_,_,f2,Int.le_refl 0,Int.le_refl 0,Int.emod_nonneg _ (by decide),Int.emod_lt_of_pos _ (by decide)⟩
  ·refine⟨_,rfl,_,rfl,_,_,rfl,rfl,(by show(0:Int)<2147483647;decide),sz (by simp),fun p H2 s2 f2 n2=>?_⟩
   exact q p H2 s2 n2 ⟨_,_,_,f2,Int.le_refl 0,Int.le_refl 0,Int.emod_nonneg _ (by decide),Int.emod_lt_of_pos _ (by decide)⟩
theorem yI:vL ["pot","size","digit","mixed"] ["pot","size"] (ag (top 73)):=smk
theorem lL(zP:Df K mg "_law_take" (top 73)):Fn P w K mg base "_law_take" ["pot","size"] 1 Dr.spTk:=by
 refine zP.fn yI (fun _ _ _ _ _ _ us hl=>by obtain⟨_,_,rfl⟩:=cj hl;rfl) (fun vs H Q E h=>?_) (fun f cdv A outer s H vs Q E hr h=>?_)
 ·obtain⟨p,m,k,rfl,_⟩:=h
  rfl
 ·obtain⟨p,m,k,rfl,⟨a,b,c,e,hb0,hb1,hc0,hc1⟩,hk,⟨hm,bm⟩,q⟩:=h
  refine⟨_,(ae (aE (aq eI (aj aI (pv 0) ac (fun _ _=>rfl)) ac (ar _)) (ae (au (i:=2) yI.nd rfl (Or.inl rfl) (ap cT (aj aI (pv 0) ac (fun _ _=>rfl)) (pv 1))) (ae (cL (ap bH (aj aI (pv 0) ac (fun _ _=>rfl)) (pv 1)) (ko (pv 0) ac fD)) (ah (am (pv 2))))) av) (ae (cL (ap aY (aj aI (pv 0) ac (fun _ _=>rfl)) ac) (ko (pv 0) ac fD)) (ae (au (i:=3) yI.nd rfl (Or.inl rfl) (ap cT (ap aY (ap aY (ap aY (aj aI (pv 0) ac (fun _ _=>rfl)) (ap aG (ap aG ac (aj aI (pv 0) ac (fun _ _=>rfl))) (aj aI (pv 0) ac (fun _ _=>rfl)))) (ap aG ac (aj aI (pv 0) ac (fun _ _=>rfl)))) ac) ac)) (ae (au (i:=3) yI.nd rfl (Or.inl rfl) (ap cT (ap aG (ap cT (ap aG (pv 3) (pv 3)) ac) ac) ac)) (ah (am (ap cT (ap bH (pv 3) ac) (pv 1)))))))),?_⟩;refine⟨_,rfl,p,_,_,_,rfl,rfl,SqL.of e,rfl,_,_,rfl,rfl,_,rfl,aw (fun h1=>?_) (fun h1=>?_)⟩
  ·refine⟨_,rfl,p,_,_,_,rfl,rfl,SqL.of e,rfl,_,rfl,_,_,rfl,rfl,hm,?_⟩
   refine⟨_,rfl,p,_,_,_,rfl,rfl,SqL.of e,rfl,_,rfl,_,_,rfl,rfl,⟨hm,bm⟩,_,rfl,p,_,_,0,rfl,rfl,e,rfl,fun H2 u=>?_⟩;exact⟨_,rfl,q _ _ (Int.emod_nonneg _ (by omega)) (Int.emod_lt_of_pos _ hm) (fun b o nb e=>u.at nb e) ⟨_,_,_,u.now,hb0,by omega,hc0,hc1⟩⟩
  ·have e64:(2:Int)^64=18446744073709551616:=by decide
   refine⟨_,rfl,p,_,_,_,rfl,rfl,SqL.of e,rfl,_,_,rfl,rfl,_,rfl,p,_,_,1,rfl,rfl,e,rfl,fun H2 u=>?_⟩;have e2:H2 p=some (.lst [.int a,.int (b+1),.int c]):=u.now;refine⟨_,rfl,p,_,_,_,rfl,rfl,SqL.of e2,rfl,_,rfl,p,_,_,_,rfl,rfl,SqL.of e2,rfl,_,_,rfl,rfl,CM.l ⟨by decide,by decide⟩,_,rfl,p,_,_,_,rfl,rfl,SqL.of e2,rfl,_,_,rfl,rfl,CM.l (by rw[e64];omega),_,_,rfl,rfl,_,rfl,p,_,_,_,rfl,rfl,SqL.of e2,rfl,_,_,rfl,rfl,CM.l ⟨by decide,by decide⟩,_,_,rfl,rfl,_,_,rfl,rfl,_,_,rfl,rfl,(by show(0:Int)<2147483647;decide),?_⟩;have r0:=Int.emod_nonneg (c+977*(b+1)*(b+1)+40693*(b+1)+1) (show(2147483647:Int)≠0 by decide);have r1:=Int.emod_lt_of_pos (c+977*(b+1)*(b+1)+40693*(b+1)+1) (show(0:Int)<2147483647 by decide);refine⟨_,rfl,_,rfl,_,_,rfl,rfl,CM.l (by rw[e64];omega),_,_,rfl,rfl,(by show(0:Int)<1000000007;decide),_,_,rfl,rfl,CM.r ⟨by decide,by decide⟩,_,_,rfl,rfl,(by show(0:Int)<998244353;decide),?_⟩;refine⟨_,rfl,_,_,rfl,rfl,⟨by decide,by decide⟩,_,rfl,_,_,rfl,rfl,hm,?_⟩;exact q _ _ (Int.emod_nonneg _ (by omega)) (Int.emod_lt_of_pos _ hm) (fun b o nb e=>u.at nb e) ⟨_,_,_,u.now,by omega,by omega,hc0,hc1⟩
theorem yH:vL ["pot","size","number","turn"] ["pot","size"] (ag (top 74)):=smk
theorem lK(zO:Df K mg "_law_wide" (top 74))(vM:Fn P w K mg base "_law_take" ["pot","size"] 1 Dr.spTk)(T:Txt mg):Fn P w K mg base "_law_wide" ["pot","size"] 2 Dr.spWd:=by
 refine zO.fn yH (fun _ _ _ _ _ _ us hl=>by obtain⟨_,_,rfl⟩:=cj hl;rfl) (fun vs H Q E h=>?_) (fun f cdv A outer s H vs Q E hr h=>?_)
 ·obtain⟨p,m,k,rfl,_⟩:=h
  rfl
 ·obtain⟨p,m,k,rfl,pt,hk,⟨hm,bm⟩,q⟩:=h
  refine⟨_,(ae (aE (cK (aq eI (aj aI (pv 0) ac (fun _ _=>rfl)) ac (ar _)) (cq (aq ll (pv 1) (ap fY ac ac) (ar _)))).pt (ah (am (ak vM (hr.mono (by decide)) (by rfl) (aa (pv 0) (aa (pv 1) ad))))) av) (ae (au (i:=2) yH.nd rfl (Or.inl rfl) ac) (ae (dh PassesOwn.never rfl (fG rfl T.z_range (aa ac ad)) (aF (i:=3) yH.nd rfl (Or.inl rfl)) (ah (au (i:=2) yH.nd rfl (Or.inl rfl) (ap aY (ap aG (pv 2) ac) (ak vM (hr.mono (by decide)) (by rfl) (aa (pv 0) (aa ac ad))))))) (ah (am (ap cT (pv 2) (pv 1))))))),?_⟩;obtain⟨a,b,c,e,rest⟩:=id pt;have tk:∀H1,H1=H->spTk [.ref p,.int m] H1 Q E0:=fun H1 e1=>by
   subst e1;exact⟨p,m,k,rfl,pt,by omega,⟨hm,bm⟩,fun r H2 h0 h1 b2 p2=>q r H2 h0 h1 b2 (p2.mono (by omega))⟩
  refine⟨_,rfl,p,_,_,_,rfl,rfl,SqL.of e,rfl,_,_,rfl,rfl,_,rfl,aw (fun h1=>?_) (fun h1=>?_)⟩
  ·exact⟨_,rfl,_,rfl,tk _ rfl⟩
  refine⟨_,rfl,_,_,rfl,rfl,⟨by decide,by decide,by decide⟩,_,_,rfl,rfl,_,rfl,aw (fun h2=>?_) (fun h2=>?_)⟩
  ·exact⟨_,rfl,_,rfl,tk _ rfl⟩
  refine⟨4,rfl,by decide,by decide,fJ (n:=4) (lo:=0) (fun i σ H2=>∃(n:Int) (z:Option V),σ = [some (.ref p),some (.int m),some (.int n),z]∧But p H H2∧Pot H2 p (k+(i:Int))) ⟨_,_,rfl,But.refl,by simpa using pt⟩ ?_ ?_⟩
  ·rintro i σ H2 hi ⟨n,z,rfl,b2,p2⟩
   refine⟨_,rfl,_,_,rfl,rfl,CM.r ⟨by decide,by decide⟩,_,rfl,p,_,_,rfl,p2,by omega,⟨by decide,by decide⟩,fun r H3 h0 h1 b3 p3=>⟨_,_,rfl,rfl,_,_,rfl,b2.trans b3,p3.mono (by omega)⟩⟩
  ·rintro σ H2 ⟨n,z,rfl,b2,p2⟩
   exact⟨_,rfl,_,rfl,_,_,rfl,rfl,hm,q _ _ (Int.emod_nonneg _ (by omega)) (Int.emod_lt_of_pos _ hm) b2 p2⟩
theorem vW:vL ["pot","many","span","half","line","k","at"] ["pot"] (ag (top 75)):=smk
theorem gJ(xN:Df K mg "_law_drawn_line" (top 75))(vM:Fn P w K mg base "_law_take" ["pot","size"] 1 Dr.spTk)(w9:Fn P w K mg base "_law_wide" ["pot","size"] 2 Dr.spWd)(T:Txt mg):Fn P w K mg base "_law_drawn_line" ["pot"] 3 Dr.spDLine:=by
 refine xN.fn vW (fun _ _ _ _ _ _ us hl=>by obtain⟨_,rfl⟩:=gE hl;rfl) (fun vs H Q E h=>?_) (fun f cdv A outer s H vs Q E hr h=>?_)
 ·obtain⟨p,k,rfl,_⟩:=h
  rfl
 ·obtain⟨p,k,rfl,pt,hk,q⟩:=h
  have CN:yo (bD CX0 P w K mg base ["pot","many","span","half","line","k","at"] "_law_drawn_line" (ag (top 75)) f cdv A outer s H E).nox (iX (qi ((az (top 75)).getD 5 (.Pass ⟨0,0,0,0⟩)))) [] "corner" [] :=
   ⟨by rfl,rfl,by decide +kernel,by decide +kernel,rfl,(fun p hp=>nomatch hp),by rfl,by decide +kernel,(fun p hp=>nomatch hp),⟨rfl,rfl⟩,rfl⟩
  have R:∃u,PSs (bD CX0 P w K mg base ["pot","many","span","half","line","k","at"] "_law_drawn_line" (ag (top 75)) f cdv A outer s H E).nox ((az (top 75)).drop 6) u∧∀(l:Addr) (qs:Crn) (H1:Hp) (S F:Int) (z5 z6:Option V),LineM H1 l qs->1≤qs.length->qs.length≤10->H l=none->l≠p->But p H H1->Pot H1 p (k+90) ->
    u { nx:=fun _ H'=>Q .non H',rt:=Q } [some (.ref p),some (.int (qs.length:Int)),some (.int S),some (.int F),some (.ref l),z5,z6] H1:=by
   refine⟨_,(ae (aE (bC (aq eI (pv 1) ac (ar _)) (bE (aq aQ (ak vM (hr.mono (by decide)) (by rfl) (aa (pv 0) (aa ac ad))) ac (ar _)))).pt (ae (au (i:=6) vW.nd rfl (Or.inl rfl) (ap aY ac (ak vM (hr.mono (by decide)) (by rfl) (aa (pv 0) (aa (ap aV (pv 1) ac) ad))))) (ah (cL (aj aI (pv 4) (ap aV (pv 6) ac) (fun _ _=>rfl)) (ko (pv 4) (pv 6) fD)))) av) (ah (am (pv 4)))),fun l qs H1 S F z5 z6 L1 h1 h10 nl np b1 p1=>?_⟩;have hll:(qs.map fun (q:Addr×Int×Int)=>V.ref q.1).length=qs.length:=List.length_map _;have fin:∀{z5 z6:Option V} {H2:Hp},LineM H2 l qs->But p H H2->Pot H2 p (k+95)->(mD (xh 4)) { nx:=fun _ H'=>Q .non H',rt:=Q } [some (.ref p),some (.int (qs.length:Int)),some (.int S),some (.int F),some (.ref l),z5,z6] H2:=fun L2 b2 p2=>⟨_,rfl,q l qs _ L2 h1 h10 nl b2 (p2.mono (by omega))⟩;refine⟨_,rfl,_,_,rfl,rfl,_,rfl,aw (fun g1=>?_) (fun g1=>?_)⟩
   ·have g1:1<(qs.length:Int):=aR g1
    refine⟨_,rfl,p,_,_,rfl,p1,by omega,⟨by decide,by decide⟩,fun r2 H2 _ _ b2 p2=>?_⟩;have L2':=L1.but b2 p1 np;refine⟨rfl,_,rfl,aw (fun g2=>?_) (fun g2=>?_)⟩
    ·refine⟨_,rfl,_,rfl,_,_,rfl,rfl,p,_,_,rfl,p2,by omega,⟨by omega,af (bi (by omega) (by omega)) (by decide)⟩,fun r3 H3 a3 b3' b3 p3=>⟨_,_,rfl,rfl,?_⟩⟩
     have L3:=L2'.but b3 p2 np;obtain⟨qa,hqa,eqa⟩:=uz (qs:=qs) (k:=1+r3 - 1) (by omega) (by omega);refine⟨_,rfl,_,rfl,_,_,rfl,rfl,l,_,_,_,rfl,rfl,SqL.of L3.lst,eqa,_,rfl,_,rfl,l,_,_,_,rfl,rfl,L3.lst,qg (by omega) (by rw[hll];omega),fun H4 u=>?_⟩;have e4:(qs.map fun (q:Addr×Int×Int)=>V.ref q.1).set (1+r3).toNat (.ref qa.1)=(qs.set (1+r3).toNat qa).map fun (q:Addr×Int×Int)=>V.ref q.1:=by rw[List.map_set]
     have L4:LineM H4 l (qs.set (1+r3).toNat qa):=by
      refine⟨by rw[<- e4];exact u.now,fun q hq=>?_⟩;rcases List.mem_or_eq_of_mem_set hq with hq|rfl
      ·exact⟨u.t _ _ (L3.crn q hq).1,(L3.crn q hq).2⟩
      ·have m:=List.mem_of_getElem? hqa
       exact⟨u.t _ _ (L3.crn _ m).1,(L3.crn _ m).2⟩
     have b4:But p H H4:=fun b o nb e=>u.at (fun z=>by subst z;rw[nl]at e;cases e) (b3 b o nb (b2 b o nb (b1 b o nb e)));obtain⟨x,y,z,ep,rest⟩:=p3;have p4:Pot H4 p (k+90+1+1):=⟨x,y,z,u.at (Ne.symm np) ep,rest⟩;exact⟨_,rfl,q l _ _ L4 (by rw[List.length_set];exact h1) (by rw[List.length_set];exact h10) nl b4 (p4.mono (by omega))⟩
    ·exact fin L2' (b1.trans b2) (p2.mono (by omega))
   ·exact fin L1 b1 (p1.mono (by omega))
  obtain⟨u,hu,ru⟩:=R;refine⟨_,(ae (au (i:=1) vW.nd rfl (Or.inl rfl) (ap aY ac (ak vM (hr.mono (by decide)) (by rfl) (aa (pv 0) (aa (aj aI (bW (aa ac (aa ac (aa ac (aa ac (aa ac (aa ac (aa ac (aa ac ad))))))))) (ak vM (hr.mono (by decide)) (by rfl) (aa (pv 0) (aa ac ad))) (fun _ _=>rfl)) ad))))) (ae (au (i:=2) vW.nd rfl (Or.inl rfl) (aj aI (bW (aa ac (aa ac (aa ac (aa (ap aV (ap aG ac (ap fY ac ac)) ac) ad))))) (ak vM (hr.mono (by decide)) (by rfl) (aa (pv 0) (aa ac ad))) (fun _ _=>rfl))) (ae (au (i:=3) vW.nd rfl (Or.inl rfl) (ap bH (pv 2) ac)) (ae (au (i:=4) vW.nd rfl (Or.inl rfl) (bW ad)) (ae (dh PassesOwn.never rfl (fG rfl T.z_range (aa (pv 1) ad)) (aF (i:=5) vW.nd rfl (Or.inl rfl)) (ah (cW (i8 PySem.F.plainAttrs_list PySem.F.slot_list_append PySem.F.type_list_append cF (pv 4) (aa (aA (aa (ap aV (ak w9 (hr.mono (by decide)) (by rfl) (aa (pv 0) (aa (pv 2) ad))) (pv 3)) (aa (ap aV (ak w9 (hr.mono (by decide)) (by rfl) (aa (pv 0) (aa (pv 2) ad))) (pv 3)) ad))) ad))))) (ae (aE (aq aQ (ak vM (hr.mono (by decide)) (by rfl) (aa (pv 0) (aa ac ad))) ac (ar _)) (ah (eW (j:=4) rfl CN vW.nd rfl rfl (cZ (pv 4)) (fun fp s₀ H₀=>(aA (aa (aj (dl (K:=K) rfl) (pv 0) ac (fun _ _=>rfl)) (aa ac ad)))))) av) hu)))))),?_⟩;refine⟨_,rfl,sz (by simp),fun pl H1 s1 f1 n1=>?_⟩;have np1:=Pot.ne pt n1;have p1:=pt.same s1;refine⟨_,rfl,p,_,_,rfl,p1,by omega,⟨by decide,by decide⟩,fun r2 H2 a2 b2' b2 p2=>?_⟩;refine pN (fun m=>2≤m∧m≤10) (b2 _ _ np1 f1) a2 (by simpa using b2') (fun v hv=>?_) fun m hm=>?_
  ·simp only[List.mem_cons,List.not_mem_nil,or_false]at hv
   rcases hv with rfl|rfl|rfl|rfl|rfl|rfl|rfl|rfl <;> exact⟨_,rfl,by decide,by decide⟩
  refine⟨p,_,_,rfl,p2,by omega,⟨by omega,af (bi (by omega) (by omega)) (by decide)⟩,fun r3 H3 a3 b3' b3 p3=>⟨_,_,rfl,rfl,?_⟩⟩;have B3:But p H H3:=(But.of s1).trans (b2.trans b3);refine⟨_,_,rfl,rfl,⟨by decide,by decide,by decide⟩,_,_,rfl,rfl,CM.l ⟨by decide,by decide⟩,_,_,rfl,rfl,sz (by simp),fun ps H4 s4 f4 n4=>?_⟩;have np4:=Pot.ne p3 n4;have p4:=p3.same s4;have e12:(2*(10:Int)^(12:Int).toNat - 1)=1999999999999:=by decide +kernel
  refine⟨_,rfl,p,_,_,rfl,p4,by omega,⟨by decide,by decide⟩,fun r5 H5 a5 b5' b5 p5=>?_⟩;refine pN (fun m=>3≤m∧m≤1999999999999) (b5 _ _ np4 f4) a5 (by simpa using b5') (fun v hv=>?_) fun S hS=>?_
  ·simp only[List.mem_cons,List.not_mem_nil,or_false]at hv
   rcases hv with rfl|rfl|rfl|rfl
   ·exact⟨_,rfl,by decide,by decide⟩
   ·exact⟨_,rfl,by decide,by decide⟩
   ·exact⟨_,rfl,by decide,by decide⟩
   ·exact⟨_,rfl,by rw[e12];decide,by rw[e12];decide⟩
  have B5:But p H H5:=(B3.trans (But.of s4)).trans b5;have bS:ao S≤8000:=af (m:=50) (dn (by show _<1125899906842624;omega)) (by decide);refine⟨_,rfl,_,_,rfl,rfl,⟨by decide,by decide⟩,?_⟩;refine⟨sz (by simp),fun l H6 s6 f6 n6=>?_⟩;have npl:=Pot.ne p5 n6;have nl:H l=none:=B5.none npl n6;have p6:=p5.same s6;refine⟨_,rfl,_,rfl,by omega,by omega,?_⟩;refine fJ (n:=(1+r3).toNat) (lo:=0) (fun i σ H7=>∃(z5 z6:Option V) (qs:Crn),σ = [some (.ref p),some (.int (1+r3)),some (.int S),some (.int (S / 2)),some (.ref l),z5,z6]∧qs.length=i∧LineM H7 l qs∧But p H H7∧Pot H7 p (k+3+8*(i:Int)))
   ⟨_,_,[],rfl,rfl,⟨f6,fun q h=>nomatch h⟩,B5.trans (But.of s6),p6.mono (by omega)⟩ ?_ ?_
  ·rintro i σ H7 hi ⟨z5,z6,qs,rfl,hl,L7,b7,p7⟩
   have hi10:i<10:=by omega
   refine⟨_,rfl,.inl ⟨rfl,_,SqL.of L7.lst⟩,?_⟩;refine⟨_,rfl,_,rfl,p,_,_,rfl,p7,by omega,⟨by omega,bS⟩,fun r8 H8 a8 b8' b8 p8=>⟨_,rfl,_,_,rfl,rfl,?_⟩⟩;refine⟨_,rfl,_,rfl,p,_,_,rfl,p8,by omega,⟨by omega,bS⟩,fun r9 H9 a9 b9' b9 p9=>⟨_,rfl,_,_,rfl,rfl,sz (by simp),fun pp H10 s10 f10 n10=>?_⟩⟩;have L10:=((L7.but b8 p7 npl).but b9 p8 npl).mono s10;refine⟨l,_,_,rfl,rfl,L10.lst,bJ (by rw[List.length_map];omega),fun H11 u=>⟨_,_,qs++[(pp,r8 - S / 2,r9 - S / 2)],rfl,by simp[hl],⟨by rw[u.now];simp,fun q hq=>?_⟩,fun b o nb e=>?_,?_⟩⟩
   ·rcases List.mem_append.mp hq with hq|hq
    ·exact⟨u.t _ _ (L10.crn q hq).1,(L10.crn q hq).2⟩
    ·rw[List.mem_singleton.mp hq]
     refine⟨u.t _ _ f10,?_,?_⟩ <;> (show -999999999999≤_∧_≤999999999999;dsimp only;omega)
   ·exact u.at (fun z=>by subst z;rw[nl]at e;cases e) (s10 _ _ (b9 b o nb (b8 b o nb (b7 b o nb e))))
   ·obtain⟨x,y,z,ep,rest⟩:=(p9.same s10).mono (k':=k+3+8*((i+1:Nat):Int)) (by omega)
    exact⟨x,y,z,u.at (Ne.symm npl) ep,rest⟩
  ·rintro σ H7 ⟨z5,z6,qs,rfl,hl,L7,b7,p7⟩
   have hmany:(qs.length:Int)=1+r3:=by omega
   refine⟨_,rfl,p,_,_,rfl,p7,by omega,⟨by decide,by decide⟩,fun r8 H8 _ _ b8 p8=>?_⟩;have L8:=L7.but b8 p7 npl;rw[<- hmany];refine⟨rfl,_,rfl,aw (fun g1=>?_) (fun g1=>?_)⟩
   ·refine⟨_,rfl,l,rfl,⟨_,SqL.of L8.lst⟩,ij (SqL.of L8.lst) (by rw[List.length_map];omega) (fun _ v H=>∃p x,v = .ref p∧H p=some (.tup [.int x,.int 0])∧Sm x) (fun i v H H' st ⟨p,x,e,c,s⟩=>⟨p,x,e,st _ _ c,s⟩) ?_ ?_⟩
    ·intro i x H9 Kc hx s9 kk
     rw[List.getElem?_map]at hx;obtain⟨q,hq,rfl⟩:=Option.map_eq_some_iff.mp hx;have c:=s9 _ _ (L8.crn q (List.mem_of_getElem? hq)).1;refine⟨_,rfl,q.1,_,_,_,rfl,rfl,SqT.of c,rfl,sz (by simp),fun pp H10 s10 f10 n10=>kk _ _ s10 ⟨pp,_,rfl,f10,(L8.crn q (List.mem_of_getElem? hq)).2.1⟩⟩
    ·intro l2 ys H9 nl2 s9 f9 hly hr
     rw[List.length_map]at hly;have np2:=Pot.ne p8 nl2;have ex:∃rs:Crn,rs.length=qs.length∧LineM H9 l2 rs:=by
      have hch:∀ys:List V,(∀y∈ys,∃(p:Addr) (x:Int),y = .ref p∧H9 p=some (.tup [.int x,.int 0])∧Sm x)->∃rs:Crn,ys=rs.map (fun q=>V.ref q.1)∧∀q∈rs,H9 q.1=some (.tup [.int q.2.1,.int q.2.2])∧Sm q.2.1∧Sm q.2.2:=by
       intro ys
       induction ys with
       | nil=>exact fun _=>⟨[],rfl,fun q h=>nomatch h⟩
       | cons y ys ih =>
        intro h;obtain⟨rs,e,hrs⟩:=ih fun z hz=>h z (List.mem_cons_of_mem _ hz);obtain⟨pp,x,rfl,c,sx⟩:=h y List.mem_cons_self;refine⟨(pp,x,0)::rs,by rw[e];rfl,fun q hq=>?_⟩;rcases List.mem_cons.mp hq with rfl|hq
        ·exact⟨c,sx,by show -999999999999≤(0:Int)∧(0:Int)≤999999999999;decide⟩
        ·exact hrs q hq
      obtain⟨rs,e,hrs⟩:=hch ys fun y hy=>by
       obtain⟨i,hi⟩:=List.getElem?_of_mem hy;exact hr i y hi
      refine⟨rs,?_,⟨by rw[f9,e],hrs⟩⟩;rw[e,List.length_map]at hly;exact hly
     obtain⟨rs,hrl,L9⟩:=ex;have:=ru l2 rs H9 S (S / 2) z5 z6 L9 (by omega) (by omega) ((b7.trans b8).none np2 nl2) np2 ((b7.trans b8).trans (But.of s9)) ((p8.same s9).mono (by omega));rw[hrl]at this;exact this
   ·exact ru l qs H8 S (S / 2) z5 z6 L8 (by omega) (by omega) nl npl (b7.trans b8) (p8.mono (by omega))
theorem A6:vL ["way"] ["way"] (ag (top 38)):=smk
theorem jj{C pW:Addr}(yx:Df K mg "look_at_way" (top 38))(Bt:Al K mg "NoWay" C)(Ds:mg "WAYS" = some (.ref pW))(hW:∀H,SqT K H pW [.str wOn,.str a6,.str aL,.str aB])(T:Txt mg):Fx P w K mg base "look_at_way" ["way"] 1 [] (Bb C):=by
 refine yx.fx A6 (fun _ _ _ _ _ _ us hl=>by obtain⟨_,rfl⟩:=gE hl;rfl) (fun vs H Q E h=>?_) (fun f cdv A outer s H vs Q E hr h=>?_)
 ·obtain⟨x,t,rfl,_⟩:=h
  rfl
 ·obtain⟨x,t,rfl,kn,h⟩:=h
  refine⟨_,(ah (aE (cK (ci (aS (aJ cJ (by rfl) T.z_isinstance cf (aa (pv 0) (aa (jS T.z_str ut) ad))))) (cq (aq kq (pv 0) (rl (v:=.ref _) (by rfl) Ds rfl) (by rfl)))).pt (ah (eZ Bt (by rfl))) av)),?_⟩;refine⟨_,rfl,x,t,"str",rfl,kn,nice_str,_,rfl,?_⟩;rcases h with⟨w,rfl,hw,q⟩|⟨hn,hE⟩
  ·cases kn
   refine cB (by decide) ?_;refine⟨_,rfl,pW,_,rfl,.inr (hW _),rfl,rfl,_,rfl,cB ?_ q⟩;rcases hw with rfl|rfl|rfl|rfl <;> decide
  ·cases hs:fk t "str" with
   | false=>exact oJ hE
   | true =>
    obtain⟨w,rfl⟩:∃w,x = .str w:=by
     cases kn with
     | str w=>exact⟨w,rfl⟩
     | non=>exact absurd hs (by decide)
     | bl b=>exact absurd hs (by decide)
     | int i=>exact absurd hs (by decide)
     | lst e=>exact absurd hs (by decide)
     | tup e=>exact absurd hs (by decide)
     | dict e=>exact absurd hs (by decide)
    refine kC ?_;refine⟨_,rfl,pW,_,rfl,.inr (hW _),rfl,rfl,_,rfl,rR ?_ hE⟩;have hn':=hn w rfl;have e:inV (.str w) [.str wOn,.str a6,.str aL,.str aB]=false:=by
     rw[Bool.eq_false_iff];intro z;apply hn';have z':(wOn == w || (a6 == w || (aL == w || (aB == w || false))))=true:=z;simp only[Bool.or_eq_true,beq_iff_eq,Bool.false_eq_true,or_false]at z';rcases z' with h|h|h|h
     ·exact .inl h.symm
     ·exact .inr (.inl h.symm)
     ·exact .inr (.inr (.inl h.symm))
     ·exact .inr (.inr (.inr h.symm))
    show(if true=true then !inV (.str w) _ else _)=true
    rw[e];rfl
theorem Cp:vL ["one","other","thing"] ["one","other","thing"] (ag (top 25)):=smk
theorem mR(Az:Df K mg "is_pair" (top 25))(xl:Fn P w K mg base "is_place" ["line","thing"] 3 zu)(T:Txt mg):Fn P w K mg base "is_pair" ["one","other","thing"] 4 BH:=by
 refine Az.fn Cp (fun _ _ _ _ _ _ us hl=>by obtain⟨_,_,_,rfl⟩:=hU hl;rfl) (fun vs H Q E h=>?_) (fun f cdv A outer s H vs Q E hr h=>?_)
 ·obtain⟨l1,l2,xs1,xs2,v,rfl,_⟩:=h
  rfl
 ·obtain⟨l1,l2,xs1,xs2,v,rfl,⟨e1,n1⟩,⟨e2,n2⟩,pt,q⟩:=h
  refine⟨_,(ae (aE (cK (ci (aS (aJ cJ (by rfl) T.z_isinstance cf (aa (pv 2) (aa (jS T.z_tuple mi) ad))))) (cq (aq dF (aJ bz (by rfl) T.z_len dP (aa (pv 2) ad)) ac (ar _)))).pt (ah (am cI)) av) (ah (am (bZ (ak xl (hr.mono (by decide)) (by rfl) (aa (pv 0) (aa (aj ai (pv 2) ac (fun _ _=>rfl)) ad))) (bG (ak xl (hr.mono (by decide)) (by rfl) (aa (pv 1) (aa (aj ai (pv 2) ac (fun _ _=>rfl)) ad)))))))),?_⟩;obtain⟨t,kn⟩:=pt.kn;refine⟨_,rfl,v,t,"tuple",rfl,kn,nice_tuple,_,rfl,?_⟩;rcases Kn.cases_tp' (n:=(xs1.length:Int) - 1) (m:=(xs2.length:Int) - 1) kn with⟨p,xs,rfl,e,rfl⟩|⟨hv,hs⟩
  ·refine cB (by decide) ?_
   refine⟨_,rfl,p,xs,rfl,.inr (SqT.of e),rfl,_,rfl,aw (fun hc=>?_) (fun hc=>?_)⟩
   ·have hn:xs.length≠2:=by
     intro z;rw[z]at hc;exact absurd hc (by decide)
    have z:cn ((xs1.length:Int) - 1) ((xs2.length:Int) - 1) H (.ref p)=false:=by
     unfold cn;simp only[e]
     split
     ·rename_i h
      cases h;exact absurd rfl hn
     ·rfl
    rw[z]at q;exact q
   ·have hn:xs.length=2:=by
     have z:(xs.length:Int)=2:=by simpa using hc
     omega
    obtain⟨x,y,rfl⟩:=cj hn;rw[fH e]at q;have tx:=(pt.parts p _ rfl e x (by simp)).1;have ty:=(pt.parts p _ rfl e y (by simp)).1;refine⟨_,rfl,_,rfl,p,_,_,_,rfl,rfl,SqT.of e,rfl,l1,_,_,rfl,e1,n1,tx,_,rfl,aw (fun h1=>?_) (fun h1=>?_)⟩
    ·rw[h1,Bool.true_and]at q
     exact⟨_,rfl,_,rfl,p,_,_,_,rfl,rfl,SqT.of e,rfl,l2,_,_,rfl,e2,n2,ty,q⟩
    ·rw[h1,Bool.false_and]at q
     exact q
  ·rw[hv]at q
   rw[hs];exact oJ q
theorem BE:vL ["one","other","thing"] ["one","other","thing"] (ag (top 26)):=smk
theorem kT(zq:Df K mg "are_pairs" (top 26))(Au:Fn P w K mg base "is_pair" ["one","other","thing"] 4 BH)(T:Txt mg):Fn P w K mg base "are_pairs" ["one","other","thing"] 5 AK:=by
 refine zq.fn BE (fun _ _ _ _ _ _ us hl=>by obtain⟨_,_,_,rfl⟩:=hU hl;rfl) (fun vs H Q E h=>?_) (fun f cdv A outer s H vs Q E hr h=>?_)
 ·obtain⟨l1,l2,xs1,xs2,v,rfl,_⟩:=h
  rfl
 ·obtain⟨l1,l2,xs1,xs2,v,rfl,⟨e1,n1⟩,⟨e2,n2⟩,pt,q⟩:=h
  have CN:yo (bD CX0 P w K mg base ["one","other","thing"] "are_pairs" (ag (top 26)) f cdv A outer s H E).nox (Dr.compScope (kj ((az (top 26)).getD 1 (.Pass ⟨0,0,0,0⟩)))) [("other",s.heap.objs.size+2),("one",s.heap.objs.size+1)] "pair" [("one",0),("other",1)] :=
   ⟨by rfl,rfl,by decide +kernel,by decide +kernel,rfl,(fun p hp=>by simp only[List.mem_cons,List.not_mem_nil,or_false]at hp;rcases hp with rfl|rfl <;> rfl),by rfl,by decide +kernel,(fun p hp=>by simp only[List.mem_cons,List.not_mem_nil,or_false]at hp;rcases hp with rfl|rfl <;> exact⟨rfl,rfl,.inr (.inl rfl),rfl,rfl⟩),⟨rfl,rfl⟩,rfl⟩
  refine⟨_,(ae (aE (cK (ci (aS (aJ cJ (by rfl) T.z_isinstance cf (aa (pv 2) (aa (jS T.z_list n9) ad))))) (cq (aq aQ (aJ bz (by rfl) T.z_len dP (aa (pv 2) ad)) ac (ar _)))).pt (ah (am cI)) av) (ah (am (aJ (jt rfl) (by rfl) T.z_all mX (aa (gC rfl CN (cZ (pv 2)) (fun fp s₀ H₀=>(ak Au (hr.mono (by decide)) (by rfl) (aa (pv 1) (aa (pv 2) (aa (pv 0) ad)))))) ad))))),?_⟩;obtain⟨t,kn⟩:=pt.kn;refine⟨_,rfl,v,t,"list",rfl,kn,nice_list,_,rfl,?_⟩;rcases Kn.cases_lst' (n:=(xs1.length:Int) - 1) (m:=(xs2.length:Int) - 1) kn with⟨p,xs,rfl,e,rfl⟩|⟨hv,hs⟩
  ·refine cB (by decide) ?_
   rw[i9 e]at q;obtain⟨hlen,hth⟩:=pt.parts p xs rfl e;refine⟨_,rfl,p,xs,rfl,.inl (SqL.of e),rfl,_,rfl,aw (fun hc=>?_) (fun hc=>?_)⟩
   ·have hn:xs = []:=by
     have z:(xs.length:Int)=0:=by simpa using hc
     exact List.length_eq_zero_iff.mp (by omega)
    subst hn;exact q H (Same.refl _)
   ·have hn:xs≠[]:=fun z=>by
     subst z;exact absurd hc (by decide)
    have hne:xs.isEmpty=false:=by cases xs with|nil=>exact absurd rfl hn|cons x r=>rfl
    rw[hne]at q;refine⟨_,rfl,p,rfl,⟨_,SqL.of e⟩,ij (SqL.of e) (by omega) (fun i v' _=>v' = .bl (cn ((xs1.length:Int) - 1) ((xs2.length:Int) - 1) H (xs.getD i .non))) (fun _ _ _ _ _ h=>h) ?_ ?_⟩
    ·intro i x H2 Kc hx s2 kk
     have hm:=List.mem_of_getElem? hx;refine⟨_,rfl,_,rfl,_,rfl,l1,l2,_,_,_,rfl,⟨s2 _ _ e1,n1⟩,⟨s2 _ _ e2,n2⟩,(hth x hm).mono s2,kk _ _ (Same.refl _) ?_⟩;rw[mK (hth x hm) s2,List.getD_eq_getElem?_getD,hx];rfl
    ·intro l ys H2 nl s2 f2 hl hr
     have ey:ys=(xs.map (cn ((xs1.length:Int) - 1) ((xs2.length:Int) - 1) H)).map V.bl:=by
      refine List.ext_getElem? fun i=>?_
      by_cases hi:i<xs.length
      ·have h1:ys[i]? = some ys[i]:=List.getElem?_eq_getElem (by omega)
       rw[h1,hr i _ h1,List.getElem?_map,List.getElem?_map,List.getElem?_eq_getElem hi,List.getD_eq_getElem?_getD,List.getElem?_eq_getElem hi];rfl
      ·rw[List.getElem?_eq_none (by omega),List.getElem?_eq_none (by simp;omega)]
     rw[ey]at f2;refine⟨l,_,rfl,SqL.of f2,?_⟩;have z:=q H2 s2;rw[List.all_map];exact z
  ·rw[hs]
   have z:=q H (Same.refl _);rw[hv]at z;exact oJ z
theorem gN(f:Pr)(r:List Pr):atI (prs (f::r)) (-1)=some (.ref ((f::r).getLast (by simp)).p):=by
 have h:prs (f::r)=prs ((f::r).dropLast)++[V.ref ((f::r).getLast (by simp)).p]:=by
  unfold prs;rw[<- List.map_singleton (f:=fun (q:Pr)=>V.ref q.p),<- List.map_append,List.dropLast_concat_getLast]
 rw[h];exact qS _ _
theorem d5(a b n:Int):decide ([a,b] = [n,1])=isP a b n:=by
 unfold isP;rw[Bool.eq_iff_iff];simp
theorem dq{w:Str}:∀{ps:List Pr},cE w ps=true↔∀(j:Nat) u v,ps[j]? = some u->ps[j+1]? = some v->dE w u v=true
 | []=>by simp[cE]
 | [u]=>by simp[cE]
 | u::v::r=>by
  unfold cE;rw[Bool.and_eq_true,dq (ps:=v::r)];constructor
  ·rintro⟨h1,h2⟩ j x y ex ey
   cases j with
   | zero=>cases ex;cases ey;exact h1
   | succ j=>exact h2 j x y (by simpa using ex) (by simpa using ey)
  ·intro h
   exact⟨h 0 u v rfl rfl,fun j x y ex ey=>h (j+1) x y (by simpa using ex) (by simpa using ey)⟩
theorem wO:vL ["one","other","walk","way","first","last"] ["one","other","walk","way"] (ag (top 58)):=smk
theorem dW(wQ:BG K mg "has_right_ends_walks" "has_right_ends" (top 58))(we:Fn P w K mg base "last_of" ["line"] 1 An):Fn P w K mg base "has_right_ends_walks" ["one","other","walk","way"] 2 BP:=by
 refine wQ.fn wO (fun _ _ _ _ _ _ us hl=>by obtain⟨_,_,_,_,rfl⟩:=ir hl;rfl) (fun vs H Q E h=>?_) (fun f cdv A outer s H vs Q E hr h=>?_)
 ·obtain⟨l1,l2,l,xs1,xs2,f,r,w,rfl,_⟩:=h
  rfl
 ·obtain⟨l1,l2,l,xs1,xs2,f,r,w,rfl,e1,e2,P,q⟩:=h
  refine⟨_,(ae (au (i:=4) wO.nd rfl (Or.inl rfl) (aj aI (pv 2) ac (fun _ _=>rfl))) (ae (au (i:=5) wO.nd rfl (Or.inl rfl) (aj aI (pv 2) (i7 fU ac) (fun _ _=>rfl))) (ae (aE (cK (aq (gW hr.units0) (aj ai (pv 4) ac (fun _ _=>rfl)) (aA (aa ac (aa ac ad))) (ar _)) (cq (aq (gW hr.units0) (aj ai (pv 5) ac (fun _ _=>rfl)) (aA (aa (ak we (hr.mono (by decide)) (by rfl) (aa (pv 0) ad)) (aa ac ad))) (ar _)))).pt (ah (am cI)) av) (ae (aE (aq aQ (pv 3) aP (ar _)) (ah (am cI)) av) (ah (am (bZ (a7 (dJ hr.units0) (aj ai (pv 4) ac (fun _ _=>rfl)) (aA (aa ac (aa ac ad))) (ar _)) (bG (a7 (dJ hr.units0) (aj ai (pv 5) ac (fun _ _=>rfl)) (aA (aa (ak we (hr.mono (by decide)) (by rfl) (aa (pv 1) ad)) (aa ac ad))) (ar _)))))))))),?_⟩;have hf:=P.pr f (by simp);have hl:=P.pr _ (List.getLast_mem (l:=f::r) (by simp));refine⟨_,rfl,l,_,_,_,rfl,rfl,SqL.of P.lst,iR (V.ref f.p) (prs r),?_⟩;refine⟨_,rfl,_,rfl,l,_,_,_,rfl,rfl,SqL.of P.lst,gN f r,?_⟩;generalize (f::r).getLast (by simp)=z at *;unfold gM at q;refine⟨_,rfl,f.p,_,_,_,rfl,rfl,SqT.of hf.p_,rfl,sz (by simp),fun t1 H1 s1 g1 _=>?_⟩;refine⟨f.x,t1,[f.a,f.b],[0,1],rfl,rfl,SqT.of (s1 _ _ hf.x_),SqT.of g1,_,rfl,?_⟩;show if (!decide ([f.a,f.b] = [0,1]))=true then _ else _
  rw[d5];refine aw (fun c1=>?_) (fun c1=>?_)
  ·have c1':isP f.a f.b 0=false:=by simpa using c1
   have y:=q H1 s1;rw[c1']at y;exact y
  have c1':isP f.a f.b 0=true:=by simpa using c1
  rw[c1',Bool.true_and]at q;have hl1:=hl.t s1.t;refine⟨_,rfl,z.p,_,_,_,rfl,rfl,SqT.of hl1.p_,rfl,_,rfl,l1,xs1,rfl,s1 _ _ e1,sz (by simp),fun t2 H2 s2 g2 _=>?_⟩;refine⟨z.x,t2,[z.a,z.b],[(xs1.length:Int) - 1,1],rfl,rfl,SqT.of (s2 _ _ hl1.x_),SqT.of g2,_,rfl,?_⟩;show if (!decide ([z.a,z.b] = [(xs1.length:Int) - 1,1]))=true then _ else _
  rw[d5];refine aw (fun c2=>?_) (fun c2=>?_)
  ·have c2':isP z.a z.b ((xs1.length:Int) - 1)=false:=by simpa using c2
   have y:=q H2 (s1.trans s2);rw[c2']at y;exact y
  have c2':isP z.a z.b ((xs1.length:Int) - 1)=true:=by simpa using c2
  rw[c2']at q;refine⟨_,rfl,rfl,_,rfl,aw (fun c3=>?_) (fun c3=>?_)⟩
  ·have e:w=a6:=by
    have:V.str w=V.str a6:=aR c3;cases this;rfl
   have y:=q H2 (s1.trans s2);rw[if_pos rfl,if_pos e]at y;exact y
  ·have e:¬w=a6:=fun z=>by
    subst z;exact absurd c3 (by decide)
   rw[if_pos rfl,if_neg e]at q;have hf2:=hf.t (s1.trans s2).t;have hl2:=hl1.t s2.t;refine⟨_,rfl,f.p,_,_,_,rfl,rfl,SqT.of hf2.p_,rfl,sz (by simp),fun t3 H3 s3 g3 _=>?_⟩;refine⟨f.y,t3,[f.c,f.d],[0,1],rfl,rfl,SqT.of (s3 _ _ hf2.y_),SqT.of g3,_,rfl,?_⟩;show if (decide ([f.c,f.d] = [0,1]))=true then _ else _
   rw[d5];refine aw (fun c4=>?_) (fun c4=>?_)
   ·rw[c4,Bool.true_and]at q
    have hl3:=hl2.t s3.t;refine⟨_,rfl,z.p,_,_,_,rfl,rfl,SqT.of hl3.p_,rfl,_,rfl,l2,xs2,rfl,(s1.trans (s2.trans s3)) _ _ e2,sz (by simp),fun t4 H4 s4 g4 _=>?_⟩;refine⟨z.y,t4,[z.c,z.d],[(xs2.length:Int) - 1,1],rfl,rfl,SqT.of (s4 _ _ hl3.y_),SqT.of g4,?_⟩;show Q (.bl (decide ([z.c,z.d] = [(xs2.length:Int) - 1,1]))) H4;rw[d5];exact q H4 (s1.trans (s2.trans (s3.trans s4)))
   ·have y:=q H3 (s1.trans (s2.trans s3))
    rw[c4]at y;exact y
theorem Cq:vL ["begin","end"] ["begin","end"] (ag (top 60)):=smk
theorem mS(AB:Df K mg "goes_on" (top 60))(wE:Fn P w K mg base "less" ["a","b"] 1 wY)(vV:Fn P w K mg base "share_a_stretch" ["one","other"] 3 Af):Fn P w K mg base "goes_on" ["begin","end"] 4 (AS fun a b c d=>(!decide (c*b<a*d)) && aK a b c d):=by
 refine AB.fn Cq (fun _ _ _ _ _ _ us hl=>by obtain⟨_,_,rfl⟩:=cj hl;rfl) (fun vs H Q E h=>?_) (fun f cdv A outer s H vs Q E hr h=>?_)
 ·obtain⟨p,q,a,b,c,d,rfl,_⟩:=h
  rfl
 ·obtain⟨p,q,a,b,c,d,rfl,ep,eq,sa,sc,k⟩:=h
  refine⟨_,(ah (am (bZ (d9 (ak wE (hr.mono (by decide)) (by rfl) (aa (pv 1) (aa (pv 0) ad)))) (bG (ak vV (hr.mono (by decide)) (by rfl) (aa (pv 0) (aa (pv 1) ad))))))),?_⟩
  try dsimp only at k
  refine⟨_,rfl,_,rfl,q,p,c,d,a,b,rfl,eq,ep,⟨af sc.ba (by decide),af sc.bb (by decide),af sa.ba (by decide),af sa.bb (by decide)⟩,_,rfl,_,rfl,aw (fun h1=>?_) (fun h1=>?_)⟩
  ·refine⟨_,rfl,_,rfl,p,q,a,b,c,d,rfl,ep,eq,sa,sc,fun H' s'=>?_⟩
   have y:=k H' s';rw[h1,Bool.true_and]at y;exact y
  ·have y:=k H (Same.refl _)
   rw[h1,Bool.false_and]at y;exact y
theorem A9:vL ["begin","end"] ["begin","end"] (ag (top 61)):=smk
theorem jp(yD:Df K mg "goes_freely" (top 61))(vV:Fn P w K mg base "share_a_stretch" ["one","other"] 3 Af):Fn P w K mg base "goes_freely" ["begin","end"] 4 (AS aK):=by
 refine yD.fn A9 (fun _ _ _ _ _ _ us hl=>by obtain⟨_,_,rfl⟩:=cj hl;rfl) (fun vs H Q E h=>?_) (fun f cdv A outer s H vs Q E hr h=>?_)
 ·obtain⟨p,q,a,b,c,d,rfl,_⟩:=h
  rfl
 ·obtain⟨p,q,a,b,c,d,rfl,ep,eq,sa,sc,k⟩:=h
  refine⟨_,(ah (am (ak vV (hr.mono (by decide)) (by rfl) (aa (pv 0) (aa (pv 1) ad))))),?_⟩;exact⟨_,rfl,_,rfl,p,q,a,b,c,d,rfl,ep,eq,sa,sc,k⟩
theorem Do:vL ["begin","end"] ["begin","end"] (ag (top 62)):=smk
theorem sC(Ce:Df K mg "hops" (top 62)):Fn P w K mg base "hops" ["begin","end"] 1 (AS fun a b c d=>decide (b=1) && (decide (d=1) && (decide (c - a=0) || decide (c - a=1)))):=by
 refine Ce.fn Do (fun _ _ _ _ _ _ us hl=>by obtain⟨_,_,rfl⟩:=cj hl;rfl) (fun vs H Q E h=>?_) (fun f cdv A outer s H vs Q E hr h=>?_)
 ·obtain⟨p,q,a,b,c,d,rfl,_⟩:=h
  rfl
 ·obtain⟨p,q,a,b,c,d,rfl,ep,eq,sa,sc,k⟩:=h
  refine⟨_,(ah (am (bZ (a7 aQ (aj ai (pv 0) ac (fun _ _=>rfl)) ac (ar _)) (bZ (a7 aQ (aj ai (pv 1) ac (fun _ _=>rfl)) ac (ar _)) (bG (a7 oB (ap aV (aj ai (pv 1) ac (fun _ _=>rfl)) (aj ai (pv 0) ac (fun _ _=>rfl))) (aA (aa ac (aa ac ad))) (by rfl))))))),?_⟩
  try dsimp only at k
  have di:∀i j:Int,decide (V.int i=V.int j)=decide (i=j):=fun i j=>by
   rw[Bool.eq_iff_iff];simp
  refine⟨_,rfl,p,_,_,_,rfl,rfl,SqT.of ep,rfl,rfl,_,rfl,?_⟩;rw[di];refine aw (fun h1=>?_) (fun h1=>?_)
  ·rw[h1,Bool.true_and]at k
   refine⟨_,rfl,q,_,_,_,rfl,rfl,SqT.of eq,rfl,rfl,_,rfl,?_⟩;rw[di];refine aw (fun h2=>?_) (fun h2=>?_)
   ·rw[h2,Bool.true_and]at k
    refine⟨_,rfl,q,_,_,_,rfl,rfl,SqT.of eq,rfl,_,rfl,p,_,_,_,rfl,rfl,SqT.of ep,rfl,_,_,rfl,rfl,sz (by simp),fun t H1 s1 g1 _=>?_⟩;refine⟨t,_,rfl,.inr (SqT.of g1),rfl,rfl,?_⟩;have e:inV (.int (c - a)) [.int 0,.int 1]=(decide (c - a=0) || decide (c - a=1)):=by
     show((0:Int) == (c - a) || ((1:Int) == (c - a) || false))=_;rw[Bool.eq_iff_iff];simp only[Bool.or_eq_true,beq_iff_eq,decide_eq_true_eq,Bool.false_eq_true,or_false];omega
    show Q (.bl (inV (.int (c - a)) [.int 0,.int 1])) H1;rw[e];exact k H1 s1
   ·have y:=k H (Same.refl _)
    rw[h2,Bool.false_and]at y;exact y
  ·have y:=k H (Same.refl _)
   rw[h1,Bool.false_and]at y;exact y
theorem Ap:vL ["begin","end","way"] ["begin","end","way"] (ag (top 63)):=smk
theorem gH(xL:BG K mg "may_step_walks" "may_step" (top 63))(Ca:Fn P w K mg base "hops" ["begin","end"] 1 (AS fun a b c d=>decide (b=1) && (decide (d=1) && (decide (c - a=0) || decide (c - a=1)))))(yv:Fn P w K mg base "goes_freely" ["begin","end"] 4 (AS aK))(Av:Fn P w K mg base "goes_on" ["begin","end"] 4 (AS fun a b c d=>(!decide (c*b<a*d)) && aK a b c d)):Fn P w K mg base "may_step_walks" ["begin","end","way"] 5 CA:=by
 refine xL.fn Ap (fun _ _ _ _ _ _ us hl=>by obtain⟨_,_,_,rfl⟩:=hU hl;rfl) (fun vs H Q E h=>?_) (fun f cdv A outer s H vs Q E hr h=>?_)
 ·obtain⟨p,q,a,b,c,d,w,rfl,_⟩:=h
  rfl
 ·obtain⟨p,q,a,b,c,d,w,rfl,ep,eq,sa,sc,k⟩:=h
  refine⟨_,(ae (aE (aq aQ (pv 2) aP (ar _)) (ah (am (ak Ca (hr.mono (by decide)) (by rfl) (aa (pv 0) (aa (pv 1) ad))))) av) (ae (aE (aq aQ (pv 2) aP (ar _)) (ah (am (ak yv (hr.mono (by decide)) (by rfl) (aa (pv 0) (aa (pv 1) ad))))) av) (ah (am (ak Av (hr.mono (by decide)) (by rfl) (aa (pv 0) (aa (pv 1) ad))))))),?_⟩;have ds:∀{u v:Str} {b:Bool},decide (V.str u=V.str v)=b->decide (u=v)=b:=fun {u v b} h=>by
   rw[<- h,Bool.eq_iff_iff];simp
  unfold goB at k;refine⟨_,rfl,rfl,_,rfl,aw (fun h1=>?_) (fun h1=>?_)⟩
  ·rw[if_pos (show w=aB from aR (ds h1))]at k
   exact⟨_,rfl,_,rfl,p,q,a,b,c,d,rfl,ep,eq,sa,sc,k⟩
  rw[if_neg (show ¬w=aB from bI (ds h1))]at k;refine⟨_,rfl,rfl,_,rfl,aw (fun h2=>?_) (fun h2=>?_)⟩
  ·rw[if_pos (show w=aL from aR (ds h2))]at k
   exact⟨_,rfl,_,rfl,p,q,a,b,c,d,rfl,ep,eq,sa,sc,k⟩
  rw[if_neg (show ¬w=aL from bI (ds h2))]at k;exact⟨_,rfl,_,rfl,p,q,a,b,c,d,rfl,ep,eq,sa,sc,k⟩
theorem wH:vL ["walk","way","begin","end"] ["walk","way"] (ag (top 65)):=smk
theorem dM(wL:BG K mg "has_right_steps_walks" "has_right_steps" (top 65))(xg:Fn P w K mg base "may_step_walks" ["begin","end","way"] 5 CA)(T:Txt mg):Fn P w K mg base "has_right_steps_walks" ["walk","way"] 6 Bc:=by
 refine wL.fn wH (fun _ _ _ _ _ _ us hl=>by obtain⟨_,_,rfl⟩:=cj hl;rfl) (fun vs H Q E h=>?_) (fun f cdv A outer s H vs Q E hr h=>?_)
 ·obtain⟨l,ps,w,rfl,_⟩:=h
  rfl
 ·obtain⟨l,ps,w,rfl,P,hlen,k⟩:=h
  refine⟨_,(ae (dh PassesOwn.never rfl (km rfl T.z_zip (aa (pv 0) (aa (fe eU (pv 0) (gA ac) gB) ad))) (cu rfl (aC (aF (i:=2) wH.nd rfl (Or.inl rfl)) (aC (aF (i:=3) wH.nd rfl (Or.inl rfl)) bK))) (ah (aE (cK (ci (aS (ak xg (hr.mono (by decide)) (by rfl) (aa (aj ai (pv 2) ac (fun _ _=>rfl)) (aa (aj ai (pv 3) ac (fun _ _=>rfl)) (aa (pv 1) ad)))))) (cq (ci (aS (ak xg (hr.mono (by decide)) (by rfl) (aa (aj ai (pv 2) ac (fun _ _=>rfl)) (aa (aj ai (pv 3) ac (fun _ _=>rfl)) (aa (pv 1) ad)))))))).pt (ah (am cI)) av))) (ah (am cI))),?_⟩;have ec:js (prs ps) (some 1) none=prs (ps.drop 1):=by
   unfold js prs;rw[show(1:Int)=((1:Nat):Int) from rfl,HT.sIx_nat,HT.sIx_none,List.length_map,<- List.map_drop]
   by_cases h:1≤ps.length
   ·rw[Nat.min_eq_left h,List.take_of_length_le (by rw[List.length_map,List.length_drop];exact Nat.le_refl _)]
   ·have e0:ps = []:=List.length_eq_zero_iff.mp (by omega)
    subst e0;rfl
  refine⟨_,rfl,_,rfl,_,rfl,l,_,rfl,SqL.of P.lst,fun l2 H1 s1 f1 n1=>?_⟩;rw[ec]at f1;have P1:=P.mono s1;have lmin:min (prs ps).length (prs (ps.drop 1)).length=ps.length - 1:=by rw[aX,aX,List.length_drop];omega
  refine⟨l,l2,rfl,⟨_,SqL.of P1.lst⟩,⟨_,SqL.of f1⟩,kG (K:=K) (xs:=prs ps) (ys:=prs (ps.drop 1)) (fun i σ H2=>∃z1 z2,σ = [some (.ref l),some (.str w),z1,z2]∧Same H1 H2∧∀(j:Nat) u v,j<i->ps[j]? = some u->ps[j+1]? = some v->dE w u v=true)
   ⟨_,_,rfl,Same.refl _,fun j u v h=>absurd h (by omega)⟩ (fun i σ H2 _ ⟨_,_,_,s2,_⟩=>⟨SqL.of (s2 _ _ P1.lst),SqL.of (s2 _ _ f1)⟩) ?_ ?_⟩
  ·rintro i x y pp σ H2 H3 hx hy ⟨z1,z2,rfl,s2,hst⟩ s3 f3
   obtain⟨u,hu,rfl⟩:=cD hx;obtain⟨v,hv,rfl⟩:=cD hy;have hv':ps[i+1]? = some v:=by rw[List.getElem?_drop]at hv;rw[Nat.add_comm];exact hv
   have pu:=(P1.pr u (List.mem_of_getElem? hu)).t (s2.trans s3).t;have pv:=(P1.pr v (List.mem_of_getElem? hv')).t (s2.trans s3).t;have bad:dE w u v=false->∀H',Same H3 H'->Q (.bl false) H':=fun hb H' s'=>by
    have y:=k H' (s1.trans (s2.trans (s3.trans s')));have z:cE w ps=false:=by
     rw[Bool.eq_false_iff];intro z;rw[dq.mp z i u v hu hv']at hb;cases hb
    rw[z]at y;exact y
   refine⟨pp,_,rfl,SqT.of f3,rfl,_,_,rfl,_,_,rfl,rfl,?_⟩;refine⟨_,rfl,u.p,_,_,_,rfl,rfl,SqT.of pu.p_,rfl,_,rfl,v.p,_,_,_,rfl,rfl,SqT.of pv.p_,rfl,_,rfl,u.x,v.x,_,_,_,_,w,rfl,pu.x_,pv.x_,pu.sx,pv.sx,fun H4 s4=>⟨_,rfl,aw (fun h1=>?_) (fun h1=>?_)⟩⟩
   ·have h1:goB w u.a u.b v.a v.b=false:=by simpa using h1
    exact bad (by unfold dE;rw[h1,Bool.false_and]) H4 s4
   have h1:goB w u.a u.b v.a v.b=true:=by simpa using h1
   have pu4:=pu.t s4.t;have pv4:=pv.t s4.t;refine⟨_,rfl,u.p,_,_,_,rfl,rfl,SqT.of pu4.p_,rfl,_,rfl,v.p,_,_,_,rfl,rfl,SqT.of pv4.p_,rfl,_,rfl,u.y,v.y,_,_,_,_,w,rfl,pu4.y_,pv4.y_,pu4.sy,pv4.sy,fun H5 s5=>⟨_,rfl,aw (fun h2=>?_) (fun h2=>?_)⟩⟩
   ·have h2:goB w u.c u.d v.c v.d=false:=by simpa using h2
    exact bad (by unfold dE;rw[h2,Bool.and_false]) H5 (s4.trans s5)
   have h2:goB w u.c u.d v.c v.d=true:=by simpa using h2
   refine⟨_,_,rfl,s2.trans (s3.trans (s4.trans s5)),fun j u' v' hj eu ev=>?_⟩
   by_cases hji:j<i
   ·exact hst j u' v' hji eu ev
   ·have:j=i:=by omega
    subst this;rw[hu]at eu;rw[hv']at ev;cases eu;cases ev;unfold dE;rw[h1,h2];rfl
  ·rintro σ H2 ⟨z1,z2,rfl,s2,hst⟩
   have y:=k H2 (s1.trans s2);have z:cE w ps=true:=dq.mpr fun j u v eu ev=>hst j u v (by
    have:=(List.getElem?_eq_some_iff.mp ev).1;rw[lmin];omega) eu ev
   rw[z]at y;exact y
theorem Co:vL ["one","other","thing","way"] ["one","other","thing","way"] (ag (top 67)):=smk
theorem mQ{C:Addr}(Ay:Cj K mg "is_walk" (top 67) [.str "on"])(wT:Fx P w K mg base "look_at_way" ["way"] 1 [] (Bb C))(xt:Fn P w K mg base "are_pairs" ["one","other","thing"] 5 AK)(wP:Fn P w K mg base "has_right_ends_walks" ["one","other","walk","way"] 2 BP)(wJ:Fn P w K mg base "has_right_steps_walks" ["walk","way"] 6 Bc):Fx P w K mg base "is_walk" ["one","other","thing","way"] 7 [.str "on"] (Ag C):=by
 refine Ay.fx Co (fun T kV doc pm an cdv ct us its oT n s hv hl ho hs=>?_) (fun T kV doc pm an cdv ct us its oT n s hv hl ho hs=>?_) (fun vs H Q E h=>?_) (fun f cdv A outer s H vs Q E hr h=>?_)
 ·obtain⟨u,rfl,_⟩:=dj hv
  match us,hl with
  | [_,_,_,_],_=>exact BindsTo.of_defaults rfl ho hs rfl rfl
 ·obtain⟨u,rfl,_⟩:=dj hv
  have hl1:us.length=3:=by simpa using hl
  match us,hl1 with
  | [_,_,_],_=>exact BindsTo.of_defaults rfl ho hs rfl rfl
 ·obtain⟨l1,l2,xs1,xs2,v,x,t,rfl,_⟩:=h
  rfl
 ·obtain⟨l1,l2,xs1,xs2,v,x,t,rfl,⟨e1,n1⟩,⟨e2,n2⟩,pt,kn,h⟩:=h
  refine⟨_,(ae (cW (ff wT (hr.mono (by decide)) (by rfl) (aa (pv 3) ad))) (ae (aE (ci (aS (ak xt (hr.mono (by decide)) (by rfl) (aa (pv 0) (aa (pv 1) (aa (pv 2) ad)))))) (ah (am cI)) av) (ah (am (bZ (ak wP (hr.mono (by decide)) (by rfl) (aa (pv 0) (aa (pv 1) (aa (pv 2) (aa (pv 3) ad))))) (bG (ak wJ (hr.mono (by decide)) (by rfl) (aa (pv 2) (aa (pv 3) ad))))))))),?_⟩;rcases h with⟨w,rfl,hw,q⟩|⟨hn,hE⟩
  ·refine⟨_,rfl,_,_,rfl,kn,.inl ⟨w,rfl,hw,?_⟩⟩
   refine⟨_,rfl,_,rfl,_,rfl,l1,l2,xs1,xs2,v,rfl,⟨e1,n1⟩,⟨e2,n2⟩,pt,fun H1 s1=>⟨_,rfl,aw (fun h1=>?_) (fun h1=>?_)⟩⟩
   ·exact q false H1 s1 (.inl ⟨by simpa using h1,rfl⟩)
   ·have h1:cS ((xs1.length:Int) - 1) ((xs2.length:Int) - 1) H v=true:=by simpa using h1
    obtain⟨l,ps,rfl,P,hne,hin,hlen⟩:=ja pt h1
    match ps,hne,P,hin,hlen with
    | f::r,_,P,hin,hlen =>
     refine⟨_,rfl,_,rfl,_,rfl,_,rfl,l1,l2,l,xs1,xs2,f,r,w,rfl,s1 _ _ e1,s1 _ _ e2,P.mono s1,fun H2 s2=>⟨_,rfl,aw (fun h2=>?_) (fun h2=>?_)⟩⟩
     ·refine⟨_,rfl,_,rfl,l,f::r,w,rfl,(P.mono s1).mono s2,hlen,fun H3 s3=>q _ H3 (s1.trans (s2.trans s3)) (.inr ⟨l,f::r,rfl,P,?_⟩)⟩
      rw[cQ,hin,h2];rfl
     ·refine q _ H2 (s1.trans s2) (.inr ⟨l,f::r,rfl,P,?_⟩)
      rw[cQ,hin,h2];rfl
  ·exact⟨_,rfl,_,_,rfl,kn,.inr ⟨hn,hE⟩⟩
theorem vX:vL ["one","other","fence","way","first","last","begins_on_top","ends_on_ground"] ["one","other","fence","way"] (ag (top 40)):=smk
theorem dN(wM:BG K mg "has_right_ends_fences" "has_right_ends" (top 40))(we:Fn P w K mg base "last_of" ["line"] 1 An):Fn P w K mg base "has_right_ends_fences" ["one","other","fence","way"] 2 Bn:=by
 refine wM.fn vX (fun _ _ _ _ _ _ us hl=>by obtain⟨_,_,_,_,rfl⟩:=ir hl;rfl) (fun vs H Q E h=>?_) (fun f cdv A outer s H vs Q E hr h=>?_)
 ·obtain⟨l1,l2,l,xs1,xs2,f,r,wy,rfl,_⟩:=h
  rfl
 ·obtain⟨l1,l2,l,xs1,xs2,f,r,wy,rfl,e1,e2,P,q⟩:=h
  refine⟨_,(ae (au (i:=4) vX.nd rfl (Or.inl rfl) (aj aI (pv 2) ac (fun _ _=>rfl))) (ae (au (i:=5) vX.nd rfl (Or.inl rfl) (aj aI (pv 2) (i7 fU ac) (fun _ _=>rfl))) (ae (au (i:=6) vX.nd rfl (Or.inl rfl) (a7 (dJ hr.units0) (aj ai (pv 4) ac (fun _ _=>rfl)) (aA (aa (ak we (hr.mono (by decide)) (by rfl) (aa (pv 1) ad)) (aa ac ad))) (ar _))) (ae (au (i:=7) vX.nd rfl (Or.inl rfl) (a7 (dJ hr.units0) (aj ai (pv 5) ac (fun _ _=>rfl)) (aA (aa ac (aa ac ad))) (ar _))) (ae (aE (aq aQ (pv 3) aP (ar _)) (ah (am (bZ (pv 6) (bG (pv 7))))) av) (ah (am (bZ (jT (pv 6) (bG (a7 (dJ hr.units0) (aj ai (pv 4) ac (fun _ _=>rfl)) (aA (aa ac (aa ac ad))) (ar _)))) (bG (jT (pv 7) (bG (a7 (dJ hr.units0) (aj ai (pv 5) ac (fun _ _=>rfl)) (aA (aa (ak we (hr.mono (by decide)) (by rfl) (aa (pv 0) ad)) (aa ac ad))) (ar _))))))))))))),?_⟩;have hf:=P.pr f (by simp);have hl:=P.pr _ (List.getLast_mem (l:=f::r) (by simp));refine⟨_,rfl,l,_,_,_,rfl,rfl,SqL.of P.lst,iR (V.ref f.p) (prs r),?_⟩;refine⟨_,rfl,_,rfl,l,_,_,_,rfl,rfl,SqL.of P.lst,gN f r,?_⟩;generalize (f::r).getLast (by simp)=z at *;refine⟨_,rfl,f.p,_,_,_,rfl,rfl,SqT.of hf.p_,rfl,_,rfl,l2,xs2,rfl,e2,sz (by simp),fun t1 H1 s1 g1 _=>?_⟩;refine⟨f.y,t1,[f.c,f.d],[(xs2.length:Int) - 1,1],rfl,rfl,SqT.of (s1 _ _ hf.y_),SqT.of g1,?_⟩;have hl1:=hl.t s1.t;refine⟨_,rfl,z.p,_,_,_,rfl,rfl,SqT.of hl1.p_,rfl,sz (by simp),fun t2 H2 s2 g2 _=>?_⟩;refine⟨z.y,t2,[z.c,z.d],[0,1],rfl,rfl,SqT.of (s2 _ _ hl1.y_),SqT.of g2,?_⟩;have S2:=s1.trans s2;have hf2:=hf.t S2.t;have hl2:=hl.t S2.t;have ef:(if false=true then !decide ([f.c,f.d] = [(xs2.length:Int) - 1,1]) else decide ([f.c,f.d] = [(xs2.length:Int) - 1,1]))=isP f.c f.d ((xs2.length:Int) - 1):=by rw[if_neg (by decide),d5]
  have ez:(if false=true then !decide ([z.c,z.d] = [(0:Int),1]) else decide ([z.c,z.d] = [(0:Int),1]))=isP z.c z.d 0:=by rw[if_neg (by decide),d5]
  unfold dO at q;refine⟨_,rfl,rfl,_,rfl,aw (fun c3=>?_) (fun c3=>?_)⟩
  ·rw[if_pos (show wy=a6 from aR (ds c3))]at q
   refine⟨_,rfl,_,rfl,aw (fun c4=>?_) (fun c4=>?_)⟩
   ·rw[ef]at c4
    rw[c4,Bool.true_and,<- ez]at q;exact⟨_,rfl,q H2 S2⟩
   ·have y:=q H2 S2
    rw[ef]at c4;rw[c4,Bool.false_and]at y;exact y
  rw[if_neg (show ¬wy=a6 from bI (ds c3))]at q;refine⟨_,rfl,_,rfl,aw (fun c4=>?_) (fun c4=>?_)⟩
  ·rw[ef]at c4
   have E1:(isP f.c f.d ((xs2.length:Int) - 1) || isP f.a f.b 0)=true:=by rw[c4,Bool.true_or]
   refine⟨_,rfl,oJ ?_⟩;refine⟨_,rfl,_,rfl,aw (fun c5=>?_) (fun c5=>?_)⟩
   ·rw[ez]at c5
    have y:=q H2 S2;rw[E1,c5]at y;exact y
   ·rw[ez]at c5
    refine⟨_,rfl,z.p,_,_,_,rfl,rfl,SqT.of (hl.t S2.t).p_,rfl,_,rfl,l1,xs1,rfl,S2 _ _ e1,sz (by simp),fun t5 H5 s5 g5 _=>?_⟩;refine⟨z.x,t5,[z.a,z.b],[(xs1.length:Int) - 1,1],rfl,rfl,SqT.of (s5 _ _ (hl.t S2.t).x_),SqT.of g5,?_⟩;have y:=q H5 (S2.trans s5);rw[E1,c5,Bool.true_and,Bool.false_or,<- d5]at y;exact y
  ·rw[ef]at c4
   refine⟨_,rfl,f.p,_,_,_,rfl,rfl,SqT.of hf2.p_,rfl,sz (by simp),fun t3 H3 s3 g3 _=>?_⟩;refine⟨f.x,t3,[f.a,f.b],[0,1],rfl,rfl,SqT.of (s3 _ _ hf2.x_),SqT.of g3,_,rfl,?_⟩;show if (decide ([f.a,f.b] = [(0:Int),1]))=true then _ else _
   rw[d5];have S3:=S2.trans s3;refine aw (fun c6=>?_) (fun c6=>?_)
   ·have E1:(isP f.c f.d ((xs2.length:Int) - 1) || isP f.a f.b 0)=true:=by rw[c6,Bool.or_true]
    refine⟨_,rfl,_,rfl,aw (fun c5=>?_) (fun c5=>?_)⟩
    ·rw[ez]at c5
     have y:=q H3 S3;rw[E1,c5]at y;exact y
    ·rw[ez]at c5
     refine⟨_,rfl,z.p,_,_,_,rfl,rfl,SqT.of (hl.t S3.t).p_,rfl,_,rfl,l1,xs1,rfl,S3 _ _ e1,sz (by simp),fun t5 H5 s5 g5 _=>?_⟩;refine⟨z.x,t5,[z.a,z.b],[(xs1.length:Int) - 1,1],rfl,rfl,SqT.of (s5 _ _ (hl.t S3.t).x_),SqT.of g5,?_⟩;have y:=q H5 (S3.trans s5);rw[E1,c5,Bool.true_and,Bool.false_or,<- d5]at y;exact y
   ·have y:=q H3 S3
    rw[c4,c6]at y;exact y
theorem Bq:vL ["begin","end"] ["begin","end"] (ag (top 42)):=smk
theorem jC(yU:Df K mg "steps_back" (top 42))(wE:Fn P w K mg base "less" ["a","b"] 1 wY):Fn P w K mg base "steps_back" ["begin","end"] 2 (zz cP):=by
 refine yU.fn Bq (fun _ _ _ _ _ _ us hl=>by obtain⟨_,_,rfl⟩:=cj hl;rfl) (fun vs H Q E h=>?_) (fun f cdv A outer s H vs Q E hr h=>?_)
 ·obtain⟨u,v,rfl,_⟩:=h
  rfl
 ·obtain⟨u,v,rfl,pu,qv,q⟩:=h
  refine⟨_,(ah (am (bZ (d9 (ak wE (hr.mono (by decide)) (by rfl) (aa (aj ai (pv 0) ac (fun _ _=>rfl)) (aa (aj ai (pv 1) ac (fun _ _=>rfl)) ad)))) (bG (d9 (ak wE (hr.mono (by decide)) (by rfl) (aa (aj ai (pv 1) ac (fun _ _=>rfl)) (aa (aj ai (pv 0) ac (fun _ _=>rfl)) ad)))))))),?_⟩;unfold cP ltB at q;have b:=lz pu qv;refine⟨_,rfl,u.p,_,_,_,rfl,rfl,SqT.of pu.p_,rfl,_,rfl,v.p,_,_,_,rfl,rfl,SqT.of qv.p_,rfl,u.x,v.x,_,_,_,_,rfl,pu.x_,qv.x_,b.1,_,rfl,_,rfl,aw (fun h1=>?_) (fun h1=>?_)⟩
  ·have y:=q H (Same.refl _)
   rw[h1,Bool.true_and]at y;exact⟨_,rfl,v.p,_,_,_,rfl,rfl,SqT.of qv.p_,rfl,_,rfl,u.p,_,_,_,rfl,rfl,SqT.of pu.p_,rfl,v.y,u.y,_,_,_,_,rfl,qv.y_,pu.y_,b.2,_,rfl,y⟩
  ·have y:=q H (Same.refl _)
   rw[h1,Bool.false_and]at y;exact y
theorem za:vL ["begin","end","number","kept"] ["begin","end","number"] (ag (top 43)):=smk
theorem iB(yi:Df K mg "keeps_corner" (top 43))(vV:Fn P w K mg base "share_a_stretch" ["one","other"] 3 Af):Fn P w K mg base "keeps_corner" ["begin","end","number"] 4 Bl:=by
 refine yi.fn za (fun _ _ _ _ _ _ us hl=>by obtain⟨_,_,_,rfl⟩:=hU hl;rfl) (fun vs H Q E h=>?_) (fun f cdv A outer s H vs Q E hr h=>?_)
 ·obtain⟨u,v,n,rfl,_⟩:=h
  rfl
 ·obtain⟨u,v,n,rfl,hn,pu,qv,q⟩:=h
  refine⟨_,(ae (au (i:=3) za.nd rfl (Or.inl rfl) (aj ai (pv 0) (pv 2) (fun _ _=>rfl))) (ah (am (bZ (a7 (dJ hr.units0) (pv 3) (aj ai (pv 1) (pv 2) (fun _ _=>rfl)) (ar _)) (bZ (a7 aQ (aj ai (pv 3) ac (fun _ _=>rfl)) ac (ar _)) (bG (ak vV (hr.mono (by decide)) (by rfl) (aa (aj ai (pv 0) (ap aV ac (pv 2)) (fun _ _=>rfl)) (aa (aj ai (pv 1) (ap aV ac (pv 2)) (fun _ _=>rfl)) ad))))))))),?_⟩;rcases hn with rfl|rfl
  ·unfold lD at q
   rw[if_pos rfl]at q;refine⟨_,rfl,_,rfl,u.p,_,_,_,rfl,rfl,SqT.of pu.p_,rfl,?_⟩;unfold eJ at q;refine⟨_,rfl,_,rfl,_,rfl,v.p,_,_,_,rfl,rfl,SqT.of qv.p_,rfl,u.x,v.x,[u.a,u.b],[v.a,v.b],rfl,rfl,SqT.of pu.x_,SqT.of qv.x_,_,rfl,?_⟩;rw[if_neg (show ¬(false=true) by decide)];refine aw (fun h1=>?_) (fun h1=>?_)
   ·rw[h1,Bool.true_and]at q
    refine⟨_,rfl,u.x,_,_,_,rfl,rfl,SqT.of pu.x_,rfl,rfl,_,rfl,?_⟩;rw[di];refine aw (fun h2=>?_) (fun h2=>?_)
    ·rw[h2,Bool.true_and]at q
     exact⟨_,rfl,_,rfl,_,_,rfl,rfl,u.p,_,_,_,rfl,rfl,SqT.of pu.p_,rfl,_,rfl,_,rfl,_,_,rfl,rfl,v.p,_,_,_,rfl,rfl,SqT.of qv.p_,rfl,u.y,v.y,_,_,_,_,rfl,pu.y_,qv.y_,pu.sy,qv.sy,q⟩
    ·have y:=q H (Same.refl _)
     rw[h2,Bool.false_and]at y;exact y
   ·have y:=q H (Same.refl _)
    rw[h1,Bool.false_and]at y;exact y
  ·unfold lD at q
   rw[if_neg (show ¬(1:Int)=0 by decide)]at q;refine⟨_,rfl,_,rfl,u.p,_,_,_,rfl,rfl,SqT.of pu.p_,rfl,?_⟩;unfold fS at q;refine⟨_,rfl,_,rfl,_,rfl,v.p,_,_,_,rfl,rfl,SqT.of qv.p_,rfl,u.y,v.y,[u.c,u.d],[v.c,v.d],rfl,rfl,SqT.of pu.y_,SqT.of qv.y_,_,rfl,?_⟩;rw[if_neg (show ¬(false=true) by decide)];refine aw (fun h1=>?_) (fun h1=>?_)
   ·rw[h1,Bool.true_and]at q
    refine⟨_,rfl,u.y,_,_,_,rfl,rfl,SqT.of pu.y_,rfl,rfl,_,rfl,?_⟩;rw[di];refine aw (fun h2=>?_) (fun h2=>?_)
    ·rw[h2,Bool.true_and]at q
     exact⟨_,rfl,_,rfl,_,_,rfl,rfl,u.p,_,_,_,rfl,rfl,SqT.of pu.p_,rfl,_,rfl,_,rfl,_,_,rfl,rfl,v.p,_,_,_,rfl,rfl,SqT.of qv.p_,rfl,u.x,v.x,_,_,_,_,rfl,pu.x_,qv.x_,pu.sx,qv.sx,q⟩
    ·have y:=q H (Same.refl _)
     rw[h2,Bool.false_and]at y;exact y
   ·have y:=q H (Same.refl _)
    rw[h1,Bool.false_and]at y;exact y
theorem CQ:vL ["begin","end"] ["begin","end"] (ag (top 44)):=smk
theorem oR(A5:Df K mg "slides" (top 44))(wu:Fn P w K mg base "keeps_corner" ["begin","end","number"] 4 Bl):Fn P w K mg base "slides" ["begin","end"] 5 (zz cg):=by
 refine A5.fn CQ (fun _ _ _ _ _ _ us hl=>by obtain⟨_,_,rfl⟩:=cj hl;rfl) (fun vs H Q E h=>?_) (fun f cdv A outer s H vs Q E hr h=>?_)
 ·obtain⟨u,v,rfl,_⟩:=h
  rfl
 ·obtain⟨u,v,rfl,pu,qv,q⟩:=h
  refine⟨_,(ah (am (jT (ak wu (hr.mono (by decide)) (by rfl) (aa (pv 0) (aa (pv 1) (aa ac ad)))) (bG (ak wu (hr.mono (by decide)) (by rfl) (aa (pv 0) (aa (pv 1) (aa ac ad)))))))),?_⟩;unfold cg at q;refine⟨_,rfl,_,rfl,u,v,0,rfl,.inl rfl,pu,qv,fun H1 s1=>⟨_,rfl,?_⟩⟩;rw[show lD 0 u v=eJ u v from rfl];refine aw (fun h1=>?_) (fun h1=>?_)
  ·have y:=q H1 s1
   rw[h1,Bool.true_or]at y;exact y
  ·rw[h1,Bool.false_or]at q
   exact⟨_,rfl,_,rfl,u,v,1,rfl,.inr rfl,pu.t s1.t,qv.t s1.t,fun H2 s2=>q H2 (s1.trans s2)⟩
theorem zF:vL ["pair"] ["pair"] (ag (top 45)):=smk
theorem fQ(xp:Df K mg "has_whole_places" (top 45)):Fn P w K mg base "has_whole_places" ["pair"] 1 Cv:=by
 refine xp.fn zF (fun _ _ _ _ _ _ us hl=>by obtain⟨_,rfl⟩:=gE hl;rfl) (fun vs H Q E h=>?_) (fun f cdv A outer s H vs Q E hr h=>?_)
 ·obtain⟨u,rfl,_⟩:=h
  rfl
 ·obtain⟨u,rfl,pu,q⟩:=h
  refine⟨_,(ah (am (bZ (a7 aQ (aj ai (aj ai (pv 0) ac (fun _ _=>rfl)) ac (fun _ _=>rfl)) ac (ar _)) (bG (a7 aQ (aj ai (aj ai (pv 0) ac (fun _ _=>rfl)) ac (fun _ _=>rfl)) ac (ar _)))))),?_⟩;unfold bV at q;refine⟨_,rfl,u.p,_,_,_,rfl,rfl,SqT.of pu.p_,rfl,u.x,_,_,_,rfl,rfl,SqT.of pu.x_,rfl,rfl,_,rfl,?_⟩;rw[di];refine aw (fun h1=>?_) (fun h1=>?_)
  ·rw[h1,Bool.true_and,<- di]at q
   exact⟨_,rfl,u.p,_,_,_,rfl,rfl,SqT.of pu.p_,rfl,u.y,_,_,_,rfl,rfl,SqT.of pu.y_,rfl,rfl,q⟩
  ·rw[h1,Bool.false_and]at q
   exact q
theorem yM:vL ["begin","end","rise","fall"] ["begin","end"] (ag (top 46)):=smk
theorem jF(yX:Df K mg "hops_aside" (top 46)):Fn P w K mg base "hops_aside" ["begin","end"] 1 (zz dQ):=by
 refine yX.fn yM (fun _ _ _ _ _ _ us hl=>by obtain⟨_,_,rfl⟩:=cj hl;rfl) (fun vs H Q E h=>?_) (fun f cdv A outer s H vs Q E hr h=>?_)
 ·obtain⟨u,v,rfl,_⟩:=h
  rfl
 ·obtain⟨u,v,rfl,pu,qv,q⟩:=h
  refine⟨_,(ae (au (i:=2) yM.nd rfl (Or.inl rfl) (ap aV (aj ai (aj ai (pv 1) ac (fun _ _=>rfl)) ac (fun _ _=>rfl)) (aj ai (aj ai (pv 0) ac (fun _ _=>rfl)) ac (fun _ _=>rfl)))) (ae (au (i:=3) yM.nd rfl (Or.inl rfl) (ap aV (aj ai (aj ai (pv 0) ac (fun _ _=>rfl)) ac (fun _ _=>rfl)) (aj ai (aj ai (pv 1) ac (fun _ _=>rfl)) ac (fun _ _=>rfl)))) (ah (am (jT (bZ (a7 jV (pv 2) ac (ar _)) (bG (a7 jV (pv 3) ac (ar _)))) (bG (bZ (a7 jV (pv 2) ac (ar _)) (bG (a7 jV (pv 3) ac (ar _)))))))))),?_⟩;have q:=q H (Same.refl _);unfold dQ at q;have P1:=SqT.of (K:=K) pu.p_;have P2:=SqT.of (K:=K) qv.p_;refine⟨_,rfl,v.p,_,_,_,rfl,rfl,P2,rfl,v.x,_,_,_,rfl,rfl,SqT.of qv.x_,rfl,_,rfl,u.p,_,_,_,rfl,rfl,P1,rfl,u.x,_,_,_,rfl,rfl,SqT.of pu.x_,rfl,_,_,rfl,rfl,?_⟩;refine⟨_,rfl,u.p,_,_,_,rfl,rfl,P1,rfl,u.y,_,_,_,rfl,rfl,SqT.of pu.y_,rfl,_,rfl,v.p,_,_,_,rfl,rfl,P2,rfl,v.y,_,_,_,rfl,rfl,SqT.of qv.y_,rfl,_,_,rfl,rfl,?_⟩;have tl:(decide (v.a - u.a≤0) && decide (u.c - v.c≤1))=false->Q (.bl (decide (v.a - u.a≤1) && decide (u.c - v.c≤0))) H:=fun e=>by rw[e,Bool.false_or]at q;exact q
  refine⟨_,rfl,_,_,rfl,rfl,_,rfl,aw (fun h1=>?_) (fun h1=>?_)⟩
  ·refine⟨_,rfl,_,_,rfl,rfl,_,rfl,aw (fun h2=>?_) (fun h2=>?_)⟩
   ·rw[h1,h2]at q
    exact q
   ·have t:=tl (by rw[h1,h2];rfl)
    refine⟨_,rfl,_,_,rfl,rfl,_,rfl,aw (fun h3=>?_) (fun h3=>?_)⟩
    ·rw[h3,Bool.true_and]at t
     exact⟨_,rfl,_,_,rfl,rfl,t⟩
    ·rw[h3,Bool.false_and]at t
     exact t
  ·have t:=tl (by rw[h1];rfl)
   refine⟨_,rfl,kC ?_⟩;refine⟨_,rfl,_,_,rfl,rfl,_,rfl,aw (fun h3=>?_) (fun h3=>?_)⟩
   ·rw[h3,Bool.true_and]at t
    exact⟨_,rfl,_,_,rfl,rfl,t⟩
   ·rw[h3,Bool.false_and]at t
    exact t
theorem Ai:vL ["begin","end","way"] ["begin","end","way"] (ag (top 47)):=smk
theorem gb(xA:BG K mg "may_step_fences" "may_step" (top 47))(yT:Fn P w K mg base "hops_aside" ["begin","end"] 1 (zz dQ))(Ak:Fn P w K mg base "slides" ["begin","end"] 5 (zz cg))(xf:Fn P w K mg base "steps_back" ["begin","end"] 2 (zz cP)):Fn P w K mg base "may_step_fences" ["begin","end","way"] 6 BL:=by
 refine xA.fn Ai (fun _ _ _ _ _ _ us hl=>by obtain⟨_,_,_,rfl⟩:=hU hl;rfl) (fun vs H Q E h=>?_) (fun f cdv A outer s H vs Q E hr h=>?_)
 ·obtain⟨u,v,wy,rfl,_⟩:=h
  rfl
 ·obtain⟨u,v,wy,rfl,pu,qv,k⟩:=h
  refine⟨_,(ae (aE (aq aQ (pv 2) aP (ar _)) (ah (am (ak yT (hr.mono (by decide)) (by rfl) (aa (pv 0) (aa (pv 1) ad))))) av) (ae (aE (aq aQ (pv 2) aP (ar _)) (ah (am (ak Ak (hr.mono (by decide)) (by rfl) (aa (pv 0) (aa (pv 1) ad))))) av) (ah (am (jT (ak xf (hr.mono (by decide)) (by rfl) (aa (pv 0) (aa (pv 1) ad))) (bG (ak Ak (hr.mono (by decide)) (by rfl) (aa (pv 0) (aa (pv 1) ad))))))))),?_⟩;unfold cO at k;refine⟨_,rfl,rfl,_,rfl,aw (fun h1=>?_) (fun h1=>?_)⟩
  ·rw[if_pos (show wy=aB from aR (ds h1))]at k
   exact⟨_,rfl,_,rfl,u,v,rfl,pu,qv,k⟩
  rw[if_neg (show ¬wy=aB from bI (ds h1))]at k;refine⟨_,rfl,rfl,_,rfl,aw (fun h2=>?_) (fun h2=>?_)⟩
  ·rw[if_pos (show wy=aL from aR (ds h2))]at k
   exact⟨_,rfl,_,rfl,u,v,rfl,pu,qv,k⟩
  rw[if_neg (show ¬wy=aL from bI (ds h2))]at k;refine⟨_,rfl,_,rfl,u,v,rfl,pu,qv,fun H1 s1=>⟨_,rfl,aw (fun h3=>?_) (fun h3=>?_)⟩⟩
  ·have y:=k H1 s1
   rw[h3,Bool.true_or]at y;exact y
  ·rw[h3,Bool.false_or]at k
   exact⟨_,rfl,_,rfl,u,v,rfl,pu.t s1.t,qv.t s1.t,fun H2 s2=>k H2 (s1.trans s2)⟩
def rF(s:Stmt):Expr:=match s with
 | .If (.BoolOp _ [_,.UnaryOp _ e _] _) _ _ _=>e
 | _=>.Name "" ⟨0,0,0,0⟩
def pr0:Pr:=⟨0,0,0,0,0,0,0⟩
def pQ(wy:Str)(ps:List Pr):List Bool:=(List.range (ps.length - 1)).map fun i=>cO wy (ps.getD i pr0) (ps.getD (i+1) pr0)
theorem pP(wy:Str)(ps:List Pr):(pQ wy ps).all id=bo wy ps:=by
 rw[Bool.eq_iff_iff,List.all_eq_true,cV];unfold pQ;constructor
 ·intro h j u v eu ev
  have hj:=(List.getElem?_eq_some_iff.mp ev).1;have z:=h _ (List.mem_map.mpr ⟨j,List.mem_range.mpr (by omega),rfl⟩);rw[List.getD_eq_getElem?_getD,List.getD_eq_getElem?_getD,eu,ev]at z;exact z
 ·intro h x hx
  obtain⟨j,hj,rfl⟩:=List.mem_map.mp hx;have hj:=List.mem_range.mp hj;have eu:ps[j]? = some ps[j]:=List.getElem?_eq_getElem (by omega);have ev:ps[j+1]? = some ps[j+1]:=List.getElem?_eq_getElem (by omega);rw[List.getD_eq_getElem?_getD,List.getD_eq_getElem?_getD,eu,ev];exact h j _ _ eu ev
theorem kZ(ps:List Pr):js (prs ps) (some 1) none=prs (ps.drop 1):=by
 unfold js prs;rw[show(1:Int)=((1:Nat):Int) from rfl,HT.sIx_nat,HT.sIx_none,List.length_map,<- List.map_drop]
 by_cases h:1≤ps.length
 ·rw[Nat.min_eq_left h,List.take_of_length_le (by rw[List.length_map,List.length_drop];exact Nat.le_refl _)]
 ·have e0:ps = []:=List.length_eq_zero_iff.mp (by omega)
  subst e0;rfl
theorem yp:vL ["fence","way"] ["fence","way"] (ag (top 49)):=smk
theorem dD(wG:BG K mg "has_right_steps_fences" "has_right_steps" (top 49))(xu:Fn P w K mg base "may_step_fences" ["begin","end","way"] 6 BL)(T:Txt mg):Fn P w K mg base "has_right_steps_fences" ["fence","way"] 7 AU:=by
 refine wG.fn yp (fun _ _ _ _ _ _ us hl=>by obtain⟨_,_,rfl⟩:=cj hl;rfl) (fun vs H Q E h=>?_) (fun f cdv A outer s H vs Q E hr h=>?_)
 ·obtain⟨l,ps,wy,rfl,_⟩:=h
  rfl
 ·obtain⟨l,ps,wy,rfl,PP,hlen,k⟩:=h
  have CM2:BF (bD CX0 P w K mg base ["fence","way"] "has_right_steps" (ag (top 49)) f cdv A outer s H E).nox (Sp7.retScope ((az (top 49)).getD 0 (.Pass ⟨0,0,0,0⟩))) [("way",s.heap.objs.size+1)] ["begin","end"] [("way",1)] :=
   ⟨by rfl,rfl,by decide +kernel,by decide +kernel,(fun x hx=>by simp only[List.mem_cons,List.not_mem_nil,or_false]at hx;rcases hx with rfl|rfl <;> rfl),(fun p hp=>by simp only[List.mem_cons,List.not_mem_nil,or_false]at hp;subst hp;rfl),by rfl,by decide +kernel,(fun p hp=>by simp only[List.mem_cons,List.not_mem_nil,or_false]at hp;subst hp;exact⟨rfl,rfl,.inr (.inl rfl),rfl,rfl⟩),⟨rfl,rfl⟩,rfl⟩
  refine⟨_,(ah (am (aJ (jt rfl) (by rfl) T.z_all mX (aa (pC rfl CM2 (km rfl T.z_zip (aa (pv 0) (aa (fe eU (pv 0) (gA ac) gB) ad))) (fun fp s₀ H₀=>(rk (K:=K) (n:=2) rfl rfl (aC (aF (i:=0) CM2.nd rfl (Or.inl rfl) (Or.inr rfl)) (aC (aF (i:=1) CM2.nd rfl (Or.inl rfl) (Or.inr rfl)) bK)))) (fun fp s₀ H₀=>rg) (fun fp s₀ H₀=>(ak xu (hr.mono (by decide)) (by rfl) (aa (pv 0) (aa (pv 1) (aa (pv 2) ad)))))) ad)))),?_⟩;refine⟨_,rfl,_,rfl,_,rfl,l,_,rfl,SqL.of PP.lst,fun l2 H1 s1 f1 n1=>?_⟩;rw[kZ]at f1;have P1:=PP.mono s1;have lmin:min (prs ps).length (prs (ps.drop 1)).length=ps.length - 1:=by rw[aX,aX,List.length_drop];omega
  refine⟨l,l2,rfl,⟨_,SqL.of P1.lst⟩,⟨_,SqL.of f1⟩,oS (K:=K) (k:=2) (SqL.of P1.lst) (SqL.of f1) (by rw[lmin];omega) (fun i v _=>v = .bl (cO wy (ps.getD i pr0) (ps.getD (i+1) pr0))) (fun _ _ _ _ _ h=>h) ?_ ?_⟩
  ·intro i x y p H2 τ Kc hx hy s2 ep hτ kk
   obtain⟨τ0,τ1,rfl⟩:∃τ0 τ1,τ = [τ0,τ1]:=by
    match τ,hτ with
    | [a,b],_=>exact⟨a,b,rfl⟩
   obtain⟨u,hu,rfl⟩:=cD hx;obtain⟨v,hv,rfl⟩:=cD hy;have hv':ps[i+1]? = some v:=by rw[List.getElem?_drop]at hv;rw[Nat.add_comm];exact hv
   have qu:=(P1.pr u (List.mem_of_getElem? hu)).t s2.t;have qv:=(P1.pr v (List.mem_of_getElem? hv')).t s2.t;refine⟨p,_,rfl,SqT.of ep,rfl,_,_,rfl,_,_,rfl,rfl,⟨[some (.ref u.p),some (.ref v.p)],rfl,rfl⟩,?_⟩;refine⟨_,rfl,_,rfl,_,rfl,u,v,wy,rfl,qu,qv,fun H4 s4=>kk _ H4 s4 ?_⟩;rw[List.getD_eq_getElem?_getD,List.getD_eq_getElem?_getD,hu,hv'];rfl
  ·intro l3 zs H2 nl s2 f2 hl hr
   have ey:zs=(pQ wy ps).map V.bl:=by
    rw[lmin]at hl;refine List.ext_getElem? fun i=>?_;unfold pQ
    by_cases hi:i<ps.length - 1
    ·have h1:zs[i]? = some zs[i]:=List.getElem?_eq_getElem (by omega)
     rw[h1,hr i _ h1,List.getElem?_map,List.getElem?_map,List.getElem?_range hi];rfl
    ·rw[List.getElem?_eq_none (by omega),List.getElem?_eq_none (by simp;omega)]
   rw[ey]at f2;refine⟨l3,pQ wy ps,rfl,SqL.of f2,?_⟩;rw[pP];exact k H2 (s1.trans s2)
theorem B1:vL ["one","other","thing","way"] ["one","other","thing","way"] (ag (top 51)):=smk
theorem lX{C:Addr}(Ac:Cj K mg "is_fence" (top 51) [.str "on"])(wT:Fx P w K mg base "look_at_way" ["way"] 1 [] (Bb C))(xt:Fn P w K mg base "are_pairs" ["one","other","thing"] 5 AK)(xm:Fn P w K mg base "has_whole_places" ["pair"] 1 Cv)(wK:Fn P w K mg base "has_right_ends_fences" ["one","other","fence","way"] 2 Bn)(wF:Fn P w K mg base "has_right_steps_fences" ["fence","way"] 7 AU)(T:Txt mg):Fx P w K mg base "is_fence" ["one","other","thing","way"] 8 [.str "on"] (zv C):=by
 refine Ac.fx B1 (fun T kV doc pm an cdv ct us its oT n s hv hl ho hs=>?_) (fun T kV doc pm an cdv ct us its oT n s hv hl ho hs=>?_) (fun vs H Q E h=>?_) (fun f cdv A outer s H vs Q E hr h=>?_)
 ·obtain⟨u,rfl,_⟩:=dj hv
  match us,hl with
  | [_,_,_,_],_=>exact BindsTo.of_defaults rfl ho hs rfl rfl
 ·obtain⟨u,rfl,_⟩:=dj hv
  have hl1:us.length=3:=by simpa using hl
  match us,hl1 with
  | [_,_,_],_=>exact BindsTo.of_defaults rfl ho hs rfl rfl
 ·obtain⟨l1,l2,xs1,xs2,v,x,t,rfl,_⟩:=h
  rfl
 ·obtain⟨l1,l2,xs1,xs2,v,x,t,rfl,⟨e1,n1⟩,⟨e2,n2⟩,pt,kn,h⟩:=h
  have CN:yo (bD (CXE P w) P w K mg base ["one","other","thing","way"] "is_fence" (ag (top 51)) f cdv A outer s H E) (Dr.compScope (rF ((az (top 51)).getD 2 (.Pass ⟨0,0,0,0⟩)))) [] "pair" [] :=
   ⟨by rfl,rfl,by decide +kernel,by decide +kernel,rfl,(fun p hp=>nomatch hp),by rfl,by decide +kernel,(fun p hp=>nomatch hp),⟨rfl,rfl⟩,rfl⟩
  refine⟨_,(ae (cW (ff wT (hr.mono (by decide)) (by rfl) (aa (pv 3) ad))) (ae (aE (ci (aS (ak xt (hr.mono (by decide)) (by rfl) (aa (pv 0) (aa (pv 1) (aa (pv 2) ad)))))) (ah (am cI)) av) (ae (aE (bC (aq aQ (pv 3) aP (ar _)) (bE (ci (aS (aJ (jt rfl) (by rfl) T.z_all mX (aa (gC rfl CN (cZ (pv 2)) (fun fp s₀ H₀=>(ak xm (hr.mono (by decide)) (by rfl) (aa (pv 0) ad)))) ad)))))).pt (ah (am cI)) av) (ah (am (bZ (ak wK (hr.mono (by decide)) (by rfl) (aa (pv 0) (aa (pv 1) (aa (pv 2) (aa (pv 3) ad))))) (bG (ak wF (hr.mono (by decide)) (by rfl) (aa (pv 2) (aa (pv 3) ad)))))))))),?_⟩;rcases h with⟨wy,rfl,hw,q⟩|⟨hn,hE⟩
  ·refine⟨_,rfl,_,_,rfl,kn,.inl ⟨wy,rfl,hw,?_⟩⟩
   refine⟨_,rfl,_,rfl,_,rfl,l1,l2,xs1,xs2,v,rfl,⟨e1,n1⟩,⟨e2,n2⟩,pt,fun H1 s1=>⟨_,rfl,aw (fun h1=>?_) (fun h1=>?_)⟩⟩
   ·exact q false H1 s1 (.inl ⟨by simpa using h1,rfl⟩)
   have h1:cS ((xs1.length:Int) - 1) ((xs2.length:Int) - 1) H v=true:=by simpa using h1
   obtain⟨l,ps,rfl,PP,hne,hin,hlen⟩:=ja pt h1
   match ps,hne,PP,hin,hlen with
   | f::r,_,PP,hin,hlen =>
   refine⟨_,rfl,rfl,_,rfl,aw (fun c1=>?_) (fun c1=>?_)⟩
   ·have ew:wy=aB:=aR (ds c1)
    have P1:=PP.mono s1;refine⟨_,rfl,l,rfl,⟨_,SqL.of P1.lst⟩,ij (SqL.of P1.lst) (by rw[aX];omega) (fun i v' _=>v' = .bl (bV ((f::r).getD i pr0))) (fun _ _ _ _ _ h=>h) ?_ ?_⟩
    ·intro i x H2 Kc hx s2 kk
     obtain⟨u,hu,rfl⟩:=cD hx;refine⟨_,rfl,u,rfl,(P1.pr u (List.mem_of_getElem? hu)).t s2.t,kk _ _ (Same.refl _) ?_⟩;rw[List.getD_eq_getElem?_getD,hu];rfl
    ·intro l3 ys H2 nl s2 f2 hl hr
     have ey:ys=((f::r).map bV).map V.bl:=by
      rw[aX]at hl;refine List.ext_getElem? fun i=>?_
      by_cases hi:i<(f::r).length
      ·have g1:ys[i]? = some ys[i]:=List.getElem?_eq_getElem (by omega)
       rw[g1,hr i _ g1,List.getElem?_map,List.getElem?_map,List.getElem?_eq_getElem hi,List.getD_eq_getElem?_getD,List.getElem?_eq_getElem hi];rfl
      ·rw[List.getElem?_eq_none (by omega),List.getElem?_eq_none (by simp at hi ⊢;omega)]
     rw[ey]at f2;refine⟨l3,(f::r).map bV,rfl,SqL.of f2,_,rfl,?_⟩;rw[List.all_map];have S2:=s1.trans s2;refine aw (fun c2=>?_) (fun c2=>?_)
     ·have c2:(f::r).all (id ∘ bV)=false:=by simpa only[Bool.not_eq_true']using c2
      have c2:(f::r).all bV=false:=c2;refine q false H2 S2 (.inr ⟨l,f::r,rfl,PP,?_⟩);rw[cw,hin,if_pos ew,c2];rfl
     ·have c2:(f::r).all (id ∘ bV)=true:=by simpa only[Bool.not_eq_false']using c2
      have c2:(f::r).all bV=true:=c2;have E3:(if wy=aB then (f::r).all bV else true)=true:=by rw[if_pos ew,c2]
      refine⟨_,rfl,_,rfl,_,rfl,_,rfl,l1,l2,l,xs1,xs2,f,r,wy,rfl,S2 _ _ e1,S2 _ _ e2,PP.mono S2,fun H5 s5=>⟨_,rfl,aw (fun h2=>?_) (fun h2=>?_)⟩⟩
      ·refine⟨_,rfl,_,rfl,l,f::r,wy,rfl,(PP.mono S2).mono s5,hlen,fun H6 s6=>q _ H6 (S2.trans (s5.trans s6)) (.inr ⟨l,f::r,rfl,PP,?_⟩)⟩
       rw[cw,hin,E3,h2];rfl
      ·refine q _ H5 (S2.trans s5) (.inr ⟨l,f::r,rfl,PP,?_⟩)
       rw[cw,hin,E3,h2];rfl
   ·have ew:¬wy=aB:=bI (ds c1)
    have E3:(if wy=aB then (f::r).all bV else true)=true:=by rw[if_neg ew]
    refine⟨_,rfl,_,rfl,_,rfl,_,rfl,l1,l2,l,xs1,xs2,f,r,wy,rfl,s1 _ _ e1,s1 _ _ e2,PP.mono s1,fun H5 s5=>⟨_,rfl,aw (fun h2=>?_) (fun h2=>?_)⟩⟩
    ·refine⟨_,rfl,_,rfl,l,f::r,wy,rfl,(PP.mono s1).mono s5,hlen,fun H6 s6=>q _ H6 (s1.trans (s5.trans s6)) (.inr ⟨l,f::r,rfl,PP,?_⟩)⟩
     rw[cw,hin,E3,h2];rfl
    ·refine q _ H5 (s1.trans s5) (.inr ⟨l,f::r,rfl,PP,?_⟩)
     rw[cw,hin,E3,h2];rfl
  ·exact⟨_,rfl,_,_,rfl,kn,.inr ⟨hn,hE⟩⟩
theorem oP{a b:Int}(hb:0<b):Int.gcd b (a % b)=Int.gcd a b:=by
 have e:a=a % b+a / b*b:=by
  have:=Int.emod_add_mul_ediv a b;rw[Int.mul_comm]at this;omega
 have h:=Int.gcd_add_mul_right_right b (a % b) (a / b);rw[<- e]at h;rw[Int.gcd_comm a b,h]
inductive CJ (vs:List V) (H:Hp) (Q:VK) (x_3:XK):Prop
 | mk:∀a b:Int,(vs = [.int a,.int b])->(0≤b)->(Q (.int (Int.gcd a b:Int)) H)->CJ vs H Q x_3
inductive AQ (vs:List V) (H:Hp) (Q:VK) (x_3:XK):Prop
 | mk:∀a b:Int,(vs = [.int a,.int b])->((0<b∧ao b≤2000))->(∀(p:Addr) (t u:Int) (H':Hp),vP a b t u->t=a / (Int.gcd a b:Int)->u=b / (Int.gcd a b:Int)->Same H H'->H' p=some (.tup [.int t,.int u])->H p=none->Q (.ref p) H')->AQ vs H Q x_3
inductive Am (vs:List V) (H:Hp) (Q:VK) (x_3:XK):Prop
 | mk:∀(p:Addr) (n k:Int),(vs = [.ref p,.int n])->(Pot H p k)->(k≤800000)->((0≤n∧n≤100))->(∀(z:Addr) (t b:Int) (H':Hp),wS t b->n*b≤t->t≤(n+1)*b->ao t≤200->ao b≤60->But p H H'->H' z=some (.tup [.int t,.int b])->Pot H' p (k+10)->Q (.ref z) H')->Am vs H Q x_3
structure Dp(H:Hp)(z:Addr)(t b n:Int)(w:Str):Prop where
 at_:H z=some (.tup [.int t,.int b])
 low:wS t b
 n0:0≤t
 n1:t≤n*b
 bt:ao t≤200
 bb:ao b≤60
 hop:w=aB->b=1
theorem Dp.t'{H H':Hp}{z:Addr}{t b n:Int}{w:Str}(d:Dp H z t b n w)(s:SameT H H'):Dp H' z t b n w:=⟨s _ _ d.at_,d.low,d.n0,d.n1,d.bt,d.bb,d.hop⟩
inductive Bz (vs:List V) (H:Hp) (Q:VK) (x_3:XK):Prop
 | mk:∀(p:Addr) (n k:Int) (w:Str),(vs = [.ref p,.int n,.str w])->(Pot H p k)->(k≤700000)->((0≤n∧n≤50))->(∀(z:Addr) (t b:Int) (H':Hp),Dp H' z t b n w->But p H H'->Pot H' p (k+20)->Q (.ref z) H')->Bz vs H Q x_3
inductive Bp (vs:List V) (H:Hp) (Q:VK) (x_3:XK):Prop
 | mk:∀(p z0:Addr) (t0 b0 n k:Int) (w:Str),(vs = [.ref p,.ref z0,.int n,.str w])->(Pot H p k)->(k≤700000)->((0≤n∧n≤50))->(Dp H z0 t0 b0 n w)->(∀(z:Addr) (t b:Int) (H':Hp),Dp H' z t b n w->goB w t0 b0 t b=true->But p H H'->Pot H' p (k+20)->Q (.ref z) H')->Bp vs H Q x_3
def cp(t b n:Int):Int:=if t / b+1<n then t / b+1 else n
inductive AR (vs:List V) (H:Hp) (Q:VK) (x_3:XK):Prop
 | mk:∀(z0:Addr) (t0 b0 n:Int) (w:Str),(vs = [.ref z0,.int n])->((0≤n∧n≤50))->(Dp H z0 t0 b0 n w)->(∀(z:Addr) (H':Hp),Dp H' z (cp t0 b0 n) 1 n w->goB w t0 b0 (cp t0 b0 n) 1=true->Same H H'->Q (.ref z) H')->AR vs H Q x_3
theorem bF{k a b c d:Int}(hb:0<b)(hd:0<d)(h1:k*b≤a)(h2:a≤(k+1)*b)(h3:k*d≤c)(h4:c≤(k+1)*d):aK a b c d=true:=by
 unfold aK
 split
 ·have q:=nS hd h3
  have q2:(k+1)*b≤(c / d+1)*b:=Int.mul_le_mul_of_nonneg_right (by omega) (by omega);rw[decide_eq_false (by rw[Int.mul_one];omega)];rfl
 ·have q:=nS hb h1
  have q2:(k+1)*d≤(a / b+1)*d:=Int.mul_le_mul_of_nonneg_right (by omega) (by omega);rw[decide_eq_false (by rw[Int.mul_one];omega)];rfl
theorem jd{w:Str}{k a b c d:Int}(hb:0<b)(hd:0<d)(h1:k*b≤a)(h2:a≤(k+1)*b)(h3:k*d≤c)(h4:c≤(k+1)*d)(hw:w=aB->b=1∧d=1∧(c - a=0∨c - a=1))(hf:w≠aL->¬c*b<a*d):goB w a b c d=true:=by
 unfold goB
 split
 ·rename_i h
  obtain⟨e1,e2,e3⟩:=hw h;rw[decide_eq_true e1,decide_eq_true e2,Bool.true_and,Bool.true_and,Bool.or_eq_true,decide_eq_true_eq,decide_eq_true_eq];exact e3
 ·split
  ·exact bF hb hd h1 h2 h3 h4
  ·rename_i h
   rw[decide_eq_false (hf h),bF hb hd h1 h2 h3 h4];rfl
theorem nJ{w:Str}{a b:Int}(hb:0<b)(hw:w=aB->b=1):goB w a b a b=true :=
 jd (k:=a / b) hb hb (bR hb) (by have:=cv (a:=a) hb;omega) (bR hb) (by have:=cv (a:=a) hb;omega) (fun h=>⟨hw h,hw h,.inl (by omega)⟩) (fun _=>by omega)
theorem eC{t b n:Int}(hb:0<b)(h:t≤n*b):t / b≤n:=Int.ediv_le_of_le_mul hb h
theorem iQ{t b n:Int}(h:wS t b)(h1:t≤n*b)(e:t / b=n):t=n∧b=1:=by
 have hb:0<b:=h.pos;have q:=bR (a:=t) hb;rw[e]at q;have et:t=n*b:=by omega
 have z:=bq h (⟨by decide,Int.gcd_one⟩:wS n 1) (by rw[et];rw[Int.mul_one]);exact z
theorem qk(t b n:Int):cp t b n≤n:=by unfold cp;split <;> omega
theorem rW{w:Str}{t b n:Int}(h:wS t b)(h0:0≤t)(h1:t≤n*b)(hw:w=aB->b=1):goB w t b (cp t b n) 1=true∧0≤cp t b n:=by
 have hb:0<b:=h.pos;have f0:=eK hb h0;have f1:=eC hb h1;have g1:=bR (a:=t) hb;have g2:=cv (a:=t) hb
 by_cases hlt:t / b+1≤n
 ·have e:cp t b n=t / b+1:=by unfold cp;split <;> omega
  rw[e];refine⟨jd (k:=t / b) hb (by decide) g1 (by omega) (by omega) (by omega) (fun z=>?_) (fun _=>by rw[Int.mul_one];omega),by omega⟩;have eb:=hw z;subst eb;rw[Int.ediv_one];exact⟨rfl,rfl,.inr (by omega)⟩
 ·have ef:t / b=n:=by omega
  obtain⟨rfl,rfl⟩:=iQ h h1 ef;have e:cp t 1 t=t:=by unfold cp;rw[Int.ediv_one];split <;> omega
  rw[e];exact⟨nJ (by decide) (fun _=>rfl),h0⟩
theorem BC:vL ["pot","number"] ["pot","number"] (ag (top 76)):=smk
theorem kM(zi:Df K mg "_law_moved" (top 76))(vM:Fn P w K mg base "_law_take" ["pot","size"] 1 Dr.spTk)(T:Txt mg):Fn P w K mg base "_law_moved" ["pot","number"] 2 Bh:=by
 refine zi.fn BC (fun _ _ _ _ _ _ us hl=>by obtain⟨_,_,rfl⟩:=cj hl;rfl) (fun vs H Q E h=>?_) (fun f cdv A outer s H vs Q E hr h=>?_)
 ·obtain⟨p,n,k,rfl,_⟩:=h
  rfl
 ·obtain⟨p,n,k,rfl,pt,hk,q⟩:=h
  refine⟨_,(ah (am (aJ (ik rfl) (by rfl) T.z_max mW (aa (ap aV ac (ap fY ac ac)) (aa (aJ (dZ rfl) (by rfl) T.z_min ju (aa (ap aV (ap fY ac ac) ac) (aa (ap aV (ap aY (pv 1) (ak vM (hr.mono (by decide)) (by rfl) (aa (pv 0) (aa ac ad)))) ac) ad))) ad))))),?_⟩;have e12:(10:Int)^(12:Int).toNat=1000000000000:=by decide +kernel
  refine⟨_,_,rfl,rfl,⟨by decide,by decide,by decide⟩,_,_,rfl,rfl,_,_,rfl,rfl,⟨by decide,by decide,by decide⟩,_,_,rfl,rfl,_,rfl,_,rfl,p,_,_,rfl,pt,by omega,⟨by decide,by decide⟩,fun r H1 a1 b1 b2 p2=>?_⟩;refine⟨_,_,rfl,rfl,_,_,rfl,rfl,_,_,rfl,_,_,rfl,q _ _ ?_ b2 p2⟩;show -999999999999≤_∧_≤999999999999;rw[e12];constructor <;> (split <;> split <;> omega)
theorem yk:vL ["pot","line","way"] ["pot","line"] (ag (top 77)):=smk
theorem gh(xD:Df K mg "_law_drawn_other" (top 77))(vM:Fn P w K mg base "_law_take" ["pot","size"] 1 Dr.spTk)(ym:Fn P w K mg base "_law_moved" ["pot","number"] 2 Bh)(wo:Fn P w K mg base "_law_drawn_line" ["pot"] 3 Dr.spDLine)(T:Txt mg):Fn P w K mg base "_law_drawn_other" ["pot","line"] 4 Bf:=by
 refine xD.fn yk (fun _ _ _ _ _ _ us hl=>by obtain⟨_,_,rfl⟩:=cj hl;rfl) (fun vs H Q E h=>?_) (fun f cdv A outer s H vs Q E hr h=>?_)
 ·obtain⟨p,l,qs,k,rfl,_⟩:=h
  rfl
 ·obtain⟨p,l,qs,k,rfl,pt,hk,L,⟨hq1,hq10⟩,q⟩:=h
  have CN:yo (bD CX0 P w K mg base ["pot","line","way"] "_law_drawn_other" (ag (top 77)) f cdv A outer s H E).nox (compScope (kj (qi ((az (top 77)).getD 1 (.Pass ⟨0,0,0,0⟩))))) [("pot",s.heap.objs.size+1)] "corner" [("pot",0)] :=
   ⟨by rfl,rfl,by decide +kernel,by decide +kernel,rfl,(fun p hp=>by rw[List.mem_singleton.mp hp];rfl),by rfl,by decide +kernel,(fun p hp=>by rw[List.mem_singleton.mp hp];exact⟨rfl,rfl,.inr (.inl rfl),rfl,rfl⟩),⟨rfl,rfl⟩,rfl⟩
  refine⟨_,(ae (au (i:=2) yk.nd rfl (Or.inl rfl) (ak vM (hr.mono (by decide)) (by rfl) (aa (pv 0) (aa ac ad)))) (ae (aE (aq aQ (pv 2) ac (ar _)) (ah (am (gC rfl CN (cZ (pv 1)) (fun fp s₀ H₀=>(aA (aa (ak ym (hr.mono (by decide)) (by rfl) (aa (pv 1) (aa (aj (dl (K:=K) rfl) (pv 0) ac (fun _ _=>rfl)) ad))) (aa (ak ym (hr.mono (by decide)) (by rfl) (aa (pv 1) (aa (aj (dl (K:=K) rfl) (pv 0) ac (fun _ _=>rfl)) ad))) ad))))))) av) (ae (aE (aq aQ (pv 2) ac (ar _)) (ah (am (lj rfl rfl T.z_list rfl T.z_reversed (pv 1)))) av) (ah (am (ak wo (hr.mono (by decide)) (by rfl) (aa (pv 0) ad))))))),?_⟩;have npl:l≠p:=fun z=>by
   obtain⟨x,y,w,ep,_⟩:=pt;subst z;have e:=L.lst;rw[ep]at e;cases qs with
   | nil=>exact absurd hq1 (by simp)
   | cons c cs =>
    have e':=congrArg (fun o=>match o with|some (HO.lst (V.ref _::_))=>true|_=>false) e
    exact absurd e' (by simp)
  have hll:(qs.map fun (q:Addr×Int×Int)=>V.ref q.1).length=qs.length:=List.length_map _;refine⟨_,rfl,p,_,_,rfl,pt,by omega,⟨by decide,by decide⟩,fun r1 H1 _ _ b1 p1=>?_⟩;have L1:=L.but b1 pt npl;refine⟨_,rfl,rfl,_,rfl,aw (fun h1=>?_) (fun h1=>?_)⟩
  ·refine⟨_,rfl,l,rfl,⟨_,SqL.of L1.lst⟩,fun r nr=>?_⟩
   have npr:=Pot.ne p1 nr;have nlr:l≠r:=aN L1.lst nr;refine j9 (K:=K) (a:=l) (xs:=qs.map fun (q:Addr×Int×Int)=>V.ref q.1) (l:=r) (fv:=[("pot",0)]) (σ:=[some (.ref p),some (.ref l),some (.int r1)]) (Qp:=fun H2=>Q (.ref r) H2) (fun i acc H2=>∃rs:Crn,i≤qs.length∧acc=rs.map (fun z=>V.ref z.1)∧rs.length=i∧(∀z∈rs,H2 z.1=some (.tup [.int z.2.1,.int z.2.2])∧Sm z.2.1∧Sm z.2.2)∧But p H1 H2∧Pot H2 p (k+1+2*(i:Int))∧H2 r=some (.lst acc))
    ⟨[],Nat.zero_le _,rfl,rfl,(fun z h=>nomatch h),But.of (Same.new nr),by simpa using p1.same (Same.new nr),upd_same⟩ ?_ ?_ ?_
   ·rintro i acc H2 hi ⟨rs,hi',rfl,hl,_,b2,_,e3⟩
    exact⟨SqL.of (b2 _ _ npl L1.lst),e3,bJ (by rw[List.length_map];omega)⟩
   ·rintro i y acc H2 Kc hy ⟨rs,hi,rfl,hl,hrs,b2,p2,e3⟩ kk
    rw[List.getElem?_map]at hy;obtain⟨qq,hqi,rfl⟩:=Option.map_eq_some_iff.mp hy;have hlt:i<qs.length:=(List.getElem?_eq_some_iff.mp hqi).1;have c:=b2.t p1 _ _ (L1.crn qq (List.mem_of_getElem? hqi)).1;refine⟨_,rfl,_,rfl,qq.1,_,_,_,rfl,rfl,SqT.of c,rfl,p,_,_,rfl,p2,by omega,fun x3 H3 sm3 b3 p3=>?_⟩;have c3:=b3.t p2 _ _ c;refine⟨_,rfl,_,rfl,qq.1,_,_,_,rfl,rfl,SqT.of c3,rfl,p,_,_,rfl,p3,by omega,fun x4 H4 sm4 b4 p4=>?_⟩;refine⟨sz (by simp),fun pt' H5 s5 f5 n5=>?_⟩;have e5:=s5 _ _ (b4 _ _ npr (b3 _ _ npr e3));refine kk (.ref pt') H5 e5 ⟨rs++[(pt',x3,x4)],hlt,by rw[List.map_append];rfl,by simp[hl],fun z hz=>?_,fun b o nb e=>?_,?_,upd_same⟩
    ·have u:=SameT.upd (ys:=(rs.map fun z=>V.ref z.1)++[V.ref pt']) e5
     rcases List.mem_append.mp hz with hz|hz
     ·exact⟨u _ _ (s5 _ _ (b4.t p3 _ _ (b3.t p2 _ _ (hrs z hz).1))),(hrs z hz).2⟩
     ·rw[List.mem_singleton.mp hz]
      exact⟨u _ _ f5,sm3,sm4⟩
    ·by_cases hbr:b=r
     ·subst hbr
      rw[nr]at e;cases e
     ·rw[aT hbr]
      exact s5 _ _ (b4 b o nb (b3 b o nb (b2 b o nb e)))
    ·obtain⟨x,y,z,ep,rest⟩:=(p4.same s5).mono (k':=k+1+2*((i+1:Nat):Int)) (by omega)
     exact⟨x,y,z,by rw[aT (Ne.symm npr)];exact ep,rest⟩
   ·rintro acc H2 ⟨rs,_,rfl,hl,hrs,b2,p2,e3⟩
    rw[hll]at hl;exact q r rs H2 ⟨e3,hrs⟩ (by omega) (by omega) (b1.none npr nr) (b1.trans b2)
  ·refine⟨_,rfl,rfl,_,rfl,aw (fun h2=>?_) (fun h2=>?_)⟩
   ·refine⟨_,rfl,l,_,rfl,SqL.of L1.lst,fun r H2 s2 f2 n2=>?_⟩
    have npr:=Pot.ne p1 n2;have er:(qs.map fun (q:Addr×Int×Int)=>V.ref q.1).reverse=qs.reverse.map fun (q:Addr×Int×Int)=>V.ref q.1:=by rw[List.map_reverse]
    rw[er]at f2;exact q r qs.reverse H2 ⟨f2,fun z hz=>⟨s2 _ _ (L1.crn z (List.mem_reverse.mp hz)).1,(L1.crn z (List.mem_reverse.mp hz)).2⟩⟩ (by rw[List.length_reverse];exact hq1) (by rw[List.length_reverse];exact hq10) (b1.none npr n2) (b1.trans (But.of s2))
   ·refine⟨_,rfl,p,_,rfl,p1,by omega,fun r rs H2 L2 h1' h2' n2 b2 p2=>?_⟩
    have npr:=Pot.ne p1 n2;exact q r rs H2 L2 h1' h2' (b1.none npr n2) (b1.trans b2)
theorem AE:vL ["script","one"] ["script"] (ag (top 78)):=smk
theorem kN(zj:Df K mg "_law_lines" (top 78))(xQ:Fn P w K mg base "_law_cell_at" ["script","k"] 1 (Dr.spCell K))(xa:Fn P w K mg base "_law_begun" ["cell"] 1 Dr.spBegun)(wo:Fn P w K mg base "_law_drawn_line" ["pot"] 3 Dr.spDLine)(xw:Fn P w K mg base "_law_drawn_other" ["pot","line"] 4 Bf):Fn P w K mg base "_law_lines" ["script"] 5 (Bi K):=by
 refine zj.fn AE (fun _ _ _ _ _ _ us hl=>by obtain⟨_,rfl⟩:=gE hl;rfl) (fun vs H Q E h=>?_) (fun f cdv A outer s H vs Q E hr h=>?_)
 ·obtain⟨sa,ss,rfl,_⟩:=h
  rfl
 ·obtain⟨sa,ss,rfl,hS,q⟩:=h
  refine⟨_,(ae (au (i:=1) AE.nd rfl (Or.inl rfl) (ak wo (hr.mono (by decide)) (by rfl) (aa (ak xa (hr.mono (by decide)) (by rfl) (aa (ak xQ (hr.mono (by decide)) (by rfl) (aa (pv 0) (aa ac ad))) ad)) ad))) (ah (am (aA (aa (pv 1) (aa (ak xw (hr.mono (by decide)) (by rfl) (aa (ak xa (hr.mono (by decide)) (by rfl) (aa (ak xQ (hr.mono (by decide)) (by rfl) (aa (pv 0) (aa ac ad))) ad)) (aa (pv 1) ad))) ad)))))),?_⟩;refine⟨_,rfl,sa,ss,0,rfl,hS,by decide,fun c0=>?_⟩;refine⟨c0,rfl,fun p0 H0 s0 n0 pt0=>?_⟩;refine⟨p0,0,rfl,pt0,by decide,fun l qs H1 L1 h1 h10 nl b1 _=>?_⟩;have s1:Same H H1:=b1.same s0 n0;refine⟨_,rfl,_,rfl,sa,ss,1,rfl,s1.seq hS,by decide,fun c1=>?_⟩;refine⟨c1,rfl,fun p2 H2 s2 n2 pt2=>⟨_,rfl,p2,l,qs,0,rfl,pt2,by decide,L1.mono s2,⟨h1,h10⟩,fun r rs H3 L3 h3 h30 nr b3=>?_⟩⟩;have nlp:l≠p2:=aN L1.lst n2;have s3:Same H1 H3:=b3.same s2 n2;have L3':LineM H3 l qs:=L1.mono s3;refine⟨sz (by simp),fun t H4 s4 f4 n4=>?_⟩;exact q t l r qs rs H4 (s1.trans (s3.trans s4)) f4 (L3'.mono s4) ⟨h1,h10⟩ (L3.mono s4) ⟨h3,h30⟩ (s0.free nl) (s1.free (s2.free nr)) (aN (s2 _ _ L1.lst) nr)
theorem zD:vL ["one","other"] ["one","other"] (ag (top 79)):=smk
theorem jn(yB:Df K mg "_law_divisor" (top 79))(T:Txt mg):Fn P w K mg base "_law_divisor" ["one","other"] 1 CJ:=by
 refine yB.fn zD (fun _ _ _ _ _ _ us hl=>by obtain⟨_,_,rfl⟩:=cj hl;rfl) (fun vs H Q E h=>?_) (fun f cdv A outer s H vs Q E hr h=>?_)
 ·obtain⟨a,b,rfl,_⟩:=h
  rfl
 ·obtain⟨a,b,rfl,hb,q⟩:=h
  refine⟨_,(ae (gz PassesOwn.never (aq dF (pv 1) ac (ar _)) (ah (tQ (i:=0) (j:=1) rfl zD.nd rfl rfl (by decide) rfl rfl (aa (pv 1) (aa (ap cT (pv 0) (pv 1)) ad)) (by rfl)))) (ah (am (aJ fB (by rfl) T.z_abs jv (aa (pv 0) ad))))),?_⟩;refine gj (fun σ H'=>∃x y:Int,σ = [some (.int x),some (.int y)]∧H'=H∧0≤y∧Int.gcd x y=Int.gcd a b)
   (fun σ _=>match σ with | [_,some (.int y)]=>y.toNat|_=>0) ⟨_,_,rfl,rfl,hb,rfl⟩ ?_ ?_
  ·rintro σ H' ⟨x,y,rfl,rfl,hy,hg⟩
   refine⟨_,rfl,rfl,_,rfl,?_⟩;refine aw (fun hc=>?_) (fun hc=>?_)
   ·have hy0:¬y=0:=by simpa using hc
    have hy1:0<y:=by omega
    refine⟨_,rfl,_,rfl,_,rfl,x,y,rfl,rfl,hy1,_,_,rfl,⟨y,x % y,rfl,rfl,Int.emod_nonneg _ hy0,?_⟩,?_⟩
    ·rw[oP hy1]
     exact hg
    ·have h1:=Int.emod_lt_of_pos x hy1
     have h2:=Int.emod_nonneg x hy0;show(x % y).toNat<y.toNat;omega
   ·have hy0:y=0:=by simpa using hc
    subst hy0;refine⟨_,rfl,x,rfl,?_⟩;have e:(Int.gcd a b:Int)=(if x<0 then -x else x):=by rw[<- hg,Int.gcd_zero];split <;> omega
    rw[e]at q;exact q
  ·rintro σ H' Q1 Q2 hq ⟨v,e,hs,k,ek,r⟩
   exact⟨v,e,hs,k,ek,hq _ _ r⟩
theorem AD:vL ["top","bottom","by"] ["top","bottom"] (ag (top 80)):=smk
theorem kK(zh:Df K mg "_law_ratio" (top 80))(yu:Fn P w K mg base "_law_divisor" ["one","other"] 1 CJ):Fn P w K mg base "_law_ratio" ["top","bottom"] 2 AQ:=by
 refine zh.fn AD (fun _ _ _ _ _ _ us hl=>by obtain⟨_,_,rfl⟩:=cj hl;rfl) (fun vs H Q E h=>?_) (fun f cdv A outer s H vs Q E hr h=>?_)
 ·obtain⟨a,b,rfl,_⟩:=h
  rfl
 ·obtain⟨a,b,rfl,⟨hb,bb⟩,q⟩:=h
  refine⟨_,(ae (au (i:=2) AD.nd rfl (Or.inl rfl) (ak yu (hr.mono (by decide)) (by rfl) (aa (pv 0) (aa (pv 1) ad)))) (ah (am (aA (aa (ap bH (pv 0) (pv 2)) (aa (ap bH (pv 1) (pv 2)) ad)))))),?_⟩;refine⟨_,rfl,_,rfl,a,b,rfl,by omega,?_⟩;have hg:=da (a:=a) (b:=b) (by omega);have bg:ao (Int.gcd a b:Int)≤8000:=af (jZ (by omega) bb) (by decide);refine⟨_,rfl,_,rfl,_,_,rfl,rfl,⟨hg,bg⟩,_,rfl,_,rfl,_,_,rfl,rfl,⟨hg,bg⟩,sz (by simp),fun p H1 s1 f1 n1=>?_⟩;exact q p _ _ H1 (fA hb) rfl rfl s1 f1 n1
theorem BD:vL ["one","other"] ["one","other"] (ag (top 81)):=smk
theorem kP(zl:Df K mg "_law_below" (top 81)):Fn P w K mg base "_law_below" ["one","other"] 1 wY:=by
 refine zl.fn BD (fun _ _ _ _ _ _ us hl=>by obtain⟨_,_,rfl⟩:=cj hl;rfl) (fun vs H Q E h=>?_) (fun f cdv A outer s H vs Q E hr h=>?_)
 ·obtain⟨p,q,a,b,c,d,rfl,_⟩:=h
  rfl
 ·obtain⟨p,q,a,b,c,d,rfl,hp,hq,⟨ba,bb,bc,bd⟩,k⟩:=h
  refine⟨_,(ah (am (a7 ll (ap aG (aj ai (pv 0) ac (fun _ _=>rfl)) (aj ai (pv 1) ac (fun _ _=>rfl))) (ap aG (aj ai (pv 1) ac (fun _ _=>rfl)) (aj ai (pv 0) ac (fun _ _=>rfl))) (ar _)))),?_⟩
  walk_at "rd"
  exact k
theorem zC:vL ["pot","at","parts"] ["pot","at"] (ag (top 88)):=smk
theorem jl(yz:Df K mg "_law_spot_on" (top 88))(vM:Fn P w K mg base "_law_take" ["pot","size"] 1 Dr.spTk)(w9:Fn P w K mg base "_law_wide" ["pot","size"] 2 Dr.spWd)(wB:Fn P w K mg base "_law_ratio" ["top","bottom"] 2 AQ):Fn P w K mg base "_law_spot_on" ["pot","at"] 3 Am:=by
 refine yz.fn zC (fun _ _ _ _ _ _ us hl=>by obtain⟨_,_,rfl⟩:=cj hl;rfl) (fun vs H Q E h=>?_) (fun f cdv A outer s H vs Q E hr h=>?_)
 ·obtain⟨p,n,k,rfl,_⟩:=h
  rfl
 ·obtain⟨p,n,k,rfl,pt,hk,⟨hn0,hn1⟩,q⟩:=h
  refine⟨_,(ae (au (i:=2) zC.nd rfl (Or.inl rfl) (ap aY ac (ak w9 (hr.mono (by decide)) (by rfl) (aa (pv 0) (aa (aj aI (bW (aa ac (aa ac (aa ac (aa (ap fY ac ac) ad))))) (ak vM (hr.mono (by decide)) (by rfl) (aa (pv 0) (aa ac ad))) (fun _ _=>rfl)) ad))))) (ah (am (ak wB (hr.mono (by decide)) (by rfl) (aa (ap aY (ap aG (pv 1) (pv 2)) (ak w9 (hr.mono (by decide)) (by rfl) (aa (pv 0) (aa (ap aY (pv 2) ac) ad)))) (aa (pv 2) ad)))))),?_⟩;have e18:(10:Int)^(18:Int).toNat=1000000000000000000:=by decide +kernel
  refine⟨_,rfl,_,_,rfl,rfl,⟨by decide,by decide,by decide⟩,sz (by simp),fun pl H1 s1 f1 n1=>?_⟩;have np1:=Pot.ne pt n1;have p1:=pt.same s1;refine⟨_,rfl,p,_,_,rfl,p1,by omega,⟨by decide,by decide⟩,fun r2 H2 a2 b2' b2 p2=>?_⟩;refine pN (fun m=>1≤m∧m≤1000000000000000000) (b2 _ _ np1 f1) a2 (by simpa using b2') (fun v hv=>?_) fun m hm=>?_
  ·simp only[List.mem_cons,List.not_mem_nil,or_false]at hv
   rcases hv with rfl|rfl|rfl|rfl
   ·exact⟨_,rfl,by decide,by decide⟩
   ·exact⟨_,rfl,by decide,by decide⟩
   ·exact⟨_,rfl,by decide,by decide⟩
   ·exact⟨_,rfl,by rw[e18];decide,by rw[e18];decide⟩
  have bits61:∀{z:Int},0≤z->z≤1000000000000000001->ao z≤61:=fun {z} h0 h1=>dn (n:=61) (by show _<2305843009213693952;omega);refine⟨p,_,_,rfl,p2,by omega,⟨by omega,af (bits61 (by omega) (by omega)) (by decide)⟩,fun r3 H3 a3 b3' b3 p3=>⟨_,_,rfl,rfl,?_⟩⟩;have bn:ao n≤10:=bi (by omega) (by omega);have bp:ao (1+r3)≤61:=bits61 (by omega) (by omega);have bp60:ao (1+r3)≤60:=dn (n:=60) (by show _<1152921504606846976;omega);refine⟨_,rfl,_,rfl,_,_,rfl,rfl,CM.l (sZ (by omega) (by omega)),_,rfl,_,rfl,_,_,rfl,rfl,p,_,_,rfl,p3,by omega,⟨by omega,af (bits61 (by omega) (by omega)) (by decide)⟩,fun r4 H4 a4 b4' b4 p4=>⟨_,_,rfl,rfl,?_⟩⟩;have B4:But p H H4:=((But.of s1).trans b2).trans (b3.trans b4);refine⟨_,rfl,_,_,rfl,⟨by omega,af bp (by decide)⟩,fun z t b H5 fr et eb s5 f5 n5=>?_⟩;have hb:0<b:=fr.low.pos;have hpp:0<1+r3:=by omega
  have heq:=fr.eq;have br4:ao r4≤61:=bits61 (by omega) (by omega);have btop:ao (n*(1+r3)+r4)≤100:=by walk_at "bl"
  refine q z t b H5 fr.low ?_ ?_ ?_ ?_ (B4.trans (But.of s5)) f5 ((p4.same s5).mono (by omega))
  ·have h1:n*b*(1+r3)≤t*(1+r3):=by
    rw[<- heq];have:0≤r4*b:=Int.mul_nonneg a4 (by omega);have e:(n*(1+r3)+r4)*b=n*b*(1+r3)+r4*b:=by grind
    omega
   exact Int.le_of_mul_le_mul_right h1 hpp
  ·have h1:t*(1+r3)≤(n+1)*b*(1+r3):=by
    rw[<- heq];have:r4*b≤(1+r3)*b:=Int.mul_le_mul_of_nonneg_right (by omega) (by omega);have e:(n*(1+r3)+r4)*b=n*b*(1+r3)+r4*b:=by grind
    have e2:(n+1)*b*(1+r3)=n*b*(1+r3)+(1+r3)*b:=by grind
    omega
   exact Int.le_of_mul_le_mul_right h1 hpp
  ·rw[et]
   exact af (cy (da (by omega)) btop) (by decide)
  ·rw[eb]
   exact cy (da (by omega)) bp60
theorem Cm:vL ["pot","last","way"] ["pot","last","way"] (ag (top 89)):=smk
theorem mO(Aw:Df K mg "_law_any" (top 89))(vM:Fn P w K mg base "_law_take" ["pot","size"] 1 Dr.spTk)(vT:Fn P w K mg base "_law_spot_on" ["pot","at"] 3 Am):Fn P w K mg base "_law_any" ["pot","last","way"] 4 Bz:=by
 refine Aw.fn Cm (fun _ _ _ _ _ _ us hl=>by obtain⟨_,_,_,rfl⟩:=hU hl;rfl) (fun vs H Q E h=>?_) (fun f cdv A outer s H vs Q E hr h=>?_)
 ·obtain⟨p,n,k,w,rfl,_⟩:=h
  rfl
 ·obtain⟨p,n,k,w,rfl,pt,hk,⟨hn0,hn1⟩,q⟩:=h
  refine⟨_,(ae (aE (cK (aq aQ (pv 1) ac (ar _)) (cK (aq aQ (pv 2) aP (ar _)) (cq (aq aQ (ak vM (hr.mono (by decide)) (by rfl) (aa (pv 0) (aa ac ad))) ac (ar _))))).pt (ah (am (aA (aa (ak vM (hr.mono (by decide)) (by rfl) (aa (pv 0) (aa (ap aY (pv 1) ac) ad))) (aa ac ad))))) av) (ah (am (ak vT (hr.mono (by decide)) (by rfl) (aa (pv 0) (aa (ak vM (hr.mono (by decide)) (by rfl) (aa (pv 0) (aa (pv 1) ad))) ad)))))),?_⟩;have whole:∀(H1:Hp) (k':Int),But p H H1->Pot H1 p k'->k'≤k+5->(mD (k9 (bP (eF spTk [] E0 (bP (xh 0) (bP (tOp (CO fun i j=>.int (i+j)) (xh 1) (tC (.int 1))) fV))) (bP (tC (.int 1)) fV)))) { nx:=fun _ H'=>Q .non H',rt:=Q } [some (.ref p),some (.int n),some (.str w)] H1:=fun H1 k' b1 p1 hk'=>by
   refine⟨_,rfl,_,rfl,_,_,rfl,rfl,p,_,_,rfl,p1,by omega,⟨by omega,af (bi (by omega) (by omega)) (by decide)⟩,fun r2 H2 a2 b2' b2 p2=>?_⟩;refine⟨sz (by simp),fun z H3 s3 f3 n3=>q z r2 1 H3 ⟨f3,⟨by decide,Int.gcd_one⟩,a2,by omega,af (bi (by omega) (by omega)) (by decide),by decide,fun _=>rfl⟩ (b1.trans (b2.trans (But.of s3))) ((p2.same s3).mono (by omega))⟩
  refine⟨_,rfl,rfl,_,rfl,aw (fun h1=>?_) (fun h1=>?_)⟩
  ·exact whole H k But.refl pt (by omega)
  have hn:n≠0:=by
   intro z;subst z;exact absurd h1 (by decide)
  refine⟨_,rfl,rfl,_,rfl,aw (fun h2=>?_) (fun h2=>?_)⟩
  ·exact whole H k But.refl pt (by omega)
  have hw:w≠aB:=fun z=>by
   subst z;exact absurd h2 (by decide)
  refine⟨_,rfl,p,_,_,rfl,pt,by omega,⟨by decide,by decide⟩,fun r1 H1 _ _ b1 p1=>?_⟩;refine⟨rfl,_,rfl,aw (fun h3=>?_) (fun h3=>?_)⟩
  ·exact whole H1 (k+1) b1 p1 (by omega)
  refine⟨_,rfl,_,rfl,_,rfl,p,_,_,rfl,p1,by omega,⟨by omega,af (bi (by omega) (by omega)) (by decide)⟩,fun r2 H2 a2 b2' b2 p2=>?_⟩;refine⟨p,_,_,rfl,p2,by omega,⟨a2,by omega⟩,fun z t b H3 lw g1 g2 bt bb b3 f3 p3=>?_⟩;have hb:=lw.pos;have h0:0≤r2*b:=Int.mul_nonneg a2 (by omega);have h9:(r2+1)*b≤n*b:=Int.mul_le_mul_of_nonneg_right (by omega) (by omega);exact q z t b H3 ⟨f3,lw,by omega,by omega,bt,bb,fun z=>absurd z hw⟩ (b1.trans (b2.trans b3)) (p3.mono (by omega))
theorem xS:vL ["pot","place","last","way","at","turn","spot"] ["pot","place","last","way"] (ag (top 94)):=smk
theorem kS(zo:Df K mg "_law_ahead" (top 94))(vM:Fn P w K mg base "_law_take" ["pot","size"] 1 Dr.spTk)(vT:Fn P w K mg base "_law_spot_on" ["pot","at"] 3 Am)(vN:Fn P w K mg base "_law_below" ["one","other"] 1 wY):Fn P w K mg base "_law_ahead" ["pot","place","last","way"] 4 Bp:=by
 refine zo.fn xS (fun _ _ _ _ _ _ us hl=>by obtain⟨_,_,_,_,rfl⟩:=ir hl;rfl) (fun vs H Q E h=>?_) (fun f cdv A outer s H vs Q E hr h=>?_)
 ·obtain⟨p,z0,t0,b0,n,k,wy,rfl,_⟩:=h
  rfl
 ·obtain⟨p,z0,t0,b0,n,k,wy,rfl,pt,hk,⟨hn0,hn1⟩,d0,q⟩:=h
  have hb:=d0.low.pos;have bb0:ao b0≤8000:=af d0.bb (by decide);have f0:=eK hb d0.n0;have f1:=eC hb d0.n1;have g1:=bR (a:=t0) hb;have g2:=cv (a:=t0) hb;have stay:∀{H1:Hp} {k':Int},But p H H1->Pot H1 p k'->k'≤k+20->Q (.ref z0) H1:=fun b1 p1 hk'=>q z0 t0 b0 _ (d0.t' (b1.t pt)) (nJ hb d0.hop) b1 (p1.mono hk');have R:∃u,PSs (bD CX0 P w K mg base ["pot","place","last","way","at","turn","spot"] "_law_ahead" (ag (top 94)) f cdv A outer s H E).nox ((az (top 94)).drop 4) u∧∀(r1:Int) (H2:Hp) (k':Int),But p H H2->Pot H2 p k'->k'≤k+3->u { nx:=fun _ H'=>Q .non H',rt:=Q } [some (.ref p),some (.ref z0),some (.int n),some (.str wy),some (.int (t0 / b0)),some (.int r1),none] H2:=by
   refine⟨_,(ae (aE (aq aQ (pv 4) (pv 2) (ar _)) (ah (am (pv 1))) av) (ae (au (i:=6) xS.nd rfl (Or.inl rfl) (aA (aa (ap aY (pv 4) ac) (aa ac ad)))) (ae (aE (bC (aq aQ (pv 5) ac (ar _)) (bE (aq dF (pv 3) aP (ar _)))).pt (ah (au (i:=6) xS.nd rfl (Or.inl rfl) (ak vT (hr.mono (by decide)) (by rfl) (aa (pv 0) (aa (pv 4) ad))))) av) (ae (aE (bC (aq dF (pv 3) aP (ar _)) (bE (aS (ak vN (hr.mono (by decide)) (by rfl) (aa (pv 6) (aa (pv 1) ad)))))).pt (ah (am (pv 1))) av) (ah (am (pv 6))))))),fun r1 H2 k' b2 p2 hk2=>?_⟩;have d2:=d0.t' (b2.t pt);refine⟨_,rfl,_,rfl,rfl,_,rfl,aw (fun h2=>?_) (fun h2=>?_)⟩
   ·exact⟨_,rfl,stay b2 p2 (by omega)⟩
   have hne:t0 / b0≠n:=fun z=>by
    rw[z]at h2;exact absurd h2 (by simp)
   refine⟨_,rfl,_,_,rfl,rfl,sz (by simp),fun zs H3 s3 f3 n3=>?_⟩;have fin:∀(zs:Addr) (t b:Int) (H4:Hp) (k4:Int),Dp H4 zs t b n wy->(t0 / b0)*b≤t->t≤(t0 / b0+1)*b->(wy=aB->t=t0 / b0+1∧b=1)->But p H H4->Pot H4 p k4->k4≤k+20 ->
     (oq (uI (tE (o7 (tOp Dw (xh 3) (tC (.str aL)))) (tB (eF wY [] E0 (bP (xh 6) (bP (xh 1) fV))))) (mD (xh 1)) sP) (mD (xh 6))) { nx:=fun _ H'=>Q .non H',rt:=Q } [some (.ref p),some (.ref z0),some (.int n),some (.str wy),some (.int (t0 / b0)),some (.int r1),some (.ref zs)] H4:=by
    intro zs t b H4 k4 d4 j1 j2 jh b4 p4 hk4;have d04:=d0.t' (b4.t pt);have hb4:=d4.low.pos;have go:(wy≠aL->¬t*b0<t0*b)->goB wy t0 b0 t b=true:=fun hf=>jd (k:=t0 / b0) hb hb4 g1 (by omega) j1 j2 (fun z=>by
     obtain⟨e1,e2⟩:=jh z;have e3:=d0.hop z;subst e2 e3;rw[Int.ediv_one]at e1;exact⟨rfl,rfl,.inr (by omega)⟩) hf
    refine⟨_,rfl,rfl,_,rfl,aw (fun h3=>?_) (fun h3=>?_)⟩
    ·refine⟨_,rfl,_,rfl,zs,z0,_,_,_,_,rfl,d4.at_,d04.at_,⟨af d4.bt (by decide),af d4.bb (by decide),af d04.bt (by decide),af d04.bb (by decide)⟩,_,rfl,aw (fun h4=>?_) (fun h4=>?_)⟩
     ·exact⟨_,rfl,stay b4 p4 hk4⟩
     ·exact⟨_,rfl,q zs t b H4 d4 (go fun _=>bI h4) b4 (p4.mono hk4)⟩
    ·have ew:wy=aL:=by
      have h3':decide (V.str wy=V.str aL)=true:=by simpa using h3
      have:=aR h3';cases this;rfl
     exact⟨_,rfl,q zs t b H4 d4 (go fun z=>absurd ew z) b4 (p4.mono hk4)⟩
   have b3:But p H H3:=b2.trans (But.of s3);have p3:=p2.same s3;have hm:(t0 / b0+1)≤n:=by omega
   have dS:Dp H3 zs (t0 / b0+1) 1 n wy:=⟨f3,⟨by decide,Int.gcd_one⟩,by omega,by omega,af (bi (by omega) (by omega)) (by decide),by decide,fun _=>rfl⟩;refine⟨_,rfl,rfl,_,rfl,aw (fun h5=>?_) (fun h5=>?_)⟩
   ·refine⟨_,rfl,rfl,_,rfl,aw (fun h6=>?_) (fun h6=>?_)⟩
    ·have nw:wy≠aB:=fun z=>by
      subst z;exact absurd h6 (by decide)
     refine⟨_,rfl,_,rfl,p,_,_,rfl,p3,by omega,⟨f0,by omega⟩,fun zt t b H4 lw c1 c2 bt bb b4 f4 p4=>?_⟩;have hbz:=lw.pos;have m0:0≤t0 / b0*b:=Int.mul_nonneg f0 (by omega);have m1:(t0 / b0+1)*b≤n*b:=Int.mul_le_mul_of_nonneg_right hm (by omega);exact fin zt t b H4 _ ⟨f4,lw,by omega,by omega,bt,bb,fun z=>absurd z nw⟩ c1 c2 (fun z=>absurd z nw) (b3.trans b4) p4 (by omega)
    ·exact fin zs _ 1 H3 _ dS (by omega) (by omega) (fun _=>⟨rfl,rfl⟩) b3 p3 (by omega)
   ·exact fin zs _ 1 H3 _ dS (by omega) (by omega) (fun _=>⟨rfl,rfl⟩) b3 p3 (by omega)
  obtain⟨u,hu,ru⟩:=R;refine⟨_,(ae (au (i:=4) xS.nd rfl (Or.inl rfl) (ap bH (aj ai (pv 1) ac (fun _ _=>rfl)) (aj ai (pv 1) ac (fun _ _=>rfl)))) (ae (au (i:=5) xS.nd rfl (Or.inl rfl) (ak vM (hr.mono (by decide)) (by rfl) (aa (pv 0) (aa ac ad)))) (ae (aE (aq aQ (pv 5) ac (ar _)) (ah (am (pv 1))) av) (ae (aE (bC (aq aQ (pv 3) aP (ar _)) (bC (aq eI (pv 4) ac (ar _)) (bC (aq aQ (aj ai (pv 1) ac (fun _ _=>rfl)) ac (ar _)) (bE (aq aQ (ak vM (hr.mono (by decide)) (by rfl) (aa (pv 0) (aa ac ad))) ac (ar _)))))).pt (ah (am (ak vT (hr.mono (by decide)) (by rfl) (aa (pv 0) (aa (ap aV (pv 4) ac) ad))))) av) hu)))),?_⟩;refine⟨_,rfl,z0,_,_,_,rfl,rfl,SqT.of d0.at_,rfl,_,rfl,z0,_,_,_,rfl,rfl,SqT.of d0.at_,rfl,_,_,rfl,rfl,⟨hb,bb0⟩,?_⟩;refine⟨_,rfl,p,_,_,rfl,pt,by omega,⟨by decide,by decide⟩,fun r1 H1 a1 b1' b1 p1=>?_⟩;have d1:=d0.t' (b1.t pt);refine⟨_,rfl,rfl,_,rfl,aw (fun h1=>?_) (fun h1=>?_)⟩
  ·exact⟨_,rfl,stay b1 p1 (by omega)⟩
  refine⟨_,rfl,rfl,_,rfl,aw (fun h2=>?_) (fun h2=>?_)⟩
  ·have ew:wy=aL:=by
    have:=aR h2;cases this;rfl
   refine⟨_,rfl,_,_,rfl,rfl,_,rfl,aw (fun h3=>?_) (fun h3=>?_)⟩
   ·have h3:0<t0 / b0:=aR h3
    refine⟨_,rfl,z0,_,_,_,rfl,rfl,SqT.of d1.at_,rfl,rfl,_,rfl,aw (fun h4=>?_) (fun h4=>?_)⟩
    ·have h4:b0=1:=by
      have:=aR h4;cases this;rfl
     refine⟨_,rfl,p,_,_,rfl,p1,by omega,⟨by decide,by decide⟩,fun r2 H2 _ _ b2 p2=>?_⟩;refine⟨rfl,_,rfl,aw (fun h5=>?_) (fun h5=>?_)⟩
     ·refine⟨_,rfl,_,rfl,_,_,rfl,rfl,p,_,_,rfl,p2,by omega,⟨by omega,by omega⟩,fun zt t b H4 lw c1 c2 bt bb b4 f4 p4=>?_⟩
      have hbz:=lw.pos;subst h4;rw[Int.ediv_one]at c1 c2 h3 f1;have m0:0≤(t0 - 1)*b:=Int.mul_nonneg (by omega) (by omega);have m1:t0*b≤n*b:=Int.mul_le_mul_of_nonneg_right f1 (by omega);have e1:t0 - 1+1=t0:=by omega
      have c2':t≤t0*b:=by rw[e1]at c2;exact c2
      have hgo:(wy≠aL->¬t*1<t0*b)->(wy=aB->(1:Int)=1∧b=1∧(t - t0=0∨t - t0=1))->goB wy t0 1 t b=true:=fun hf hh=>jd (k:=t0 - 1) (by decide) hbz (by omega) (by omega) c1 c2 hh hf;have nh:wy≠aB:=fun z=>by
       rw[ew]at z;exact absurd z (by decide)
      exact q zt t b H4 ⟨f4,lw,by omega,by omega,bt,bb,fun z=>absurd z nh⟩ (hgo (fun z=>absurd ew z) fun z=>absurd z nh) (b1.trans (b2.trans b4)) (p4.mono (by omega))
     ·exact ru r1 H2 _ (b1.trans b2) p2 (by omega)
    ·exact ru r1 H1 _ b1 p1 (by omega)
   ·exact ru r1 H1 _ b1 p1 (by omega)
  ·exact ru r1 H1 _ b1 p1 (by omega)
theorem BV:vL ["place","last"] ["place","last"] (ag (top 95)):=smk
theorem lO(zT:Df K mg "_law_home" (top 95))(T:Txt mg):Fn P w K mg base "_law_home" ["place","last"] 1 AR:=by
 refine zT.fn BV (fun _ _ _ _ _ _ us hl=>by obtain⟨_,_,rfl⟩:=cj hl;rfl) (fun vs H Q E h=>?_) (fun f cdv A outer s H vs Q E hr h=>?_)
 ·obtain⟨z0,t0,b0,n,w,rfl,_⟩:=h
  rfl
 ·obtain⟨z0,t0,b0,n,w,rfl,⟨hn0,hn1⟩,d0,q⟩:=h
  refine⟨_,(ah (am (aA (aa (aJ (dZ rfl) (by rfl) T.z_min ju (aa (pv 1) (aa (ap aY (ap bH (aj ai (pv 0) ac (fun _ _=>rfl)) (aj ai (pv 0) ac (fun _ _=>rfl))) ac) ad))) (aa ac ad))))),?_⟩;have hb:=d0.low.pos;obtain⟨hg,h0⟩:=rW (w:=w) d0.low d0.n0 d0.n1 d0.hop;have hle:=qk t0 b0 n;refine⟨_,rfl,_,rfl,z0,_,_,_,rfl,rfl,SqT.of d0.at_,rfl,_,rfl,z0,_,_,_,rfl,rfl,SqT.of d0.at_,rfl,_,_,rfl,rfl,⟨hb,af d0.bb (by decide)⟩,_,_,rfl,rfl,_,_,rfl,sz (by simp),fun z H1 s1 f1 _=>?_⟩;have e:(if t0 / b0+1<n then t0 / b0+1 else n)=cp t0 b0 n:=rfl
  have f1':H1 z=some (.tup [.int (cp t0 b0 n),.int 1]):=f1;exact q z H1 ⟨f1',⟨by decide,Int.gcd_one⟩,h0,by omega,af (bi (by omega) (by omega)) (by decide),by decide,fun _=>rfl⟩ hg s1
def ME(t:TE):Prop:=∀σ H Q Q',(∀v H1,Q v H1->Q' v H1)->t σ H Q->t σ H Q'
def MT(t:TT):Prop:=∀σ H Q Q',(∀b H1,Q b H1->Q' b H1)->t σ H Q->t σ H Q'
def MA(t:TA):Prop:=∀σ H Q Q',(∀v H1,Q v H1->Q' v H1)->t σ H Q->t σ H Q'
def MR(r:R2):Prop:=∀x y H Q Q',(∀v H1,Q v H1->Q' v H1)->r x y H Q->r x y H Q'
theorem gZ{i:Nat}:ME (xh i):=fun σ H Q Q' hq ⟨v,e,h⟩=>⟨v,e,hq _ _ h⟩
theorem pO{v:V}:ME (tC v):=fun σ H Q Q' hq h=>hq _ _ h
theorem lv{r:R2}{a b:TE}(hr:MR r)(ha:ME a)(hb:ME b):ME (tOp r a b):=fun σ H Q Q' hq h=>ha σ H _ _ (fun x H1 h1=>hb σ H1 _ _ (fun y H2 h2=>hr x y H2 Q Q' hq h2) h1) h
theorem pM{K:W.Frag}{neg:Bool}:MR (CW K neg):=fun x y H Q Q' hq ⟨p,q,ns,ms,e1,e2,h1,h2,k⟩=>⟨p,q,ns,ms,e1,e2,h1,h2,hq _ _ k⟩
theorem uV:MR Dw:=fun x y H Q Q' hq ⟨h,k⟩=>⟨h,hq _ _ k⟩
theorem pR:MA fV:=fun σ H Q Q' hq h=>hq _ _ h
theorem iG{a:TE}{r:TA}(ha:ME a)(hr:MA r):MA (bP a r):=fun σ H Q Q' hq h=>ha σ H _ _ (fun x H1 h1=>hr σ H1 _ _ (fun xs H2 h2=>hq _ _ h2) h1) h
theorem nv{t:TA}(h:MA t):ME (k9 t):=fun σ H Q Q' hq k=>h σ H _ _ (fun xs H1 ⟨z,f⟩=>⟨z,fun p H2 s e n=>hq _ _ (f p H2 s e n)⟩) k
theorem iF{t:TE}(h:ME t):MT (o7 t):=fun σ H Q Q' hq k=>h σ H _ _ (fun x H1 ⟨b,e,f⟩=>⟨b,e,hq _ _ f⟩) k
theorem uU{a b:TT}(ha:MT a)(hb:MT b):MT (tOr a b):=fun σ H Q Q' hq k=>ha σ H _ _ (fun c H1 f=>by
 cases c with
 | true=>exact hq _ _ f
 | false=>exact hb σ H1 Q Q' hq f) k
theorem tW{a b:TT}(ha:MT a)(hb:MT b):MT (tE a b):=fun σ H Q Q' hq k=>ha σ H _ _ (fun c H1 f=>by
 cases c with
 | true=>exact hb σ H1 Q Q' hq f
 | false=>exact hq _ _ f) k
structure AW(H:Hp)(l:Addr)(n m:Int)(w:Str)(ps:List Pr)(q:Pr):Prop where
 at_:vU H l (ps++[q])
 st:cE w (ps++[q])=true
 inn:(ps++[q]).all (inB n m)=true
 fst:∀f,(ps++[q]).head? = some f->f.a=0∧f.b=1∧(w≠a6->f.c=0∧f.d=1)
 hop:w=aB->∀r∈ps++[q],r.b=1∧r.d=1
theorem mE{w:Str}{ps:List Pr}{q r:Pr}(h:cE w (ps++[q])=true)(h2:dE w q r=true):cE w (ps++[q]++[r])=true:=by
 rw[dq]at h ⊢;intro j u v eu ev;have hv:=(List.getElem?_eq_some_iff.mp ev).1;rw[List.length_append,List.length_append]at hv;simp only[List.length_cons,List.length_nil]at hv
 by_cases hj:j+1<ps.length+1
 ·rw[List.getElem?_append_left (by rw[List.length_append];simp only[List.length_cons,List.length_nil];omega)]at eu ev
  exact h j u v eu ev
 ·have ej:j=ps.length:=by omega
  subst ej;rw[List.getElem?_append_left (by simp),List.getElem?_append_right (Nat.le_refl _),Nat.sub_self]at eu;rw[List.getElem?_append_right (by simp)]at ev;simp at ev;cases eu;subst ev;exact h2
theorem oO{ps:List Pr}{q r f:Pr}(h:(ps++[q]++[r]).head? = some f):(ps++[q]).head? = some f:=by
 cases ps with
 | nil=>exact h
 | cons a b=>exact h
theorem AW.step{H H2 H3:Hp}{l:Addr}{n m:Int}{w:Str}{ps:List Pr}{q r:Pr}(W:AW H l n m w ps q)(s:SameT H H2)(u:Cr H2 H3 l (prs (ps++[q])) (prs (ps++[q])++[.ref r.p]))(pr:PrAt H2 r)(hs:dE w q r=true)(hi:inB n m r=true)(hh:w=aB->r.b=1∧r.d=1):AW H3 l n m w (ps++[q]) r:=by
 refine⟨⟨by rw[u.now];unfold prs;rw[List.map_append (l₁:=ps++[q])];rfl,fun z hz=>?_⟩,mE W.st hs,by rw[List.all_append,W.inn,Bool.true_and];simp[hi],fun f hf=>W.fst f (oO hf),fun z x hx=>?_⟩
 ·rcases List.mem_append.mp hz with hz|hz
  ·exact((W.at_.pr z hz).t s).t u.t
  ·rw[List.mem_singleton.mp hz]
   exact pr.t u.t
 ·rcases List.mem_append.mp hx with hx|hx
  ·exact W.hop z x hx
  ·rw[List.mem_singleton.mp hx]
   exact hh z
structure Da(n m:Int)(w:Str)(ps:List Pr):Prop where
 walk:ck n m w ps=true
 hop:w=aB->∀r∈ps,r.b=1∧r.d=1
theorem eg{ps:List Pr}{q:Pr}(h:ps++[q]≠[]):(ps++[q]).getLast h=q:=by simp
theorem AW.good{H:Hp}{l:Addr}{n m:Int}{w:Str}{ps:List Pr}{q:Pr}(W:AW H l n m w ps q)(hx:q.a=n∧q.b=1)(hy:w=a6∨(q.c=m∧q.d=1)):Da n m w (ps++[q]):=by
 refine⟨?_,W.hop⟩;have hne:ps++[q]≠[]:=by simp
 have key:∀(xs:List Pr) (h:xs≠[]),xs.all (inB n m)=true->cE w xs=true->(∀f,xs.head? = some f->f.a=0∧f.b=1∧(w≠a6->f.c=0∧f.d=1))->((xs.getLast h).a=n∧(xs.getLast h).b=1)->(w=a6∨((xs.getLast h).c=m∧(xs.getLast h).d=1))->ck n m w xs=true:=by
  intro xs h h1 h2 h3 h4 h5
  match xs,h,h1,h2,h3,h4,h5 with
  | f::r,h,h1,h2,h3,h4,h5 =>
   rw[cQ,h1,h2,Bool.true_and,Bool.and_true];obtain⟨f1,f2,f3⟩:=h3 f rfl;unfold gM isP;rw[f1,f2,h4.1,h4.2];simp only[decide_true,Bool.and_self,if_true]
   by_cases hw:w=a6
   ·rw[if_pos hw]
   ·rw[if_neg hw]
    obtain⟨g1,g2⟩:=f3 hw;rcases h5 with h5|⟨h5,h6⟩
    ·exact absurd h5 hw
    ·rw[g1,g2,h5,h6]
     simp
 exact key _ hne W.inn W.st W.fst (by rw[eg];exact hx) (by rw[eg];exact hy)
def muP(n:Int)(H:Hp)(z:V):Nat:=match z with
 | .ref p=>match H p with
  | some (.tup [.int t,.int b])=>(n - t / b).toNat
  | _=>0
 | _=>0
inductive Bo (vs:List V) (H:Hp) (Q:VK) (x_3:XK):Prop
 | mk:∀(p:Addr) (n m k:Int) (w:Str),(vs = [.ref p,.int n,.int m,.str w])->(Pot H p k)->(k≤400000)->((0≤n∧n≤20))->((0≤m∧m≤20))->(∀(l:Addr) (ps:List Pr) (H':Hp),vU H' l ps->Da n m w ps->ps.length≤60->H l=none->But p H H'->Pot H' p (k+500)->Q (.ref l) H')->Bo vs H Q x_3
theorem Dp.pr{H:Hp}{pp zx zy:Addr}{t b c d n m:Int}{w:Str}(e:H pp=some (.tup [.ref zx,.ref zy]))(dx:Dp H zx t b n w)(dy:Dp H zy c d m w):PrAt H ⟨pp,zx,zy,t,b,c,d⟩∧inB n m ⟨pp,zx,zy,t,b,c,d⟩=true∧(w=aB->b=1∧d=1):=by
 refine⟨⟨e,dx.at_,dy.at_,dx.low,dy.low,dx.n0,dy.n0,af dx.bt (by decide),af dx.bb (by decide),af dy.bt (by decide),af dy.bb (by decide)⟩,?_,fun z=>⟨dx.hop z,dy.hop z⟩⟩;unfold inB;rw[decide_eq_true dx.n1,decide_eq_true dy.n1];rfl
theorem vS:vL ["pot","n","m","way","x","y","walk","turn"] ["pot","n","m","way"] (ag (top 96)):=smk
theorem gI(xM:Df K mg "_law_drawn_walk" (top 96))(vM:Fn P w K mg base "_law_take" ["pot","size"] 1 Dr.spTk)(wI:Fn P w K mg base "_law_any" ["pot","last","way"] 4 Bz)(yn:Fn P w K mg base "_law_ahead" ["pot","place","last","way"] 4 Bp)(yQ:Fn P w K mg base "_law_home" ["place","last"] 1 AR)(T:Txt mg):Fn P w K mg base "_law_drawn_walk" ["pot","n","m","way"] 5 Bo:=by
 refine xM.fn vS (fun _ _ _ _ _ _ us hl=>by obtain⟨_,_,_,_,rfl⟩:=ir hl;rfl) (fun vs H Q E h=>?_) (fun f cdv A outer s H vs Q E hr h=>?_)
 ·obtain⟨p,n,m,k,wy,rfl,_⟩:=h
  rfl
 ·obtain⟨p,n,m,k,wy,rfl,pt,hk,⟨hn0,hn1⟩,⟨hm0,hm1⟩,q⟩:=h
  have R:∃u,PSs (bD CX0 P w K mg base ["pot","n","m","way","x","y","walk","turn"] "_law_drawn_walk" (ag (top 96)) f cdv A outer s H E).nox ((az (top 96)).drop 3) u∧∀(zx zy:Addr) (c d:Int) (H1:Hp),Dp H1 zx 0 1 n wy->Dp H1 zy c d m wy->(wy≠a6->c=0∧d=1)->But p H H1->Pot H1 p (k+20)->u { nx:=fun _ H'=>Q .non H',rt:=Q } [some (.ref p),some (.int n),some (.int m),some (.str wy),some (.ref zx),some (.ref zy),none,none] H1:=by
   refine⟨_,(ae (au (i:=6) vS.nd rfl (Or.inl rfl) (@bW _ _ _ _ (@aa _ _ _ _ _ (@aA _ _ _ _ _ (@aa _ _ _ _ _ (pv 4) (@aa _ _ _ _ _ (pv 5) ad (by rfl)) (by rfl))) ad (by rfl)))) (ae (dh PassesOwn.never rfl (fG rfl T.z_range (aa (ak vM (hr.mono (by decide)) (by rfl) (aa (pv 0) (aa ac ad))) ad)) (aF (i:=7) vS.nd rfl (Or.inl rfl)) (ae (au (i:=4) vS.nd rfl (Or.inl rfl) (ak yn (hr.mono (by decide)) (by rfl) (aa (pv 0) (aa (pv 4) (aa (pv 1) (aa (pv 3) ad)))))) (ae (au (i:=5) vS.nd rfl (Or.inl rfl) (ak yn (hr.mono (by decide)) (by rfl) (aa (pv 0) (aa (pv 5) (aa (pv 2) (aa (pv 3) ad)))))) (ah (cW (i8 PySem.F.plainAttrs_list PySem.F.slot_list_append PySem.F.type_list_append cF (pv 6) (aa (aA (aa (pv 4) (aa (pv 5) ad))) ad))))))) (ae (gz PassesOwn.never (cK (aq (gW hr.units0) (pv 4) (aA (aa (pv 1) (aa ac ad))) (ar _)) (cq (bC (aq (gW hr.units0) (pv 5) (aA (aa (pv 2) (aa ac ad))) (ar _)) (bE (aq dF (pv 3) aP (ar _)))).pt)).pt (ae (au (i:=4) vS.nd rfl (Or.inl rfl) (ak yQ (hr.mono (by decide)) (by rfl) (aa (pv 4) (aa (pv 1) ad)))) (ae (au (i:=5) vS.nd rfl (Or.inl rfl) (ak yQ (hr.mono (by decide)) (by rfl) (aa (pv 5) (aa (pv 2) ad)))) (ah (cW (i8 PySem.F.plainAttrs_list PySem.F.slot_list_append PySem.F.type_list_append cF (pv 6) (aa (aA (aa (pv 4) (aa (pv 5) ad))) ad))))))) (ah (am (pv 6)))))),fun zx zy c d H1 dx dy hcd b1 p1=>?_⟩;refine⟨_,rfl,_,rfl,sz (by simp),fun pp H2 s2 f2 n2=>?_⟩;refine⟨sz (by simp),fun l H3 s3 f3 n3=>?_⟩;have p3:=(p1.same s2).same s3;have npl:=Pot.ne (p1.same s2) n3;have nl:H l=none:=b1.none npl (s2.free n3);obtain⟨pr0,in0,hp0⟩:=Dp.pr (s3 _ _ f2) ((dx.t' s2.t).t' s3.t) ((dy.t' s2.t).t' s3.t);have b3:But p H H3:=b1.trans ((But.of s2).trans (But.of s3));have W3:AW H3 l n m wy [] ⟨pp,zx,zy,0,1,c,d⟩:=⟨⟨f3,fun z hz=>by rw[List.mem_singleton.mp hz];exact pr0⟩,rfl,by simp[in0],fun f hf=>by cases hf;exact⟨rfl,rfl,hcd⟩,fun z r hr=>by rw[List.mem_singleton.mp hr];exact hp0 z⟩;refine⟨_,rfl,p,_,_,rfl,p3,by omega,⟨by decide,by decide⟩,fun r4 H4 a4 b4' b4 p4=>?_⟩;have upW:∀{Ha Hb:Hp} {ps:List Pr} {qq:Pr} {ka:Int},AW Ha l n m wy ps qq->But p Ha Hb->Pot Ha p ka->AW Hb l n m wy ps qq:=fun W b pa=>⟨⟨b _ _ npl W.at_.lst,fun z hz=>(W.at_.pr z hz).t (b.t pa)⟩,W.st,W.inn,W.fst,W.hop⟩;refine⟨_,rfl,by omega,by omega,?_⟩;refine fJ (n:=r4.toNat) (lo:=0) (fun i σ H5=>∃(zx zy:Addr) (a b c d:Int) (ps:List Pr) (pp:Addr) (z7:Option V),σ = [some (.ref p),some (.int n),some (.int m),some (.str wy),some (.ref zx),some (.ref zy),some (.ref l),z7]∧AW H5 l n m wy ps ⟨pp,zx,zy,a,b,c,d⟩∧Dp H5 zx a b n wy∧Dp H5 zy c d m wy∧ps.length=i∧But p H H5∧Pot H5 p (k+30+40*(i:Int)))
    ⟨zx,zy,0,1,c,d,[],pp,_,rfl,upW W3 b4 p3,((dx.t' s2.t).t' s3.t).t' (b4.t p3),((dy.t' s2.t).t' s3.t).t' (b4.t p3),rfl,b3.trans b4,p4.mono (by omega)⟩ ?_ ?_
   ·rintro i σ H5 hi ⟨zx,zy,a,b,c,d,ps,pp,z7,rfl,W5,dx5,dy5,hl,b5,p5⟩
    refine⟨_,rfl,_,rfl,_,rfl,_,rfl,p,zx,a,b,n,_,wy,rfl,p5,by omega,⟨hn0,by omega⟩,dx5,fun zx' a' b' H6 dx6 g6 b6 p6=>?_⟩;have dy6:=dy5.t' (b6.t p5);refine⟨_,rfl,_,rfl,_,rfl,_,rfl,p,zy,c,d,m,_,wy,rfl,p6,by omega,⟨hm0,by omega⟩,dy6,fun zy' c' d' H7 dy7 g7 b7 p7=>?_⟩;have dx7:=dx6.t' (b7.t p6);have W7:=upW (upW W5 b6 p5) b7 p6;refine⟨_,rfl,.inl ⟨rfl,_,SqL.of W7.at_.lst⟩,_,rfl,_,rfl,sz (by simp),fun pp' H8 s8 f8 n8=>?_⟩;obtain⟨pr',in',hp'⟩:=Dp.pr f8 (dx7.t' s8.t) (dy7.t' s8.t);refine⟨l,_,_,rfl,rfl,s8 _ _ W7.at_.lst,bJ (by rw[aX,List.length_append];simp only[List.length_cons,List.length_nil];omega),fun H9 u=>?_⟩;refine⟨zx',zy',a',b',c',d',ps++[⟨pp,zx,zy,a,b,c,d⟩],pp',_,rfl,W7.step s8.t u pr' (by unfold dE;rw[g6,g7];rfl) in' hp',(dx7.t' s8.t).t' u.t,(dy7.t' s8.t).t' u.t,by simp[hl],fun b o nb e=>?_,?_⟩
    ·exact u.at (fun z=>by subst z;rw[nl]at e;cases e) (s8 _ _ (b7 b o nb (b6 b o nb (b5 b o nb e))))
    ·obtain⟨x,y,z,ep,rest⟩:=(p7.same s8).mono (k':=k+30+40*((i+1:Nat):Int)) (by omega)
     exact⟨x,y,z,u.at (Ne.symm npl) ep,rest⟩
   ·rintro σ H5 ⟨zx,zy,a,b,c,d,ps,pp,z7,rfl,W5,dx5,dy5,hl,b5,p5⟩
    refine gj (fun σ H6=>∃(zx zy:Addr) (a b c d:Int) (ps:List Pr) (pp:Addr),σ = [some (.ref p),some (.int n),some (.int m),some (.str wy),some (.ref zx),some (.ref zy),some (.ref l),z7]∧AW H6 l n m wy ps ⟨pp,zx,zy,a,b,c,d⟩∧Dp H6 zx a b n wy∧Dp H6 zy c d m wy∧(ps.length:Int)+(n - a / b)+(m - c / d)≤8+n+m∧But p H H6∧Pot H6 p (k+400))
     (fun σ H6=>match σ with | [_,_,_,_,some zx,some zy,_,_]=>muP n H6 zx+muP m H6 zy|_=>0)
     ⟨zx,zy,a,b,c,d,ps,pp,rfl,W5,dx5,dy5,by have:=eK dx5.low.pos dx5.n0;have:=eK dy5.low.pos dy5.n0;omega,b5,p5.mono (by omega)⟩ ?_ ?_
    ·rintro σ H6 ⟨zx,zy,a,b,c,d,ps,pp,rfl,W6,dx6,dy6,hl6,b6,p6⟩
     have fx0:=eK dx6.low.pos dx6.n0;have fx1:=eC dx6.low.pos dx6.n1;have fy0:=eK dy6.low.pos dy6.n0;have fy1:=eC dy6.low.pos dy6.n1;have mu6:∀{Ha:Hp} {z:Addr} {t b n':Int},Ha z=some (.tup [.int t,.int b])->muP n' Ha (.ref z)=(n' - t / b).toNat:=fun e=>by simp only[muP,e]
     have turn:∀(H7:Hp),Same H6 H7->(a / b<n∨c / d<m)->(oq (ld (eF AR [] E0 (bP (xh 4) (bP (xh 1) fV))) (gF 4)) (oq (ld (eF AR [] E0 (bP (xh 5) (bP (xh 2) fV))) (gF 5)) (o9 (tBM K "list" Ah (xh 6) (bP (k9 (bP (xh 4) (bP (xh 5) fV))) fV)))))
       { nx:=fun σ' H'=>(∃(zx zy:Addr) (a b c d:Int) (ps:List Pr) (pp:Addr),σ' = [some (.ref p),some (.int n),some (.int m),some (.str wy),some (.ref zx),some (.ref zy),some (.ref l),z7]∧AW H' l n m wy ps ⟨pp,zx,zy,a,b,c,d⟩∧Dp H' zx a b n wy∧Dp H' zy c d m wy∧(ps.length:Int)+(n - a / b)+(m - c / d)≤8+n+m∧But p H H'∧Pot H' p (k+400))∧(match σ' with | [_,_,_,_,some zx,some zy,_,_]=>muP n H' zx+muP m H' zy|_=>0)<muP n H6 (.ref zx)+muP m H6 (.ref zy),rt:=Q } [some (.ref p),some (.int n),some (.int m),some (.str wy),some (.ref zx),some (.ref zy),some (.ref l),z7] H7:=by
      intro H7 s7 hlt;refine⟨_,rfl,_,rfl,zx,a,b,n,wy,rfl,⟨hn0,by omega⟩,dx6.t' s7.t,fun zx' H8 dx8 g8 s8=>?_⟩;refine⟨_,rfl,_,rfl,zy,c,d,m,wy,rfl,⟨hm0,by omega⟩,(dy6.t' s7.t).t' s8.t,fun zy' H9 dy9 g9 s9=>?_⟩;have S9:Same H6 H9:=s7.trans (s8.trans s9);refine⟨_,rfl,.inl ⟨rfl,_,SqL.of (S9 _ _ W6.at_.lst)⟩,_,rfl,_,rfl,sz (by simp),fun pp' H10 s10 f10 n10=>?_⟩;have S10:=S9.trans s10;have dx10:=(dx8.t' s9.t).t' s10.t;have dy10:=dy9.t' s10.t;obtain⟨pr',in',hp'⟩:=Dp.pr f10 dx10 dy10;refine⟨l,_,_,rfl,rfl,S10 _ _ W6.at_.lst,bJ (by rw[aX,List.length_append];simp only[List.length_cons,List.length_nil];omega),fun H11 u=>?_⟩;have dx11:=dx10.t' u.t;have dy11:=dy10.t' u.t;have hx:cp a b n / 1=cp a b n:=Int.ediv_one _;have hy:cp c d m / 1=cp c d m:=Int.ediv_one _;have ux:cp a b n=a / b+1∨(cp a b n=n∧a / b=n):=by unfold cp;split <;> omega
      have uy:cp c d m=c / d+1∨(cp c d m=m∧c / d=m):=by unfold cp;split <;> omega
      refine⟨⟨zx',zy',cp a b n,1,cp c d m,1,ps++[⟨pp,zx,zy,a,b,c,d⟩],pp',rfl,W6.step S10.t u pr' (by unfold dE;rw[g8,g9];rfl) in' hp',dx11,dy11,?_,fun b o nb e=>?_,?_⟩,?_⟩
      ·rw[hx,hy,List.length_append]
       simp only[List.length_cons,List.length_nil];omega
      ·exact u.at (fun z=>by subst z;rw[nl]at e;cases e) (S10 _ _ (b6 b o nb e))
      ·obtain⟨x,y,z,ep,rest⟩:=p6.same S10
       exact⟨x,y,z,u.at (Ne.symm npl) ep,rest⟩
      ·show muP n H11 (.ref zx')+muP m H11 (.ref zy')<_
       rw[mu6 dx11.at_,mu6 dy11.at_,mu6 dx6.at_,mu6 dy6.at_,hx,hy];omega
     have fin:∀(H7:Hp),Same H6 H7->(a=n∧b=1)->(wy=a6∨(c=m∧d=1))->(mD (xh 6)) { nx:=fun _ H'=>Q .non H',rt:=Q } [some (.ref p),some (.int n),some (.int m),some (.str wy),some (.ref zx),some (.ref zy),some (.ref l),z7] H7:=fun H7 s7 hx hy =>
      ⟨_,rfl,q l _ H7 (W6.at_.mono s7) (W6.good hx hy) (by rw[List.length_append];simp only[List.length_cons,List.length_nil];omega) nl (b6.trans (But.of s7)) ((p6.same s7).mono (by omega))⟩
     have full:∀{t b n':Int},wS t b->t≤n'*b->0≤t->decide ([t,b] = [n',1])=false->t / b<n':=fun {t b n'} lw h1 h0 hc=>by
      have hle:=eC lw.pos h1
      by_cases e:t / b=n'
      ·obtain⟨rfl,rfl⟩:=iQ lw h1 e
       simp at hc
      ·omega
     refine⟨_,rfl,_,rfl,sz (by simp),fun t1 H7 s7 g7 _=>?_⟩;refine⟨zx,t1,[a,b],[n,1],rfl,rfl,SqT.of (s7 _ _ dx6.at_),SqT.of g7,_,rfl,?_⟩;show if (!decide ([a,b] = [n,1]))=true then _ else _
     refine aw (fun c1=>?_) (fun c1=>?_)
     ·exact turn H7 s7 (.inl (full dx6.low dx6.n1 dx6.n0 (by simpa only[Bool.not_eq_true']using c1)))
     have ex:a=n∧b=1:=by simpa using c1
     refine⟨_,rfl,_,rfl,sz (by simp),fun t2 H8 s8 g8 _=>?_⟩;refine⟨zy,t2,[c,d],[m,1],rfl,rfl,SqT.of (s8 _ _ (s7 _ _ dy6.at_)),SqT.of g8,_,rfl,?_⟩;show if (!decide ([c,d] = [m,1]))=true then _ else _
     refine aw (fun c2=>?_) (fun c2=>?_)
     ·refine⟨_,rfl,rfl,_,rfl,aw (fun c3=>?_) (fun c3=>?_)⟩
      ·exact turn H8 (s7.trans s8) (.inr (full dy6.low dy6.n1 dy6.n0 (by simpa only[Bool.not_eq_true']using c2)))
      ·have ew:wy=a6:=by
        have h3':decide (V.str wy=V.str (Str.ofString "part"))=true:=by simpa only[Bool.not_eq_true',Bool.not_eq_false',Bool.not_eq_false]using c3
        have:=aR h3';cases this;rfl
       exact fin H8 (s7.trans s8) ex (.inl ew)
     ·have ey:c=m∧d=1:=by simpa using c2
      exact fin H8 (s7.trans s8) ex (.inr ey)
    ·exact uU (iF (lv pM gZ (nv (iG gZ (iG pO pR))))) (tW (iF (lv pM gZ (nv (iG gZ (iG pO pR))))) (iF (lv uV gZ pO)))
  obtain⟨u,hu,ru⟩:=R;refine⟨_,(ae (au (i:=4) vS.nd rfl (Or.inl rfl) (aA (aa ac (aa ac ad)))) (ae (au (i:=5) vS.nd rfl (Or.inl rfl) (aA (aa ac (aa ac ad)))) (ae (aE (aq aQ (pv 3) aP (ar _)) (ah (au (i:=5) vS.nd rfl (Or.inl rfl) (ak wI (hr.mono (by decide)) (by rfl) (aa (pv 0) (aa (pv 2) (aa (pv 3) ad)))))) av) hu))),?_⟩;refine⟨sz (by simp),fun zx H1 s1 f1 n1=>?_⟩;refine⟨sz (by simp),fun zy H2 s2 f2 n2=>?_⟩;have dz:∀{Ha:Hp} {z:Addr} {n':Int},0≤n'->Ha z=some (.tup [.int 0,.int 1])->Dp Ha z 0 1 n' wy:=fun h e=>⟨e,⟨by decide,by decide⟩,by decide,by omega,by decide,by decide,fun _=>rfl⟩;have p2:=(pt.same s1).same s2;have b2:But p H H2:=(But.of s1).trans (But.of s2);refine⟨_,rfl,rfl,_,rfl,aw (fun h1=>?_) (fun h1=>?_)⟩
  ·have ew:wy=a6:=by
    have:=aR h1;cases this;rfl
   refine⟨_,rfl,_,rfl,_,rfl,p,m,_,wy,rfl,p2,by omega,⟨hm0,by omega⟩,fun z t b H3 d3 b3 p3=>?_⟩;exact ru zx z t b H3 ((dz hn0 (s2 _ _ f1)).t' (b3.t p2)) d3 (fun z=>absurd ew z) (b2.trans b3) p3
  ·exact ru zx zy 0 1 H2 (dz hn0 (s2 _ _ f1)) (dz hm0 f2) (fun _=>⟨rfl,rfl⟩) b2 (p2.mono (by omega))
inductive BQ (vs:List V) (H:Hp) (Q:VK) (x_3:XK):Prop
 | mk:∀(p z0:Addr) (t0 b0 n k:Int) (wy:Str),(vs = [.ref p,.ref z0,.str wy])->(Pot H p k)->(k≤700000)->((0≤n∧n≤50))->(Dp H z0 t0 b0 n wy)->(∀(z:Addr) (t b:Int) (H':Hp),Dp H' z t b n wy->aK t0 b0 t b=true->(wy=aB->t0 - t≤1)->But p H H'->Pot H' p (k+20)->Q (.ref z) H')->BQ vs H Q x_3
inductive BI (vs:List V) (H:Hp) (Q:VK) (x_3:XK):Prop
 | mk:∀(p z0:Addr) (t0 b0 n k:Int) (wy:Str),(vs = [.ref p,.ref z0,.int n,.str wy])->(Pot H p k)->(k≤700000)->((0≤n∧n≤50))->(Dp H z0 t0 b0 n wy)->(∀(z:Addr) (t b:Int) (H':Hp),Dp H' z t b n wy->aK t0 b0 t b=true->(wy=aB->t - t0≤1)->But p H H'->Pot H' p (k+20)->Q (.ref z) H')->BI vs H Q x_3
inductive y3 (g:Int->Int->Int->Int->Bool) (vs:List V) (H:Hp) (Q:VK) (x_3:XK):Prop
 | mk:∀(p q:Addr) (a b c d:Int),(vs = [.ref p,.ref q])->(H p=some (.tup [.int a,.int b]))->(H q=some (.tup [.int c,.int d]))->((ao a≤2000∧ao b≤2000∧ao c≤2000∧ao d≤2000))->(Q (.ref (if g a b c d=true then q else p)) H)->y3 g vs H Q x_3
theorem sE{t b n:Int}(hb:0<b)(h0:0≤t)(h1:t≤n*b):(0≤(if (t - 1) / b>0 then (t - 1) / b else 0)∧(if (t - 1) / b>0 then (t - 1) / b else 0)*b≤t∧t≤((if (t - 1) / b>0 then (t - 1) / b else 0)+1)*b)∧(0<t->(if (t - 1) / b>0 then (t - 1) / b else 0)+1≤n):=by
 have q1:=bR (a:=t - 1) hb;have q2:=cv (a:=t - 1) hb;have q3:t - 1<n*b->(t - 1) / b<n:=fun h=>Int.ediv_lt_of_lt_mul hb h;have q4:0≤n:=by
  by_cases c:0≤n
  ·exact c
  ·have:=Int.mul_neg_of_neg_of_pos (show n<0 by omega) hb
   omega
 have q5:0<t->0≤(t - 1) / b:=fun h=>eK hb (by omega)
 split
 ·rename_i h
  exact⟨⟨by omega,by omega,by omega⟩,fun _=>by have:=q3 (by omega);omega⟩
 ·rename_i h
  refine⟨⟨by omega,by omega,?_⟩,fun z=>?_⟩
  ·have:((t - 1) / b+1)*b≤(0+1)*b:=Int.mul_le_mul_of_nonneg_right (by omega) (by omega)
   omega
  ·have:=q3 (by omega)
   have:=q5 z;omega
theorem Bs:vL ["one","other"] ["one","other"] (ag (top 84)):=smk
theorem jD(yV:Df K mg "_law_lesser" (top 84))(vN:Fn P w K mg base "_law_below" ["one","other"] 1 wY):Fn P w K mg base "_law_lesser" ["one","other"] 2 (y3 fun a b c d=>ltB c d a b):=by
 refine yV.fn Bs (fun _ _ _ _ _ _ us hl=>by obtain⟨_,_,rfl⟩:=cj hl;rfl) (fun vs H Q E h=>?_) (fun f cdv A outer s H vs Q E hr h=>?_)
 ·obtain⟨p,q,a,b,c,d,rfl,_⟩:=h
  rfl
 ·obtain⟨p,q,a,b,c,d,rfl,ep,eq,⟨ba,bb,bc,bd⟩,k⟩:=h
  refine⟨_,(ae (aE (aS (ak vN (hr.mono (by decide)) (by rfl) (aa (pv 1) (aa (pv 0) ad)))) (ah (am (pv 1))) av) (ah (am (pv 0)))),?_⟩
  try dsimp only at k
  unfold ltB at k;refine⟨_,rfl,_,rfl,q,p,c,d,a,b,rfl,eq,ep,⟨bc,bd,ba,bb⟩,_,rfl,aw (fun h1=>?_) (fun h1=>?_)⟩
  ·rw[if_pos h1]at k
   exact⟨_,rfl,k⟩
  ·rw[if_neg (by rw[h1];decide)]at k
   exact⟨_,rfl,k⟩
theorem A7:vL ["one","other"] ["one","other"] (ag (top 87)):=smk
theorem jm(yA:Df K mg "_law_greater" (top 87))(vN:Fn P w K mg base "_law_below" ["one","other"] 1 wY):Fn P w K mg base "_law_greater" ["one","other"] 2 (y3 fun a b c d=>ltB a b c d):=by
 refine yA.fn A7 (fun _ _ _ _ _ _ us hl=>by obtain⟨_,_,rfl⟩:=cj hl;rfl) (fun vs H Q E h=>?_) (fun f cdv A outer s H vs Q E hr h=>?_)
 ·obtain⟨p,q,a,b,c,d,rfl,_⟩:=h
  rfl
 ·obtain⟨p,q,a,b,c,d,rfl,ep,eq,⟨ba,bb,bc,bd⟩,k⟩:=h
  refine⟨_,(ae (aE (aS (ak vN (hr.mono (by decide)) (by rfl) (aa (pv 0) (aa (pv 1) ad)))) (ah (am (pv 1))) av) (ah (am (pv 0)))),?_⟩
  try dsimp only at k
  unfold ltB at k;refine⟨_,rfl,_,rfl,p,q,a,b,c,d,rfl,ep,eq,⟨ba,bb,bc,bd⟩,_,rfl,aw (fun h1=>?_) (fun h1=>?_)⟩
  ·rw[if_pos h1]at k
   exact⟨_,rfl,k⟩
  ·rw[if_neg (by rw[h1];decide)]at k
   exact⟨_,rfl,k⟩
theorem yL:vL ["pot","y","way","at","spot"] ["pot","y","way"] (ag (top 97)):=smk
theorem lR(zW:Df K mg "_law_down" (top 97))(vM:Fn P w K mg base "_law_take" ["pot","size"] 1 Dr.spTk)(vT:Fn P w K mg base "_law_spot_on" ["pot","at"] 3 Am)(vN:Fn P w K mg base "_law_below" ["one","other"] 1 wY)(T:Txt mg):Fn P w K mg base "_law_down" ["pot","y","way"] 4 BQ:=by
 refine zW.fn yL (fun _ _ _ _ _ _ us hl=>by obtain⟨_,_,_,rfl⟩:=hU hl;rfl) (fun vs H Q E h=>?_) (fun f cdv A outer s H vs Q E hr h=>?_)
 ·obtain⟨p,z0,t0,b0,n,k,wy,rfl,_⟩:=h
  rfl
 ·obtain⟨p,z0,t0,b0,n,k,wy,rfl,pt,hk,⟨hn0,hn1⟩,d0,q⟩:=h
  have hb:(0:Int)<b0:=d0.low.pos;have bb0:ao b0≤8000:=af d0.bb (by decide);obtain⟨⟨A0,A1,A2⟩,A3⟩:=sE hb d0.n0 d0.n1;have R4:∃p4,PSs (bD CX0 P w K mg base ["pot","y","way","at","spot"] "_law_down" (ag (top 97)) f cdv A outer s H E).nox ((az (top 97)).drop 3) p4∧∀(H4:Hp) (at_:Option V) (zs:Addr) (t b:Int),Dp H4 zs t b n wy->aK t0 b0 t b=true->(wy=aB->t0 - t≤1)->But p H H4->Pot H4 p (k+20)->p4 { nx:=fun _ H'=>Q .non H',rt:=Q } [some (.ref p),some (.ref z0),some (.str wy),at_,some (.ref zs)] H4:=by
   refine⟨_,(ae (aE (bC (aq dF (pv 2) aP (ar _)) (bE (aS (ak vN (hr.mono (by decide)) (by rfl) (aa (pv 1) (aa (pv 4) ad)))))).pt (ah (am (pv 1))) av) (ah (am (pv 4)))),fun H4 at_ zs t b d4 sh hp b4 p4=>?_⟩;have d04:=d0.t' (b4.t pt);have stay:Q (.ref z0) H4:=q z0 t0 b0 H4 d04 (bF (k:=t0 / b0) hb hb (bR hb) (by have:=cv (a:=t0) hb;omega) (bR hb) (by have:=cv (a:=t0) hb;omega)) (fun _=>by omega) b4 p4;refine⟨_,rfl,rfl,_,rfl,aw (fun h3=>?_) (fun h3=>?_)⟩
   ·refine⟨_,rfl,_,rfl,z0,zs,_,_,_,_,rfl,d04.at_,d4.at_,⟨af d04.bt (by decide),af d04.bb (by decide),af d4.bt (by decide),af d4.bb (by decide)⟩,_,rfl,aw (fun h4=>?_) (fun h4=>?_)⟩
    ·exact⟨_,rfl,stay⟩
    ·exact⟨_,rfl,q zs t b H4 d4 sh hp b4 p4⟩
   ·exact⟨_,rfl,q zs t b H4 d4 sh hp b4 p4⟩
  obtain⟨p4,hp4,rd4⟩:=R4;refine⟨_,(ae (au (i:=3) yL.nd rfl (Or.inl rfl) (aJ (ik rfl) (by rfl) T.z_max mW (aa ac (aa (ap bH (ap aV (aj ai (pv 1) ac (fun _ _=>rfl)) ac) (aj ai (pv 1) ac (fun _ _=>rfl))) ad)))) (ae (au (i:=4) yL.nd rfl (Or.inl rfl) (aA (aa (pv 3) (aa ac ad)))) (ae (aE (bC (aq dF (pv 2) aP (ar _)) (bC (aq eI (aj ai (pv 1) ac (fun _ _=>rfl)) ac (ar _)) (bE (aq aQ (ak vM (hr.mono (by decide)) (by rfl) (aa (pv 0) (aa ac ad))) ac (ar _))))).pt (ah (au (i:=4) yL.nd rfl (Or.inl rfl) (ak vT (hr.mono (by decide)) (by rfl) (aa (pv 0) (aa (pv 3) ad))))) av) hp4))),?_⟩;have TZ:=SqT.of (K:=K) d0.at_;refine⟨_,rfl,z0,_,_,_,rfl,rfl,TZ,rfl,_,_,rfl,rfl,_,rfl,z0,_,_,_,rfl,rfl,TZ,rfl,_,_,rfl,rfl,⟨hb,bb0⟩,_,_,rfl,?_⟩;generalize (if (t0 - 1) / b0>0 then (t0 - 1) / b0 else 0)=at1 at *
  refine⟨_,rfl,sz (by simp),fun zs H3 s3 f3 n3=>?_⟩;have hA:at1≤n:=by
   by_cases z:0<t0
   ·have:=A3 z
    omega
   ·have e:t0=0:=by have:=d0.n0;omega
    by_cases c:at1≤0
    ·omega
    ·have:=Int.mul_pos (show 0<at1 by omega) hb
     omega
  have dS:Dp H3 zs at1 1 n wy:=⟨f3,⟨by decide,Int.gcd_one⟩,A0,by omega,af (bi (by omega) (by omega)) (by decide),by decide,fun _=>rfl⟩;have shS:aK t0 b0 at1 1=true:=bF (k:=at1) hb (by decide) A1 A2 (by omega) (by omega);have hpS:wy=aB->t0 - at1≤1:=fun z=>by
   have e:=d0.hop z;subst e;omega
  have b3:But p H H3:=But.of s3;have p3:=pt.same s3;have T3:=SqT.of (K:=K) (s3 _ _ d0.at_);refine⟨_,rfl,rfl,_,rfl,aw (fun h1=>?_) (fun h1=>?_)⟩
  ·have hw:¬wy=aB:=bI (ds (show decide (V.str wy=V.str (Str.ofString "hops"))=false by simpa only[Bool.not_eq_true']using h1))
   refine⟨_,rfl,z0,_,_,_,rfl,rfl,T3,rfl,_,_,rfl,rfl,_,rfl,aw (fun h2=>?_) (fun h2=>?_)⟩
   ·have h2:t0>0:=aR h2
    refine⟨_,rfl,p,_,_,rfl,p3,by omega,⟨by decide,by decide⟩,fun r1 H4 _ _ b4 p4=>?_⟩;have B4:=b3.trans b4;refine⟨rfl,_,rfl,aw (fun h3=>?_) (fun h3=>?_)⟩
    ·refine⟨_,rfl,_,rfl,p,_,_,rfl,p4,by omega,⟨A0,by omega⟩,fun z t b H5 lw g1 g2 bt bb b5 f5 p5=>?_⟩
     have hbz:=lw.pos;have m0:0≤at1*b:=Int.mul_nonneg A0 (by omega);have m1:(at1+1)*b≤n*b:=Int.mul_le_mul_of_nonneg_right (A3 h2) (by omega);exact rd4 H5 _ z t b ⟨f5,lw,by omega,by omega,bt,bb,fun z=>absurd z hw⟩ (bF (k:=at1) hb (by omega) A1 A2 g1 g2) (fun z=>absurd z hw) (B4.trans b5) (p5.mono (by omega))
    ·exact rd4 H4 _ zs at1 1 (dS.t' (b4.t p3)) shS hpS B4 (p4.mono (by omega))
   ·exact rd4 H3 _ zs at1 1 dS shS hpS b3 (p3.mono (by omega))
  ·exact rd4 H3 _ zs at1 1 dS shS hpS b3 (p3.mono (by omega))
theorem yJ:vL ["pot","x","last","way","at","spot"] ["pot","x","last","way"] (ag (top 98)):=smk
theorem lM(zQ:Df K mg "_law_over" (top 98))(vM:Fn P w K mg base "_law_take" ["pot","size"] 1 Dr.spTk)(vT:Fn P w K mg base "_law_spot_on" ["pot","at"] 3 Am)(vN:Fn P w K mg base "_law_below" ["one","other"] 1 wY)(T:Txt mg):Fn P w K mg base "_law_over" ["pot","x","last","way"] 4 BI:=by
 refine zQ.fn yJ (fun _ _ _ _ _ _ us hl=>by obtain⟨_,_,_,_,rfl⟩:=ir hl;rfl) (fun vs H Q E h=>?_) (fun f cdv A outer s H vs Q E hr h=>?_)
 ·obtain⟨p,z0,t0,b0,n,k,wy,rfl,_⟩:=h
  rfl
 ·obtain⟨p,z0,t0,b0,n,k,wy,rfl,pt,hk,⟨hn0,hn1⟩,d0,q⟩:=h
  have hb:(0:Int)<b0:=d0.low.pos;have bb0:ao b0≤8000:=af d0.bb (by decide);have f0:=eK hb d0.n0;have f1:=eC hb d0.n1;have g1:=bR (a:=t0) hb;have g2:=cv (a:=t0) hb;have R4:∃p4,PSs (bD CX0 P w K mg base ["pot","x","last","way","at","spot"] "_law_over" (ag (top 98)) f cdv A outer s H E).nox ((az (top 98)).drop 3) p4∧∀(H4:Hp) (at_:Option V) (zs:Addr) (t b:Int),Dp H4 zs t b n wy->aK t0 b0 t b=true->(wy=aB->t - t0≤1)->But p H H4->Pot H4 p (k+20)->p4 { nx:=fun _ H'=>Q .non H',rt:=Q } [some (.ref p),some (.ref z0),some (.int n),some (.str wy),at_,some (.ref zs)] H4:=by
   refine⟨_,(ae (aE (bC (aq dF (pv 3) aP (ar _)) (bE (aS (ak vN (hr.mono (by decide)) (by rfl) (aa (pv 5) (aa (pv 1) ad)))))).pt (ah (am (pv 1))) av) (ah (am (pv 5)))),fun H4 at_ zs t b d4 sh hp b4 p4=>?_⟩;have d04:=d0.t' (b4.t pt);have stay:Q (.ref z0) H4:=q z0 t0 b0 H4 d04 (bF (k:=t0 / b0) hb hb g1 (by omega) g1 (by omega)) (fun _=>by omega) b4 p4;refine⟨_,rfl,rfl,_,rfl,aw (fun h3=>?_) (fun h3=>?_)⟩
   ·refine⟨_,rfl,_,rfl,zs,z0,_,_,_,_,rfl,d4.at_,d04.at_,⟨af d4.bt (by decide),af d4.bb (by decide),af d04.bt (by decide),af d04.bb (by decide)⟩,_,rfl,aw (fun h4=>?_) (fun h4=>?_)⟩
    ·exact⟨_,rfl,stay⟩
    ·exact⟨_,rfl,q zs t b H4 d4 sh hp b4 p4⟩
   ·exact⟨_,rfl,q zs t b H4 d4 sh hp b4 p4⟩
  obtain⟨p4,hp4,rd4⟩:=R4;refine⟨_,(ae (au (i:=4) yJ.nd rfl (Or.inl rfl) (aJ (dZ rfl) (by rfl) T.z_min ju (aa (pv 2) (aa (ap aY (ap bH (aj ai (pv 1) ac (fun _ _=>rfl)) (aj ai (pv 1) ac (fun _ _=>rfl))) ac) ad)))) (ae (au (i:=5) yJ.nd rfl (Or.inl rfl) (aA (aa (pv 4) (aa ac ad)))) (ae (aE (bC (aq dF (pv 3) aP (ar _)) (bC (aq eI (pv 4) ac (ar _)) (bC (aq (gW hr.units0) (pv 1) (aA (aa (pv 2) (aa ac ad))) (ar _)) (bE (aq aQ (ak vM (hr.mono (by decide)) (by rfl) (aa (pv 0) (aa ac ad))) ac (ar _)))))).pt (ah (au (i:=5) yJ.nd rfl (Or.inl rfl) (ak vT (hr.mono (by decide)) (by rfl) (aa (pv 0) (aa (ap aV (pv 4) ac) ad))))) av) hp4))),?_⟩;have TZ:=SqT.of (K:=K) d0.at_;refine⟨_,rfl,_,rfl,z0,_,_,_,rfl,rfl,TZ,rfl,_,rfl,z0,_,_,_,rfl,rfl,TZ,rfl,_,_,rfl,rfl,⟨hb,bb0⟩,_,_,rfl,rfl,_,_,rfl,?_⟩;have A0:t0 / b0≤(if t0 / b0+1<n then t0 / b0+1 else n)∧(if t0 / b0+1<n then t0 / b0+1 else n)≤t0 / b0+1∧(if t0 / b0+1<n then t0 / b0+1 else n)≤n∧(t0 / b0<n->(if t0 / b0+1<n then t0 / b0+1 else n)=t0 / b0+1):=by
   split <;> omega
  generalize (if t0 / b0+1<n then t0 / b0+1 else n)=at1 at *
  obtain⟨A1,A2,A3,A4⟩:=A0;refine⟨_,rfl,sz (by simp),fun zs H3 s3 f3 n3=>?_⟩;have dS:Dp H3 zs at1 1 n wy:=⟨f3,⟨by decide,Int.gcd_one⟩,by omega,by omega,af (bi (by omega) (by omega)) (by decide),by decide,fun _=>rfl⟩;have shS:aK t0 b0 at1 1=true:=bF (k:=t0 / b0) hb (by decide) g1 (by omega) (by omega) (by omega);have hpS:wy=aB->at1 - t0≤1:=fun z=>by
   have e:=d0.hop z;subst e;rw[Int.ediv_one]at A2;omega
  have b3:But p H H3:=But.of s3;have p3:=pt.same s3;refine⟨_,rfl,rfl,_,rfl,aw (fun h1=>?_) (fun h1=>?_)⟩
  ·have hw:¬wy=aB:=bI (ds (show decide (V.str wy=V.str (Str.ofString "hops"))=false by simpa only[Bool.not_eq_true']using h1))
   refine⟨_,rfl,_,_,rfl,rfl,_,rfl,aw (fun h2=>?_) (fun h2=>?_)⟩
   ·refine⟨_,rfl,_,rfl,sz (by simp),fun t2 H4 s4 f4 _=>?_⟩
    have B4:=b3.trans (But.of (p:=p) s4);have p4:=p3.same s4;have d4:=d0.t' (B4.t pt);refine⟨z0,t2,[t0,b0],[n,1],rfl,rfl,SqT.of d4.at_,SqT.of f4,_,rfl,?_⟩;show if (!decide ([t0,b0] = [n,1]))=true then _ else _
    refine aw (fun h5=>?_) (fun h5=>?_)
    ·have h5:¬[t0,b0] = [n,1]:=of_decide_eq_false (by simpa only[Bool.not_eq_true']using h5)
     have hlt:t0 / b0<n:=by
      by_cases c:t0 / b0=n
      ·obtain⟨e1,e2⟩:=iQ d0.low d0.n1 c
       rw[e1,e2]at h5;exact absurd rfl h5
      ·omega
     have e4:=A4 hlt;refine⟨_,rfl,p,_,_,rfl,p4,by omega,⟨by decide,by decide⟩,fun r1 H5 _ _ b5 p5=>?_⟩;have B5:=B4.trans b5;refine⟨rfl,_,rfl,aw (fun h3=>?_) (fun h3=>?_)⟩
     ·refine⟨_,rfl,_,rfl,_,_,rfl,rfl,p,_,_,rfl,p5,by omega,⟨by omega,by omega⟩,fun z t b H6 lw j1 j2 bt bb b6 f6 p6=>?_⟩
      have hbz:=lw.pos;have ea:at1 - 1=t0 / b0:=by omega
      rw[ea]at j1 j2;have m0:0≤t0 / b0*b:=Int.mul_nonneg f0 (by omega);have m1:(t0 / b0+1)*b≤n*b:=Int.mul_le_mul_of_nonneg_right (by omega) (by omega);exact rd4 H6 _ z t b ⟨f6,lw,by omega,by omega,bt,bb,fun z=>absurd z hw⟩ (bF (k:=t0 / b0) hb (by omega) g1 (by omega) j1 j2) (fun z=>absurd z hw) (B5.trans b6) (p6.mono (by omega))
     ·exact rd4 H5 _ zs at1 1 ((dS.t' s4.t).t' (b5.t p4)) shS hpS B5 (p5.mono (by omega))
    ·exact rd4 H4 _ zs at1 1 (dS.t' s4.t) shS hpS B4 (p4.mono (by omega))
   ·exact rd4 H3 _ zs at1 1 dS shS hpS b3 (p3.mono (by omega))
  ·exact rd4 H3 _ zs at1 1 dS shS hpS b3 (p3.mono (by omega))
structure Fp(H:Hp)(v:Pr)(n m:Int)(wy:Str):Prop where
 e:H v.p=some (.tup [.ref v.x,.ref v.y])
 dx:Dp H v.x v.a v.b n wy
 dy:Dp H v.y v.c v.d m wy
 fr:wy=aL->v.b=1∨v.d=1
theorem Fp.t{H H':Hp}{v:Pr}{n m:Int}{wy:Str}(h:Fp H v n m wy)(s:SameT H H'):Fp H' v n m wy:=⟨s _ _ h.e,h.dx.t' s,h.dy.t' s,h.fr⟩
theorem du{wy:Str}{u v:Pr}(h1:u.b=1)(e1:v.a=u.a)(e2:v.b=u.b)(sh:aK u.c u.d v.c v.d=true)(hp:wy=aB->u.c - v.c≤1):cO wy u v=true:=by
 have k:eJ u v=true:=by
  unfold eJ;rw[e1,e2,sh,decide_eq_true rfl,decide_eq_true h1];rfl
 unfold cO cg;rw[k]
 by_cases h:wy=aB
 ·rw[if_pos h]
  unfold dQ;rw[decide_eq_true (show v.a - u.a≤0 by omega),decide_eq_true (hp h)];rfl
 ·rw[if_neg h]
  by_cases hf:wy=aL
  ·rw[if_pos hf];rfl
  ·rw[if_neg hf];simp
theorem dU{wy:Str}{u v:Pr}(h1:u.d=1)(e1:v.c=u.c)(e2:v.d=u.d)(sh:aK u.a u.b v.a v.b=true)(hp:wy=aB->v.a - u.a≤1):cO wy u v=true:=by
 have k:fS u v=true:=by
  unfold fS;rw[e1,e2,sh,decide_eq_true rfl,decide_eq_true h1];rfl
 unfold cO cg;rw[k]
 by_cases h:wy=aB
 ·rw[if_pos h]
  unfold dQ;rw[decide_eq_true (hp h),decide_eq_true (show u.c - v.c≤0 by omega)];simp
 ·rw[if_neg h]
  by_cases hf:wy=aL
  ·rw[if_pos hf];simp
  ·rw[if_neg hf];simp
theorem fh{wy:Str}{u v:Pr}(hf:¬wy=aL)(h1:¬u.a*v.b<v.a*u.b)(h2:¬v.c*u.d<u.c*v.d)(hp:wy=aB->u.b=1∧u.d=1∧v.b=1∧v.d=1):cO wy u v=true:=by
 unfold cO
 by_cases h:wy=aB
 ·obtain⟨a1,a2,a3,a4⟩:=hp h
  rw[a1,a3]at h1;rw[a2,a4]at h2;rw[if_pos h];unfold dQ;rw[decide_eq_true (show v.a - u.a≤0 by omega),decide_eq_true (show u.c - v.c≤1 by omega)];rfl
 ·rw[if_neg h,if_neg hf]
  unfold cP ltB;rw[decide_eq_false h1,decide_eq_false h2];rfl
inductive BJ (vs:List V) (H:Hp) (Q:VK) (x_3:XK):Prop
 | mk:∀(p:Addr) (u:Pr) (n m k:Int) (wy:Str),(vs = [.ref p,.ref u.p,.int n,.int m,.str wy])->(Pot H p k)->(k≤600000)->((0≤n∧n≤50))->((0≤m∧m≤50))->(Fp H u n m wy)->(∀(v:Pr) (H':Hp),Fp H' v n m wy->cO wy u v=true->But p H H'->Pot H' p (k+50)->Q (.ref v.p) H')->BJ vs H Q x_3
theorem yK:vL ["pot","pair","n","m","way","x","y","turn"] ["pot","pair","n","m","way"] (ag (top 99)):=smk
theorem lN(zR:Df K mg "_law_next" (top 99))(vM:Fn P w K mg base "_law_take" ["pot","size"] 1 Dr.spTk)(wI:Fn P w K mg base "_law_any" ["pot","last","way"] 4 Bz)(vY:Fn P w K mg base "_law_lesser" ["one","other"] 2 (y3 fun a b c d=>ltB c d a b))(yt:Fn P w K mg base "_law_greater" ["one","other"] 2 (y3 fun a b c d=>ltB a b c d))(yS:Fn P w K mg base "_law_down" ["pot","y","way"] 4 BQ)(yP:Fn P w K mg base "_law_over" ["pot","x","last","way"] 4 BI):Fn P w K mg base "_law_next" ["pot","pair","n","m","way"] 5 BJ:=by
 refine zR.fn yK (fun _ _ _ _ _ _ us hl=>by obtain⟨_,_,_,_,_,rfl⟩:=qc hl;rfl) (fun vs H Q E h=>?_) (fun f cdv A outer s H vs Q E hr h=>?_)
 ·obtain⟨p,u,n,m,k,wy,rfl,_⟩:=h
  rfl
 ·obtain⟨p,u,n,m,k,wy,rfl,pt,hk,⟨hn0,hn1⟩,⟨hm0,hm1⟩,fu,q⟩:=h
  have ub:(0:Int)<u.b:=fu.dx.low.pos;have ud:(0:Int)<u.d:=fu.dy.low.pos;have sX:aK u.a u.b u.a u.b=true:=bF (k:=u.a / u.b) ub ub (bR ub) (by have:=cv (a:=u.a) ub;omega) (bR ub) (by have:=cv (a:=u.a) ub;omega);have sY:aK u.c u.d u.c u.d=true:=bF (k:=u.c / u.d) ud ud (bR ud) (by have:=cv (a:=u.c) ud;omega) (bR ud) (by have:=cv (a:=u.c) ud;omega);have R7:∃p7,PSs (bD CX0 P w K mg base ["pot","pair","n","m","way","x","y","turn"] "_law_next" (ag (top 99)) f cdv A outer s H E).nox ((az (top 99)).drop 7) p7∧∀(tn:Int) (H2:Hp),But p H H2->Pot H2 p (k+1)->p7 { nx:=fun _ H'=>Q .non H',rt:=Q } [some (.ref p),some (.ref u.p),some (.int n),some (.int m),some (.str wy),some (.ref u.x),some (.ref u.y),some (.int tn)] H2:=by
   refine⟨_,(ah (am (pv 1))),fun tn H2 b2 p2=>?_⟩;have f2:=fu.t (b2.t pt);have X2:=SqT.of (K:=K) f2.dx.at_;have Y2:=SqT.of (K:=K) f2.dy.at_;refine⟨_,rfl,q u H2 f2 ?_ b2 (p2.mono (by omega))⟩
   by_cases hf:wy=aL
   ·have nh:¬wy=aB:=fun z=>absurd (z.symm.trans hf) (by decide)
    rcases fu.fr hf with h1|h1
    ·exact du h1 rfl rfl sY (fun z=>absurd z nh)
    ·exact dU h1 rfl rfl sX (fun z=>absurd z nh)
   ·exact fh hf (by omega) (by omega) fun z=>⟨fu.dx.hop z,fu.dy.hop z,fu.dx.hop z,fu.dy.hop z⟩
  obtain⟨p7,hp7,rd7⟩:=R7;have R6:∃p6,PSs (bD CX0 P w K mg base ["pot","pair","n","m","way","x","y","turn"] "_law_next" (ag (top 99)) f cdv A outer s H E).nox ((az (top 99)).drop 6) p6∧∀(tn:Int) (H2:Hp),But p H H2->Pot H2 p (k+1)->p6 { nx:=fun _ H'=>Q .non H',rt:=Q } [some (.ref p),some (.ref u.p),some (.int n),some (.int m),some (.str wy),some (.ref u.x),some (.ref u.y),some (.int tn)] H2:=by
   refine⟨_,ae (aE (bC (aq aQ (aj ai (pv 6) ac (fun _ _=>rfl)) ac (ar _)) (bE (aq aQ (pv 4) aP (ar _)))).pt (ah (am (aA (aa (ak yS (hr.mono (by decide)) (by rfl) (aa (pv 0) (aa (pv 5) (aa (pv 4) ad)))) (aa (pv 6) ad))))) av) hp7,fun tn H2 b2 p2=>?_⟩;have f2:=fu.t (b2.t pt);have X2:=SqT.of (K:=K) f2.dx.at_;have Y2:=SqT.of (K:=K) f2.dy.at_;refine⟨_,rfl,u.y,_,_,_,rfl,rfl,Y2,rfl,rfl,_,rfl,?_⟩;rw[di];refine aw (fun h1=>?_) (fun h1=>?_)
   ·have h1:u.d=1:=aR h1
    refine⟨_,rfl,rfl,_,rfl,aw (fun c3=>?_) (fun c3=>?_)⟩
    ·refine⟨_,rfl,_,rfl,_,rfl,p,u.x,_,_,n,_,_,rfl,p2,by omega,⟨hn0,hn1⟩,f2.dx,fun z t b H3 d3 sh hp b3 p3=>?_⟩
     refine⟨_,rfl,sz (by simp),fun pp H4 s4 f4 _=>?_⟩;exact q ⟨pp,z,u.y,t,b,u.c,u.d⟩ H4 ⟨f4,d3.t' s4.t,(f2.dy.t' (b3.t p2)).t' s4.t,fun _=>.inr h1⟩ (dU h1 rfl rfl sh (fun z=>absurd (z.symm.trans (show wy=aL from aR (ds c3))) (by decide))) (b2.trans (b3.trans (But.of s4))) ((p3.same s4).mono (by omega))
    ·exact rd7 tn H2 b2 p2
   ·exact rd7 tn H2 b2 p2
  obtain⟨p6,hp6,rd6⟩:=R6;have R5:∃p5,PSs (bD CX0 P w K mg base ["pot","pair","n","m","way","x","y","turn"] "_law_next" (ag (top 99)) f cdv A outer s H E).nox ((az (top 99)).drop 5) p5∧∀(tn:Int) (H2:Hp),But p H H2->Pot H2 p (k+1)->p5 { nx:=fun _ H'=>Q .non H',rt:=Q } [some (.ref p),some (.ref u.p),some (.int n),some (.int m),some (.str wy),some (.ref u.x),some (.ref u.y),some (.int tn)] H2:=by
   refine⟨_,ae (aE (bC (aq aQ (aj ai (pv 6) ac (fun _ _=>rfl)) ac (ar _)) (bE (aq eI (pv 7) ac (ar _)))).pt (ah (am (aA (aa (ak yP (hr.mono (by decide)) (by rfl) (aa (pv 0) (aa (pv 5) (aa (pv 2) (aa (pv 4) ad))))) (aa (pv 6) ad))))) av) hp6,fun tn H2 b2 p2=>?_⟩;have f2:=fu.t (b2.t pt);have X2:=SqT.of (K:=K) f2.dx.at_;have Y2:=SqT.of (K:=K) f2.dy.at_;refine⟨_,rfl,u.y,_,_,_,rfl,rfl,Y2,rfl,rfl,_,rfl,?_⟩;rw[di];refine aw (fun h1=>?_) (fun h1=>?_)
   ·have h1:u.d=1:=aR h1
    refine⟨_,rfl,_,_,rfl,rfl,_,rfl,aw (fun c3=>?_) (fun c3=>?_)⟩
    ·refine⟨_,rfl,_,rfl,_,rfl,_,rfl,p,u.x,_,_,n,_,_,rfl,p2,by omega,⟨hn0,hn1⟩,f2.dx,fun z t b H3 d3 sh hp b3 p3=>?_⟩
     refine⟨_,rfl,sz (by simp),fun pp H4 s4 f4 _=>?_⟩;exact q ⟨pp,z,u.y,t,b,u.c,u.d⟩ H4 ⟨f4,d3.t' s4.t,(f2.dy.t' (b3.t p2)).t' s4.t,fun _=>.inr h1⟩ (dU h1 rfl rfl sh hp) (b2.trans (b3.trans (But.of s4))) ((p3.same s4).mono (by omega))
    ·exact rd6 tn H2 b2 p2
   ·exact rd6 tn H2 b2 p2
  obtain⟨p5,hp5,rd5⟩:=R5;have R4:∃p4,PSs (bD CX0 P w K mg base ["pot","pair","n","m","way","x","y","turn"] "_law_next" (ag (top 99)) f cdv A outer s H E).nox ((az (top 99)).drop 4) p4∧∀(tn:Int) (H2:Hp),But p H H2->Pot H2 p (k+1)->p4 { nx:=fun _ H'=>Q .non H',rt:=Q } [some (.ref p),some (.ref u.p),some (.int n),some (.int m),some (.str wy),some (.ref u.x),some (.ref u.y),some (.int tn)] H2:=by
   refine⟨_,ae (aE (bC (aq aQ (aj ai (pv 5) ac (fun _ _=>rfl)) ac (ar _)) (bC (aq aQ (pv 7) ac (ar _)) (bE (aq aQ (pv 4) aP (ar _))))).pt (ah (am (aA (aa (pv 5) (aa (ak yP (hr.mono (by decide)) (by rfl) (aa (pv 0) (aa (pv 6) (aa (pv 3) (aa (pv 4) ad))))) ad))))) av) hp5,fun tn H2 b2 p2=>?_⟩;have f2:=fu.t (b2.t pt);have X2:=SqT.of (K:=K) f2.dx.at_;have Y2:=SqT.of (K:=K) f2.dy.at_;refine⟨_,rfl,u.x,_,_,_,rfl,rfl,X2,rfl,rfl,_,rfl,?_⟩;rw[di];refine aw (fun h1=>?_) (fun h1=>?_)
   ·have h1:u.b=1:=aR h1
    refine⟨_,rfl,rfl,_,rfl,aw (fun c2=>?_) (fun c2=>?_)⟩
    ·refine⟨_,rfl,rfl,_,rfl,aw (fun c3=>?_) (fun c3=>?_)⟩
     ·refine⟨_,rfl,_,rfl,_,rfl,_,rfl,_,rfl,p,u.y,_,_,m,_,_,rfl,p2,by omega,⟨hm0,hm1⟩,f2.dy,fun z t b H3 d3 sh hp b3 p3=>?_⟩
      refine⟨sz (by simp),fun pp H4 s4 f4 _=>?_⟩;exact q ⟨pp,u.x,z,u.a,u.b,t,b⟩ H4 ⟨f4,(f2.dx.t' (b3.t p2)).t' s4.t,d3.t' s4.t,fun _=>.inl h1⟩ (du h1 rfl rfl sh (fun z=>absurd (z.symm.trans (show wy=aL from aR (ds c3))) (by decide))) (b2.trans (b3.trans (But.of s4))) ((p3.same s4).mono (by omega))
     ·exact rd5 tn H2 b2 p2
    ·exact rd5 tn H2 b2 p2
   ·exact rd5 tn H2 b2 p2
  obtain⟨p4,hp4,rd4⟩:=R4;have R3:∃p3,PSs (bD CX0 P w K mg base ["pot","pair","n","m","way","x","y","turn"] "_law_next" (ag (top 99)) f cdv A outer s H E).nox ((az (top 99)).drop 3) p3∧∀(tn:Int) (H2:Hp),But p H H2->Pot H2 p (k+1)->p3 { nx:=fun _ H'=>Q .non H',rt:=Q } [some (.ref p),some (.ref u.p),some (.int n),some (.int m),some (.str wy),some (.ref u.x),some (.ref u.y),some (.int tn)] H2:=by
   refine⟨_,ae (aE (bC (aq aQ (aj ai (pv 5) ac (fun _ _=>rfl)) ac (ar _)) (bE (cK (aq aQ (pv 7) ac (ar _)) (cq (aq eI (aj ai (pv 6) ac (fun _ _=>rfl)) ac (ar _)))).pt)).pt (ah (am (aA (aa (pv 5) (aa (ak yS (hr.mono (by decide)) (by rfl) (aa (pv 0) (aa (pv 6) (aa (pv 4) ad)))) ad))))) av) hp4,fun tn H2 b2 p2=>?_⟩;have f2:=fu.t (b2.t pt);have X2:=SqT.of (K:=K) f2.dx.at_;have Y2:=SqT.of (K:=K) f2.dy.at_;refine⟨_,rfl,u.x,_,_,_,rfl,rfl,X2,rfl,rfl,_,rfl,?_⟩;rw[di];refine aw (fun h1=>?_) (fun h1=>?_)
   ·have h1:u.b=1:=aR h1
    refine⟨_,rfl,rfl,_,rfl,aw (fun c2=>?_) (fun c2=>?_)⟩
    ·refine⟨_,rfl,_,rfl,_,rfl,_,rfl,p,u.y,_,_,m,_,_,rfl,p2,by omega,⟨hm0,hm1⟩,f2.dy,fun z t b H3 d3 sh hp b3 p3=>?_⟩
     refine⟨sz (by simp),fun pp H4 s4 f4 _=>?_⟩;exact q ⟨pp,u.x,z,u.a,u.b,t,b⟩ H4 ⟨f4,(f2.dx.t' (b3.t p2)).t' s4.t,d3.t' s4.t,fun _=>.inl h1⟩ (du h1 rfl rfl sh hp) (b2.trans (b3.trans (But.of s4))) ((p3.same s4).mono (by omega))
    ·refine⟨_,rfl,u.y,_,_,_,rfl,rfl,Y2,rfl,_,_,rfl,rfl,_,rfl,aw (fun c3=>?_) (fun c3=>?_)⟩
     ·refine⟨_,rfl,_,rfl,_,rfl,_,rfl,p,u.y,_,_,m,_,_,rfl,p2,by omega,⟨hm0,hm1⟩,f2.dy,fun z t b H3 d3 sh hp b3 p3=>?_⟩
      refine⟨sz (by simp),fun pp H4 s4 f4 _=>?_⟩;exact q ⟨pp,u.x,z,u.a,u.b,t,b⟩ H4 ⟨f4,(f2.dx.t' (b3.t p2)).t' s4.t,d3.t' s4.t,fun _=>.inl h1⟩ (du h1 rfl rfl sh hp) (b2.trans (b3.trans (But.of s4))) ((p3.same s4).mono (by omega))
     ·exact rd4 tn H2 b2 p2
   ·exact rd4 tn H2 b2 p2
  obtain⟨p3,hp3,rd3⟩:=R3;refine⟨_,(ae (cL (pv 1) (cu rfl (aC (aF (i:=5) yK.nd rfl (Or.inl rfl)) (aC (aF (i:=6) yK.nd rfl (Or.inl rfl)) bK)))) (ae (au (i:=7) yK.nd rfl (Or.inl rfl) (ak vM (hr.mono (by decide)) (by rfl) (aa (pv 0) (aa ac ad)))) (ae (aE (bC (aq dF (pv 4) aP (ar _)) (bE (cK (aq aQ (pv 7) ac (ar _)) (cq (bC (aq eI (aj ai (pv 5) ac (fun _ _=>rfl)) ac (ar _)) (bE (aq eI (aj ai (pv 6) ac (fun _ _=>rfl)) ac (ar _)))).pt)).pt)).pt (ah (am (aA (aa (ak vY (hr.mono (by decide)) (by rfl) (aa (pv 5) (aa (ak wI (hr.mono (by decide)) (by rfl) (aa (pv 0) (aa (pv 2) (aa (pv 4) ad)))) ad))) (aa (ak yt (hr.mono (by decide)) (by rfl) (aa (pv 6) (aa (ak wI (hr.mono (by decide)) (by rfl) (aa (pv 0) (aa (pv 3) (aa (pv 4) ad)))) ad))) ad))))) av) hp3))),?_⟩;refine⟨_,rfl,u.p,_,rfl,SqT.of fu.e,rfl,_,_,rfl,_,_,rfl,rfl,?_⟩;refine⟨_,rfl,p,_,_,rfl,pt,by omega,⟨by decide,by decide⟩,fun tn H2 tn0 tn1 b2 p2=>?_⟩;have f2:=fu.t (b2.t pt);have X2:=SqT.of (K:=K) f2.dx.at_;have Y2:=SqT.of (K:=K) f2.dy.at_;refine⟨_,rfl,rfl,_,rfl,aw (fun c1=>?_) (fun c1=>?_)⟩
  ·have hf:¬wy=aL:=bI (ds (show decide (V.str wy=V.str (Str.ofString "free"))=false by simpa only[Bool.not_eq_true']using c1))
   refine⟨_,rfl,rfl,_,rfl,aw (fun c2=>?_) (fun c2=>?_)⟩
   ·refine⟨_,rfl,_,rfl,_,rfl,_,rfl,p,n,_,_,rfl,p2,by omega,⟨hn0,hn1⟩,fun z1 t1 b1 H3 d1 b3 p3=>?_⟩
    have f3:=f2.t (b3.t p2);refine⟨u.x,z1,u.a,u.b,t1,b1,rfl,f3.dx.at_,d1.at_,⟨af f3.dx.bt (by decide),af f3.dx.bb (by decide),af d1.bt (by decide),af d1.bb (by decide)⟩,?_⟩;obtain⟨zx,tx,bx,ez,dxx,hx⟩:∃(zx:Addr) (tx bx:Int),(if ltB t1 b1 u.a u.b=true then z1 else u.x)=zx∧Dp H3 zx tx bx n wy∧¬u.a*bx<tx*u.b:=by
     split
     ·rename_i hh
      exact⟨z1,t1,b1,rfl,d1,by have:=aR hh;omega⟩
     ·exact⟨u.x,u.a,u.b,rfl,f3.dx,by omega⟩
    dsimp only;rw[ez];refine⟨_,rfl,_,rfl,_,rfl,_,rfl,p,m,_,_,rfl,p3,by omega,⟨hm0,hm1⟩,fun z2 t2 b2' H4 d2 b4 p4=>?_⟩;have f4:=f3.t (b4.t p3);refine⟨u.y,z2,u.c,u.d,t2,b2',rfl,f4.dy.at_,d2.at_,⟨af f4.dy.bt (by decide),af f4.dy.bb (by decide),af d2.bt (by decide),af d2.bb (by decide)⟩,?_⟩;obtain⟨zy,ty,by_,ey,dyy,hy⟩:∃(zy:Addr) (ty by_:Int),(if ltB u.c u.d t2 b2'=true then z2 else u.y)=zy∧Dp H4 zy ty by_ m wy∧¬ty*u.d<u.c*by_:=by
     split
     ·rename_i hh
      exact⟨z2,t2,b2',rfl,d2,by have:=aR hh;omega⟩
     ·exact⟨u.y,u.c,u.d,rfl,f4.dy,by omega⟩
    dsimp only;rw[ey];refine⟨sz (by simp),fun pp H5 s5 f5 _=>?_⟩;exact q ⟨pp,zx,zy,tx,bx,ty,by_⟩ H5 ⟨f5,(dxx.t' (b4.t p3)).t' s5.t,dyy.t' s5.t,fun z=>absurd z hf⟩ (fh hf hx hy fun z=>⟨fu.dx.hop z,fu.dy.hop z,dxx.hop z,dyy.hop z⟩) (b2.trans (b3.trans (b4.trans (But.of s5)))) ((p4.same s5).mono (by omega))
   refine⟨_,rfl,u.x,_,_,_,rfl,rfl,X2,rfl,_,_,rfl,rfl,_,rfl,aw (fun c3=>?_) (fun c3=>?_)⟩
   ·refine⟨_,rfl,u.y,_,_,_,rfl,rfl,Y2,rfl,_,_,rfl,rfl,_,rfl,aw (fun c4=>?_) (fun c4=>?_)⟩
    ·refine⟨_,rfl,_,rfl,_,rfl,_,rfl,p,n,_,_,rfl,p2,by omega,⟨hn0,hn1⟩,fun z1 t1 b1 H3 d1 b3 p3=>?_⟩
     have f3:=f2.t (b3.t p2);refine⟨u.x,z1,u.a,u.b,t1,b1,rfl,f3.dx.at_,d1.at_,⟨af f3.dx.bt (by decide),af f3.dx.bb (by decide),af d1.bt (by decide),af d1.bb (by decide)⟩,?_⟩;obtain⟨zx,tx,bx,ez,dxx,hx⟩:∃(zx:Addr) (tx bx:Int),(if ltB t1 b1 u.a u.b=true then z1 else u.x)=zx∧Dp H3 zx tx bx n wy∧¬u.a*bx<tx*u.b:=by
      split
      ·rename_i hh
       exact⟨z1,t1,b1,rfl,d1,by have:=aR hh;omega⟩
      ·exact⟨u.x,u.a,u.b,rfl,f3.dx,by omega⟩
     dsimp only;rw[ez];refine⟨_,rfl,_,rfl,_,rfl,_,rfl,p,m,_,_,rfl,p3,by omega,⟨hm0,hm1⟩,fun z2 t2 b2' H4 d2 b4 p4=>?_⟩;have f4:=f3.t (b4.t p3);refine⟨u.y,z2,u.c,u.d,t2,b2',rfl,f4.dy.at_,d2.at_,⟨af f4.dy.bt (by decide),af f4.dy.bb (by decide),af d2.bt (by decide),af d2.bb (by decide)⟩,?_⟩;obtain⟨zy,ty,by_,ey,dyy,hy⟩:∃(zy:Addr) (ty by_:Int),(if ltB u.c u.d t2 b2'=true then z2 else u.y)=zy∧Dp H4 zy ty by_ m wy∧¬ty*u.d<u.c*by_:=by
      split
      ·rename_i hh
       exact⟨z2,t2,b2',rfl,d2,by have:=aR hh;omega⟩
      ·exact⟨u.y,u.c,u.d,rfl,f4.dy,by omega⟩
     dsimp only;rw[ey];refine⟨sz (by simp),fun pp H5 s5 f5 _=>?_⟩;exact q ⟨pp,zx,zy,tx,bx,ty,by_⟩ H5 ⟨f5,(dxx.t' (b4.t p3)).t' s5.t,dyy.t' s5.t,fun z=>absurd z hf⟩ (fh hf hx hy fun z=>⟨fu.dx.hop z,fu.dy.hop z,dxx.hop z,dyy.hop z⟩) (b2.trans (b3.trans (b4.trans (But.of s5)))) ((p4.same s5).mono (by omega))
    ·exact rd3 tn H2 b2 p2
   ·exact rd3 tn H2 b2 p2
  ·exact rd3 tn H2 b2 p2
theorem uW{f:Int->Int->V}:MR (CO f):=fun x y H Q Q' hq ⟨i,j,e1,e2,k⟩=>⟨i,j,e1,e2,hq _ _ k⟩
theorem tX{K:W.Frag}:MR (CV K):=fun x y H Q Q' hq ⟨p,xs,i,v,e1,e2,h,a,k⟩=>⟨p,xs,i,v,e1,e2,h,a,hq _ _ k⟩
structure FI(H:Hp)(n m:Int)(wy:Str)(ps:List Pr)(q:Pr):Prop where
 all:∀r∈ps++[q],Fp H r n m wy
 st:bo wy (ps++[q])=true
theorem fz{w:Str}{v:Pr}{ys:List Pr}:∀xs:List Pr,bo w (xs++[v])=true->bo w (v::ys)=true->bo w (xs++v::ys)=true
 | [],_,h=>h
 | [a],h,g=>by
  have h':(cO w a v && bo w [v])=true:=h;rw[Bool.and_eq_true]at h';show(cO w a v && bo w (v::ys))=true;rw[h'.1,g];rfl
 | a::b::r,h,g=>by
  have h':(cO w a b && bo w (b::r++[v]))=true:=h;rw[Bool.and_eq_true]at h';show(cO w a b && bo w (b::r++v::ys))=true;rw[h'.1,fz (b::r) h'.2 g];rfl
theorem FI.last{H:Hp}{n m:Int}{wy:Str}{ps:List Pr}{q:Pr}(F:FI H n m wy ps q):Fp H q n m wy:=F.all q (by simp)
theorem FI.t{H H':Hp}{n m:Int}{wy:Str}{ps:List Pr}{q:Pr}(F:FI H n m wy ps q)(s:SameT H H'):FI H' n m wy ps q:=⟨fun r hr=>(F.all r hr).t s,F.st⟩
theorem FI.step{H H':Hp}{n m:Int}{wy:Str}{ps:List Pr}{q r:Pr}(F:FI H n m wy ps q)(s:SameT H H')(fr:Fp H' r n m wy)(h:cO wy q r=true):FI H' n m wy (ps++[q]) r:=by
 refine⟨fun z hz=>?_,?_⟩
 ·rcases List.mem_append.mp hz with hz|hz
  ·exact(F.all z hz).t s
  ·rw[List.mem_singleton.mp hz]
   exact fr
 ·rw[List.append_assoc]
  refine fz ps F.st ?_;show(cO wy q r && bo wy [r])=true;rw[h];rfl
theorem FI.pairs{H:Hp}{l:Addr}{n m:Int}{wy:Str}{ps:List Pr}{q:Pr}(F:FI H n m wy ps q)(e:H l=some (.lst (prs (ps++[q])))):vU H l (ps++[q]):=⟨e,fun r hr=>(Dp.pr (F.all r hr).e (F.all r hr).dx (F.all r hr).dy).1⟩
theorem FI.join{H:Hp}{n m:Int}{wy:Str}{ps qs xs:List Pr}{q v:Pr}(F:FI H n m wy ps q)(G:FI H n m wy qs v)(e:q::xs=qs++[v]):FI H n m wy (ps++qs) v:=by
 have h:=F.st;have g:=G.st;rw[<- e]at g;refine⟨fun z hz=>?_,?_⟩
 ·rw[List.append_assoc]at hz
  rcases List.mem_append.mp hz with hz|hz
  ·exact F.all z (by simp[hz])
  ·exact G.all z hz
 ·rw[List.append_assoc,<- e]
  exact fz ps h g
theorem Fp.self{H:Hp}{n m:Int}{wy:Str}{q:Pr}(f:Fp H q n m wy):cO wy q q=true:=by
 have ub:(0:Int)<q.b:=f.dx.low.pos;have ud:(0:Int)<q.d:=f.dy.low.pos;have sX:aK q.a q.b q.a q.b=true:=bF (k:=q.a / q.b) ub ub (bR ub) (by have:=cv (a:=q.a) ub;omega) (bR ub) (by have:=cv (a:=q.a) ub;omega);have sY:aK q.c q.d q.c q.d=true:=bF (k:=q.c / q.d) ud ud (bR ud) (by have:=cv (a:=q.c) ud;omega) (bR ud) (by have:=cv (a:=q.c) ud;omega)
 by_cases hf:wy=aL
 ·have nh:¬wy=aB:=fun z=>absurd (z.symm.trans hf) (by decide)
  rcases f.fr hf with h1|h1
  ·exact du h1 rfl rfl sY (fun z=>absurd z nh)
  ·exact dU h1 rfl rfl sX (fun z=>absurd z nh)
 ·exact fh hf (by omega) (by omega) fun z=>⟨f.dx.hop z,f.dy.hop z,f.dx.hop z,f.dy.hop z⟩
structure Db(n m:Int)(w:Str)(ps:List Pr):Prop where
 fence:bU n m w ps=true
 self:∀q∈ps,cO w q q=true
theorem ie{n m:Int}{w:Str}{L:List Pr}:bU n m w L=true↔∃f l,L.head? = some f∧L.getLast? = some l∧L.all (inB n m)=true∧(if w=aB then L.all bV else true)=true∧dO n m w f l=true∧bo w L=true:=by
 cases L with
 | nil=>simp[bU]
 | cons f r =>
  rw[cw,Bool.and_eq_true,Bool.and_eq_true,Bool.and_eq_true];constructor
  ·rintro⟨h1,h2,h3,h4⟩
   exact⟨f,_,rfl,List.getLast?_eq_some_getLast (by simp),h1,h2,h3,h4⟩
  ·rintro⟨f',l,e1,e2,h1,h2,h3,h4⟩
   cases e1;rw[List.getLast?_eq_some_getLast (by simp)]at e2;cases e2;exact⟨h1,h2,h3,h4⟩
theorem FI.good{H:Hp}{n m:Int}{wy:Str}{qs:List Pr}{v:Pr}(F:FI H n m wy qs v)(h1:∀f,(qs++[v]).head? = some f->e1B m wy f=true)(h2:e2B n wy v=true):Db n m wy (qs++[v]):=by
 refine⟨ie.mpr ?_,fun q hq=>(F.all q hq).self⟩;have hi:(qs++[v]).all (inB n m)=true:=List.all_eq_true.mpr fun q hq=>(Dp.pr (F.all q hq).e (F.all q hq).dx (F.all q hq).dy).2.1;have hw:(if wy=aB then (qs++[v]).all bV else true)=true:=by
  by_cases z:wy=aB
  ·rw[if_pos z]
   refine List.all_eq_true.mpr fun q hq=>?_;unfold bV;rw[(F.all q hq).dx.hop z,(F.all q hq).dy.hop z];rfl
  ·rw[if_neg z]
 cases ef:(qs++[v]).head? with
 | none=>simp at ef
 | some f =>
  refine⟨f,v,rfl,by simp,hi,hw,?_,F.st⟩;rw[qz,h1 f ef,h2];rfl
theorem k8(qs:List Pr)(v:Pr):atI (prs (qs++[v])) (-1)=some (.ref v.p):=by
 cases qs with
 | nil=>exact gN v []
 | cons f r =>
  have h:=gN f (r++[v]);have e:(f::(r++[v])).getLast (List.cons_ne_nil _ _)=v:=eg (ps:=f::r) _;rw[e]at h;exact h
def muD(H:Hp)(z:V):Nat:=match z with
 | .ref p=>match H p with
  | some (.tup [.int t,.int b])=>((t - 1) / b+1).toNat
  | _=>0
 | _=>0
theorem pL{H:Hp}{z:Addr}{t b:Int}(e:H z=some (.tup [.int t,.int b])):muD H (.ref z)=((t - 1) / b+1).toNat:=by simp only[muD,e]
inductive AN (vs:List V) (H:Hp) (Q:VK) (x_3:XK):Prop
 | mk:∀(u:Pr) (n m:Int) (wy:Str),(vs = [.ref u.p,.int n,.str wy])->((0≤n∧n≤50))->((0≤m∧m≤20))->(Fp H u n m wy)->(∀(l:Addr) (qs ps:List Pr) (v:Pr) (H':Hp),u::ps=qs++[v]->H' l=some (.lst (prs ps))->FI H' n m wy qs v->v.c=0∧v.d=1->ps.length≤30->H l=none->Same H H'->Q (.ref l) H')->AN vs H Q x_3
inductive AV (vs:List V) (H:Hp) (Q:VK) (x_3:XK):Prop
 | mk:∀(p:Addr) (n m k:Int) (w:Str),(vs = [.ref p,.int n,.int m,.str w])->(Pot H p k)->(k≤400000)->((0≤n∧n≤20))->((0≤m∧m≤20))->(∀(l:Addr) (ps:List Pr) (H':Hp),vU H' l ps->Db n m w ps->ps.length≤60->H l=none->But p H H'->Pot H' p (k+500)->Q (.ref l) H')->AV vs H Q x_3
theorem xq:vL ["pair","n","way","x","y","more"] ["pair","n","way"] (ag (top 100)):=smk
theorem kO(zk:Df K mg "_law_ended" (top 100))(T:Txt mg):Fn P w K mg base "_law_ended" ["pair","n","way"] 2 AN:=by
 refine zk.fn xq (fun _ _ _ _ _ _ us hl=>by obtain⟨_,_,_,rfl⟩:=hU hl;rfl) (fun vs H Q E h=>?_) (fun f cdv A outer s H vs Q E hr h=>?_)
 ·obtain⟨u,n,m,wy,rfl,_⟩:=h
  rfl
 ·obtain⟨u,n,m,wy,rfl,⟨hn0,hn1⟩,⟨hm0,hm1⟩,fu,q⟩:=h
  have R:∃u',PSs (bD CX0 P w K mg base ["pair","n","way","x","y","more"] "_law_ended" (ag (top 100)) f cdv A outer s H E).nox ((az (top 100)).drop 3) u'∧∀(H3:Hp) (l:Addr) (v:Pr) (qs ps:List Pr),Same H H3->H l=none->H3 l=some (.lst (prs ps))->FI H3 n m wy qs v->u::ps=qs++[v]->v.b=1->ps.length≤1->u' { nx:=fun _ H'=>Q .non H',rt:=Q } [some (.ref u.p),some (.int n),some (.str wy),some (.ref v.x),some (.ref v.y),some (.ref l)] H3:=by
   refine⟨_,(ae (gz PassesOwn.never (aq eI (aj ai (pv 4) ac (fun _ _=>rfl)) ac (ar _)) (ae (au (i:=4) xq.nd rfl (Or.inl rfl) (aA (aa (ap bH (ap aV (aj ai (pv 4) ac (fun _ _=>rfl)) ac) (aj ai (pv 4) ac (fun _ _=>rfl))) (aa ac ad)))) (ah (cW (i8 PySem.F.plainAttrs_list PySem.F.slot_list_append PySem.F.type_list_append cF (pv 5) (aa (aA (aa (pv 3) (aa (pv 4) ad))) ad)))))) (ah (am (pv 5)))),fun H3 l v qs ps s3 nl el fi hu hb hl=>?_⟩;have cap:∀{H4:Hp} {v:Pr},Fp H4 v n m wy->(v.c - 1) / v.d+1≤m∧(0<v.c->0≤(v.c - 1) / v.d):=fun {H4 v} f=>by
    have hd:(0:Int)<v.d:=f.dy.low.pos;have h1:=f.dy.n1;have h2:(v.c - 1) / v.d<m:=Int.ediv_lt_of_lt_mul hd (by omega);exact⟨by omega,fun h=>Int.ediv_nonneg (by omega) (by omega)⟩
   refine gj (fun σ H4=>∃(v:Pr) (qs ps:List Pr),σ = [some (.ref u.p),some (.int n),some (.str wy),some (.ref v.x),some (.ref v.y),some (.ref l)]∧Same H H4∧H4 l=some (.lst (prs ps))∧FI H4 n m wy qs v∧u::ps=qs++[v]∧v.b=1∧(ps.length:Int)+((v.c - 1) / v.d+1)≤21)
    (fun σ H4=>match σ with | [_,_,_,_,some z,_]=>muD H4 z|_=>0)
    ⟨v,qs,ps,rfl,s3,el,fi,hu,hb,by have:=(cap fi.last).1;omega⟩ ?_ ?_
   ·rintro σ H4 ⟨v,qs,ps,rfl,s4,el,fi,hu,hb,hl⟩
    have fv:=fi.last;have hd:(0:Int)<v.d:=fv.dy.low.pos;have Y:=SqT.of (K:=K) fv.dy.at_;refine⟨_,rfl,v.y,_,_,_,rfl,rfl,Y,rfl,_,_,rfl,rfl,_,rfl,aw (fun c1=>?_) (fun c1=>?_)⟩
    ·have c1:0<v.c:=aR c1
     have k0:=(cap fv).2 c1;have k1:=(cap fv).1;have j1:=bR (a:=v.c - 1) hd;have j2:=cv (a:=v.c - 1) hd;refine⟨_,rfl,v.y,_,_,_,rfl,rfl,Y,rfl,_,_,rfl,rfl,_,rfl,v.y,_,_,_,rfl,rfl,Y,rfl,_,_,rfl,rfl,⟨hd,af fv.dy.bb (by decide)⟩,sz (by simp),fun zy H5 s5 f5 n5=>?_⟩;refine⟨_,rfl,.inl ⟨rfl,_,SqL.of (s5 _ _ el)⟩,_,rfl,_,rfl,sz (by simp),fun pp H6 s6 f6 n6=>?_⟩;refine⟨l,_,_,rfl,rfl,s6 _ _ (s5 _ _ el),bJ (by rw[aX];omega),fun H7 u7=>?_⟩;have f5:H5 zy=some (.tup [.int ((v.c - 1) / v.d),.int 1]):=f5;generalize ek:(v.c - 1) / v.d=kk at *;have s46:SameT H4 H7:=fun a xs e=>u7.t _ _ (s6 _ _ (s5 _ _ e));have dy7:Dp H7 zy kk 1 m wy:=⟨u7.t _ _ (s6 _ _ f5),⟨by decide,Int.gcd_one⟩,k0,by omega,af (bi (by omega) (by omega)) (by decide),by decide,fun _=>rfl⟩;have f7:Fp H7 ⟨pp,v.x,zy,v.a,v.b,kk,1⟩ n m wy:=⟨u7.t _ _ f6,fv.dx.t' s46,dy7,fun _=>.inl hb⟩;have j3:v.c≤(kk+1)*v.d:=by omega
     have sh:aK v.c v.d kk 1=true:=bF (k:=kk) hd (by decide) (by omega) j3 (by omega) (by omega);have hm:cO wy v ⟨pp,v.x,zy,v.a,v.b,kk,1⟩=true:=du hb rfl rfl sh (fun z=>by
      have e:=fv.dy.hop z;rw[e,Int.ediv_one]at ek;show v.c - kk≤1;omega)
     refine⟨⟨⟨pp,v.x,zy,v.a,v.b,kk,1⟩,qs++[v],ps++[⟨pp,v.x,zy,v.a,v.b,kk,1⟩],rfl,u7.same (s4.trans (s5.trans s6)) nl,by rw[u7.now];unfold prs;rw[List.map_append];rfl,fi.step s46 f7 hm,?_,hb,?_⟩,?_⟩
     ·rw[<- hu];rfl
     ·rw[List.length_append]
      simp only[List.length_cons,List.length_nil];show((ps.length+1:Nat):Int)+((kk - 1) / 1+1)≤21;rw[Int.ediv_one];omega
     ·show muD H7 (.ref zy)<muD H4 (.ref v.y)
      rw[pL f7.dy.at_,pL fv.dy.at_,ek];show((kk - 1) / 1+1).toNat<_;rw[Int.ediv_one];omega
    ·have c1:¬0<v.c:=bI c1
     have c0:v.c=0:=by have:=fv.dy.n0;omega
     have d1:v.d=1:=by
      have h:=fv.dy.low.one;rw[c0,Int.gcd_zero_left]at h;omega
     exact⟨_,rfl,q l qs ps v H4 hu el fi ⟨c0,d1⟩ (by have:=(cap fv).1;rw[c0,d1]at hl;omega) nl s4⟩
   ·exact iF (lv uW (lv tX gZ pO) pO)
  obtain⟨u',hu',fin⟩:=R;refine⟨_,(ae (cL (pv 0) (cu rfl (aC (aF (i:=3) xq.nd rfl (Or.inl rfl)) (aC (aF (i:=4) xq.nd rfl (Or.inl rfl)) bK)))) (ae (au (i:=5) xq.nd rfl (Or.inl rfl) (bW ad)) (ae (aE (aq eI (aj ai (pv 3) ac (fun _ _=>rfl)) ac (ar _)) (@ae _ _ _ _ _ (@au _ _ 3 _ _ _ _ xq.nd rfl (Or.inl rfl) (@aj _ _ _ _ _ _ _ aI (@bW _ _ _ _ (@aa _ _ _ _ _ (@aA _ _ _ _ _ (@aa _ _ _ _ _ (ap bH (aj ai (pv 3) ac (fun _ _=>rfl)) (aj ai (pv 3) ac (fun _ _=>rfl))) (@aa _ _ _ _ _ ac ad (by rfl)) (by rfl))) (@aa _ _ _ _ _ (@aA _ _ _ _ _ (@aa _ _ _ _ _ (ap aY (ap bH (aj ai (pv 3) ac (fun _ _=>rfl)) (aj ai (pv 3) ac (fun _ _=>rfl))) ac) (@aa _ _ _ _ _ ac ad (by rfl)) (by rfl))) ad (by rfl)) (by rfl))) (oy oU (by rfl) T.z_int qK (aa (a7 aQ (pv 2) aP (ar _)) ad)) (fun _ _=>rfl)) (by rfl) (by first|exact .inl rfl|exact .inr rfl|assumption)) (ah (cW (i8 PySem.F.plainAttrs_list PySem.F.slot_list_append PySem.F.type_list_append cF (pv 5) (aa (aA (aa (pv 3) (aa (pv 4) ad))) ad))))) av) hu'))),?_⟩
  have ub:(0:Int)<u.b:=fu.dx.low.pos;have ud:(0:Int)<u.d:=fu.dy.low.pos;refine⟨_,rfl,u.p,_,rfl,SqT.of fu.e,rfl,_,_,rfl,_,_,rfl,rfl,?_⟩;refine⟨sz (by simp),fun l H1 s1 f1 n1=>?_⟩;have fu1:=fu.t s1.t;have X1:=SqT.of (K:=K) fu1.dx.at_;refine⟨_,rfl,u.x,_,_,_,rfl,rfl,X1,rfl,_,_,rfl,rfl,_,rfl,aw (fun c1=>?_) (fun c1=>?_)⟩
  ·have c1:1<u.b:=aR c1
   have nb:u.b≠1:=by omega
   have nh:¬wy=aB:=fun z=>nb (fu.dx.hop z);have bb:ao u.b≤8000:=af fu.dx.bb (by decide);have j1:=bR (a:=u.a) ub;have j2:=cv (a:=u.a) ub;have k0:=eK ub fu.dx.n0;have k1:=eC ub fu.dx.n1;have k2:u.a / u.b<n:=by
    by_cases c:u.a / u.b=n
    ·exact absurd (iQ fu.dx.low fu.dx.n1 c).2 nb
    ·omega
   have go:∀(H5:Hp) (z:Addr) (t:Int),Same H1 H5->H5 z=some (.tup [.int t,.int 1])->0≤t->t≤n->(∀pp,cO wy u ⟨pp,z,u.y,t,1,u.c,u.d⟩=true)->(oq (o9 (tBM K "list" Ah (xh 5) (bP (k9 (bP (xh 3) (bP (xh 4) fV))) fV))) u') { nx:=fun _ H'=>Q .non H',rt:=Q } [some (.ref u.p),some (.int n),some (.str wy),some (.ref z),some (.ref u.y),some (.ref l)] H5:=by
    intro H5 z t s5 e5 t0 t1 hm;refine⟨_,rfl,.inl ⟨rfl,_,SqL.of (s5 _ _ f1)⟩,_,rfl,_,rfl,sz (by simp),fun pp H6 s6 f6 n6=>?_⟩;refine⟨l,_,_,rfl,rfl,s6 _ _ (s5 _ _ f1),bJ (by simp),fun H7 u7=>?_⟩;have s17:SameT H1 H7:=fun a xs e=>u7.t _ _ (s6 _ _ (s5 _ _ e));have fu7:=fu1.t s17;have dx7:Dp H7 z t 1 n wy:=⟨u7.t _ _ (s6 _ _ e5),⟨by decide,Int.gcd_one⟩,t0,by omega,af (bi (by omega) (by omega)) (by decide),by decide,fun _=>rfl⟩;have f7:Fp H7 ⟨pp,z,u.y,t,1,u.c,u.d⟩ n m wy:=⟨u7.t _ _ f6,dx7,fu7.dy,fun _=>.inl rfl⟩;have fi:FI H7 n m wy [] u:=⟨fun r hr=>by rw[List.mem_singleton.mp hr];exact fu7,rfl⟩;exact fin H7 l ⟨pp,z,u.y,t,1,u.c,u.d⟩ [u] [⟨pp,z,u.y,t,1,u.c,u.d⟩] (u7.same (s1.trans (s5.trans s6)) n1) n1 (by rw[u7.now];rfl) (fi.step (fun _ _ e=>e) f7 (hm pp)) rfl rfl (by simp)
   refine⟨_,rfl,u.x,_,_,_,rfl,rfl,X1,rfl,_,rfl,u.x,_,_,_,rfl,rfl,X1,rfl,_,_,rfl,rfl,⟨ub,bb⟩,sz (by simp),fun t1 H2 s2 f2 n2=>?_⟩;have X2:=SqT.of (K:=K) (s2 _ _ fu1.dx.at_);refine⟨_,rfl,u.x,_,_,_,rfl,rfl,X2,rfl,_,rfl,u.x,_,_,_,rfl,rfl,X2,rfl,_,_,rfl,rfl,⟨ub,bb⟩,_,_,rfl,rfl,sz (by simp),fun t2 H3 s3 f3 n3=>?_⟩;refine⟨sz (by simp),fun lm H4 s4 f4 n4=>?_⟩;refine⟨_,rfl,rfl,.inr ⟨_,rfl,?_⟩⟩;have S4:Same H1 H4:=s2.trans (s3.trans s4)
   by_cases hf:wy=aL
   ·have ed:decide (V.str wy=V.str (Str.ofString "free"))=true:=decide_eq_true (by rw[hf];rfl)
    rw[ed];refine⟨lm,_,_,_,rfl,rfl,SqL.of f4,rfl,?_⟩;have hd:u.d=1:=by
     rcases fu.fr hf with h|h
     ·exact absurd h nb
     ·exact h
    have sh:aK u.a u.b (u.a / u.b+1) 1=true:=bF (k:=u.a / u.b) ub (by decide) j1 (by omega) (by omega) (by omega);exact go H4 t2 (u.a / u.b+1) S4 (s4 _ _ f3) (by omega) (by omega) fun pp=>dU hd rfl rfl sh fun z=>absurd z nh
   ·have ed:decide (V.str wy=V.str (Str.ofString "free"))=false:=decide_eq_false (fun z=>hf (by cases z;rfl))
    rw[ed];refine⟨lm,_,_,_,rfl,rfl,SqL.of f4,rfl,?_⟩;exact go H4 t1 (u.a / u.b) S4 (s4 _ _ (s3 _ _ f2)) (by omega) (by omega) fun pp=>fh hf (by show ¬u.a*1<u.a / u.b*u.b;omega) (by show ¬u.c*u.d<u.c*u.d;omega) fun z=>absurd z nh
  ·have hb1:u.b=1:=by have:=bI c1;omega
   exact fin H1 l u [] [] s1 n1 f1 ⟨fun r hr=>by rw[List.mem_singleton.mp hr];exact fu1,rfl⟩ rfl hb1 (by simp)
theorem v6:vL ["pot","n","m","way","pair","fence","turn"] ["pot","n","m","way"] (ag (top 101)):=smk
theorem gi(xE:Df K mg "_law_drawn_fence" (top 101))(vM:Fn P w K mg base "_law_take" ["pot","size"] 1 Dr.spTk)(wI:Fn P w K mg base "_law_any" ["pot","last","way"] 4 Bz)(zG:Fn P w K mg base "_law_next" ["pot","pair","n","m","way"] 5 BJ)(zd:Fn P w K mg base "_law_ended" ["pair","n","way"] 2 AN)(T:Txt mg):Fn P w K mg base "_law_drawn_fence" ["pot","n","m","way"] 6 AV:=by
 refine xE.fn v6 (fun _ _ _ _ _ _ us hl=>by obtain⟨_,_,_,_,rfl⟩:=ir hl;rfl) (fun vs H Q E h=>?_) (fun f cdv A outer s H vs Q E hr h=>?_)
 ·obtain⟨p,n,m,k,wy,rfl,_⟩:=h
  rfl
 ·obtain⟨p,n,m,k,wy,rfl,pt,hk,⟨hn0,hn1⟩,⟨hm0,hm1⟩,q⟩:=h
  have R:∃u',PSs (bD CX0 P w K mg base ["pot","n","m","way","pair","fence","turn"] "_law_drawn_fence" (ag (top 101)) f cdv A outer s H E).nox ((az (top 101)).drop 2) u'∧∀(v:Pr) (H1:Hp),Fp H1 v n m wy->e1B m wy v=true->But p H H1->Pot H1 p (k+45)->u' { nx:=fun _ H'=>Q .non H',rt:=Q } [some (.ref p),some (.int n),some (.int m),some (.str wy),some (.ref v.p),none,none] H1:=by
   refine⟨_,(ae (au (i:=5) v6.nd rfl (Or.inl rfl) (bW (aa (pv 4) ad))) (ae (dh PassesOwn.never rfl (fG rfl T.z_range (aa (ak vM (hr.mono (by decide)) (by rfl) (aa (pv 0) (aa ac ad))) ad)) (aF (i:=6) v6.nd rfl (Or.inl rfl)) (ah (cW (i8 PySem.F.plainAttrs_list PySem.F.slot_list_append PySem.F.type_list_append cF (pv 5) (aa (ak zG (hr.mono (by decide)) (by rfl) (aa (pv 0) (aa (aj aI (pv 5) (i7 fU ac) (fun _ _=>rfl)) (aa (pv 1) (aa (pv 2) (aa (pv 3) ad)))))) ad))))) (ae (aE (cK (aq aQ (pv 3) aP (ar _)) (cq (aq (gW hr.units0) (aj ai (aj aI (pv 5) (i7 fU ac) (fun _ _=>rfl)) ac (fun _ _=>rfl)) (aA (aa (pv 1) (aa ac ad))) (ar _)))).pt (ah (au (i:=5) v6.nd rfl (Or.inl rfl) (ap nn (pv 5) (ak zd (hr.mono (by decide)) (by rfl) (aa (aj aI (pv 5) (i7 fU ac) (fun _ _=>rfl)) (aa (pv 1) (aa (pv 3) ad))))))) av) (ah (am (pv 5)))))),fun v H1 f1 hv b1 p1=>?_⟩;refine⟨_,rfl,sz (by simp),fun l H3 s3 f3 n3=>?_⟩;have p3:=p1.same s3;have npl:=Pot.ne p1 n3;have nl:H l=none:=b1.none npl n3;have b3:But p H H3:=b1.trans (But.of s3);refine⟨_,rfl,p,_,_,rfl,p3,by omega,⟨by decide,by decide⟩,fun r4 H4 a4 b4' b4 p4=>?_⟩;refine⟨_,rfl,by omega,by omega,?_⟩;refine fJ (n:=r4.toNat) (lo:=0) (fun i σ H5=>∃(qs:List Pr) (w:Pr) (z7:Option V),σ = [some (.ref p),some (.int n),some (.int m),some (.str wy),some (.ref v.p),some (.ref l),z7]∧H5 l=some (.lst (prs (qs++[w])))∧FI H5 n m wy qs w∧(∀f,(qs++[w]).head? = some f->e1B m wy f=true)∧qs.length=i∧But p H H5∧Pot H5 p (k+50+50*(i:Int)))
    ⟨[],v,_,rfl,b4 _ _ npl f3,⟨fun r hr=>by rw[List.mem_singleton.mp hr];exact(f1.t s3.t).t (b4.t p3),rfl⟩,fun f hf=>by cases hf;exact hv,rfl,b3.trans b4,p4.mono (by omega)⟩ ?_ ?_
   ·rintro i σ H5 hi ⟨qs,w,z7,rfl,e5,F5,hd5,hl,b5,p5⟩
    refine⟨_,rfl,.inl ⟨rfl,_,SqL.of e5⟩,_,rfl,_,rfl,_,rfl,l,_,_,_,rfl,rfl,SqL.of e5,k8 qs w,_,rfl,_,rfl,_,rfl,p,w,n,m,_,wy,rfl,p5,by omega,⟨hn0,by omega⟩,⟨hm0,by omega⟩,F5.last,fun r H6 f6 h6 b6 p6=>?_⟩;have e6:=b6 _ _ npl e5;refine⟨l,_,_,rfl,rfl,e6,bJ (by rw[aX,List.length_append];simp only[List.length_cons,List.length_nil];omega),fun H7 u7=>?_⟩;refine⟨qs++[w],r,_,rfl,by rw[u7.now];unfold prs;rw[List.map_append (l₁:=qs++[w])];rfl,(F5.t (b6.t p5)).step u7.t (f6.t u7.t) h6,fun f hf=>hd5 f ?_,by simp[hl],fun b o nb e=>?_,?_⟩
    ·cases qs with
     | nil=>exact hf
     | cons a b=>exact hf
    ·exact u7.at (fun z=>by subst z;rw[nl]at e;cases e) (b6 b o nb (b5 b o nb e))
    ·obtain⟨x,y,z,ep,rest⟩:=p6.mono (k':=k+50+50*((i+1:Nat):Int)) (by omega)
     exact⟨x,y,z,u7.at (Ne.symm npl) ep,rest⟩
   ·rintro σ H5 ⟨qs,w,z7,rfl,e5,F5,hd5,hl,b5,p5⟩
    have hq8:qs.length≤7:=by omega
    have more:∀(H6:Hp),Same H5 H6->(oq (ld (tOp CP (xh 5) (eF AN [] E0 (bP (tOp (CL K) (xh 5) (tUn (rU fun i=>V.int (-i)) (tC (V.int 1)))) (bP (xh 1) (bP (xh 3) fV))))) (gF 5)) (mD (xh 5))) { nx:=fun _ H'=>Q .non H',rt:=Q } [some (.ref p),some (.int n),some (.int m),some (.str wy),some (.ref v.p),some (.ref l),z7] H6:=by
     intro H6 s6;refine⟨_,rfl,_,rfl,_,rfl,l,_,_,_,rfl,rfl,SqL.of (s6 _ _ e5),k8 qs w,_,rfl,_,rfl,w,n,m,wy,rfl,⟨hn0,by omega⟩,⟨hm0,hm1⟩,F5.last.t s6.t,fun l2 qs2 ps2 v2 H7 e7 el7 F7 hz hl7 n7 s7=>?_⟩;refine⟨l,l2,_,_,rfl,rfl,s7 _ _ (s6 _ _ e5),el7,sz (by rw[aX,aX,List.length_append];simp only[List.length_cons,List.length_nil];omega),fun l3 H8 s8 f8 n8=>?_⟩;have F8:=FI.join (F5.t (s6.trans (s7.trans s8)).t) (F7.t s8.t) e7;have ef:prs (qs++[w])++prs ps2=prs (qs++qs2++[v2]):=by
      rw[List.append_assoc,<- e7];unfold prs;simp
     have B7:But p H H7:=b5.trans (But.of (s6.trans s7));have p7:=p5.same (s6.trans s7);refine⟨_,rfl,q l3 _ H8 (F8.pairs (by rw[<- ef];exact f8)) (F8.good (fun f hf=>hd5 f ?_) ?_) ?_ (B7.none (Pot.ne p7 n8) n8) (B7.trans (But.of s8)) ((p7.same s8).mono (by omega))⟩
     ·rw[List.append_assoc,<- e7]at hf
      cases qs with
      | nil=>exact hf
      | cons a b=>exact hf
     ·unfold e2B isP
      rw[hz.1,hz.2];simp
     ·have:=congrArg List.length e7
      simp only[List.length_cons,List.length_append,List.length_nil]at this ⊢;omega
    refine⟨_,rfl,rfl,_,rfl,aw (fun c1=>?_) (fun c1=>?_)⟩
    ·exact more H5 (Same.refl _)
    refine⟨_,rfl,_,rfl,l,_,_,_,rfl,rfl,SqL.of e5,k8 qs w,w.p,_,_,_,rfl,rfl,SqT.of F5.last.e,rfl,_,rfl,sz (by simp),fun t2 H6 s6 f6 _=>?_⟩;refine⟨w.x,t2,[w.a,w.b],[n,1],rfl,rfl,SqT.of (s6 _ _ F5.last.dx.at_),SqT.of f6,_,rfl,?_⟩;show if (!decide ([w.a,w.b] = [n,1]))=true then _ else _
    refine aw (fun c2=>?_) (fun c2=>?_)
    ·exact more H6 s6
    have c2:w.a=n∧w.b=1:=by simpa using c2
    have c1:ptB wy=false:=ds c1;refine⟨_,rfl,q l _ H6 ((F5.t s6.t).pairs (s6 _ _ e5)) (F5.good hd5 ?_) ?_ nl (b5.trans (But.of s6)) ((p5.same s6).mono (by omega))⟩
    ·unfold e2B isP
     rw[c1,c2.1,c2.2];simp
    ·simp only[List.length_append,List.length_cons,List.length_nil]
     omega
  obtain⟨u',hu',fin⟩:=R;refine⟨_,(ae (au (i:=4) v6.nd rfl (Or.inl rfl) (@aA _ _ _ _ _ (@aa _ _ _ _ _ (ak wI (hr.mono (by decide)) (by rfl) (aa (pv 0) (aa (pv 1) (aa (pv 3) ad)))) (@aa _ _ _ _ _ (@aA _ _ _ _ _ (@aa _ _ _ _ _ (pv 2) (@aa _ _ _ _ _ ac ad (by rfl)) (by rfl))) ad (by rfl)) (by rfl)))) (ae (aE (bC (aq dF (pv 3) aP (ar _)) (bE (aq aQ (ak vM (hr.mono (by decide)) (by rfl) (aa (pv 0) (aa ac ad))) ac (ar _)))).pt (ah (au (i:=4) v6.nd rfl (Or.inl rfl) (@aA _ _ _ _ _ (@aa _ _ _ _ _ (@aA _ _ _ _ _ (@aa _ _ _ _ _ ac (@aa _ _ _ _ _ ac ad (by rfl)) (by rfl))) (@aa _ _ _ _ _ (ak wI (hr.mono (by decide)) (by rfl) (aa (pv 0) (aa (pv 2) (aa (pv 3) ad)))) ad (by rfl)) (by rfl))))) av) hu')),?_⟩;refine⟨_,rfl,_,rfl,_,rfl,p,n,_,wy,rfl,pt,by omega,⟨hn0,by omega⟩,fun z t b H1 d1 b1 p1=>?_⟩;refine⟨_,rfl,sz (by simp),fun zm H2 s2 f2 _=>?_⟩;refine⟨sz (by simp),fun pp H3 s3 f3 _=>?_⟩;have S3:Same H1 H3:=s2.trans s3;have p3:=p1.same S3;have b3:But p H H3:=b1.trans (But.of S3);have dm:Dp H3 zm m 1 m wy:=⟨s3 _ _ f2,⟨by decide,Int.gcd_one⟩,hm0,by omega,af (bi (by omega) (by omega)) (by decide),by decide,fun _=>rfl⟩;have fp:Fp H3 ⟨pp,z,zm,t,b,m,1⟩ n m wy:=⟨f3,d1.t' S3.t,dm,fun _=>.inr rfl⟩;have ep:e1B m wy ⟨pp,z,zm,t,b,m,1⟩=true:=by
   unfold e1B isP;simp
  refine⟨_,rfl,rfl,_,rfl,aw (fun c1=>?_) (fun c1=>?_)⟩
  ·have c1:ptB wy=false:=ds (show decide (V.str wy=V.str (Str.ofString "part"))=false by simpa only[Bool.not_eq_true']using c1)
   refine⟨_,rfl,p,_,_,rfl,p3,by omega,⟨by decide,by decide⟩,fun r4 H4 _ _ b4 p4=>?_⟩;refine⟨rfl,_,rfl,aw (fun c2=>?_) (fun c2=>?_)⟩
   ·refine⟨sz (by simp),fun z0 H5 s5 f5 _=>?_⟩
    have p5:=p4.same s5;refine⟨_,rfl,_,rfl,_,rfl,p,m,_,wy,rfl,p5,by omega,⟨hm0,by omega⟩,fun z2 t2 b2 H6 d6 b6 p6=>?_⟩;refine⟨sz (by simp),fun pq H7 s7 f7 _=>?_⟩;have d0:Dp H5 z0 0 1 n wy:=⟨f5,⟨by decide,by decide⟩,by decide,by omega,by decide,by decide,fun _=>rfl⟩;have e0:e1B m wy ⟨pq,z0,z2,0,1,t2,b2⟩=true:=by
     unfold e1B isP;rw[c1];simp
    exact fin ⟨pq,z0,z2,0,1,t2,b2⟩ H7 ⟨f7,(d0.t' (b6.t p5)).t' s7.t,d6.t' s7.t,fun _=>.inl rfl⟩ e0 (b3.trans (b4.trans ((But.of s5).trans (b6.trans (But.of s7))))) ((p6.same s7).mono (by omega))
   ·exact fin _ H4 (fp.t (b4.t p3)) ep (b3.trans b4) (p4.mono (by omega))
  ·exact fin _ H3 fp ep b3 (p3.mono (by omega))
theorem ng{p l:Addr}{H H':Hp}{ps:List Pr}{k:Int}(h:vU H l ps)(b:But p H H')(pt:Pot H p k)(n:l≠p):vU H' l ps:=⟨b l _ n h.lst,fun q hq=>(h.pr q hq).t (b.t pt)⟩
inductive BR (vs:List V) (H:Hp) (Q:VK) (x_3:XK):Prop
 | mk:∀(p:Addr) (k:Int),(vs = [.ref p])->(Pot H p k)->(k≤600000)->(∀(wy:Str) (H':Hp),dG wy->But p H H'->Pot H' p (k+1)->Q (.str wy) H')->BR vs H Q x_3
inductive AT (vs:List V) (H:Hp) (Q:VK) (x_3:XK):Prop
 | mk:∀(a:Addr) (cs:List Int),(vs = [.ref a,.int 3])->(H a=some (.lst (cs.map V.int)))->(cs.length≤100)->(∀(r:Addr) (zs:List Int) (H':Hp),H' r=some (.lst (zs.map V.int))->Same H H'->Q (.ref r) H')->AT vs H Q x_3
theorem kl{H:Hp}:∀{ps rs:List Pr},(∀q∈ps,PrAt H q)->(∀q∈rs,PrAt H q)->prs ps=prs rs->ps=rs
 | [],[],_,_,_=>rfl
 | [],b::s,_,_,e=>by cases e
 | a::r,[],_,_,e=>by cases e
 | a::r,b::s,h1,h2,e=>by
  have e':V.ref a.p::prs r=V.ref b.p::prs s:=e;injection e' with e1 e2;have ih:=kl (fun q hq=>h1 q (List.mem_cons_of_mem _ hq)) (fun q hq=>h2 q (List.mem_cons_of_mem _ hq)) e2;have ha:=h1 a List.mem_cons_self;have hb:=h2 b List.mem_cons_self;injection e1 with e1;obtain⟨p,x,y,a1,a2,a3,a4⟩:=a;obtain⟨p',x',y',b1,b2,b3,b4⟩:=b;dsimp only at e1;subst e1;have q1:=ha.p_;rw[hb.p_]at q1;simp only[Option.some.injEq,HO.tup.injEq,List.cons.injEq,V.ref.injEq,and_true]at q1;obtain⟨rfl,rfl⟩:=q1;have q2:=ha.x_;rw[hb.x_]at q2;have q3:=ha.y_;rw[hb.y_]at q3;simp only[Option.some.injEq,HO.tup.injEq,List.cons.injEq,V.int.injEq,and_true]at q2 q3;obtain⟨rfl,rfl⟩:=q2;obtain⟨rfl,rfl⟩:=q3;rw[ih]
theorem ic{n m:Int}{w:Str}{H:Hp}{l:Addr}{ps:List Pr}{b:Bool}(P:vU H l ps)(h:qA n m w H (.ref l) b):b=bU n m w ps:=by
 rcases h with⟨h1,rfl⟩|⟨l',rs,e,P',rfl⟩
 ·rw[P.pv]at h1
  cases ps with
  | nil=>rfl
  | cons f r =>
   rw[cw,show(f::r).all (inB n m)=false from h1,Bool.false_and]
 ·cases e
  have e2:=P.lst;rw[P'.lst]at e2;have e3:prs rs=prs ps:=by injection e2 with e2;injection e2
  rw[kl P'.pr P.pr e3]
theorem AG:vL ["pot"] ["pot"] (ag (top 102)):=smk
theorem ia(xY:Df K mg "_law_drawn_way" (top 102))(vM:Fn P w K mg base "_law_take" ["pot","size"] 1 Dr.spTk):Fn P w K mg base "_law_drawn_way" ["pot"] 2 BR:=by
 refine xY.fn AG (fun _ _ _ _ _ _ us hl=>by obtain⟨_,rfl⟩:=gE hl;rfl) (fun vs H Q E h=>?_) (fun f cdv A outer s H vs Q E hr h=>?_)
 ·obtain⟨p,k,rfl,_⟩:=h
  rfl
 ·obtain⟨p,k,rfl,pt,hk,q⟩:=h
  refine⟨_,(ah (am (aj aI (bW (aa aP (aa aP (aa aP (aa aP ad))))) (ak vM (hr.mono (by decide)) (by rfl) (aa (pv 0) (aa ac ad))) (fun _ _=>rfl)))),?_⟩;refine⟨sz (by simp),fun lw H1 s1 f1 n1=>?_⟩;have np1:=Pot.ne pt n1;refine⟨_,rfl,p,_,_,rfl,pt.same s1,by omega,⟨by decide,by decide⟩,fun r2 H2 a2 b2' b2 p2=>?_⟩;refine uX (b2 _ _ np1 f1) a2 (by simpa using b2') fun v hv=>?_;have B2:But p H H2:=(But.of s1).trans b2;simp only[List.mem_cons,List.not_mem_nil,or_false]at hv;rcases hv with rfl|rfl|rfl|rfl
  ·exact q _ H2 (.inl rfl) B2 p2
  ·exact q _ H2 (.inr (.inl rfl)) B2 p2
  ·exact q _ H2 (.inr (.inr (.inl rfl))) B2 p2
  ·exact q _ H2 (.inr (.inr (.inr rfl))) B2 p2
theorem x5:vL ["cells","many","found","k","cell"] ["cells","many"] (ag (top 71)):=smk
theorem jE(yW:Df K mg "_law_folded" (top 71))(T:Txt mg):Fn P w K mg base "_law_folded" ["cells","many"] 1 AT:=by
 refine yW.fn x5 (fun _ _ _ _ _ _ us hl=>by obtain⟨_,_,rfl⟩:=cj hl;rfl) (fun vs H Q E h=>?_) (fun f cdv A outer s H vs Q E hr h=>?_)
 ·obtain⟨a,cs,rfl,_⟩:=h
  rfl
 ·obtain⟨a,cs,rfl,ea,hc,q⟩:=h
  refine⟨_,(ae (au (i:=2) x5.nd rfl (Or.inl rfl) (ap rC (bW (aa ac ad)) (aJ (dZ rfl) (by rfl) T.z_min ju (aa (pv 1) (aa (aJ (ik rfl) (by rfl) T.z_max mW (aa ac (aa (aJ bz (by rfl) T.z_len dP (aa (pv 0) ad)) ad))) ad))))) (ae (dh PassesOwn.never rfl (ni rfl T.z_enumerate (aa (pv 0) ad)) (cu rfl (aC (aF (i:=3) x5.nd rfl (Or.inl rfl)) (aC (aF (i:=4) x5.nd rfl (Or.inl rfl)) bK))) (ah (cL (ap aY (ap aG (aj aI (pv 2) (ap cT (pv 3) (aJ bz (by rfl) T.z_len dP (aa (pv 2) ad))) (fun _ _=>rfl)) ac) (pv 4)) (ko (pv 2) (ap cT (pv 3) (aJ bz (by rfl) T.z_len dP (aa (pv 2) ad))) fD)))) (ah (am (pv 2))))),?_⟩;have e63:(2:Int)^63=9223372036854775808:=by decide
  have hcl:(cs.map V.int).length=cs.length:=List.length_map _;refine⟨sz (by simp),fun c1 H1 s1 f1 n1=>?_⟩;refine⟨_,rfl,_,rfl,a,_,rfl,.inl (SqL.of (s1 _ _ ea)),_,_,rfl,_,_,rfl,?_⟩;have hM:1≤(if (if (((cs.map V.int).length:Nat):Int)>1 then (((cs.map V.int).length:Nat):Int) else 1)<3 then (if (((cs.map V.int).length:Nat):Int)>1 then (((cs.map V.int).length:Nat):Int) else 1) else 3)∧(if (if (((cs.map V.int).length:Nat):Int)>1 then (((cs.map V.int).length:Nat):Int) else 1)<3 then (if (((cs.map V.int).length:Nat):Int)>1 then (((cs.map V.int).length:Nat):Int) else 1) else 3)≤3:=by
   split <;> split <;> omega
  generalize (if (if (((cs.map V.int).length:Nat):Int)>1 then (((cs.map V.int).length:Nat):Int) else 1)<3 then (if (((cs.map V.int).length:Nat):Int)>1 then (((cs.map V.int).length:Nat):Int) else 1) else 3)=M at hM
  refine⟨c1,_,_,rfl,rfl,f1,by rw[e63];omega,by rw[e63];omega,sz (by simp;omega),fun r H2 s2 f2 n2=>?_⟩;rw[List.flatten_replicate_singleton,show List.replicate M.toNat (V.int 0)=(List.replicate M.toNat 0).map V.int from List.map_replicate.symm]at f2;have nr:H r=none:=s1.free n2;have ea2:=(s1.trans s2) _ _ ea;have nar:a≠r:=aN ((s1) _ _ ea) n2;refine⟨_,rfl,a,rfl,⟨_,SqL.of ea2⟩,lH (K:=K) (a:=a) (xs:=cs.map V.int) (fun i σ H3=>∃(z1 z2:Option V) (zs:List Int),σ = [some (.ref a),some (.int 3),some (.ref r),z1,z2]∧zs.length=M.toNat∧H3 r=some (.lst (zs.map V.int))∧Same H H3)
   ⟨_,_,_,rfl,by simp,f2,s1.trans s2⟩ (fun i σ H3 _ ⟨_,_,_,_,_,_,s3⟩=>SqL.of (s3 _ _ ea)) ?_ ?_⟩
  ·rintro i x pp σ H3 H4 hx ⟨z1,z2,zs,rfl,hz,e3,s3⟩ s4 f4
   rw[List.getElem?_map]at hx;obtain⟨c,hc',rfl⟩:=Option.map_eq_some_iff.mp hx;have e4:=s4 _ _ e3;have hzl:(((zs.map V.int).length:Nat):Int)=M:=by rw[List.length_map,hz];omega
   have m0:=Int.emod_nonneg (i:Int) (show M≠0 by omega);have m1:=Int.emod_lt_of_pos (i:Int) (show 0<M by omega);refine⟨pp,_,rfl,SqT.of f4,rfl,_,_,rfl,_,_,rfl,rfl,?_⟩;refine⟨_,rfl,_,rfl,_,rfl,r,_,rfl,.inl (SqL.of e4),_,_,rfl,rfl,by rw[hzl];omega,?_⟩;rw[hzl];refine⟨r,_,_,_,rfl,rfl,SqL.of e4,qR ((i:Int) % M).toNat (by omega) (by omega),_,_,rfl,rfl,CM.r ⟨by decide,by decide⟩,_,rfl,_,_,rfl,rfl,?_⟩;refine⟨_,rfl,_,rfl,_,rfl,r,_,rfl,.inl (SqL.of e4),_,_,rfl,rfl,by rw[hzl];omega,?_⟩;rw[hzl];refine⟨r,_,_,_,rfl,rfl,e4,qg m0 (by rw[hzl];exact m1),fun H5 u=>?_⟩;exact⟨_,_,zs.set ((i:Int) % M).toNat (zs[((i:Int) % M).toNat]'(by omega)*7+c),rfl,by rw[List.length_set];exact hz,by rw[u.now,<- List.map_set],u.same (s3.trans s4) nr⟩
  ·rintro σ H3 ⟨z1,z2,zs,rfl,hz,e3,s3⟩
   exact⟨_,rfl,q r zs H3 e3 s3⟩
theorem BW:vL ["pair","later"] ["pair","later"] (ag (top 103)):=smk
theorem lS(zX:Df K mg "_law_back" (top 103))(vN:Fn P w K mg base "_law_below" ["one","other"] 1 wY):Fn P w K mg base "_law_back" ["pair","later"] 2 (zz cP):=by
 refine zX.fn BW (fun _ _ _ _ _ _ us hl=>by obtain⟨_,_,rfl⟩:=cj hl;rfl) (fun vs H Q E h=>?_) (fun f cdv A outer s H vs Q E hr h=>?_)
 ·obtain⟨u,v,rfl,_⟩:=h
  rfl
 ·obtain⟨u,v,rfl,pu,qv,q⟩:=h
  refine⟨_,(ah (am (bZ (d9 (ak vN (hr.mono (by decide)) (by rfl) (aa (aj ai (pv 0) ac (fun _ _=>rfl)) (aa (aj ai (pv 1) ac (fun _ _=>rfl)) ad)))) (bG (d9 (ak vN (hr.mono (by decide)) (by rfl) (aa (aj ai (pv 1) ac (fun _ _=>rfl)) (aa (aj ai (pv 0) ac (fun _ _=>rfl)) ad)))))))),?_⟩;unfold cP ltB at q;have b:=lz pu qv;refine⟨_,rfl,u.p,_,_,_,rfl,rfl,SqT.of pu.p_,rfl,_,rfl,v.p,_,_,_,rfl,rfl,SqT.of qv.p_,rfl,u.x,v.x,_,_,_,_,rfl,pu.x_,qv.x_,b.1,_,rfl,_,rfl,aw (fun h1=>?_) (fun h1=>?_)⟩
  ·have y:=q H (Same.refl _)
   rw[h1,Bool.true_and]at y;exact⟨_,rfl,v.p,_,_,_,rfl,rfl,SqT.of qv.p_,rfl,_,rfl,u.p,_,_,_,rfl,rfl,SqT.of pu.p_,rfl,v.y,u.y,_,_,_,_,rfl,qv.y_,pu.y_,b.2,_,rfl,y⟩
  ·have y:=q H (Same.refl _)
   rw[h1,Bool.false_and]at y;exact y
theorem uK(x:Int):0≤x*x:=by
 rcases Int.le_total 0 x with h|h
 ·exact Int.mul_nonneg h h
 ·have:=Int.mul_nonneg (show 0≤-x by omega) (show 0≤-x by omega)
  rw[Int.neg_mul_neg]at this;exact this
theorem uY(x y b r:Int):x*(b - r)+y*r=x*b+(y - x)*r:=by grind
theorem bQ{b d:Int}(hb:0<b)(hd:0<d):0<sqD b d:=Int.mul_pos (Int.mul_pos hb hd) (Int.mul_pos hb hd)
theorem tH(qs:Crn)(t b:Int)(rs:Crn)(t' b':Int):0≤sqF qs t b rs t' b':=by
 unfold sqF sqN;exact Int.add_nonneg (uK _) (uK _)
structure CU(H:Hp)(l:Addr)(fs:Crn):Prop where
 lst:H l=some (.lst (fs.map fun q=>V.ref q.1))
 fr:∀q∈fs,H q.1=some (.tup [.int q.2.1,.int q.2.2])∧0<q.2.2∧ao q.2.1≤2200∧ao q.2.2≤2200
theorem CU.mono{H H':Hp}{l:Addr}{fs:Crn}(L:CU H l fs)(s:Same H H'):CU H' l fs:=⟨s _ _ L.lst,fun q h=>⟨s _ _ (L.fr q h).1,(L.fr q h).2⟩⟩
def leF(p q:Addr×Int×Int):Prop:=p.2.1*q.2.2≤q.2.1*p.2.2
theorem jY{p q r:Addr×Int×Int}(hq:0<q.2.2)(hp:0<p.2.2)(hr:0<r.2.2)(h1:leF p q)(h2:leF q r):leF p r:=by
 unfold leF at *;refine Int.le_of_mul_le_mul_left (a:=q.2.2) ?_ hq;have a1:p.2.1*q.2.2*r.2.2≤q.2.1*p.2.2*r.2.2:=Int.mul_le_mul_of_nonneg_right h1 (by omega);have a2:q.2.1*r.2.2*p.2.2≤r.2.1*q.2.2*p.2.2:=Int.mul_le_mul_of_nonneg_right h2 (by omega);have e1:q.2.2*(p.2.1*r.2.2)=p.2.1*q.2.2*r.2.2:=by grind
 have e2:q.2.2*(r.2.1*p.2.2)=r.2.1*q.2.2*p.2.2:=by grind
 have e3:q.2.1*p.2.2*r.2.2=q.2.1*r.2.2*p.2.2:=by grind
 rw[e1,e2];rw[e3]at a1;exact Int.le_trans a1 a2
theorem iH{α β:Type}:∀(xs:List α) (R:Nat->α->β->Prop),(∀i x,xs[i]? = some x->∃b,R i x b)->∃bs:List β,bs.length=xs.length∧∀i x b,xs[i]? = some x->bs[i]? = some b->R i x b
 | [],R,_=>⟨[],rfl,fun i x b h=>by simp at h⟩
 | a::r,R,h=>by
  obtain⟨bs,hl,hb⟩:=iH r (fun i=>R (i+1)) (fun i x hx=>h (i+1) x (by simpa using hx));obtain⟨b0,h0⟩:=h 0 a rfl;refine⟨b0::bs,by simp[hl],fun i x b hx hb'=>?_⟩;cases i with
  | zero=>cases hx;cases hb';exact h0
  | succ i=>exact hb i x b (by simpa using hx) (by simpa using hb')
theorem hV{α β:Type}{xs:List α}{ys:List β}{i:Nat}{x:α}(hl:ys.length=xs.length)(h:xs[i]? = some x):∃y,ys[i]? = some y:=by
 have:=(List.getElem?_eq_some_iff.mp h).1;exact⟨ys[i],List.getElem?_eq_getElem (by omega)⟩
theorem mL{ys:List V}{gs:Crn}(hl:gs.length=ys.length)(h:∀(i:Nat) x g,ys[i]? = some x->gs[i]? = some g->x = .ref g.1):ys=gs.map fun q=>V.ref q.1:=by
 refine List.ext_getElem? fun i=>?_;rw[List.getElem?_map]
 by_cases hi:i<ys.length
 ·rw[List.getElem?_eq_getElem hi,List.getElem?_eq_getElem (show i<gs.length by omega),h i _ _ (List.getElem?_eq_getElem hi) (List.getElem?_eq_getElem (show i<gs.length by omega))]
  rfl
 ·rw[List.getElem?_eq_none (by omega),List.getElem?_eq_none (by omega)]
  rfl
inductive Cg (vs:List V) (H:Hp) (Q:VK) (x_3:XK):Prop
 | mk:∀(l:Addr) (fs:Crn),(vs = [.ref l])->(CU H l fs)->((1≤fs.length∧fs.length<900))->(∀(k:Nat) (p:Addr×Int×Int) (H':Hp),fs[k]? = some p->(∀q∈fs,leF p q)->(∀(j:Nat) q,j<k->fs[j]? = some q->¬leF q p)->Same H H'->Q (.int (k:Int)) H')->Cg vs H Q x_3
theorem m9{x:Int}(h:Sm x):ao x≤50:=by
 have h':-999999999999≤x∧x≤999999999999:=h;exact dn (n:=50) (by show _<1125899906842624;omega)
theorem _root_.Sp7.LineM.la{H:Hp}{l:Addr}{qs:Crn}(L:LineM H l qs):vR H l qs:=⟨L.lst,fun q hq=>⟨(L.crn q hq).1,m9 (L.crn q hq).2.1,m9 (L.crn q hq).2.2⟩⟩
theorem _root_.Wk.PrAt.plx{H:Hp}{q:Pr}{n m:Int}(h:PrAt H q)(hi:inB n m q=true)(hn:n≤100):zw H q.x q.a q.b n:=by
 unfold inB at hi;rw[Bool.and_eq_true,decide_eq_true_eq,decide_eq_true_eq]at hi;have hb:0<q.b:=h.lx.pos;refine⟨h.x_,h.lx,h.nx,hi.1,?_,af h.bb (by decide)⟩;have h2:n*q.b≤100*q.b:=Int.mul_le_mul_of_nonneg_right hn (by omega);have h3:ao (100*q.b)≤7+60:=bits_mul (by decide) h.bb;exact af (cG h.nx (by omega) h3) (by decide)
theorem _root_.Wk.PrAt.ply{H:Hp}{q:Pr}{n m:Int}(h:PrAt H q)(hi:inB n m q=true)(hm:m≤100):zw H q.y q.c q.d m:=by
 unfold inB at hi;rw[Bool.and_eq_true,decide_eq_true_eq,decide_eq_true_eq]at hi;have hb:0<q.d:=h.ly.pos;refine⟨h.y_,h.ly,h.ny,hi.2,?_,af h.bd (by decide)⟩;have h2:m*q.d≤100*q.d:=Int.mul_le_mul_of_nonneg_right hm (by omega);have h3:ao (100*q.d)≤7+60:=bits_mul (by decide) h.bd;exact af (cG h.ny (by omega) h3) (by decide)
inductive AO (vs:List V) (H:Hp) (Q:VK) (x_3:XK):Prop
 | mk:∀(l p l' p':Addr) (qs qs':Crn) (t b t' b':Int),(vs = [.ref l,.ref p,.ref l',.ref p'])->(vR H l qs)->(vR H l' qs')->((1≤qs.length∧qs.length≤20))->((1≤qs'.length∧qs'.length≤20))->(zw H p t b (aH qs))->(zw H p' t' b' (aH qs'))->(∀(r:Addr) (s w:Int) (H':Hp),vP (sqF qs t b qs' t' b') (sqD b b') s w->yE H' r s w 1100->Same H H'->Q (.ref r) H')->AO vs H Q x_3
theorem eS(qs:Crn)(t b:Int)(rs:Crn)(t' b':Int):sqF qs t b rs t' b'=sqF rs t' b' qs t b:=by
 unfold sqF sqN
 grind
theorem eT(b d:Int):sqD b d=sqD d b:=by
 unfold sqD
 grind
theorem mV{F D s w s0 w0:Int}(hD:0<D)(hw0:0<w0)(e:F*w0=s0*D)(h:s*D≤F*w):s*w0≤s0*w:=by
 have h1:=Int.mul_le_mul_of_nonneg_right h (show 0≤w0 by omega);have e1:F*w*w0=s0*w*D:=by
  rw[show F*w*w0=F*w0*w by grind,e]
  grind
 refine Int.le_of_mul_le_mul_right (a:=D) ?_ hD;rw[<- e1];rw[show s*w0*D=s*D*w0 by grind];exact h1
theorem mU{F D s w s0 w0:Int}(hw0:0<w0)(hw:0<w)(hD:0<D)(h0:s0*D≤F*w0)(h:s*w0≤s0*w):s*D≤F*w:=by
 refine Int.le_of_mul_le_mul_right (a:=w0) ?_ hw0;have h1:=Int.mul_le_mul_of_nonneg_right h (show 0≤D by omega);have h2:=Int.mul_le_mul_of_nonneg_right h0 (show 0≤w by omega);rw[show s*D*w0=s*w0*D by grind,show F*w*w0=F*w0*w by grind];rw[show s0*w*D=s0*D*w by grind]at h1;exact Int.le_trans h1 h2
structure v0(qs rs:Crn)(S:Int->Int->Int->Int->Prop)(s w:Int):Prop where
 low:wS s w
 least:∀a b c d,wS a b->wS c d->S a b c d->s*sqD b d≤sqF qs a b rs c d*w
 att:∃a b c d,wS a b∧wS c d∧S a b c d∧sqF qs a b rs c d*w=s*sqD b d
theorem v0.uniq{qs rs:Crn}{S:Int->Int->Int->Int->Prop}{s w s' w':Int}(h:v0 qs rs S s w)(h':v0 qs rs S s' w'):s=s'∧w=w':=by
 refine bq h.low h'.low (Int.le_antisymm ?_ ?_)
 ·obtain⟨a,b,c,d,l1,l2,hs,e⟩:=h'.att
  exact mV (bQ l1.pos l2.pos) h'.low.pos e (h.least a b c d l1 l2 hs)
 ·obtain⟨a,b,c,d,l1,l2,hs,e⟩:=h.att
  exact mV (bQ l1.pos l2.pos) h.low.pos e (h'.least a b c d l1 l2 hs)
theorem v0.congr{qs rs:Crn}{S S':Int->Int->Int->Int->Prop}{s w:Int}(h:v0 qs rs S s w)(e:∀a b c d,wS a b->wS c d->(S a b c d↔S' a b c d)):v0 qs rs S' s w:=by
 refine⟨h.low,fun a b c d l1 l2 hs=>h.least a b c d l1 l2 ((e a b c d l1 l2).mpr hs),?_⟩;obtain⟨a,b,c,d,l1,l2,hs,z⟩:=h.att;exact⟨a,b,c,d,l1,l2,(e a b c d l1 l2).mp hs,z⟩
theorem v0.swap{qs rs:Crn}{S:Int->Int->Int->Int->Prop}{s w:Int}(h:v0 rs qs S s w):v0 qs rs (fun a b c d=>S c d a b) s w:=by
 refine⟨h.low,fun a b c d l1 l2 hs=>?_,?_⟩
 ·have:=h.least c d a b l2 l1 hs
  rw[eS,eT];exact this
 ·obtain⟨a,b,c,d,l1,l2,hs,z⟩:=h.att
  refine⟨c,d,a,b,l2,l1,hs,?_⟩;rw[eS,eT];exact z
theorem v0.two{qs rs:Crn}{S S':Int->Int->Int->Int->Prop}{s w s' w':Int}(h:v0 qs rs S s w)(h':v0 qs rs S' s' w')(le:s*w'≤s'*w):v0 qs rs (fun a b c d=>S a b c d∨S' a b c d) s w:=by
 refine⟨h.low,fun a b c d l1 l2 hs=>?_,?_⟩
 ·rcases hs with hs|hs
  ·exact h.least a b c d l1 l2 hs
  ·exact mU h'.low.pos h.low.pos (bQ l1.pos l2.pos) (h'.least a b c d l1 l2 hs) le
 ·obtain⟨a,b,c,d,l1,l2,hs,z⟩:=h.att
  exact⟨a,b,c,d,l1,l2,.inl hs,z⟩
theorem v0.pick{qs rs:Crn}{S S':Int->Int->Int->Int->Prop}{s w s' w':Int}{p p':Addr}{H:Hp}(h:v0 qs rs S s w)(h':v0 qs rs S' s' w')(f:yE H p s w 1100)(f':yE H p' s' w' 1100) :
  ∃(r:Addr) (u v:Int),(if ltB s' w' s w=true then p' else p)=r∧yE H r u v 1100∧v0 qs rs (fun a b c d=>S a b c d∨S' a b c d) u v:=by
 cases hl:ltB s' w' s w with
 | true =>
  have hl:s'*w<s*w':=aR hl;exact⟨p',s',w',if_pos rfl,f',(h'.two h (by omega)).congr fun a b c d _ _=>Or.comm⟩
 | false =>
  have hl:¬s'*w<s*w':=bI hl;exact⟨p,s,w,if_neg (by decide),f,h.two h' (by omega)⟩
def One(t b t' b':Int)(a b0 c d:Int):Prop:=(a=t∧b0=b)∧c=t'∧d=b'
theorem ee{qs rs:Crn}{t b t' b' s w:Int}(l:wS t b)(l':wS t' b')(f:vP (sqF qs t b rs t' b') (sqD b b') s w):v0 qs rs (One t b t' b') s w:=by
 refine⟨f.low,?_,t,b,t',b',l,l',⟨⟨rfl,rfl⟩,rfl,rfl⟩,f.eq⟩;rintro a b0 c d _ _ ⟨⟨rfl,rfl⟩,rfl,rfl⟩;exact Int.le_of_eq f.eq.symm
def btw(p q r s c d:Int):Prop:=(p*d≤c*q∧c*s≤r*d)∨(r*d≤c*s∧c*q≤p*d)
def Seg(t b l1 l2 h1 h2:Int)(a b' c d:Int):Prop:=(a=t∧b'=b)∧l1*d≤c*l2∧c*h2≤h1*d
def Box(u v:Pr)(a b c d:Int):Prop:=btw u.a u.b v.a v.b a b∧btw u.c u.d v.c v.d c d
theorem qJ{p q r s c d:Int}:btw p q r s c d↔btw r s p q c d:=Or.comm
theorem qI{p q r s c d:Int}(hq:0<q)(hs:0<s)(hd:0<d)(hle:p*s≤r*q):btw p q r s c d↔(p*d≤c*q∧c*s≤r*d):=by
 refine⟨fun h=>?_,fun h=>.inl h⟩;rcases h with h|⟨h1,h2⟩
 ·exact h
 have m:=Int.mul_le_mul_of_nonneg_right hle (show 0≤d by omega);have m1:=Int.mul_le_mul_of_nonneg_right h1 (show 0≤q by omega);have m2:=Int.mul_le_mul_of_nonneg_right h2 (show 0≤s by omega);constructor
 ·refine Int.le_of_mul_le_mul_right (a:=s) ?_ hs
  rw[show p*d*s=p*s*d by grind,show c*q*s=c*s*q by grind];rw[show r*q*d=r*d*q by grind]at m;exact Int.le_trans m m1
 ·refine Int.le_of_mul_le_mul_right (a:=q) ?_ hq
  rw[show c*s*q=c*q*s by grind,show r*d*q=r*q*d by grind];rw[show p*s*d=p*d*s by grind]at m;exact Int.le_trans m2 m
theorem mh{p q c d:Int}(l:wS p q)(l':wS c d):btw p q p q c d↔(c=p∧d=q):=by
 constructor
 ·intro h
  have e:c*q=p*d:=by
   rcases h with h|h <;> omega
  exact bq l' l e
 ·rintro⟨rfl,rfl⟩
  exact .inl ⟨Int.le_refl _,Int.le_refl _⟩
def eP(c1 c2 e1 e2 l1 l2 h1 h2:Int):Prop:=l1*h2≤h1*l2∧((l1=c1∧l2=c2∧h1=e1∧h2=e2)∨(l1=e1∧l2=e2∧h1=c1∧h2=c2))
theorem l6{c1 c2 e1 e2 l1 l2 h1 h2 c d:Int}(hc:0<c2)(he:0<e2)(hd:0<d)(E:eP c1 c2 e1 e2 l1 l2 h1 h2):btw c1 c2 e1 e2 c d↔(l1*d≤c*l2∧c*h2≤h1*d):=by
 obtain⟨hle,h|h⟩:=E
 ·obtain⟨rfl,rfl,rfl,rfl⟩:=h
  exact qI hc he hd hle
 ·obtain⟨rfl,rfl,rfl,rfl⟩:=h
  rw[qJ];exact qI he hc hd hle
theorem qM{H:Hp}{u v:Pr}{l1 l2 h1 h2:Int}(pu:PrAt H u)(pv:PrAt H v)(e1:u.a=v.a)(e2:u.b=v.b)(E:eP u.c u.d v.c v.d l1 l2 h1 h2):∀a b c d,wS a b->wS c d->(Seg u.a u.b l1 l2 h1 h2 a b c d↔Box u v a b c d):=fun a b c d lab lcd=>by
 unfold Seg Box;rw[<- e1,<- e2,mh pu.lx lab,l6 pu.ly.pos pv.ly.pos lcd.pos E]
theorem qL{H:Hp}{u v:Pr}{l1 l2 h1 h2:Int}(pu:PrAt H u)(pv:PrAt H v)(e1:u.c=v.c)(e2:u.d=v.d)(E:eP u.a u.b v.a v.b l1 l2 h1 h2):∀a b c d,wS a b->wS c d->(Seg u.c u.d l1 l2 h1 h2 c d a b↔Box u v a b c d):=fun a b c d lab lcd=>by
 unfold Seg Box;rw[<- e1,<- e2,mh pu.ly lcd,l6 pu.lx.pos pv.lx.pos lab.pos E];exact And.comm
theorem dr{n:Nat}{l1 l2 h1 h2:Int}(Ll:wS l1 l2)(Lh:wS h1 h2)(l0:0≤l1)(hn:h1≤((n:Int) - 1)*h2)(sh:aK l1 l2 h1 h2=true)(hle:l1*h2≤h1*l2):InS n l1 l2 h1 h2:=by
 have hl:(0:Int)<l2:=Ll.pos;have hh:(0:Int)<h2:=Lh.pos
 by_cases e:l1*h2=h1*l2
 ·exact .inl (bq Ll Lh e)
 have lt:l1*h2<h1*l2:=by omega
 have q0:=eK hl l0;have q1:=bR (a:=l1) hl;unfold aK at sh;rw[if_neg (by omega)]at sh;have hi:h1≤(l1 / l2+1)*h2:=by
  have:¬(l1 / l2+1)*h2<h1*1:=by simpa using sh
  omega
 have kn:l1 / l2<(n:Int) - 1:=by
  by_cases c:l1 / l2<(n:Int) - 1
  ·exact c
  ·exfalso
   have c1:=Int.mul_le_mul_of_nonneg_right (show(n:Int) - 1≤l1 / l2 by omega) (show 0≤h2 by omega);have c2:=Int.mul_le_mul_of_nonneg_right (Int.le_trans hn c1) (show 0≤l2 by omega);have c3:=Int.mul_le_mul_of_nonneg_right q1 (show 0≤h2 by omega);rw[show l1 / l2*h2*l2=l1 / l2*l2*h2 by grind]at c2;omega
 refine .inr ⟨(l1 / l2).toNat,by omega,?_,lt,?_⟩
 ·rw[show(((l1 / l2).toNat:Nat):Int)=l1 / l2 by omega]
  exact q1
 ·rw[show(((l1 / l2).toNat:Nat):Int)=l1 / l2 by omega]
  exact hi
theorem fW{a b c d:Int}(hb:0<b)(hd:0<d)(la:wS a b)(lc:wS c d):aK a b c d=aK c d a b:=by
 unfold aK
 by_cases h:c*b<a*d
 ·rw[if_pos h,if_neg (by omega)]
 ·rw[if_neg h]
  by_cases h2:a*d<c*b
  ·rw[if_pos h2]
  ·rw[if_neg h2]
   obtain⟨rfl,rfl⟩:=bq la lc (by omega);rfl
theorem kY{c1 c2 e1 e2:Int}(le:¬e1*c2<c1*e2):eP c1 c2 e1 e2 c1 c2 e1 e2:=⟨by omega,.inl ⟨rfl,rfl,rfl,rfl⟩⟩
theorem kX{c1 c2 e1 e2:Int}(le:e1*c2<c1*e2):eP c1 c2 e1 e2 e1 e2 c1 c2:=⟨by omega,.inr ⟨rfl,rfl,rfl,rfl⟩⟩
theorem jX{qs qs':Crn}{t b l1 l2 h1 h2 T B s w:Int}(lt:wS t b)(Ll:wS l1 l2)(Lh:wS h1 h2)(hB:wS T B)(h:LPc (ptX qs t b) (ptY qs t b) b qs' l1 l2 h1 h2 T B)(f:vP (sqF qs t b qs' T B) (sqD b B) s w)
  (t0:l1*B≤T*l2) (t1:T*h2≤h1*B):v0 qs qs' (Seg t b l1 l2 h1 h2) s w:=by
 refine⟨f.low,?_,t,b,T,B,lt,hB,⟨⟨rfl,rfl⟩,t0,t1⟩,f.eq⟩;rintro a b' c d _ lcd ⟨⟨rfl,rfl⟩,a1,a2⟩;have:=tY lt.pos Ll Lh hB lcd h a1 a2 f t0 t1;omega
theorem su{X Y b:Int}{qs:Crn}{l1 l2 h1 h2 f0 f1:Int}{k:Nat}(hb:0<b)(Ll:wS l1 l2)(Lh:wS h1 h2)(Lf:wS f0 f1)(st:BU qs.length k l1 l2 h1 h2)(hf:kL qs k=0∨(kL qs k≠0∧(kA X Y b qs k+(k:Int)*(kL qs k*b))*f1=f0*(kL qs k*b))) :
  LPc X Y b qs l1 l2 h1 h2 l1 l2∨LPc X Y b qs l1 l2 h1 h2 h1 h2∨(LPc X Y b qs l1 l2 h1 h2 f0 f1∧l1*f1<f0*l2∧f0*h2<h1*f1):=by
 have hl:(0:Int)<l2:=Ll.pos;have hh:(0:Int)<h2:=Lh.pos;have hf1:(0:Int)<f1:=Lf.pos;rcases hf with z|⟨nz,e⟩
 ·exact .inl (.inr ⟨k,st,.inl ⟨rfl,rfl,.inl z⟩⟩)
 by_cases c1:kA X Y b qs k*l2<(l1 - (k:Int)*l2)*(kL qs k*b)
 ·exact .inl (.inr ⟨k,st,.inl ⟨rfl,rfl,.inr c1⟩⟩)
 by_cases c2:(h1 - (k:Int)*h2)*(kL qs k*b)<kA X Y b qs k*h2
 ·exact .inr (.inl (.inr ⟨k,st,.inr (.inl ⟨rfl,rfl,nz,c1,c2⟩)⟩))
 have hL:=lE qs k;have hLb:0<kL qs k*b:=Int.mul_pos (by omega) hb;have mid:∀{T B:Int},T*f1=f0*B->(T - (k:Int)*B)*(kL qs k*b)=kA X Y b qs k*B:=fun {T B} et=>by
  refine Int.eq_of_mul_eq_mul_right (a:=f1) (by omega) ?_;generalize kA X Y b qs k=al at *;generalize kL qs k*b=Lb at *;have e1:(T - (k:Int)*B)*Lb*f1=T*f1*Lb - (k:Int)*B*Lb*f1:=by grind
  rw[e1,et];have e2:f0*B*Lb=B*(f0*Lb):=by grind
  rw[e2,<- e]
  grind
 have g1:l1*f1≤f0*l2:=by
  refine Int.le_of_mul_le_mul_right (a:=kL qs k*b) ?_ hLb;have m:=Int.mul_le_mul_of_nonneg_right (Int.not_lt.mp c1) (show 0≤f1 by omega);generalize kA X Y b qs k=al at *;generalize kL qs k*b=Lb at *;have e1:f0*l2*Lb=l2*(f0*Lb):=by grind
  rw[e1,<- e]
  grind
 have g2:f0*h2≤h1*f1:=by
  refine Int.le_of_mul_le_mul_right (a:=kL qs k*b) ?_ hLb;have m:=Int.mul_le_mul_of_nonneg_right (Int.not_lt.mp c2) (show 0≤f1 by omega);generalize kA X Y b qs k=al at *;generalize kL qs k*b=Lb at *;have e1:f0*h2*Lb=h2*(f0*Lb):=by grind
  rw[e1,<- e]
  grind
 have lpc:∀{T B:Int},T*f1=f0*B->LPc X Y b qs l1 l2 h1 h2 T B:=fun et=>.inr ⟨k,st,.inr (.inr ⟨nz,c1,c2,mid et⟩)⟩
 by_cases g3:l1*f1=f0*l2
 ·exact .inl (lpc g3)
 by_cases g4:f0*h2=h1*f1
 ·exact .inr (.inl (lpc (by omega)))
 exact .inr (.inr ⟨lpc rfl,by omega,by omega⟩)
theorem lI{qs qs':Crn}{t b l1 l2 h1 h2 f0 f1 s w:Int}(lt:wS t b)(Ll:wS l1 l2)(Lh:wS h1 h2)(Lf:wS f0 f1)(hle:l1*h2≤h1*l2)
  (hf:LPc (ptX qs t b) (ptY qs t b) b qs' l1 l2 h1 h2 l1 l2∨LPc (ptX qs t b) (ptY qs t b) b qs' l1 l2 h1 h2 h1 h2∨(LPc (ptX qs t b) (ptY qs t b) b qs' l1 l2 h1 h2 f0 f1∧l1*f1<f0*l2∧f0*h2<h1*f1))
  (S:Int->Int->Int->Int->Prop) (m:v0 qs qs' S s w) (sub:∀a b' c d,wS a b'->wS c d->S a b' c d->Seg t b l1 l2 h1 h2 a b' c d) (i1:S t b l1 l2) (i2:S t b h1 h2) (i3:l1*f1<f0*l2->f0*h2<h1*f1->S t b f0 f1):v0 qs qs' (Seg t b l1 l2 h1 h2) s w:=by
 have key:∀{T B:Int},wS T B->LPc (ptX qs t b) (ptY qs t b) b qs' l1 l2 h1 h2 T B->l1*B≤T*l2->T*h2≤h1*B->S t b T B->v0 qs qs' (Seg t b l1 l2 h1 h2) s w:=fun {T B} LB lp t0 t1 hs=>by
  have hD:=bQ lt.pos LB.pos;have fr:=fA (a:=sqF qs t b qs' T B) hD;have mm:=jX lt Ll Lh LB lp fr t0 t1;have h1:=mV hD fr.low.pos fr.eq (m.least t b T B lt LB hs);refine⟨m.low,fun a b' c d l1' l2' hs'=>mU fr.low.pos m.low.pos (bQ l1'.pos l2'.pos) (mm.least a b' c d l1' l2' hs') h1,?_⟩;obtain⟨a,b',c,d,l1',l2',hs',z⟩:=m.att;exact⟨a,b',c,d,l1',l2',sub a b' c d l1' l2' hs',z⟩
 rcases hf with h|h|⟨h,g1,g2⟩
 ·exact key Ll h (Int.le_refl _) hle i1
 ·exact key Lh h hle (Int.le_refl _) i2
 ·exact key Lf h (by omega) (by omega) (i3 g1 g2)
theorem na{u v:Pr}(h:cg u v=true)(hu:0<u.d)(e:u.a=v.a∧u.b=v.b):aK u.c u.d v.c v.d=true:=by
 unfold cg at h;rw[Bool.or_eq_true]at h;rcases h with h|h
 ·unfold eJ at h
  rw[Bool.and_eq_true,Bool.and_eq_true]at h;exact h.2.2
 ·unfold fS at h
  rw[Bool.and_eq_true,Bool.and_eq_true]at h;have z:=of_decide_eq_true h.1;simp only[List.cons.injEq,and_true]at z;rw[<- z.1,<- z.2];exact bF (k:=u.c / u.d) hu hu (bR hu) (by have:=cv (a:=u.c) hu;omega) (bR hu) (by have:=cv (a:=u.c) hu;omega)
theorem qX{u v:Pr}(h:cg u v=true)(e:¬(u.a=v.a∧u.b=v.b)):(u.c=v.c∧u.d=v.d)∧aK u.a u.b v.a v.b=true:=by
 unfold cg at h;rw[Bool.or_eq_true]at h;rcases h with h|h
 ·unfold eJ at h
  rw[Bool.and_eq_true]at h;have z:=of_decide_eq_true h.1;simp only[List.cons.injEq,and_true]at z;exact absurd z e
 ·unfold fS at h
  rw[Bool.and_eq_true,Bool.and_eq_true]at h;have z:=of_decide_eq_true h.1;simp only[List.cons.injEq,and_true]at z;exact⟨z,h.2.2⟩
def msB(wy:Str)(u v:Pr):Bool:=if wy=aB then false else (decide (wy=aL) || !cP u v)
theorem ls{wy:Str}{u v:Pr}(h:msB wy u v=true)(hm:cO wy u v=true):cg u v=true:=by
 unfold msB at h;unfold cO at hm
 by_cases h1:wy=aB
 ·rw[if_pos h1]at h
  cases h
 rw[if_neg h1]at h hm
 by_cases h2:wy=aL
 ·rw[if_pos h2]at hm
  exact hm
 ·rw[if_neg h2]at hm
  rw[decide_eq_false h2,Bool.false_or]at h;have h:cP u v=false:=by simpa using h
  rw[h,Bool.false_or]at hm;exact hm
def FS(wy:Str)(ps:List Pr)(a b c d:Int):Prop:=(∃q∈ps,One q.a q.b q.c q.d a b c d)∨∃(j:Nat) (u v:Pr),ps[j]? = some u∧ps[j+1]? = some v∧msB wy u v=true∧Box u v a b c d
theorem j8{n m:Int}{w:Str}{ps:List Pr}(h:bU n m w ps=true):ps≠[]∧(∀q∈ps,inB n m q=true)∧bo w ps=true:=by
 obtain⟨f,l,h1,h2,h3,h4,h5,h6⟩:=ie.mp h;exact⟨(fun z=>by rw[z]at h1;cases h1),List.all_eq_true.mp h3,h6⟩
inductive Cz (vs:List V) (H:Hp) (Q:VK) (x_3:XK):Prop
 | mk:∀(u v:Pr) (wy:Str),(vs = [.ref u.p,.ref v.p,.str wy])->(PrAt H u)->(PrAt H v)->(∀H',Same H H'->Q (.bl (msB wy u v)) H')->Cz vs H Q x_3
inductive Dg (vs:List V) (H:Hp) (Q:VK) (x_3:XK):Prop
 | mk:∀(l l' p q q':Addr) (qs qs':Crn) (t b c1 c2 e1 e2:Int),(vs = [.ref l,.ref p,.ref l',.ref q,.ref q'])->((vR H l qs∧1≤qs.length∧qs.length≤20))->((vR H l' qs'∧1≤qs'.length∧qs'.length≤20))->((zw H p t b (aH qs)∧ao b≤60))->((zw H q c1 c2 (aH qs')∧ao c2≤60))->((zw H q' e1 e2 (aH qs')∧ao e2≤60))->(aK c1 c2 e1 e2=true)->(∀(r:Addr) (s w l1 l2 h1 h2:Int) (H':Hp),yE H' r s w 2103->eP c1 c2 e1 e2 l1 l2 h1 h2->v0 qs qs' (Seg t b l1 l2 h1 h2) s w->Same H H'->Q (.ref r) H')->Dg vs H Q x_3
inductive zr (n:Nat) (vs:List V) (H:Hp) (Q:VK) (x_3:XK):Prop
 | mk:∀(l1 l2:Addr) (qs rs:Crn) (u v:Pr),(vs = [.ref l1,.ref l2,.ref u.p,.ref v.p])->((vR H l1 qs∧1≤qs.length∧qs.length≤20))->((vR H l2 rs∧1≤rs.length∧rs.length≤20))->((PrAt H u∧inB (aH qs) (aH rs) u=true))->((PrAt H v∧inB (aH qs) (aH rs) v=true))->(cg u v=true)->(∀(r:Addr) (s w:Int) (H':Hp),yE H' r s w n->v0 qs rs (Box u v) s w->Same H H'->Q (.ref r) H')->zr n vs H Q x_3
inductive De (vs:List V) (H:Hp) (Q:VK) (x_3:XK):Prop
 | mk:∀(l1 l2 l:Addr) (qs rs:Crn) (ps:List Pr) (wy:Str),(vs = [.ref l1,.ref l2,.ref l,.str wy])->((vR H l1 qs∧1≤qs.length∧qs.length≤20))->((vR H l2 rs∧1≤rs.length∧rs.length≤20))->(vU H l ps)->(ps.length<400)->((ps≠[]∧(∀q∈ps,inB (aH qs) (aH rs) q=true)∧bo wy ps=true))->(∀(r:Addr) (gs:Crn) (H':Hp),CU H' r gs->(1≤gs.length∧gs.length<900)->(∀g∈gs,ao g.2.1≤2103∧ao g.2.2≤2103∧∃S,v0 qs rs S g.2.1 g.2.2∧∀a b c d,S a b c d->FS wy ps a b c d)->(∀a b c d,FS wy ps a b c d->∃g∈gs,∃S,v0 qs rs S g.2.1 g.2.2∧S a b c d)->Same H H'->Q (.ref r) H')->De vs H Q x_3
inductive CI (C:Addr) (vs:List V) (H:Hp) (Q:VK) (E:XK):Prop
 | mk:∀(l1 l2 l:Addr) (qs rs:Crn) (ps:List Pr) (wy:Str),(vs = [.ref l1,.ref l2,.ref l,.str wy])->((vR H l1 qs∧1≤qs.length∧qs.length≤20))->((vR H l2 rs∧1≤rs.length∧rs.length≤20))->(vU H l ps)->(ps.length<400)->(dG wy)->((bU (aH qs) (aH rs) wy ps=false->∀H',Same H H'->E (.ref C) none H'))->((bU (aH qs) (aH rs) wy ps=true->∀(r:Addr) (s w:Int) (H':Hp),yE H' r s w 2103->v0 qs rs (FS wy ps) s w->Same H H'->Q (.ref r) H'))->CI C vs H Q E
inductive CF (vs:List V) (H:Hp) (Q:VK) (x_3:XK):Prop
 | mk:∀(l p l' q q':Addr) (qs qs':Crn) (t b l1 l2 h1 h2:Int),(vs = [.ref l,.ref p,.ref l',.ref q,.ref q'])->((vR H l qs∧1≤qs.length∧qs.length≤20))->((vR H l' qs'∧1≤qs'.length∧qs'.length≤20))->((zw H p t b (aH qs)∧ao b≤60))->((zw H q l1 l2 (aH qs')∧ao l2≤60))->((zw H q' h1 h2 (aH qs')∧ao h2≤60))->(InS qs'.length l1 l2 h1 h2)->(l1*h2≤h1*l2)->(∀(r:Addr) (s w:Int) (H':Hp),yE H' r s w 1100->v0 qs qs' (Seg t b l1 l2 h1 h2) s w->Same H H'->Q (.ref r) H')->CF vs H Q x_3
inductive BO (vs:List V) (H:Hp) (Q:VK) (x_3:XK):Prop
 | mk:∀(l pp:Addr) (qs:Crn) (k:Nat) (X Y b:Int),(vs = [.ref l,.int (k:Int),.ref pp])->(vR H l qs)->(qs.length≤20)->(k+1<qs.length)->(H pp=some (.tup [.int X,.int Y,.int b]))->(0<b)->(ao X≤262)->(ao Y≤262)->(ao b≤60)->(∀(r:Addr) (f0 f1:Int) (H':Hp),H' r=some (.tup [.int f0,.int f1])->wS f0 f1->ao f0≤500->ao f1≤170->(kL qs k=0∨(kL qs k≠0∧(kA X Y b qs k+(k:Int)*(kL qs k*b))*f1=f0*(kL qs k*b)))->Same H H'->Q (.ref r) H')->BO vs H Q x_3
inductive CG (vs:List V) (H:Hp) (Q:VK) (x_3:XK):Prop
 | mk:∀(l1 l2 l:Addr) (qs rs:Crn) (ps:List Pr) (wy:Str),(vs = [.ref l1,.ref l2,.ref l,.str wy])->((vR H l1 qs∧1≤qs.length∧qs.length≤20))->((vR H l2 rs∧1≤rs.length∧rs.length≤20))->(vU H l ps)->(ps.length<400)->((ps≠[]∧(∀q∈ps,inB (aH qs) (aH rs) q=true)∧bo wy ps=true))->(∀(r:Addr) (s w:Int) (H':Hp),yE H' r s w 1100->v0 qs rs (FS wy ps) s w->Same H H'->Q (.ref r) H')->CG vs H Q x_3
theorem wA:vL ["fractions","found","number","fraction"] ["fractions"] (ag (top 17)):=smk
theorem ga(xz:Df K mg "number_of_least" (top 17))(wE:Fn P w K mg base "less" ["a","b"] 1 Ck)(T:Txt mg):Fn P w K mg base "number_of_least" ["fractions"] 2 Cg:=by
 refine xz.fn wA (fun _ _ _ _ _ _ us hl=>by obtain⟨_,rfl⟩:=gE hl;rfl) (fun vs H Q E h=>?_) (fun f cdv A outer s H vs Q E hr h=>?_)
 ·obtain⟨l,fs,rfl,_⟩:=h
  rfl
 ·obtain⟨l,fs,rfl,F0,⟨h1,h9⟩,q⟩:=h
  refine⟨_,(ae (au (i:=1) wA.nd rfl (Or.inl rfl) ac) (ae (dh PassesOwn.never rfl (ni rfl T.z_enumerate (aa (pv 0) ad)) (cu rfl (aC (aF (i:=2) wA.nd rfl (Or.inl rfl)) (aC (aF (i:=3) wA.nd rfl (Or.inl rfl)) bK))) (ah (aE (aS (ak wE (hr.mono (by decide)) (by rfl) (aa (pv 3) (aa (aj aI (pv 0) (pv 1) (fun _ _=>rfl)) ad)))) (ah (au (i:=1) wA.nd rfl (Or.inl rfl) (pv 2))) av))) (ah (am (pv 1))))),?_⟩;have hll:(fs.map fun (q:Addr×Int×Int)=>V.ref q.1).length=fs.length:=List.length_map _;refine⟨_,rfl,l,rfl,⟨_,SqL.of F0.lst⟩,lH (K:=K) (a:=l) (xs:=fs.map fun (q:Addr×Int×Int)=>V.ref q.1) (fun i σ H3=>∃(z1 z2:Option V) (k:Nat) (p:Addr×Int×Int),σ = [some (.ref l),some (.int (k:Int)),z1,z2]∧fs[k]? = some p∧(∀(j:Nat) q,j<i->fs[j]? = some q->leF p q)∧(∀(j:Nat) q,j<k->fs[j]? = some q->¬leF q p)∧(k≤i)∧Same H H3)
   ⟨_,_,0,fs[0],rfl,List.getElem?_eq_getElem (by omega),fun j q h=>absurd h (by omega),fun j q h=>absurd h (by omega),Nat.le_refl _,Same.refl _⟩ (fun i σ H3 _ ⟨_,_,_,_,_,_,_,_,_,s3⟩=>SqL.of (s3 _ _ F0.lst)) ?_ ?_⟩
  ·rintro i x pp σ H3 H4 hx ⟨z1,z2,k,p,rfl,hk,hle,hlt,hki,s3⟩ s4 f4
   rw[List.getElem?_map]at hx;obtain⟨u,hu,rfl⟩:=Option.map_eq_some_iff.mp hx;have F4:=F0.mono (s3.trans s4);have fu:=F4.fr u (List.mem_of_getElem? hu);have fp:=F4.fr p (List.mem_of_getElem? hk);have ea:atI (fs.map fun (q:Addr×Int×Int)=>V.ref q.1) (k:Int)=some (.ref p.1):=db (by rw[List.getElem?_map,hk];rfl);refine⟨pp,_,rfl,SqT.of f4,rfl,_,_,rfl,_,_,rfl,rfl,?_⟩;refine⟨_,rfl,_,rfl,_,rfl,l,_,_,_,rfl,rfl,SqL.of F4.lst,ea,u.1,p.1,_,_,_,_,rfl,fu.1,fp.1,⟨af fu.2.2.1 (by decide),af fu.2.2.2 (by decide),af fp.2.2.1 (by decide),af fp.2.2.2 (by decide)⟩,_,rfl,aw (fun c=>?_) (fun c=>?_)⟩
   ·have c:u.2.1*p.2.2<p.2.1*u.2.2:=aR c
    refine⟨_,rfl,_,_,i,u,rfl,hu,fun j v hj hv=>?_,fun j v hj hv z=>?_,Nat.le_succ _,s3.trans s4⟩
    ·by_cases hji:j=i
     ·subst hji
      rw[hu]at hv;cases hv;exact Int.le_refl _
     ·exact jY fp.2.1 fu.2.1 (F4.fr v (List.mem_of_getElem? hv)).2.1 (Int.le_of_lt c) (hle j v (by omega) hv)
    ·have:=jY (F4.fr v (List.mem_of_getElem? hv)).2.1 fp.2.1 fu.2.1 (hle j v hj hv) z
     unfold leF at this;omega
   ·have c:¬u.2.1*p.2.2<p.2.1*u.2.2:=bI c
    refine⟨_,_,k,p,rfl,hk,fun j v hj hv=>?_,hlt,by omega,s3.trans s4⟩
    by_cases hji:j=i
    ·subst hji
     rw[hu]at hv;cases hv;unfold leF;omega
    ·exact hle j v (by omega) hv
  ·rintro σ H3 ⟨z1,z2,k,p,rfl,hk,hle,hlt,hki,s3⟩
   refine⟨_,rfl,q k p H3 hk (fun r hr=>?_) hlt s3⟩;obtain⟨j,hj,e⟩:=List.getElem_of_mem hr;exact hle j r (by rw[hll];exact hj) (by rw[List.getElem?_eq_getElem hj,e])
theorem yZ:vL ["begin","end","way"] ["begin","end","way"] (ag (top 52)):=smk
theorem eB(wV:Df K mg "is_measured_between" (top 52))(xf:Fn P w K mg base "steps_back" ["begin","end"] 2 (zz cP)):Fn P w K mg base "is_measured_between" ["begin","end","way"] 3 Cz:=by
 refine wV.fn yZ (fun _ _ _ _ _ _ us hl=>by obtain⟨_,_,_,rfl⟩:=hU hl;rfl) (fun vs H Q E h=>?_) (fun f cdv A outer s H vs Q E hr h=>?_)
 ·obtain⟨u,v,wy,rfl,_⟩:=h
  rfl
 ·obtain⟨u,v,wy,rfl,pu,qv,k⟩:=h
  refine⟨_,(ae (aE (aq aQ (pv 2) aP (ar _)) (ah (am cI)) av) (ah (am (jT (a7 aQ (pv 2) aP (ar _)) (bG (d9 (ak xf (hr.mono (by decide)) (by rfl) (aa (pv 0) (aa (pv 1) ad))))))))),?_⟩;unfold msB at k;refine⟨_,rfl,rfl,_,rfl,aw (fun h1=>?_) (fun h1=>?_)⟩
  ·rw[if_pos (show wy=aB from aR (ds h1))]at k
   exact k H (Same.refl _)
  rw[if_neg (show ¬wy=aB from bI (ds h1))]at k;refine⟨_,rfl,rfl,_,rfl,aw (fun h2=>?_) (fun h2=>?_)⟩
  ·rw[show decide (wy=aL)=true from ds h2,Bool.true_or]at k
   exact k H (Same.refl _)
  ·rw[show decide (wy=aL)=false from ds h2,Bool.false_or]at k
   exact⟨_,rfl,_,rfl,u,v,rfl,pu,qv,fun H1 s1=>⟨_,rfl,k H1 s1⟩⟩
theorem wR:vL ["corner_line","corner","line","begin","end","low","high"] ["corner_line","corner","line","begin","end"] (ag (top 53)):=smk
theorem hZ{C:Addr}(xW:Df K mg "least_between" (top 53))(wE:Fn P w K mg base "less" ["a","b"] 1 Ck)(yr:Fx P w K mg base "least_along" ["one","x","other","low","high"] 6 [] (Bj C)):Fn P w K mg base "least_between" ["corner_line","corner","line","begin","end"] 7 Dg:=by
 refine xW.fn wR (fun _ _ _ _ _ _ us hl=>by obtain⟨_,_,_,_,_,rfl⟩:=qc hl;rfl) (fun vs H Q E h=>?_) (fun f cdv A outer s H vs Q E hr h=>?_)
 ·obtain⟨l,l',p,q,q',qs,qs',t,b,c1,c2,e1,e2,rfl,_⟩:=h
  rfl
 ·obtain⟨l,l',p,q,q',qs,qs',t,b,c1,c2,e1,e2,rfl,⟨L,n1,n20⟩,⟨L',m1,m20⟩,⟨pl,bb⟩,⟨pc,bc⟩,⟨pe,be⟩,sh,k⟩:=h
  have R:∃u,PSs (bD CX0 P w K mg base ["corner_line","corner","line","begin","end","low","high"] "least_between" (ag (top 53)) f cdv A outer s H E).nox ((az (top 53)).drop 3) u∧∀(y z:Addr) (l1 l2 h1 h2:Int),zw H y l1 l2 (aH qs')->zw H z h1 h2 (aH qs')->ao l2≤60->ao h2≤60->InS qs'.length l1 l2 h1 h2->eP c1 c2 e1 e2 l1 l2 h1 h2->u { nx:=fun _ H'=>Q .non H',rt:=Q } [some (.ref l),some (.ref p),some (.ref l'),some (.ref q),some (.ref q'),some (.ref y),some (.ref z)] H:=by
   refine⟨_,(ah (am (aj ai (cR yr (hr.mono (by decide)) (by rfl) (aa (pv 0) (aa (pv 1) (aa (pv 2) (aa (pv 5) (aa (pv 6) ad)))))) ac (fun _ _=>rfl)))),fun y z l1 l2 h1 h2 py pz b1 b2 ins en=>?_⟩;refine⟨_,rfl,_,rfl,_,rfl,_,rfl,_,rfl,l,l',qs,qs',_,_,_,rfl,L,L',⟨n1,n20⟩,⟨m1,m20⟩,pl.th,py.th,pz.th,.inr ⟨p,t,b,rfl,pl,.inr ⟨y,l1,l2,rfl,py,.inr ⟨z,h1,h2,rfl,pz,bb,b1,b2,ins,fun r rs rp s' w' T B H1 fr fs pT lp r0 r1 fq s1=>?_⟩⟩⟩⟩;exact⟨r,_,_,_,rfl,rfl,SqT.of fr,rfl,k rs s' w' l1 l2 h1 h2 H1 fs en (jX pl.low py.low pz.low pT.low lp fq r0 r1) s1⟩
  obtain⟨u,hu,fin⟩:=R;refine⟨_,(ae (au (i:=5) wR.nd rfl (Or.inl rfl) (pv 3)) (ae (au (i:=6) wR.nd rfl (Or.inl rfl) (pv 4)) (ae (aE (aS (ak wE (hr.mono (by decide)) (by rfl) (aa (pv 4) (aa (pv 3) ad)))) (ae (au (i:=5) wR.nd rfl (Or.inl rfl) (pv 4)) (ah (au (i:=6) wR.nd rfl (Or.inl rfl) (pv 3)))) av) hu))),?_⟩;refine⟨_,rfl,_,rfl,?_⟩;refine⟨_,rfl,_,rfl,q',q,e1,e2,c1,c2,rfl,pe.at_,pc.at_,⟨af pe.bt (by decide),af pe.bb (by decide),af pc.bt (by decide),af pc.bb (by decide)⟩,_,rfl,aw (fun h=>?_) (fun h=>?_)⟩
  ·have h:e1*c2<c1*e2:=aR h
   refine⟨_,rfl,_,rfl,fin q' q e1 e2 c1 c2 pe pc be bc (dr pe.low pc.low pe.lo pc.hi ?_ (by omega)) (kX h)⟩;rw[fW pe.low.pos pc.low.pos pe.low pc.low];exact sh
  ·have h:¬e1*c2<c1*e2:=bI h
   exact fin q q' c1 c2 e1 e2 pc pe bc be (dr pc.low pe.low pc.lo pe.hi sh (by omega)) (kY h)
theorem AX:vL ["one","other","begin","end"] ["one","other","begin","end"] (ag (top 54)):=smk
theorem ix(ye:Df K mg "slide_square" (top 54))(wu:Fn P w K mg base "keeps_corner" ["begin","end","number"] 4 Bl)(xi:Fn P w K mg base "least_between" ["corner_line","corner","line","begin","end"] 7 Dg):Fn P w K mg base "slide_square" ["one","other","begin","end"] 8 (zr 2103):=by
 refine ye.fn AX (fun _ _ _ _ _ _ us hl=>by obtain⟨_,_,_,_,rfl⟩:=ir hl;rfl) (fun vs H Q E h=>?_) (fun f cdv A outer s H vs Q E hr h=>?_)
 ·obtain⟨l1,l2,qs,rs,u,v,rfl,_⟩:=h
  rfl
 ·obtain⟨l1,l2,qs,rs,u,v,rfl,⟨L1,n1,n20⟩,⟨L2,m1,m20⟩,⟨pu,iu⟩,⟨qv,iv⟩,sl,k⟩:=h
  refine⟨_,(ae (aE (aS (ak wu (hr.mono (by decide)) (by rfl) (aa (pv 2) (aa (pv 3) (aa ac ad))))) (ah (am (ak xi (hr.mono (by decide)) (by rfl) (aa (pv 0) (aa (aj ai (pv 2) ac (fun _ _=>rfl)) (aa (pv 1) (aa (aj ai (pv 2) ac (fun _ _=>rfl)) (aa (aj ai (pv 3) ac (fun _ _=>rfl)) ad)))))))) av) (ah (am (ak xi (hr.mono (by decide)) (by rfl) (aa (pv 1) (aa (aj ai (pv 2) ac (fun _ _=>rfl)) (aa (pv 0) (aa (aj ai (pv 2) ac (fun _ _=>rfl)) (aa (aj ai (pv 3) ac (fun _ _=>rfl)) ad))))))))),?_⟩;have hq100:aH qs≤100:=by unfold aH;omega
  have hr100:aH rs≤100:=by unfold aH;omega
  refine⟨_,rfl,_,rfl,u,v,0,rfl,.inl rfl,pu,qv,fun H1 s1=>⟨_,rfl,?_⟩⟩;rw[show lD 0 u v=eJ u v from rfl];have pu1:=pu.t s1.t;have qv1:=qv.t s1.t;have la:(vR H1 l1 qs∧1≤qs.length∧qs.length≤20):=⟨L1.mono s1,n1,n20⟩;have lb:(vR H1 l2 rs∧1≤rs.length∧rs.length≤20):=⟨L2.mono s1,m1,m20⟩;have ux:=pu1.plx iu hq100;have uy:=pu1.ply iu hr100;have vx:=qv1.plx iv hq100;have vy:=qv1.ply iv hr100;have PU:=SqT.of (K:=K) pu1.p_;have PV:=SqT.of (K:=K) qv1.p_;refine aw (fun c=>?_) (fun c=>?_)
  ·unfold eJ at c
   rw[Bool.and_eq_true,Bool.and_eq_true]at c;have z:=of_decide_eq_true c.1;simp only[List.cons.injEq,and_true]at z;exact⟨_,rfl,_,rfl,u.p,_,_,_,rfl,rfl,PU,rfl,_,rfl,_,rfl,u.p,_,_,_,rfl,rfl,PU,rfl,_,rfl,v.p,_,_,_,rfl,rfl,PV,rfl,l1,l2,u.x,u.y,v.y,qs,rs,_,_,_,_,_,_,rfl,la,lb,⟨ux,pu1.bb⟩,⟨uy,pu1.bd⟩,⟨vy,qv1.bd⟩,c.2.2,fun r s' w' l1' l2' h1' h2' H2 fr en ms s2=>k r s' w' H2 fr (ms.congr (qM pu qv z.1 z.2 en)) (s1.trans s2)⟩
  ·unfold cg at sl
   rw[c,Bool.false_or]at sl;unfold fS at sl;rw[Bool.and_eq_true,Bool.and_eq_true]at sl;have z:=of_decide_eq_true sl.1;simp only[List.cons.injEq,and_true]at z;exact⟨_,rfl,_,rfl,u.p,_,_,_,rfl,rfl,PU,rfl,_,rfl,_,rfl,u.p,_,_,_,rfl,rfl,PU,rfl,_,rfl,v.p,_,_,_,rfl,rfl,PV,rfl,l2,l1,u.y,u.x,v.x,rs,qs,_,_,_,_,_,_,rfl,lb,la,⟨uy,pu1.bd⟩,⟨ux,pu1.bb⟩,⟨vx,qv1.bb⟩,sl.2.2,fun r s' w' l1' l2' h1' h2' H2 fr en ms s2=>k r s' w' H2 fr (ms.swap.congr (qL pu qv z.1 z.2 en)) (s1.trans s2)⟩
def FSi(wy:Str)(ps:List Pr)(i:Nat)(a b c d:Int):Prop:=(∃q∈ps,One q.a q.b q.c q.d a b c d)∨∃(j:Nat) (u v:Pr),j<i∧ps[j]? = some u∧ps[j+1]? = some v∧msB wy u v=true∧Box u v a b c d
structure Ct(H:Hp)(l:Addr)(qs rs:Crn)(wy:Str)(ps:List Pr)(i:Nat)(gs:Crn):Prop where
 fr:CU H l gs
 len:ps.length≤gs.length∧gs.length≤ps.length+i
 a:∀g∈gs,ao g.2.1≤2103∧ao g.2.2≤2103∧∃S,v0 qs rs S g.2.1 g.2.2∧∀a b c d,S a b c d->FS wy ps a b c d
 b:∀a b c d,FSi wy ps i a b c d->∃g∈gs,∃S,v0 qs rs S g.2.1 g.2.2∧S a b c d
theorem Ct.skip{H:Hp}{l:Addr}{qs rs:Crn}{wy:Str}{ps:List Pr}{i:Nat}{gs:Crn}{u v:Pr}(G:Ct H l qs rs wy ps i gs)(hu:ps[i]? = some u)(hv:ps[i+1]? = some v)(hm:msB wy u v=false):Ct H l qs rs wy ps (i+1) gs:=by
 refine⟨G.fr,⟨G.len.1,by have:=G.len.2;omega⟩,G.a,fun a b c d h=>G.b a b c d ?_⟩;rcases h with h|⟨j,u',v',hj,e1,e2,m,bx⟩
 ·exact .inl h
 ·by_cases hji:j=i
  ·subst hji
   rw[hu]at e1;rw[hv]at e2;cases e1;cases e2;rw[hm]at m;cases m
  ·exact .inr ⟨j,u',v',by omega,e1,e2,m,bx⟩
theorem Ct.step{H:Hp}{l r:Addr}{qs rs:Crn}{wy:Str}{ps:List Pr}{i:Nat}{gs:Crn}{u v:Pr}{s w:Int}{H':Hp}(G:Ct H l qs rs wy ps i gs)(hu:ps[i]? = some u)(hv:ps[i+1]? = some v)(hm:msB wy u v=true)(f:yE H r s w 2103)(ms:v0 qs rs (Box u v) s w)(up:Cr H H' l (gs.map fun q=>V.ref q.1) ((gs.map fun q=>V.ref q.1)++[V.ref r])):Ct H' l qs rs wy ps (i+1) (gs++[(r,s,w)]):=by
 refine⟨⟨by rw[up.now];simp,fun q hq=>?_⟩,?_,fun g hg=>?_,fun a b c d h=>?_⟩
 ·rcases List.mem_append.mp hq with hq|hq
  ·exact⟨up.t _ _ (G.fr.fr q hq).1,(G.fr.fr q hq).2⟩
  ·rw[List.mem_singleton.mp hq]
   exact⟨up.t _ _ f.at_,f.low.pos,af f.ba (by decide),af f.bb (by decide)⟩
 ·have:=G.len
  rw[List.length_append];simp only[List.length_cons,List.length_nil];omega
 ·rcases List.mem_append.mp hg with hg|hg
  ·exact G.a g hg
  ·rw[List.mem_singleton.mp hg]
   exact⟨f.ba,f.bb,_,ms,fun a b c d h=>.inr ⟨i,u,v,hu,hv,hm,h⟩⟩
 ·by_cases hb:FSi wy ps i a b c d
  ·obtain⟨g,hg,S,h1,h2⟩:=G.b a b c d hb
   exact⟨g,List.mem_append_left _ hg,S,h1,h2⟩
  ·rcases h with h|⟨j,u',v',hj,e1,e2,m,bx⟩
   ·exact absurd (.inl h) hb
   ·by_cases hji:j=i
    ·subst hji
     rw[hu]at e1;rw[hv]at e2;cases e1;cases e2;exact⟨(r,s,w),List.mem_append_right _ (by simp),_,ms,bx⟩
    ·exact absurd (.inr ⟨j,u',v',by omega,e1,e2,m,bx⟩) hb
theorem sj{wy:Str}{ps:List Pr}{i:Nat}(hi:ps.length≤i+1){a b c d:Int}(h:FS wy ps a b c d):FSi wy ps i a b c d:=by
 rcases h with h|⟨j,u,v,e1,e2,m,bx⟩
 ·exact .inl h
 ·have:=(List.getElem?_eq_some_iff.mp e2).1
  exact .inr ⟨j,u,v,by omega,e1,e2,m,bx⟩
theorem wN:vL ["one","other","fence","way","squares","begin","end"] ["one","other","fence","way"] (ag (top 55)):=smk
theorem fO{C2:Addr}(xn:Df K mg "measured_squares" (top 55))(xr:Fx P w K mg base "square_of" ["one","x","other","y"] 6 [] (Ae C2))(wU:Fn P w K mg base "is_measured_between" ["begin","end","way"] 3 Cz)(x8:Fn P w K mg base "slide_square" ["one","other","begin","end"] 8 (zr 2103))(T:Txt mg):Fn P w K mg base "measured_squares" ["one","other","fence","way"] 9 De:=by
 refine xn.fn wN (fun _ _ _ _ _ _ us hl=>by obtain⟨_,_,_,_,rfl⟩:=ir hl;rfl) (fun vs H Q E h=>?_) (fun f cdv A outer s H vs Q E hr h=>?_)
 ·obtain⟨l1,l2,l,qs,rs,ps,wy,rfl,_⟩:=h
  rfl
 ·obtain⟨l1,l2,l,qs,rs,ps,wy,rfl,⟨L1,n1,n20⟩,⟨L2,m1,m20⟩,PP,hlen,⟨hne,hin,hst⟩,k⟩:=h
  have hq100:aH qs≤100:=by unfold aH;omega
  have hr100:aH rs≤100:=by unfold aH;omega
  have CN:yo (bD CX0 P w K mg base ["one","other","fence","way","squares","begin","end"] "measured_squares" (ag (top 55)) f cdv A outer s H E).nox (iX ((az (top 55)).getD 0 (.Pass ⟨0,0,0,0⟩))) [("other",s.heap.objs.size+2),("one",s.heap.objs.size+1)] "pair" [("one",0),("other",1)] :=
   ⟨by rfl,rfl,by decide +kernel,by decide +kernel,rfl,(fun p hp=>by simp only[List.mem_cons,List.not_mem_nil,or_false]at hp;rcases hp with rfl|rfl <;> rfl),by rfl,by decide +kernel,(fun p hp=>by simp only[List.mem_cons,List.not_mem_nil,or_false]at hp;rcases hp with rfl|rfl <;> exact⟨rfl,rfl,.inr (.inl rfl),rfl,rfl⟩),⟨rfl,rfl⟩,rfl⟩
  refine⟨_,(ae (eW (j:=4) rfl CN wN.nd rfl rfl (cZ (pv 2)) (fun fp s₀ H₀=>(cR xr (hr.mono (by decide)) (by rfl) (aa (pv 1) (aa (aj (dl (K:=K) rfl) (pv 0) ac (fun _ _=>rfl)) (aa (pv 2) (aa (aj (dl (K:=K) rfl) (pv 0) ac (fun _ _=>rfl)) ad))))))) (ae (dh PassesOwn.never rfl (km rfl T.z_zip (aa (pv 2) (aa (fe eU (pv 2) (gA ac) gB) ad))) (cu rfl (aC (aF (i:=5) wN.nd rfl (Or.inl rfl)) (aC (aF (i:=6) wN.nd rfl (Or.inl rfl)) bK))) (ah (aE (aS (ak wU (hr.mono (by decide)) (by rfl) (aa (pv 5) (aa (pv 6) (aa (pv 3) ad))))) (ah (cW (i8 PySem.F.plainAttrs_list PySem.F.slot_list_append PySem.F.type_list_append cF (pv 4) (aa (ak x8 (hr.mono (by decide)) (by rfl) (aa (pv 0) (aa (pv 1) (aa (pv 5) (aa (pv 6) ad))))) ad)))) av))) (ah (am (pv 4))))),?_⟩;refine⟨_,rfl,l,rfl,⟨_,SqL.of PP.lst⟩,ij (SqL.of PP.lst) (by rw[aX];omega) (fun i v H'=>∃(q:Pr) (r:Addr) (s w:Int),v = .ref r∧ps[i]? = some q∧vP (sqF qs q.a q.b rs q.c q.d) (sqD q.b q.d) s w∧(ao s≤2103∧ao w≤2103)∧H' r=some (.tup [.int s,.int w])) (fun i v H H' st ⟨q,r,s,w,e,hq,fr,bd,c⟩=>⟨q,r,s,w,e,hq,fr,bd,st _ _ c⟩) ?_ ?_⟩
  ·intro i x H2 Kc hx s2 kk
   obtain⟨q,hq,rfl⟩:=cD hx;have mq:=List.mem_of_getElem? hq;have pq:=(PP.mono s2).pr q mq;have hi:=hin q mq;have plx:=pq.plx hi hq100;have ply:=pq.ply hi hr100;refine⟨_,rfl,_,rfl,q.p,_,_,_,rfl,rfl,SqT.of pq.p_,rfl,_,rfl,_,rfl,q.p,_,_,_,rfl,rfl,SqT.of pq.p_,rfl,l1,l2,qs,rs,_,_,rfl,L1.mono s2,L2.mono s2,⟨n1,n20⟩,⟨m1,m20⟩,plx.th,ply.th,.inr ⟨q.x,q.a,q.b,rfl,plx,.inr ⟨q.y,q.c,q.d,rfl,ply,fun r s' w' H3 fr f3 s3=>?_⟩⟩⟩;exact kk _ _ s3 ⟨q,r,s',w',rfl,hq,fr,⟨f3.ba,f3.bb⟩,f3.at_⟩
  ·intro l5 ys H9 nl5 s9 f9 hly hr
   rw[aX]at hly;obtain⟨gs,hgl,hg⟩:=iH (β:=Addr×Int×Int) ys (fun i v g=>v = .ref g.1∧∃q,ps[i]? = some q∧vP (sqF qs q.a q.b rs q.c q.d) (sqD q.b q.d) g.2.1 g.2.2∧(ao g.2.1≤2103∧ao g.2.2≤2103)∧H9 g.1=some (.tup [.int g.2.1,.int g.2.2])) fun i x hx=>by
    obtain⟨q,r,s',w',rfl,hq,fr,bd,c⟩:=hr i x hx;exact⟨(r,s',w'),rfl,q,hq,fr,bd,c⟩
   have hgi:∀(i:Nat) g,gs[i]? = some g->∃q,ps[i]? = some q∧vP (sqF qs q.a q.b rs q.c q.d) (sqD q.b q.d) g.2.1 g.2.2∧(ao g.2.1≤2103∧ao g.2.2≤2103)∧H9 g.1=some (.tup [.int g.2.1,.int g.2.2]):=fun i g hg'=>by
    obtain⟨y,hy⟩:=hV hgl.symm hg';exact(hg i y g hy hg').2
   have F9:CU H9 l5 gs:=by
    refine⟨by rw[f9];exact congrArg _ (congrArg _ (mL hgl fun i x g hx hg'=>(hg i x g hx hg').1)),fun g hgm=>?_⟩;obtain⟨i,hi,e⟩:=List.getElem_of_mem hgm;obtain⟨q,hq,fr,bd,c⟩:=hgi i g (by rw[List.getElem?_eq_getElem hi,e]);exact⟨c,fr.low.pos,af bd.1 (by decide),af bd.2 (by decide)⟩
   have G9:Ct H9 l5 qs rs wy ps 0 gs:=by
    refine⟨F9,⟨by omega,by omega⟩,fun g hgm=>?_,fun a b c d h=>?_⟩
    ·obtain⟨i,hi,e⟩:=List.getElem_of_mem hgm
     obtain⟨q,hq,fr,bd,c⟩:=hgi i g (by rw[List.getElem?_eq_getElem hi,e]);have mq:=List.mem_of_getElem? hq;exact⟨bd.1,bd.2,_,ee (PP.pr q mq).lx (PP.pr q mq).ly fr,fun a b c d h=>.inl ⟨q,mq,h⟩⟩
    ·rcases h with⟨q,hq,h⟩|⟨j,u',v',hj,_⟩
     ·obtain⟨j,hj,e⟩:=List.getElem_of_mem hq
      have hj':ps[j]? = some q:=by rw[List.getElem?_eq_getElem hj,e]
      obtain⟨g',hg'⟩:=hV (ys:=gs) (by omega) hj';obtain⟨q',hq',fr',_,_⟩:=hgi j g' hg';rw[hj']at hq';cases hq';exact⟨g',List.mem_of_getElem? hg',_,ee (PP.pr q hq).lx (PP.pr q hq).ly fr',h⟩
     ·omega
   have P9:=PP.mono s9;refine⟨_,rfl,_,rfl,_,rfl,l,_,rfl,SqL.of P9.lst,fun l2' H4 s4 f4 n4=>?_⟩;rw[kZ]at f4;have n25:l2'≠l5:=(aN F9.lst n4).symm;have G4:Ct H4 l5 qs rs wy ps 0 gs:=⟨G9.fr.mono s4,G9.len,G9.a,G9.b⟩;have P4:=P9.mono s4;refine⟨l,l2',rfl,⟨_,SqL.of P4.lst⟩,⟨_,SqL.of f4⟩,kG (K:=K) (xs:=prs ps) (ys:=prs (ps.drop 1)) (fun i σ H5=>∃z1 z2 gs,σ = [some (.ref l1),some (.ref l2),some (.ref l),some (.str wy),some (.ref l5),z1,z2]∧Ct H5 l5 qs rs wy ps i gs∧H5 l2'=some (.lst (prs (ps.drop 1)))∧Same H H5)
    ⟨_,_,gs,rfl,G4,f4,s9.trans s4⟩ (fun i σ H5 _ ⟨_,_,_,_,_,f5,s5⟩=>⟨SqL.of (s5 _ _ PP.lst),SqL.of f5⟩) ?_ ?_⟩
   ·rintro i x y pp σ H5 H6 hx hy ⟨z1,z2,gs,rfl,G5,f5,s5⟩ s6 f6
    obtain⟨u,hu,rfl⟩:=cD hx;obtain⟨v,hv,rfl⟩:=cD hy;have hv':ps[i+1]? = some v:=by rw[List.getElem?_drop]at hv;rw[Nat.add_comm];exact hv
    have S6:=s5.trans s6;have mu:=List.mem_of_getElem? hu;have mv:=List.mem_of_getElem? hv';have hi:=(List.getElem?_eq_some_iff.mp hv').1;have pu:=(PP.pr u mu).t S6.t;have qv:=(PP.pr v mv).t S6.t;refine⟨pp,_,rfl,SqT.of f6,rfl,_,_,rfl,_,_,rfl,rfl,?_⟩;refine⟨_,rfl,_,rfl,_,rfl,u,v,wy,rfl,pu,qv,fun H7 s7=>⟨_,rfl,aw (fun c=>?_) (fun c=>?_)⟩⟩
    ·have S7:=S6.trans s7
     have G7:Ct H7 l5 qs rs wy ps i gs:=⟨G5.fr.mono (s6.trans s7),G5.len,G5.a,G5.b⟩;refine⟨_,rfl,.inl ⟨rfl,_,SqL.of G7.fr.lst⟩,_,rfl,_,rfl,_,rfl,_,rfl,l1,l2,qs,rs,u,v,rfl,⟨L1.mono S7,n1,n20⟩,⟨L2.mono S7,m1,m20⟩,⟨pu.t s7.t,hin u mu⟩,⟨qv.t s7.t,hin v mv⟩,ls c (cV.mp hst i u v hu hv'),fun r s' w' H8 fr ms s8=>?_⟩;have G8:Ct H8 l5 qs rs wy ps i gs:=⟨G7.fr.mono s8,G7.len,G7.a,G7.b⟩;refine⟨l5,_,_,rfl,rfl,G8.fr.lst,bJ (by rw[List.length_map];have:=G8.len;omega),fun H9 u9=>?_⟩;exact⟨_,_,_,rfl,G8.step hu hv' c fr ms u9,u9.at n25 (s8 _ _ (s7 _ _ (s6 _ _ f5))),u9.same (S7.trans s8) nl5⟩
    ·exact⟨_,_,gs,rfl,(⟨G5.fr.mono (s6.trans s7),G5.len,G5.a,G5.b⟩:Ct H7 l5 qs rs wy ps i gs).skip hu hv' c,s7 _ _ (s6 _ _ f5),S6.trans s7⟩
   ·rintro σ H5 ⟨z1,z2,gs,rfl,G5,f5,s5⟩
    have h0:=List.length_pos_iff.mpr hne;exact⟨_,rfl,k l5 gs H5 G5.fr ⟨by have:=G5.len;omega,by have:=G5.len;rw[aX,aX,List.length_drop]at this;omega⟩ G5.a (fun a b c d h=>G5.b a b c d (sj (by rw[aX,aX,List.length_drop];omega) h)) s5⟩
theorem zb:vL ["one","other","fence","way","squares"] ["one","other","fence","way"] (ag (top 56)):=smk
theorem iC{C C9:Addr}(yj:Cj K mg "fence_square" (top 56) [.str "on"])(As:Al K mg "NoFence" C9)(xI:Fx P w K mg base "is_fence" ["one","other","thing","way"] 8 [.str "on"] (zv C))(xj:Fn P w K mg base "measured_squares" ["one","other","fence","way"] 9 De)(v7:Fn P w K mg base "number_of_least" ["fractions"] 2 Cg):Fx P w K mg base "fence_square" ["one","other","fence","way"] 10 [.str "on"] (CI C9):=by
 refine yj.fx zb (fun T kV doc pm an cdv ct us its oT n s hv hl ho hs=>?_) (fun T kV doc pm an cdv ct us its oT n s hv hl ho hs=>?_) (fun vs H Q E h=>?_) (fun f cdv A outer s H vs Q E hr h=>?_)
 ·obtain⟨u,rfl,_⟩:=dj hv
  match us,hl with
  | [_,_,_,_],_=>exact BindsTo.of_defaults rfl ho hs rfl rfl
 ·obtain⟨u,rfl,_⟩:=dj hv
  have hl1:us.length=3:=by simpa using hl
  match us,hl1 with
  | [_,_,_],_=>exact BindsTo.of_defaults rfl ho hs rfl rfl
 ·obtain⟨l1,l2,l,qs,rs,ps,wy,rfl,_⟩:=h
  rfl
 ·obtain⟨l1,l2,l,qs,rs,ps,wy,rfl,⟨L1,h1,h20⟩,⟨L2,g1,g20⟩,PP,hlen,hw,kE,kQ⟩:=h
  refine⟨_,(ae (aE (ci (aS (ff xI (hr.mono (by decide)) (by rfl) (aa (pv 0) (aa (pv 1) (aa (pv 2) (aa (pv 3) ad))))))) (ah (eZ As (by rfl))) av) (ae (au (i:=4) zb.nd rfl (Or.inl rfl) (ak xj (hr.mono (by decide)) (by rfl) (aa (pv 0) (aa (pv 1) (aa (pv 2) (aa (pv 3) ad)))))) (ah (am (aj aI (pv 4) (ak v7 (hr.mono (by decide)) (by rfl) (aa (pv 4) ad)) (fun _ _=>rfl)))))),?_⟩;have hql:(qs.map fun (q:Addr×Int×Int)=>V.ref q.1).length=qs.length:=List.length_map _;have hrl:(rs.map fun (q:Addr×Int×Int)=>V.ref q.1).length=rs.length:=List.length_map _;refine⟨_,rfl,_,rfl,_,rfl,_,rfl,l1,l2,_,_,_,_,_,rfl,⟨L1.lst,by rw[hql];omega⟩,⟨L2.lst,by rw[hrl];omega⟩,PP.th (by omega),.str _,.inl ⟨wy,rfl,hw,fun b H1 s1 wv=>⟨_,rfl,aw (fun c=>?_) (fun c=>?_)⟩⟩⟩
  ·have hb:b=false:=by simpa only[Bool.not_eq_true']using c
   rw[hql,hrl]at wv;exact kE (by rw[<- hb];exact(ic PP wv).symm) H1 s1
  have hb:b=true:=by simpa only[Bool.not_eq_false']using c
  rw[hql,hrl]at wv;have hwB:bU (aH qs) (aH rs) wy ps=true:=by rw[<- hb];exact(ic PP wv).symm
  refine⟨_,rfl,_,rfl,_,rfl,_,rfl,l1,l2,l,qs,rs,ps,wy,rfl,⟨L1.mono s1,h1,h20⟩,⟨L2.mono s1,g1,g20⟩,PP.mono s1,hlen,j8 hwB,fun r gs H2 F2 hg A B s2=>?_⟩;refine⟨_,rfl,_,rfl,r,gs,rfl,F2,hg,fun k p H3 hk hle _ s3=>?_⟩;have F3:=F2.mono s3;have mp:=List.mem_of_getElem? hk;obtain⟨b1,b2,S,ms,sub⟩:=A p mp;refine⟨r,_,_,_,rfl,rfl,SqL.of F3.lst,db (j:=k) (v:=.ref p.1) (by rw[List.getElem?_map,hk];rfl),kQ hwB p.1 p.2.1 p.2.2 H3 ⟨(F3.fr p mp).1,ms.low,b1,b2⟩ ⟨ms.low,fun a b c d la lc h=>?_,?_⟩ (s1.trans (s2.trans s3))⟩
  ·obtain⟨g,hg,S',ms',h'⟩:=B a b c d h
   exact mU ms'.low.pos ms.low.pos (bQ la.pos lc.pos) (ms'.least a b c d la lc h') (hle g hg)
  ·obtain⟨a,b,c,d,la,lc,h,e⟩:=ms.att
   exact⟨a,b,c,d,la,lc,sub a b c d h,e⟩
theorem wZ:vL ["line","place","at","rest","x","y"] ["line","place"] (ag (top 82)):=smk
theorem iz(yg:Df K mg "_law_point_at" (top 82)):Fn P w K mg base "_law_point_at" ["line","place"] 1 Ch:=by
 refine yg.fn wZ (fun _ _ _ _ _ _ us hl=>by obtain⟨_,_,rfl⟩:=cj hl;rfl) (fun vs H Q E h=>?_) (fun f cdv A outer s H vs Q E hr h=>?_)
 ·obtain⟨l,p,qs,t,b,rfl,_⟩:=h
  rfl
 ·obtain⟨l,p,qs,t,b,rfl,L,h1,pl,k⟩:=h
  refine⟨_,(ae (au (i:=2) wZ.nd rfl (Or.inl rfl) (ap bH (aj ai (pv 1) ac (fun _ _=>rfl)) (aj ai (pv 1) ac (fun _ _=>rfl)))) (ae (au (i:=3) wZ.nd rfl (Or.inl rfl) (ap cT (aj ai (pv 1) ac (fun _ _=>rfl)) (aj ai (pv 1) ac (fun _ _=>rfl)))) (ae (aE (aq aQ (pv 3) ac (ar _)) (ah (am (aA (aa (aj ai (aj aI (pv 0) (pv 2) (fun _ _=>rfl)) ac (fun _ _=>rfl)) (aa (aj ai (aj aI (pv 0) (pv 2) (fun _ _=>rfl)) ac (fun _ _=>rfl)) (aa ac ad)))))) av) (ae (au (i:=4) wZ.nd rfl (Or.inl rfl) (ap aY (ap aG (aj ai (aj aI (pv 0) (pv 2) (fun _ _=>rfl)) ac (fun _ _=>rfl)) (ap aV (aj ai (pv 1) ac (fun _ _=>rfl)) (pv 3))) (ap aG (aj ai (aj aI (pv 0) (ap aY (pv 2) ac) (fun _ _=>rfl)) ac (fun _ _=>rfl)) (pv 3)))) (ae (au (i:=5) wZ.nd rfl (Or.inl rfl) (ap aY (ap aG (aj ai (aj aI (pv 0) (pv 2) (fun _ _=>rfl)) ac (fun _ _=>rfl)) (ap aV (aj ai (pv 1) ac (fun _ _=>rfl)) (pv 3))) (ap aG (aj ai (aj aI (pv 0) (ap aY (pv 2) ac) (fun _ _=>rfl)) ac (fun _ _=>rfl)) (pv 3)))) (ah (am (aA (aa (pv 4) (aa (pv 5) (aa (aj ai (pv 1) ac (fun _ _=>rfl)) ad))))))))))),?_⟩;have hb:(0:Int)<b:=pl.low.pos;have e:=pl.at_;have hll:(qs.map fun (q:Addr×Int×Int)=>V.ref q.1).length=qs.length:=List.length_map _;have q0:0≤t / b:=eK hb pl.lo;have qn:t / b≤(qs.length:Int) - 1:=Int.ediv_le_of_le_mul hb pl.hi;have m0:=Int.emod_nonneg t (show b≠0 by omega);have m1:=Int.emod_lt_of_pos t hb;have em:=Int.emod_add_mul_ediv t b;have atq:∀(j:Nat) (k:Int),k=(j:Int)->j<qs.length->atI (qs.map fun (q:Addr×Int×Int)=>V.ref q.1) k=some (.ref (qs.getD j (0,0,0)).1)∧qs.getD j (0,0,0)∈qs:=fun j k ek hj=>by
   have e1:qs.getD j (0,0,0)=qs[j]:=by rw[List.getD_eq_getElem?_getD,List.getElem?_eq_getElem hj];rfl
   rw[e1];subst ek;exact⟨db (by rw[List.getElem?_map,List.getElem?_eq_getElem hj];rfl),List.getElem_mem hj⟩
  obtain⟨a0,mm0⟩:=atq (t / b).toNat (t / b) (by omega) (by omega);have c0:=L.crn _ mm0;refine⟨_,rfl,p,_,_,_,rfl,rfl,SqT.of e,rfl,_,rfl,p,_,_,_,rfl,rfl,SqT.of e,rfl,_,_,rfl,rfl,⟨hb,af pl.bb (by decide)⟩,?_⟩;refine⟨_,rfl,p,_,_,_,rfl,rfl,SqT.of e,rfl,_,rfl,p,_,_,_,rfl,rfl,SqT.of e,rfl,_,_,rfl,rfl,hb,?_⟩;refine⟨_,rfl,rfl,_,rfl,aw (fun c=>?_) (fun c=>?_)⟩
  ·have hr:t % b=0:=by
    have:=aR c;injection this
   have hb1:b=1:=by
    have d:(b.natAbs)∣(Int.gcd t b):=Int.dvd_gcd (Int.natAbs_dvd.mpr (Int.dvd_of_emod_eq_zero hr)) (Int.natAbs_dvd.mpr (Int.dvd_refl b));rw[pl.low.one]at d;have:=Nat.le_of_dvd (by decide) d;omega
   subst hb1;refine⟨_,rfl,_,rfl,l,_,_,_,rfl,rfl,SqL.of L.lst,a0,_,_,_,_,rfl,rfl,SqT.of c0.1,rfl,_,rfl,_,rfl,l,_,_,_,rfl,rfl,SqL.of L.lst,a0,_,_,_,_,rfl,rfl,SqT.of c0.1,rfl,sz (by simp),fun r H1 s1 f1 n1=>k r H1 ?_ s1⟩;rw[f1];unfold ptX ptY Sp11.numAt iW;rw[hr];simp
  ·have hr:¬t % b=0:=fun z=>by
    have c':decide (V.int (t % b)=V.int 0)=false:=c;rw[z]at c';exact absurd c' (by decide)
   have hlt:t / b<(qs.length:Int) - 1:=by
    rcases Int.lt_or_eq_of_le qn with h|h
    ·exact h
    ·exfalso
     have:=pl.hi;unfold aH at this;rw[h,Int.mul_comm]at em;omega
   obtain⟨a1,mm1⟩:=atq ((t / b).toNat+1) (t / b+1) (by omega) (by omega);have c1:=L.crn _ mm1;have em1:min ((t / b).toNat+1) (qs.length - 1)=(t / b).toNat+1:=by omega
   have bm:ao (t % b)≤200:=oV hb pl.bb;have bd:ao (b - t % b)≤201:=aW pl.bb bm;refine⟨_,rfl,_,rfl,l,_,_,_,rfl,rfl,SqL.of L.lst,a0,_,_,_,_,rfl,rfl,SqT.of c0.1,rfl,_,rfl,p,_,_,_,rfl,rfl,SqT.of e,rfl,_,rfl,_,_,rfl,rfl,_,_,rfl,rfl,CM.b c0.2.1 bd (by decide) (by decide),_,rfl,_,rfl,_,_,rfl,rfl,l,_,_,_,rfl,rfl,SqL.of L.lst,a1,_,_,_,_,rfl,rfl,SqT.of c1.1,rfl,_,rfl,_,_,rfl,rfl,CM.b c1.2.1 bm (by decide) (by decide),_,_,rfl,rfl,?_⟩;refine⟨_,rfl,_,rfl,l,_,_,_,rfl,rfl,SqL.of L.lst,a0,_,_,_,_,rfl,rfl,SqT.of c0.1,rfl,_,rfl,p,_,_,_,rfl,rfl,SqT.of e,rfl,_,rfl,_,_,rfl,rfl,_,_,rfl,rfl,CM.b c0.2.2 bd (by decide) (by decide),_,rfl,_,rfl,_,_,rfl,rfl,l,_,_,_,rfl,rfl,SqL.of L.lst,a1,_,_,_,_,rfl,rfl,SqT.of c1.1,rfl,_,rfl,_,_,rfl,rfl,CM.b c1.2.2 bm (by decide) (by decide),_,_,rfl,rfl,?_⟩;refine⟨_,rfl,_,rfl,_,rfl,p,_,_,_,rfl,rfl,SqT.of e,rfl,sz (by simp),fun r H1 s1 f1 n1=>k r H1 ?_ s1⟩;have eX:(qs.getD (t / b).toNat (0,0,0)).2.1*(b - t % b)+(qs.getD ((t / b).toNat+1) (0,0,0)).2.1*(t % b)=ptX qs t b:=by
    unfold ptX Sp11.numAt iW jQ;rw[em1];exact uY _ _ _ _
   have eY:(qs.getD (t / b).toNat (0,0,0)).2.2*(b - t % b)+(qs.getD ((t / b).toNat+1) (0,0,0)).2.2*(t % b)=ptY qs t b:=by
    unfold ptY Sp11.numAt iW jQ;rw[em1];exact uY _ _ _ _
   rw[<- eX,<- eY];exact f1
theorem wg:vL ["one","x","other","y","a","b","c","d","e","f"] ["one","x","other","y"] (ag (top 83)):=smk
theorem h8(xX:Df K mg "_law_square_of" (top 83))(wt:Fn P w K mg base "_law_point_at" ["line","place"] 1 Ch)(wB:Fn P w K mg base "_law_ratio" ["top","bottom"] 2 AQ):Fn P w K mg base "_law_square_of" ["one","x","other","y"] 3 AO:=by
 refine xX.fn wg (fun _ _ _ _ _ _ us hl=>by obtain⟨_,_,_,_,rfl⟩:=ir hl;rfl) (fun vs H Q E h=>?_) (fun f cdv A outer s H vs Q E hr h=>?_)
 ·obtain⟨l,p,l',p',qs,qs',t,b,t',b',rfl,_⟩:=h
  rfl
 ·obtain⟨l,p,l',p',qs,qs',t,b,t',b',rfl,L,L',h1,h1',pl,pl',k⟩:=h
  refine⟨_,(ae (cL (ak wt (hr.mono (by decide)) (by rfl) (aa (pv 0) (aa (pv 1) ad))) (cu rfl (aC (aF (i:=4) wg.nd rfl (Or.inl rfl)) (aC (aF (i:=5) wg.nd rfl (Or.inl rfl)) (aC (aF (i:=6) wg.nd rfl (Or.inl rfl)) bK))))) (ae (cL (ak wt (hr.mono (by decide)) (by rfl) (aa (pv 2) (aa (pv 3) ad))) (cu rfl (aC (aF (i:=7) wg.nd rfl (Or.inl rfl)) (aC (aF (i:=8) wg.nd rfl (Or.inl rfl)) (aC (aF (i:=9) wg.nd rfl (Or.inl rfl)) bK))))) (ah (am (ak wB (hr.mono (by decide)) (by rfl) (aa (ap aY (ap iE (ap aV (ap aG (pv 4) (pv 9)) (ap aG (pv 7) (pv 6))) ac) (ap iE (ap aV (ap aG (pv 5) (pv 9)) (ap aG (pv 8) (pv 6))) ac)) (aa (ap aG (ap aG (ap aG (pv 6) (pv 6)) (pv 9)) (pv 9)) ad))))))),?_⟩;have hb:(0:Int)<b:=pl.low.pos;have hb':(0:Int)<b':=pl'.low.pos;have B:=fE (t:=t) L hb pl.bb;have B':=fE (t:=t') L' hb' pl'.bb;have cm:∀{u v:Int},ao u≤262->ao v≤262->CM u v:=fun hu hv=>CM.b hu hv (by decide) (by decide);have w120:∀{u:Int},ao u≤200->ao u≤262:=fun h=>af h (by decide);refine⟨_,rfl,_,rfl,l,p,qs,t,b,rfl,L,h1,pl,fun ra H1 fa s1=>?_⟩;refine⟨ra,_,rfl,SqT.of fa,rfl,_,_,rfl,_,_,rfl,_,_,rfl,rfl,?_⟩;refine⟨_,rfl,_,rfl,l',p',qs',t',b',rfl,L'.mono s1,h1',pl'.mono s1,fun rb H2 fb s2=>?_⟩;refine⟨rb,_,rfl,SqT.of fb,rfl,_,_,rfl,_,_,rfl,_,_,rfl,rfl,?_⟩;have bw:ao (ptX qs t b*b' - ptX qs' t' b'*b)≤525:=aW (bits_mul B.1 (w120 pl'.bb)) (bits_mul B'.1 (w120 pl.bb));have bh:ao (ptY qs t b*b' - ptY qs' t' b'*b)≤525:=aW (bits_mul B.2 (w120 pl'.bb)) (bits_mul B'.2 (w120 pl.bb));refine⟨_,rfl,_,rfl,_,_,rfl,rfl,cm B.1 (w120 pl'.bb),_,rfl,_,rfl,_,_,rfl,rfl,cm B'.1 (w120 pl.bb),_,_,rfl,rfl,_,_,rfl,rfl,sG bw (by decide),?_⟩;refine⟨_,rfl,_,rfl,_,_,rfl,rfl,cm B.2 (w120 pl'.bb),_,rfl,_,rfl,_,_,rfl,rfl,cm B'.2 (w120 pl.bb),_,_,rfl,rfl,_,_,rfl,rfl,sG bh (by decide),_,_,rfl,rfl,?_⟩;have b2:ao (b*b)≤400:=bits_mul pl.bb pl.bb;have b3:ao (b*b*b')≤600:=bits_mul b2 pl'.bb;have b4:ao (b*b*b'*b')≤800:=bits_mul b3 pl'.bb;refine⟨_,rfl,_,rfl,_,_,rfl,rfl,CM.b pl.bb pl.bb (by decide) (by decide),_,rfl,_,_,rfl,rfl,CM.b b2 pl'.bb (by decide) (by decide),_,rfl,_,_,rfl,rfl,CM.b b3 pl'.bb (by decide) (by decide),?_⟩;have eN:(ptX qs t b*b' - ptX qs' t' b'*b)^(2:Int).toNat+(ptY qs t b*b' - ptY qs' t' b'*b)^(2:Int).toNat=sqF qs t b qs' t' b':=by
   show(ptX qs t b*b' - ptX qs' t' b'*b)^2+(ptY qs t b*b' - ptY qs' t' b'*b)^2=_;unfold sqF sqN;generalize ptX qs t b=X;generalize ptX qs' t' b'=X';generalize ptY qs t b=Y;generalize ptY qs' t' b'=Y'
   grind
  have eD:b*b*b'*b'=sqD b b':=by unfold sqD;grind
  have bN:ao (sqF qs t b qs' t' b')≤1051:=by
   rw[<- eN];show ao ((ptX qs t b*b' - ptX qs' t' b'*b)^2+(ptY qs t b*b' - ptY qs' t' b'*b)^2)≤1051;rw[Int.pow_succ,Int.pow_succ,Int.pow_zero,Int.one_mul,Int.pow_succ,Int.pow_succ,Int.pow_zero,Int.one_mul];exact cx (bits_mul bw bw) (bits_mul bh bh)
  rw[eD]at b4;have hD:=bQ hb hb';refine⟨sqF qs t b qs' t' b',sqD b b',by rw[<- eN,<- eD];rfl,⟨hD,af b4 (by decide)⟩,fun r s' w' H3 fr es ew s3 f3 n3=>k r s' w' H3 fr ⟨f3,fr.low,?_,?_⟩ (s1.trans (s2.trans s3))⟩
  ·rw[es]
   exact af (cy (da (by omega)) bN) (by decide)
  ·rw[ew]
   exact af (cy (da (by omega)) b4) (by decide)
theorem wC:vL ["line","at","point","ax","ay","bx","by","wide","x","y","down","top"] ["line","at","point"] (ag (top 85)):=smk
theorem lQ(zV:Df K mg "_law_foot" (top 85))(wB:Fn P w K mg base "_law_ratio" ["top","bottom"] 2 AQ):Fn P w K mg base "_law_foot" ["line","at","point"] 3 BO:=by
 refine zV.fn wC (fun _ _ _ _ _ _ us hl=>by obtain⟨_,_,_,rfl⟩:=hU hl;rfl) (fun vs H Q E h=>?_) (fun f cdv A outer s H vs Q E hr h=>?_)
 ·obtain⟨l,pp,qs,kk,X,Y,b,rfl,_⟩:=h
  rfl
 ·obtain⟨l,pp,qs,kk,X,Y,b,rfl,L,n20,kn,ep,hb,bX,bY,bb,k⟩:=h
  refine⟨_,(ae (cL (aj aI (pv 0) (pv 1) (fun _ _=>rfl)) (cu rfl (aC (aF (i:=3) wC.nd rfl (Or.inl rfl)) (aC (aF (i:=4) wC.nd rfl (Or.inl rfl)) bK)))) (ae (cL (aj aI (pv 0) (ap aY (pv 1) ac) (fun _ _=>rfl)) (cu rfl (aC (aF (i:=5) wC.nd rfl (Or.inl rfl)) (aC (aF (i:=6) wC.nd rfl (Or.inl rfl)) bK)))) (ae (au (i:=7) wC.nd rfl (Or.inl rfl) (ap aY (ap iE (ap aV (pv 5) (pv 3)) ac) (ap iE (ap aV (pv 6) (pv 4)) ac))) (ae (aE (aq aQ (pv 7) ac (ar _)) (ah (am (aA (aa (pv 1) (aa ac ad))))) av) (ae (cL (pv 2) (cu rfl (aC (aF (i:=8) wC.nd rfl (Or.inl rfl)) (aC (aF (i:=9) wC.nd rfl (Or.inl rfl)) (aC (aF (i:=10) wC.nd rfl (Or.inl rfl)) bK))))) (ae (au (i:=11) wC.nd rfl (Or.inl rfl) (ap aY (ap aG (ap aV (pv 8) (ap aG (pv 3) (pv 10))) (ap aV (pv 5) (pv 3))) (ap aG (ap aV (pv 9) (ap aG (pv 4) (pv 10))) (ap aV (pv 6) (pv 4))))) (ah (am (ak wB (hr.mono (by decide)) (by rfl) (aa (ap aY (pv 11) (ap aG (ap aG (pv 1) (pv 7)) (pv 10))) (aa (ap aG (pv 7) (pv 10)) ad))))))))))),?_⟩;have atq:∀(j:Nat),j<qs.length->atI (qs.map fun (q:Addr×Int×Int)=>V.ref q.1) (j:Int)=some (.ref (qs.getD j (0,0,0)).1)∧qs.getD j (0,0,0)∈qs:=fun j hj=>by
   have e1:qs.getD j (0,0,0)=qs[j]:=by rw[List.getD_eq_getElem?_getD,List.getElem?_eq_getElem hj];rfl
   rw[e1];exact⟨db (by rw[List.getElem?_map,List.getElem?_eq_getElem hj];rfl),List.getElem_mem hj⟩
  obtain⟨a0,mm0⟩:=atq kk (by omega);obtain⟨a1,mm1⟩:=atq (kk+1) kn;have c0:=L.crn _ mm0;have c1:=L.crn _ mm1;have SL:=SqL.of (K:=K) L.lst;have w1:=aW c1.2.1 c0.2.1;have w2:=aW c1.2.2 c0.2.2;have cm:∀{u v:Int} {i j:Nat},ao u≤i->ao v≤j->i≤1000->j≤1000->CM u v:=fun h1 h2 a b=>CM.b h1 h2 (by omega) (by omega);refine⟨_,rfl,_,rfl,l,_,_,_,rfl,rfl,SL,a0,_,_,rfl,SqT.of c0.1,rfl,_,_,rfl,_,_,rfl,rfl,?_⟩;refine⟨_,rfl,_,rfl,_,_,rfl,rfl,l,_,_,_,rfl,rfl,SL,a1,_,_,rfl,SqT.of c1.1,rfl,_,_,rfl,_,_,rfl,rfl,?_⟩;refine⟨_,rfl,_,rfl,_,_,rfl,rfl,_,_,rfl,rfl,sG w1 (by decide),_,rfl,_,rfl,_,_,rfl,rfl,_,_,rfl,rfl,sG w2 (by decide),_,_,rfl,rfl,?_⟩;have eL:((qs.getD (kk+1) (0,0,0)).2.1 - (qs.getD kk (0,0,0)).2.1)^(2:Int).toNat+((qs.getD (kk+1) (0,0,0)).2.2 - (qs.getD kk (0,0,0)).2.2)^(2:Int).toNat=kL qs kk:=by
   show((qs.getD (kk+1) (0,0,0)).2.1 - (qs.getD kk (0,0,0)).2.1)^2+((qs.getD (kk+1) (0,0,0)).2.2 - (qs.getD kk (0,0,0)).2.2)^2=_;unfold kL dL cX cY;rw[Int.pow_succ,Int.pow_succ,Int.pow_zero,Int.one_mul,Int.pow_succ,Int.pow_succ,Int.pow_zero,Int.one_mul]
  have bL:=nF L kk;have bA:=rQ (X:=X) (Y:=Y) (b:=b) L kk bX bY bb;have bk:ao (kk:Int)≤10:=bi (by omega) (by omega);have x1:=aW bX (af (bits_mul c0.2.1 bb) (show 110≤262 by decide));have x2:=aW bY (af (bits_mul c0.2.2 bb) (show 110≤262 by decide));refine⟨_,rfl,rfl,_,rfl,?_⟩;dsimp only;rw[di,eL];refine aw (fun c=>?_) (fun c=>?_)
  ·exact⟨_,rfl,sz (by simp),fun r H1 s1 f1 _=>k r (kk:Int) 1 H1 f1 ⟨by decide,Int.gcd_one⟩ (af bk (by decide)) (by decide) (.inl (aR c)) s1⟩
  have c:kL qs kk≠0:=bI c;have hL:=lE qs kk;have hLb:0<kL qs kk*b:=Int.mul_pos (by omega) hb;refine⟨_,rfl,pp,_,rfl,SqT.of ep,rfl,_,_,rfl,_,_,rfl,_,_,rfl,rfl,?_⟩;refine⟨_,rfl,_,rfl,_,rfl,_,_,rfl,rfl,cm c0.2.1 bb (by decide) (by decide),_,_,rfl,rfl,_,rfl,_,rfl,_,_,rfl,rfl,_,_,rfl,rfl,cm x1 w1 (by decide) (by decide),_,rfl,_,rfl,_,rfl,_,_,rfl,rfl,cm c0.2.2 bb (by decide) (by decide),_,_,rfl,rfl,_,rfl,_,rfl,_,_,rfl,rfl,_,_,rfl,rfl,cm x2 w2 (by decide) (by decide),_,_,rfl,rfl,?_⟩;have b1:ao ((kk:Int)*kL qs kk)≤113:=bits_mul bk bL;have b2:ao ((kk:Int)*kL qs kk*b)≤173:=bits_mul b1 bb;have b3:ao (kL qs kk*b)≤163:=bits_mul bL bb;refine⟨_,rfl,_,rfl,_,rfl,_,_,rfl,rfl,cm bk bL (by decide) (by decide),_,rfl,_,_,rfl,rfl,cm b1 bb (by decide) (by decide),_,_,rfl,rfl,_,rfl,_,rfl,_,_,rfl,rfl,cm bL bb (by decide) (by decide),_,_,rfl,⟨hLb,af b3 (by decide)⟩,fun r f0 f1 H1 fr e0 e1 s1 f1' _=>?_⟩;have eA:∀z:Int,(X - (qs.getD kk (0,0,0)).2.1*b)*((qs.getD (kk+1) (0,0,0)).2.1 - (qs.getD kk (0,0,0)).2.1)+(Y - (qs.getD kk (0,0,0)).2.2*b)*((qs.getD (kk+1) (0,0,0)).2.2 - (qs.getD kk (0,0,0)).2.2)+z=kA X Y b qs kk+z:=fun z=>rfl;rw[eA]at fr e0 e1;have bt:ao (kA X Y b qs kk+(kk:Int)*kL qs kk*b)≤401:=cx bA (af b2 (by decide));have hg:=da (a:=kA X Y b qs kk+(kk:Int)*kL qs kk*b) (b:=kL qs kk*b) (by omega);refine k r f0 f1 H1 f1' fr.low ?_ ?_ (.inr ⟨c,?_⟩) s1
  ·rw[e0]
   exact af (cy hg bt) (by decide)
  ·rw[e1]
   exact af (cy hg b3) (by decide)
  ·rw[<- fr.eq,Int.mul_assoc (kk:Int)]
theorem wX:vL ["one","x","other","low","high","least","foot"] ["one","x","other","low","high"] (ag (top 86)):=smk
theorem gg(xC:Df K mg "_law_least_along" (top 86))(vQ:Fn P w K mg base "_law_square_of" ["one","x","other","y"] 3 AO)(vY:Fn P w K mg base "_law_lesser" ["one","other"] 2 (y3 fun a b c d=>ltB c d a b))(zI:Fn P w K mg base "_law_foot" ["line","at","point"] 3 BO)(wt:Fn P w K mg base "_law_point_at" ["line","place"] 1 Ch)(vN:Fn P w K mg base "_law_below" ["one","other"] 1 wY):Fn P w K mg base "_law_least_along" ["one","x","other","low","high"] 4 CF:=by
 refine xC.fn wX (fun _ _ _ _ _ _ us hl=>by obtain⟨_,_,_,_,_,rfl⟩:=qc hl;rfl) (fun vs H Q E h=>?_) (fun f cdv A outer s H vs Q E hr h=>?_)
 ·obtain⟨l,p,l',q,q',qs,qs',t,b,l1,l2,h1,h2,rfl,_⟩:=h
  rfl
 ·obtain⟨l,p,l',q,q',qs,qs',t,b,l1,l2,h1,h2,rfl,⟨L,n1,n20⟩,⟨L',m1,m20⟩,⟨pl,bb⟩,⟨pq,b2⟩,⟨ph,b4⟩,ins,hle,k⟩:=h
  refine⟨_,(ae (au (i:=5) wX.nd rfl (Or.inl rfl) (ak vY (hr.mono (by decide)) (by rfl) (aa (ak vQ (hr.mono (by decide)) (by rfl) (aa (pv 0) (aa (pv 1) (aa (pv 2) (aa (pv 3) ad))))) (aa (ak vQ (hr.mono (by decide)) (by rfl) (aa (pv 0) (aa (pv 1) (aa (pv 2) (aa (pv 4) ad))))) ad)))) (ae (aE (aq (dJ hr.units0) (pv 3) (pv 4) (ar _)) (ah (am (pv 5))) av) (ae (au (i:=6) wX.nd rfl (Or.inl rfl) (ak zI (hr.mono (by decide)) (by rfl) (aa (pv 2) (aa (ap bH (aj ai (pv 3) ac (fun _ _=>rfl)) (aj ai (pv 3) ac (fun _ _=>rfl))) (aa (ak wt (hr.mono (by decide)) (by rfl) (aa (pv 0) (aa (pv 1) ad))) ad))))) (ae (aE (bC (aS (ak vN (hr.mono (by decide)) (by rfl) (aa (pv 3) (aa (pv 6) ad)))) (bE (aS (ak vN (hr.mono (by decide)) (by rfl) (aa (pv 6) (aa (pv 4) ad)))))).pt (ah (au (i:=5) wX.nd rfl (Or.inl rfl) (ak vY (hr.mono (by decide)) (by rfl) (aa (pv 5) (aa (ak vQ (hr.mono (by decide)) (by rfl) (aa (pv 0) (aa (pv 1) (aa (pv 2) (aa (pv 6) ad))))) ad))))) av) (ah (am (pv 5))))))),?_⟩;have hl:(0:Int)<l2:=pq.low.pos;have hh:(0:Int)<h2:=ph.low.pos;have hb:(0:Int)<b:=pl.low.pos;refine⟨_,rfl,_,rfl,_,rfl,_,rfl,l,p,l',q,qs,qs',t,b,l1,l2,rfl,L,L',⟨n1,n20⟩,⟨m1,m20⟩,pl,pq,fun r1 s1' w1' H1 fr1 f1 s1=>?_⟩;refine⟨_,rfl,_,rfl,_,rfl,_,rfl,l,p,l',q',qs,qs',t,b,h1,h2,rfl,L.mono s1,L'.mono s1,⟨n1,n20⟩,⟨m1,m20⟩,pl.mono s1,ph.mono s1,fun r2 s2' w2' H2 fr2 f2 s2=>?_⟩;have f1:=f1.mono s2;refine⟨r1,r2,s1',w1',s2',w2',rfl,f1.at_,f2.at_,⟨af f1.ba (by decide),af f1.bb (by decide),af f2.ba (by decide),af f2.bb (by decide)⟩,?_⟩;have S2:=s1.trans s2;obtain⟨r3,s3',w3',e3,f3,m3⟩:=(ee pl.low pq.low fr1).pick (ee pl.low ph.low fr2) f1 f2;dsimp only;rw[e3];refine⟨_,rfl,_,rfl,q,q',[l1,l2],[h1,h2],rfl,rfl,SqT.of (S2 _ _ pq.at_),SqT.of (S2 _ _ ph.at_),_,rfl,?_⟩;rw[if_neg (show ¬(false=true) by decide)];refine aw (fun c=>?_) (fun c=>?_)
  ·have c:[l1,l2] = [h1,h2]:=aR c
   cases c;refine⟨_,rfl,k r3 s3' w3' H2 f3 (m3.congr fun a b' c d la lc=>?_) S2⟩;unfold One Seg;constructor
   ·rintro(⟨h,rfl,rfl⟩|⟨h,rfl,rfl⟩)
    ·exact⟨h,Int.le_refl _,Int.le_refl _⟩
    ·exact⟨h,Int.le_refl _,Int.le_refl _⟩
   ·rintro⟨h,g1,g2⟩
    exact .inl ⟨h,bq lc pq.low (by omega)⟩
  have c:¬[l1,l2] = [h1,h2]:=bI c;obtain⟨kk,st⟩:∃kk:Nat,BU qs'.length kk l1 l2 h1 h2:=by
   rcases ins with⟨rfl,rfl⟩|h
   ·exact absurd rfl c
   ·exact h
  have ek:=st.fl hl hh;have TL:=SqT.of (K:=K) (S2 _ _ pq.at_);have B:=fE (t:=t) L hb pl.bb;refine⟨_,rfl,_,rfl,q,_,_,_,rfl,rfl,TL,rfl,_,rfl,q,_,_,_,rfl,rfl,TL,rfl,_,_,rfl,rfl,⟨hl,af pq.bb (by decide)⟩,_,rfl,_,rfl,l,p,qs,t,b,rfl,L.mono S2,⟨n1,n20⟩,pl.mono S2,fun rp H3 e3' s3=>?_⟩;have S3:=S2.trans s3;refine⟨l',rp,qs',kk,_,_,b,by rw[<- ek];rfl,L'.mono S3,m20,st.kn,e3',hb,B.1,B.2,bb,fun rf f0 f1' H4 ef lf bf0 bf1 hf s4=>?_⟩;have S4:=S3.trans s4;have f4:=f3.mono (s3.trans s4);have lpc:=su hb pq.low ph.low lf st hf;have fin:∀H5,H5=H4->¬(l1*f1'<f0*l2∧f0*h2<h1*f1')->Q (.ref r3) H5:=fun H5 e5 hno=>by
   subst e5;refine k r3 s3' w3' H5 f4 (lI pl.low pq.low ph.low lf hle lpc _ m3 (fun a b' c d la lc h=>?_) (.inl ⟨⟨rfl,rfl⟩,rfl,rfl⟩) (.inr ⟨⟨rfl,rfl⟩,rfl,rfl⟩) fun x y=>absurd ⟨x,y⟩ hno) S4;rcases h with⟨h,rfl,rfl⟩|⟨h,rfl,rfl⟩
   ·exact⟨h,Int.le_refl _,hle⟩
   ·exact⟨h,hle,Int.le_refl _⟩
  refine⟨_,rfl,_,rfl,q,rf,l1,l2,f0,f1',rfl,S4 _ _ pq.at_,ef,⟨af pq.bt (by decide),af pq.bb (by decide),af bf0 (by decide),af bf1 (by decide)⟩,_,rfl,aw (fun d1=>?_) (fun d1=>?_)⟩
  ·have d1:l1*f1'<f0*l2:=aR d1
   refine⟨_,rfl,_,rfl,rf,q',f0,f1',h1,h2,rfl,ef,S4 _ _ ph.at_,⟨af bf0 (by decide),af bf1 (by decide),af ph.bt (by decide),af ph.bb (by decide)⟩,_,rfl,aw (fun d2=>?_) (fun d2=>?_)⟩
   ·have d2:f0*h2<h1*f1':=aR d2
    have hf1:(0:Int)<f1':=lf.pos;have z0:0≤f0:=by
     by_cases c0:0≤f0
     ·exact c0
     ·have y0:=Int.mul_neg_of_neg_of_pos (show f0<0 by omega) hl
      have y1:=Int.mul_nonneg pq.lo (show 0≤f1' by omega);omega
    have z1:f0≤aH qs'*f1':=by
     refine Int.le_of_mul_le_mul_right (a:=h2) ?_ hh;have y0:=Int.mul_le_mul_of_nonneg_right ph.hi (show 0≤f1' by omega);rw[Int.mul_right_comm];omega
    have z2:aH qs'*f1'≤20*f1':=Int.mul_le_mul_of_nonneg_right (by unfold aH;omega) (by omega);have pf:zw H4 rf f0 f1' (aH qs'):=⟨ef,lf,z0,z1,af (cG z0 (Int.le_trans z1 z2) (bits_mul (show ao 20≤5 by decide) bf1)) (by decide),af bf1 (by decide)⟩;refine⟨_,rfl,_,rfl,_,rfl,_,rfl,_,rfl,l,p,l',rf,qs,qs',t,b,f0,f1',rfl,L.mono S4,L'.mono S4,⟨n1,n20⟩,⟨m1,m20⟩,pl.mono S4,pf,fun r5 s5' w5' H5 fr5 f5 s5=>?_⟩;have f4:=f4.mono s5;refine⟨r3,r5,s3',w3',s5',w5',rfl,f4.at_,f5.at_,⟨af f4.ba (by decide),af f4.bb (by decide),af f5.ba (by decide),af f5.bb (by decide)⟩,?_⟩;obtain⟨r6,s6',w6',e6,f6,m6⟩:=m3.pick (ee pl.low lf fr5) f4 f5;dsimp only;rw[e6];refine⟨_,rfl,k r6 s6' w6' H5 f6 (lI pl.low pq.low ph.low lf hle lpc _ m6 (fun a b' c d la lc h=>?_) (.inl (.inl ⟨⟨rfl,rfl⟩,rfl,rfl⟩)) (.inl (.inr ⟨⟨rfl,rfl⟩,rfl,rfl⟩)) fun _ _=>.inr ⟨⟨rfl,rfl⟩,rfl,rfl⟩) (S4.trans s5)⟩;rcases h with(⟨h,rfl,rfl⟩|⟨h,rfl,rfl⟩)|⟨h,rfl,rfl⟩
    ·exact⟨h,Int.le_refl _,hle⟩
    ·exact⟨h,hle,Int.le_refl _⟩
    ·exact⟨h,by omega,by omega⟩
   ·exact⟨_,rfl,fin H4 rfl fun z=>bI d2 z.2⟩
  ·exact⟨_,rfl,fin H4 rfl fun z=>bI d1 z.1⟩
theorem w4:vL ["one","other","pair","later","x","y","a","b"] ["one","other","pair","later"] (ag (top 104)):=smk
theorem iA(yh:Df K mg "_law_measured" (top 104))(vN:Fn P w K mg base "_law_below" ["one","other"] 1 wY)(v9:Fn P w K mg base "_law_least_along" ["one","x","other","low","high"] 4 CF):Fn P w K mg base "_law_measured" ["one","other","pair","later"] 5 (zr 1100):=by
 refine yh.fn w4 (fun _ _ _ _ _ _ us hl=>by obtain⟨_,_,_,_,rfl⟩:=ir hl;rfl) (fun vs H Q E h=>?_) (fun f cdv A outer s H vs Q E hr h=>?_)
 ·obtain⟨l1,l2,qs,rs,u,v,rfl,_⟩:=h
  rfl
 ·obtain⟨l1,l2,qs,rs,u,v,rfl,⟨L1,n1,n20⟩,⟨L2,m1,m20⟩,⟨pu,iu⟩,⟨qv,iv⟩,sl,k⟩:=h
  have hq100:aH qs≤100:=by unfold aH;omega
  have hr100:aH rs≤100:=by unfold aH;omega
  have la:(vR H l1 qs∧1≤qs.length∧qs.length≤20):=⟨L1,n1,n20⟩;have lb:(vR H l2 rs∧1≤rs.length∧rs.length≤20):=⟨L2,m1,m20⟩;have ux:=pu.plx iu hq100;have uy:=pu.ply iu hr100;have vx:=qv.plx iv hq100;have vy:=qv.ply iv hr100;have R:∃p3,PSs (bD CX0 P w K mg base ["one","other","pair","later","x","y","a","b"] "_law_measured" (ag (top 104)) f cdv A outer s H E).nox ((az (top 104)).drop 3) p3∧(((u.a=v.a∧u.b=v.b)->¬v.c*u.d<u.c*v.d)->p3 { nx:=fun _ H'=>Q .non H',rt:=Q } [some (.ref l1),some (.ref l2),some (.ref u.p),some (.ref v.p),some (.ref u.x),some (.ref u.y),some (.ref v.x),some (.ref v.y)] H):=by
   refine⟨_,(ae (aE (aq (dJ hr.units0) (pv 4) (pv 6) (ar _)) (ah (am (ak v9 (hr.mono (by decide)) (by rfl) (aa (pv 0) (aa (pv 4) (aa (pv 1) (aa (pv 5) (aa (pv 7) ad)))))))) av) (ae (aE (aS (ak vN (hr.mono (by decide)) (by rfl) (aa (pv 6) (aa (pv 4) ad)))) (ah (am (ak v9 (hr.mono (by decide)) (by rfl) (aa (pv 1) (aa (pv 5) (aa (pv 0) (aa (pv 6) (aa (pv 4) ad)))))))) av) (ah (am (ak v9 (hr.mono (by decide)) (by rfl) (aa (pv 1) (aa (pv 5) (aa (pv 0) (aa (pv 4) (aa (pv 6) ad)))))))))),fun hc=>?_⟩;refine⟨_,rfl,_,rfl,u.x,v.x,[u.a,u.b],[v.a,v.b],rfl,rfl,SqT.of pu.x_,SqT.of qv.x_,_,rfl,?_⟩;rw[if_neg (show ¬(false=true) by decide)];refine aw (fun c=>?_) (fun c=>?_)
   ·have c:[u.a,u.b] = [v.a,v.b]:=aR c
    simp only[List.cons.injEq,and_true]at c;have en:=kY (hc c);exact⟨_,rfl,_,rfl,_,rfl,_,rfl,_,rfl,l1,u.x,l2,u.y,v.y,qs,rs,_,_,_,_,_,_,rfl,la,lb,⟨ux,pu.bb⟩,⟨uy,pu.bd⟩,⟨vy,qv.bd⟩,dr uy.low vy.low uy.lo vy.hi (na sl pu.ly.pos c) en.1,en.1,fun r s' w' H1 fr ms s1=>k r s' w' H1 fr (ms.congr (qM pu qv c.1 c.2 en)) s1⟩
   ·have c:¬(u.a=v.a∧u.b=v.b):=fun z=>bI c (by rw[z.1,z.2])
    obtain⟨z,sh⟩:=qX sl c;refine⟨_,rfl,_,rfl,v.x,u.x,_,_,_,_,rfl,qv.x_,pu.x_,⟨af vx.bt (by decide),af vx.bb (by decide),af ux.bt (by decide),af ux.bb (by decide)⟩,_,rfl,aw (fun d=>?_) (fun d=>?_)⟩
    ·have en:=kX (show v.a*u.b<u.a*v.b from aR d)
     exact⟨_,rfl,_,rfl,_,rfl,_,rfl,_,rfl,l2,u.y,l1,v.x,u.x,rs,qs,_,_,_,_,_,_,rfl,lb,la,⟨uy,pu.bd⟩,⟨vx,qv.bb⟩,⟨ux,pu.bb⟩,dr vx.low ux.low vx.lo ux.hi (by rw[fW vx.low.pos ux.low.pos vx.low ux.low];exact sh) en.1,en.1,fun r s' w' H1 fr ms s1=>k r s' w' H1 fr (ms.swap.congr (qL pu qv z.1 z.2 en)) s1⟩
    ·have en:=kY (show ¬v.a*u.b<u.a*v.b from bI d)
     exact⟨_,rfl,_,rfl,_,rfl,_,rfl,_,rfl,l2,u.y,l1,u.x,v.x,rs,qs,_,_,_,_,_,_,rfl,lb,la,⟨uy,pu.bd⟩,⟨ux,pu.bb⟩,⟨vx,qv.bb⟩,dr ux.low vx.low ux.lo vx.hi sh en.1,en.1,fun r s' w' H1 fr ms s1=>k r s' w' H1 fr (ms.swap.congr (qL pu qv z.1 z.2 en)) s1⟩
  obtain⟨p3,hp3,fin⟩:=R;refine⟨_,(ae (cL (pv 2) (cu rfl (aC (aF (i:=4) w4.nd rfl (Or.inl rfl)) (aC (aF (i:=5) w4.nd rfl (Or.inl rfl)) bK)))) (ae (cL (pv 3) (cu rfl (aC (aF (i:=6) w4.nd rfl (Or.inl rfl)) (aC (aF (i:=7) w4.nd rfl (Or.inl rfl)) bK)))) (ae (aE (bC (aq (dJ hr.units0) (pv 4) (pv 6) (ar _)) (bE (aS (ak vN (hr.mono (by decide)) (by rfl) (aa (pv 7) (aa (pv 5) ad)))))).pt (ah (am (ak v9 (hr.mono (by decide)) (by rfl) (aa (pv 0) (aa (pv 4) (aa (pv 1) (aa (pv 7) (aa (pv 5) ad)))))))) av) hp3))),?_⟩;refine⟨_,rfl,u.p,_,rfl,SqT.of pu.p_,rfl,_,_,rfl,_,_,rfl,rfl,?_⟩;refine⟨_,rfl,v.p,_,rfl,SqT.of qv.p_,rfl,_,_,rfl,_,_,rfl,rfl,?_⟩;refine⟨_,rfl,_,rfl,u.x,v.x,[u.a,u.b],[v.a,v.b],rfl,rfl,SqT.of pu.x_,SqT.of qv.x_,_,rfl,?_⟩;rw[if_neg (show ¬(false=true) by decide)];refine aw (fun c=>?_) (fun c=>?_)
  ·have c:[u.a,u.b] = [v.a,v.b]:=aR c
   simp only[List.cons.injEq,and_true]at c;refine⟨_,rfl,_,rfl,v.y,u.y,_,_,_,_,rfl,qv.y_,pu.y_,⟨af vy.bt (by decide),af vy.bb (by decide),af uy.bt (by decide),af uy.bb (by decide)⟩,_,rfl,aw (fun d=>?_) (fun d=>?_)⟩
   ·have en:=kX (show v.c*u.d<u.c*v.d from aR d)
    exact⟨_,rfl,_,rfl,_,rfl,_,rfl,_,rfl,l1,u.x,l2,v.y,u.y,qs,rs,_,_,_,_,_,_,rfl,la,lb,⟨ux,pu.bb⟩,⟨vy,qv.bd⟩,⟨uy,pu.bd⟩,dr vy.low uy.low vy.lo uy.hi (by rw[fW vy.low.pos uy.low.pos vy.low uy.low];exact na sl pu.ly.pos c) en.1,en.1,fun r s' w' H1 fr ms s1=>k r s' w' H1 fr (ms.congr (qM pu qv c.1 c.2 en)) s1⟩
   ·exact fin fun _=>bI d
  ·have c:¬(u.a=v.a∧u.b=v.b):=fun z=>bI c (by rw[z.1,z.2])
   exact fin fun z=>absurd z c
def LSi(wy:Str)(ps:List Pr)(i:Nat)(a b c d:Int):Prop:=(∃(j:Nat) (q:Pr),j≤i∧ps[j]? = some q∧One q.a q.b q.c q.d a b c d)∨∃(j:Nat) (u v:Pr),j<i∧ps[j]? = some u∧ps[j+1]? = some v∧msB wy u v=true∧Box u v a b c d
theorem rL{wy:Str}{ps:List Pr}{i:Nat}(hi:ps.length=i+1)(a b c d:Int):LSi wy ps i a b c d↔FS wy ps a b c d:=by
 unfold LSi FS;constructor
 ·rintro(⟨j,q,_,hq,h⟩|⟨j,u,v,_,h⟩)
  ·exact .inl ⟨q,List.mem_of_getElem? hq,h⟩
  ·exact .inr ⟨j,u,v,h⟩
 ·rintro(⟨q,hq,h⟩|⟨j,u,v,e1,e2,h⟩)
  ·obtain⟨j,hj,e⟩:=List.getElem_of_mem hq
   exact .inl ⟨j,q,by omega,by rw[List.getElem?_eq_getElem hj,e],h⟩
  ·have:=(List.getElem?_eq_some_iff.mp e2).1
   exact .inr ⟨j,u,v,by omega,e1,e2,h⟩
theorem lA{wy:Str}{ps:List Pr}{i:Nat}{u v:Pr}(hu:ps[i]? = some u)(hv:ps[i+1]? = some v)(a b c d:Int):((LSi wy ps i a b c d∨One v.a v.b v.c v.d a b c d)∨(msB wy u v=true∧Box u v a b c d))↔LSi wy ps (i+1) a b c d:=by
 unfold LSi;constructor
 ·rintro(((⟨j,q,hj,hq,h⟩|⟨j,u',v',hj,h⟩)|h)|⟨m,h⟩)
  ·exact .inl ⟨j,q,by omega,hq,h⟩
  ·exact .inr ⟨j,u',v',by omega,h⟩
  ·exact .inl ⟨i+1,v,Nat.le_refl _,hv,h⟩
  ·exact .inr ⟨i,u,v,by omega,hu,hv,m,h⟩
 ·rintro(⟨j,q,hj,hq,h⟩|⟨j,u',v',hj,e1,e2,m,h⟩)
  ·by_cases hji:j=i+1
   ·subst hji
    rw[hv]at hq;cases hq;exact .inl (.inr h)
   ·exact .inl (.inl (.inl ⟨j,q,by omega,hq,h⟩))
  ·by_cases hji:j=i
   ·subst hji
    rw[hu]at e1;rw[hv]at e2;cases e1;cases e2;exact .inr ⟨m,h⟩
   ·exact .inl (.inl (.inr ⟨j,u',v',by omega,e1,e2,m,h⟩))
theorem pS{wy:Str}{f:Pr}{r:List Pr}(a b c d:Int):One f.a f.b f.c f.d a b c d↔LSi wy (f::r) 0 a b c d:=by
 unfold LSi;constructor
 ·intro h
  exact .inl ⟨0,f,Nat.le_refl _,rfl,h⟩
 ·rintro(⟨j,q,hj,hq,h⟩|⟨j,u',v',hj,_⟩)
  ·have:j=0:=by omega
   subst this;cases hq;exact h
  ·omega
theorem vZ:vL ["one","other","fence","way","least","pair","later"] ["one","other","fence","way"] (ag (top 105)):=smk
theorem fP(xo:Df K mg "_law_fence_square" (top 105))(vQ:Fn P w K mg base "_law_square_of" ["one","x","other","y"] 3 AO)(vY:Fn P w K mg base "_law_lesser" ["one","other"] 2 (y3 fun a b c d=>ltB c d a b))(zJ:Fn P w K mg base "_law_back" ["pair","later"] 2 (zz cP))(yc:Fn P w K mg base "_law_measured" ["one","other","pair","later"] 5 (zr 1100))(T:Txt mg):Fn P w K mg base "_law_fence_square" ["one","other","fence","way"] 6 CG:=by
 refine xo.fn vZ (fun _ _ _ _ _ _ us hl=>by obtain⟨_,_,_,_,rfl⟩:=ir hl;rfl) (fun vs H Q E h=>?_) (fun f cdv A outer s H vs Q E hr h=>?_)
 ·obtain⟨l1,l2,l,qs,rs,ps,wy,rfl,_⟩:=h
  rfl
 ·obtain⟨l1,l2,l,qs,rs,ps,wy,rfl,⟨L1,n1,n20⟩,⟨L2,m1,m20⟩,PP,hlen,⟨hne,hin,hst⟩,k⟩:=h
  refine⟨_,(ae (au (i:=4) vZ.nd rfl (Or.inl rfl) (ak vQ (hr.mono (by decide)) (by rfl) (aa (pv 0) (aa (aj ai (aj aI (pv 2) ac (fun _ _=>rfl)) ac (fun _ _=>rfl)) (aa (pv 1) (aa (aj ai (aj aI (pv 2) ac (fun _ _=>rfl)) ac (fun _ _=>rfl)) ad)))))) (ae (dh PassesOwn.never rfl (km rfl T.z_zip (aa (pv 2) (aa (fe eU (pv 2) (gA ac) gB) ad))) (cu rfl (aC (aF (i:=5) vZ.nd rfl (Or.inl rfl)) (aC (aF (i:=6) vZ.nd rfl (Or.inl rfl)) bK))) (ae (au (i:=4) vZ.nd rfl (Or.inl rfl) (ak vY (hr.mono (by decide)) (by rfl) (aa (pv 4) (aa (ak vQ (hr.mono (by decide)) (by rfl) (aa (pv 0) (aa (aj ai (pv 6) ac (fun _ _=>rfl)) (aa (pv 1) (aa (aj ai (pv 6) ac (fun _ _=>rfl)) ad))))) ad)))) (ah (aE (cK (aq aQ (pv 3) aP (ar _)) (cq (bC (aq dF (pv 3) aP (ar _)) (bE (ci (aS (ak zJ (hr.mono (by decide)) (by rfl) (aa (pv 5) (aa (pv 6) ad))))))).pt)).pt (ah (au (i:=4) vZ.nd rfl (Or.inl rfl) (ak vY (hr.mono (by decide)) (by rfl) (aa (pv 4) (aa (ak yc (hr.mono (by decide)) (by rfl) (aa (pv 0) (aa (pv 1) (aa (pv 5) (aa (pv 6) ad))))) ad))))) av)))) (ah (am (pv 4))))),?_⟩;have hq100:aH qs≤100:=by unfold aH;omega
  have hr100:aH rs≤100:=by unfold aH;omega
  match ps,hne,PP,hlen,hin,hst,k with
  | f::r,_,PP,hlen,hin,hst,k =>
  have pf:=PP.pr f (by simp);have hf:=hin f (by simp);refine⟨_,rfl,_,rfl,l,_,_,_,rfl,rfl,SqL.of PP.lst,iR (V.ref f.p) (prs r),f.p,_,_,_,rfl,rfl,SqT.of pf.p_,rfl,_,rfl,_,rfl,l,_,_,_,rfl,rfl,SqL.of PP.lst,iR (V.ref f.p) (prs r),f.p,_,_,_,rfl,rfl,SqT.of pf.p_,rfl,l1,f.x,l2,f.y,qs,rs,_,_,_,_,rfl,L1,L2,⟨n1,n20⟩,⟨m1,m20⟩,pf.plx hf hq100,pf.ply hf hr100,fun r0 s0 w0 H1 fr0 f0 s1=>?_⟩;have P1:=PP.mono s1;refine⟨_,rfl,_,rfl,_,rfl,l,_,rfl,SqL.of P1.lst,fun l2' H4 s4 f4 n4=>?_⟩;rw[kZ]at f4;have P4:=P1.mono s4;have S4:=s1.trans s4;refine⟨l,l2',rfl,⟨_,SqL.of P4.lst⟩,⟨_,SqL.of f4⟩,kG (K:=K) (xs:=prs (f::r)) (ys:=prs ((f::r).drop 1)) (fun i σ H5=>∃z1 z2 rr ss ww,σ = [some (.ref l1),some (.ref l2),some (.ref l),some (.str wy),some (.ref rr),z1,z2]∧yE H5 rr ss ww 1100∧v0 qs rs (LSi wy (f::r) i) ss ww∧Same H4 H5)
   ⟨_,_,r0,s0,w0,rfl,f0.mono s4,(ee pf.lx pf.ly fr0).congr fun a b c d _ _=>pS a b c d,Same.refl _⟩ (fun i σ H5 _ ⟨_,_,_,_,_,_,_,_,s5⟩=>⟨SqL.of (s5 _ _ P4.lst),SqL.of (s5 _ _ f4)⟩) ?_ ?_⟩
  ·rintro i x y pp σ H5 H6 hx hy ⟨z1,z2,rr,ss,ww,rfl,f5,m5,s5⟩ s6 f6
   obtain⟨u,hu,rfl⟩:=cD hx;obtain⟨v,hv,rfl⟩:=cD hy;have hv':(f::r)[i+1]? = some v:=by rw[List.getElem?_drop]at hv;rw[Nat.add_comm];exact hv
   have mu:=List.mem_of_getElem? hu;have mv:=List.mem_of_getElem? hv';have S6:=S4.trans (s5.trans s6);have pu:=(PP.pr u mu).t S6.t;have qv:=(PP.pr v mv).t S6.t;have iu:=hin u mu;have iv:=hin v mv;refine⟨pp,_,rfl,SqT.of f6,rfl,_,_,rfl,_,_,rfl,rfl,?_⟩;refine⟨_,rfl,_,rfl,_,rfl,v.p,_,_,_,rfl,rfl,SqT.of qv.p_,rfl,_,rfl,_,rfl,v.p,_,_,_,rfl,rfl,SqT.of qv.p_,rfl,l1,v.x,l2,v.y,qs,rs,_,_,_,_,rfl,L1.mono S6,L2.mono S6,⟨n1,n20⟩,⟨m1,m20⟩,qv.plx iv hq100,qv.ply iv hr100,fun r7 s7' w7' H7 fr7 f7 s7=>?_⟩;have f5:=(f5.mono s6).mono s7;refine⟨rr,r7,ss,ww,s7',w7',rfl,f5.at_,f7.at_,⟨af f5.ba (by decide),af f5.bb (by decide),af f7.ba (by decide),af f7.bb (by decide)⟩,?_⟩;obtain⟨r8,s8',w8',e8,f8,m8⟩:=m5.pick (ee qv.lx qv.ly fr7) f5 f7;dsimp only;rw[e8];have S7:=S6.trans s7;have no:∀(H9:Hp),Same H7 H9->msB wy u v=false->∃z1 z2 rr ss ww,[some (.ref l1),some (.ref l2),some (.ref l),some (.str wy),some (.ref r8),some (.ref u.p),some (.ref v.p)]=([some (.ref l1),some (.ref l2),some (.ref l),some (.str wy),some (.ref rr),z1,z2]:St)∧yE H9 rr ss ww 1100∧v0 qs rs (LSi wy (f::r) (i+1)) ss ww∧Same H4 H9:=fun H9 s9 hm =>
    ⟨_,_,r8,s8',w8',rfl,f8.mono s9,m8.congr fun a b c d _ _=>by
     rw[<- lA hu hv',hm];simp,s5.trans (s6.trans (s7.trans s9))⟩
   have go:∀(G:St->Hp->Prop) (H9:Hp),Same H7 H9->msB wy u v=true->(∀(rr:Addr) (ss ww:Int) (H':Hp),yE H' rr ss ww 1100->v0 qs rs (LSi wy (f::r) (i+1)) ss ww->Same H4 H'->G [some (.ref l1),some (.ref l2),some (.ref l),some (.str wy),some (.ref rr),some (.ref u.p),some (.ref v.p)] H')->(ld (eF (y3 fun a b c d=>ltB c d a b) [] E0 (bP (xh 4) (bP (eF (zr 1100) [] E0 (bP (xh 0) (bP (xh 1) (bP (xh 5) (bP (xh 6) fV))))) fV))) (gF 4)) { nx:=G,rt:=Q } [some (.ref l1),some (.ref l2),some (.ref l),some (.str wy),some (.ref r8),some (.ref u.p),some (.ref v.p)] H9:=by
    intro G H9 s9 hm kk;have S9:=S7.trans s9;refine⟨_,rfl,_,rfl,_,rfl,_,rfl,_,rfl,l1,l2,qs,rs,u,v,rfl,⟨L1.mono S9,n1,n20⟩,⟨L2.mono S9,m1,m20⟩,⟨pu.t (s7.trans s9).t,iu⟩,⟨qv.t (s7.trans s9).t,iv⟩,ls hm (cV.mp hst i u v hu hv'),fun r10 s10 w10 H10 f10 m10 sm=>?_⟩;have f8:=(f8.mono s9).mono sm;refine⟨r8,r10,s8',w8',s10,w10,rfl,f8.at_,f10.at_,⟨af f8.ba (by decide),af f8.bb (by decide),af f10.ba (by decide),af f10.bb (by decide)⟩,?_⟩;obtain⟨r11,s11,w11,e11,f11,m11⟩:=m8.pick m10 f8 f10;dsimp only;rw[e11];exact kk r11 s11 w11 H10 f11 (m11.congr fun a b c d _ _=>by
     rw[<- lA hu hv',hm];simp) (s5.trans (s6.trans (s7.trans (s9.trans sm))))
   have em:msB wy u v=(if wy=aB then false else (decide (wy=aL) || !cP u v)):=rfl
   refine⟨_,rfl,rfl,_,rfl,aw (fun c1=>?_) (fun c1=>?_)⟩
   ·have ew:wy=aL:=aR (ds c1)
    have nh:¬wy=aB:=fun z=>absurd (z.symm.trans ew) (by decide);exact go _ H7 (Same.refl _) (by rw[em,if_neg nh,decide_eq_true ew];rfl) fun rr ss ww H' a b c=>⟨_,_,rr,ss,ww,rfl,a,b,c⟩
   have nf:¬wy=aL:=bI (ds c1);refine⟨_,rfl,rfl,_,rfl,aw (fun c2=>?_) (fun c2=>?_)⟩
   ·have nh:¬wy=aB:=bI (ds (show decide (V.str wy=V.str (Str.ofString "hops"))=false by simpa only[Bool.not_eq_true']using c2))
    rw[if_neg nh,decide_eq_false nf,Bool.false_or]at em;refine⟨_,rfl,_,rfl,u,v,rfl,pu.t s7.t,qv.t s7.t,fun H9 s9=>⟨_,rfl,aw (fun c3=>?_) (fun c3=>?_)⟩⟩
    ·exact go _ H9 s9 (by rw[em];exact c3) fun rr ss ww H' a b c=>⟨_,_,rr,ss,ww,rfl,a,b,c⟩
    ·exact no H9 s9 (by rw[em];exact c3)
   ·have eh:wy=aB:=aR (ds (show decide (V.str wy=V.str (Str.ofString "hops"))=true by simpa only[Bool.not_eq_false']using c2))
    exact no H7 (Same.refl _) (by rw[em,if_pos eh])
  ·rintro σ H5 ⟨z1,z2,rr,ss,ww,rfl,f5,m5,s5⟩
   refine⟨_,rfl,k rr ss ww H5 f5 (m5.congr fun a b c d _ _=>rL ?_ a b c d) (S4.trans s5)⟩;rw[aX,aX,List.length_drop];simp only[List.length_cons];omega
theorem gk{n m:Int}{w:Str}{H:Hp}{l:Addr}{ps:List Pr}{b:Bool}(P:vU H l ps)(h:sO n m w H (.ref l) b):b=ck n m w ps:=by
 rcases h with⟨h1,rfl⟩|⟨l',rs,e,P',rfl⟩
 ·rw[P.pv]at h1
  cases ps with
  | nil=>rfl
  | cons f r =>
   rw[cQ,show(f::r).all (inB n m)=false from h1,Bool.false_and]
 ·cases e
  have e2:=P.lst;rw[P'.lst]at e2;have e3:prs rs=prs ps:=by injection e2 with e2;injection e2
  rw[kl P'.pr P.pr e3]
structure Ba(qs rs:Crn)(ps:List Pr)(s w:Int):Prop where
 low:wS s w
 most:∀q∈ps,sqF qs q.a q.b rs q.c q.d*w≤s*sqD q.b q.d
 att:∃q∈ps,sqF qs q.a q.b rs q.c q.d*w=s*sqD q.b q.d
theorem nQ{F D s w s' w':Int}(hD:0<D)(hw:0<w)(e:F*w=s*D)(h:F*w'≤s'*D):s*w'≤s'*w:=by
 refine Int.le_of_mul_le_mul_left (a:=D) ?_ hD;have h1:F*w'*w≤s'*D*w:=Int.mul_le_mul_of_nonneg_right h (by omega);have e1:D*(s*w')=F*w'*w:=by
  have:D*(s*w')=(s*D)*w':=by grind
  rw[this,<- e]
  grind
 have e2:D*(s'*w)=s'*D*w:=by grind
 rw[e1,e2];exact h1
theorem Ba.uniq{qs rs:Crn}{ps:List Pr}{s w s' w':Int}(pos:∀q∈ps,0<q.b∧0<q.d)(h:Ba qs rs ps s w)(h':Ba qs rs ps s' w'):s=s'∧w=w':=by
 refine bq h.low h'.low (Int.le_antisymm ?_ ?_)
 ·obtain⟨q,hq,e⟩:=h.att
  exact nQ (bQ (pos q hq).1 (pos q hq).2) h.low.pos e (h'.most q hq)
 ·obtain⟨q,hq,e⟩:=h'.att
  exact nQ (bQ (pos q hq).1 (pos q hq).2) h'.low.pos e (h.most q hq)
theorem nO{F D s w s' w':Int}(hD:0<D)(hw:0<w)(e:F*w=s*D)(h:s*w'≤s'*w):F*w'≤s'*D:=by
 refine Int.le_of_mul_le_mul_left (a:=w) ?_ hw;have h1:s*w'*D≤s'*w*D:=Int.mul_le_mul_of_nonneg_right h (by omega);have e1:w*(F*w')=s*w'*D:=by
  have:w*(F*w')=(F*w)*w':=by grind
  rw[this,e]
  grind
 have e2:w*(s'*D)=s'*w*D:=by grind
 rw[e1,e2];exact h1
theorem sr{F D s w s' w':Int}(hw:0<w)(hw':0<w')(hD:0<D)(h:F*w≤s*D)(h2:s*w'≤s'*w):F*w'≤s'*D:=by
 refine Int.le_of_mul_le_mul_left (a:=w) ?_ hw;have h1:F*w*w'≤s*D*w':=Int.mul_le_mul_of_nonneg_right h (by omega);have h3:s*w'*D≤s'*w*D:=Int.mul_le_mul_of_nonneg_right h2 (by omega);have e1:w*(F*w')=F*w*w':=by grind
 have e2:w*(s'*D)=s'*w*D:=by grind
 have e3:s*D*w'=s*w'*D:=by grind
 rw[e1,e2];rw[e3]at h1;exact Int.le_trans h1 h3
inductive Cy (vs:List V) (H:Hp) (Q:VK) (x_3:XK):Prop
 | mk:∀(l:Addr) (fs:Crn),(vs = [.ref l])->(CU H l fs)->((1≤fs.length∧fs.length<900))->(∀(k:Nat) (p:Addr×Int×Int) (H':Hp),fs[k]? = some p->(∀q∈fs,leF q p)->Same H H'->Q (.int (k:Int)) H')->Cy vs H Q x_3
theorem iU{n m:Int}{w:Str}{ps:List Pr}(h:ck n m w ps=true):ps≠[]∧∀q∈ps,inB n m q=true:=by
 cases ps with
 | nil=>cases h
 | cons f r =>
  rw[cQ,Bool.and_eq_true]at h;exact⟨by simp,List.all_eq_true.mp h.1⟩
inductive Cw (C:Addr) (vs:List V) (H:Hp) (Q:VK) (E:XK):Prop
 | mk:∀(l1 l2 l:Addr) (qs rs:Crn) (ps:List Pr) (wy:Str),(vs = [.ref l1,.ref l2,.ref l,.str wy])->((vR H l1 qs∧1≤qs.length∧qs.length≤20))->((vR H l2 rs∧1≤rs.length∧rs.length≤20))->(vU H l ps)->(ps.length<900)->(dG wy)->((ck (aH qs) (aH rs) wy ps=false->∀H',Same H H'->E (.ref C) none H'))->((ck (aH qs) (aH rs) wy ps=true->∀(r:Addr) (s w:Int) (H':Hp),yE H' r s w 2103->Ba qs rs ps s w->Same H H'->Q (.ref r) H'))->Cw C vs H Q E
inductive CC (vs:List V) (H:Hp) (Q:VK) (x_3:XK):Prop
 | mk:∀(l1 l2 l:Addr) (qs rs:Crn) (ps:List Pr),(vs = [.ref l1,.ref l2,.ref l])->((vR H l1 qs∧1≤qs.length∧qs.length≤20))->((vR H l2 rs∧1≤rs.length∧rs.length≤20))->(vU H l ps)->((ps≠[]∧∀q∈ps,inB (aH qs) (aH rs) q=true))->(∀(r:Addr) (s w:Int) (H':Hp),yE H' r s w 1100->Ba qs rs ps s w->Same H H'->Q (.ref r) H')->CC vs H Q x_3
theorem y4:vL ["fractions"] ["fractions"] (ag (top 18)):=smk
theorem eO(xc:Df K mg "number_of_greatest" (top 18))(v7:Fn P w K mg base "number_of_least" ["fractions"] 2 Cg):Fn P w K mg base "number_of_greatest" ["fractions"] 3 Cy:=by
 refine xc.fn y4 (fun _ _ _ _ _ _ us hl=>by obtain⟨_,rfl⟩:=gE hl;rfl) (fun vs H Q E h=>?_) (fun f cdv A outer s H vs Q E hr h=>?_)
 ·obtain⟨l,fs,rfl,_⟩:=h
  rfl
 ·obtain⟨l,fs,rfl,F0,⟨h1,h9⟩,q⟩:=h
  have CN:yo (bD CX0 P w K mg base ["fractions"] "number_of_greatest" (ag (top 18)) f cdv A outer s H E).nox (Dr.compScope (kj ((az (top 18)).getD 0 (.Pass ⟨0,0,0,0⟩)))) [] "fraction" [] :=
   ⟨by rfl,rfl,by decide +kernel,by decide +kernel,rfl,(fun p hp=>nomatch hp),by rfl,by decide +kernel,(fun p hp=>nomatch hp),⟨rfl,rfl⟩,rfl⟩
  refine⟨_,(ah (am (ak v7 (hr.mono (by decide)) (by rfl) (aa (gC rfl CN (cZ (pv 0)) (fun fp s₀ H₀=>(aA (aa (i7 fU (aj (dl (K:=K) rfl) (pv 0) ac (fun _ _=>rfl))) (aa (aj (dl (K:=K) rfl) (pv 0) ac (fun _ _=>rfl)) ad))))) ad)))),?_⟩;refine⟨_,rfl,l,rfl,⟨_,SqL.of F0.lst⟩,ij (SqL.of F0.lst) (by rw[List.length_map];omega) (fun i v H'=>∃(pa:Addr) (u:Addr×Int×Int),v = .ref pa∧fs[i]? = some u∧H' pa=some (.tup [.int (-u.2.1),.int u.2.2])) (fun i v H H' st ⟨pa,u,e,hu,c⟩=>⟨pa,u,e,hu,st _ _ c⟩) ?_ ?_⟩
  ·intro i x H2 Kc hx s2 kk
   rw[List.getElem?_map]at hx;obtain⟨u,hu,rfl⟩:=Option.map_eq_some_iff.mp hx;have c:=s2 _ _ (F0.fr u (List.mem_of_getElem? hu)).1;refine⟨_,rfl,u.1,_,_,_,rfl,rfl,SqT.of c,rfl,_,rfl,_,rfl,u.1,_,_,_,rfl,rfl,SqT.of c,rfl,sz (by simp),fun pp H3 s3 f3 n3=>kk _ _ s3 ⟨pp,u,rfl,hu,f3⟩⟩
  ·intro l2 ys H9 nl2 s9 f9 hly hr
   rw[List.length_map]at hly;obtain⟨gs,hgl,hg⟩:=iH (β:=Addr×Int×Int) ys (fun i v g=>v = .ref g.1∧∃u,fs[i]? = some u∧g.2.1 = -u.2.1∧g.2.2=u.2.2∧H9 g.1=some (.tup [.int g.2.1,.int g.2.2])) fun i x hx=>by
    obtain⟨pa,u,rfl,hu,c⟩:=hr i x hx;exact⟨(pa,-u.2.1,u.2.2),rfl,u,hu,rfl,rfl,c⟩
   have hgi:∀(i:Nat) g,gs[i]? = some g->∃u,fs[i]? = some u∧g.2.1 = -u.2.1∧g.2.2=u.2.2∧H9 g.1=some (.tup [.int g.2.1,.int g.2.2]):=fun i g hg'=>by
    obtain⟨y,hy⟩:=hV hgl.symm hg';exact(hg i y g hy hg').2
   have F9:CU H9 l2 gs:=by
    refine⟨by rw[f9];exact congrArg _ (congrArg _ (mL hgl fun i x g hx hg'=>(hg i x g hx hg').1)),fun g hgm=>?_⟩;obtain⟨i,hi,e⟩:=List.getElem_of_mem hgm;obtain⟨u,hu,e1,e2,c⟩:=hgi i g (by rw[List.getElem?_eq_getElem hi,e]);have fu:=F0.fr u (List.mem_of_getElem? hu);exact⟨c,by rw[e2];exact fu.2.1,by rw[e1];exact bits_neg fu.2.2.1,by rw[e2];exact fu.2.2.2⟩
   refine⟨l2,gs,rfl,F9,⟨by omega,by omega⟩,fun k p H' hk hle _ s'=>?_⟩;obtain⟨u,hu,e1,e2,_⟩:=hgi k p hk;refine q k u H' hu (fun v hv=>?_) (s9.trans s');obtain⟨j,hj,e⟩:=List.getElem_of_mem hv;have hj':fs[j]? = some v:=by rw[List.getElem?_eq_getElem hj,e]
   obtain⟨g,hg'⟩:=hV (ys:=gs) (by omega) hj';obtain⟨v',hv',f1,f2,_⟩:=hgi j g hg';rw[hj']at hv';cases hv';have z:=hle g (List.mem_of_getElem? hg');unfold leF at z ⊢;rw[e1,e2,f1,f2,Int.neg_mul,Int.neg_mul]at z;omega
theorem zB:vL ["one","other","walk","way","squares"] ["one","other","walk","way"] (ag (top 68)):=smk
theorem ji{C C2 C9:Addr}(yw:Cj K mg "walk_square" (top 68) [.str "on"])(AZ:Al K mg "NoWalk" C9)(xH:Fx P w K mg base "is_walk" ["one","other","thing","way"] 7 [.str "on"] (Ag C))(xr:Fx P w K mg base "square_of" ["one","x","other","y"] 6 [] (Ae C2))(w6:Fn P w K mg base "number_of_greatest" ["fractions"] 3 Cy):Fx P w K mg base "walk_square" ["one","other","walk","way"] 8 [.str "on"] (Cw C9):=by
 refine yw.fx zB (fun T kV doc pm an cdv ct us its oT n s hv hl ho hs=>?_) (fun T kV doc pm an cdv ct us its oT n s hv hl ho hs=>?_) (fun vs H Q E h=>?_) (fun f cdv A outer s H vs Q E hr h=>?_)
 ·obtain⟨u,rfl,_⟩:=dj hv
  match us,hl with
  | [_,_,_,_],_=>exact BindsTo.of_defaults rfl ho hs rfl rfl
 ·obtain⟨u,rfl,_⟩:=dj hv
  have hl1:us.length=3:=by simpa using hl
  match us,hl1 with
  | [_,_,_],_=>exact BindsTo.of_defaults rfl ho hs rfl rfl
 ·obtain⟨l1,l2,l,qs,rs,ps,wy,rfl,_⟩:=h
  rfl
 ·obtain⟨l1,l2,l,qs,rs,ps,wy,rfl,⟨L1,h1,h20⟩,⟨L2,g1,g20⟩,PP,hlen,hw,kE,kQ⟩:=h
  have hql:(qs.map fun (q:Addr×Int×Int)=>V.ref q.1).length=qs.length:=List.length_map _;have hrl:(rs.map fun (q:Addr×Int×Int)=>V.ref q.1).length=rs.length:=List.length_map _;have CN:yo (bD (CXE P w) P w K mg base ["one","other","walk","way","squares"] "walk_square" (ag (top 68)) f cdv A outer s H E) (iX ((az (top 68)).getD 1 (.Pass ⟨0,0,0,0⟩))) [("other",s.heap.objs.size+2),("one",s.heap.objs.size+1)] "pair" [("one",0),("other",1)] :=
   ⟨by rfl,rfl,by decide +kernel,by decide +kernel,rfl,(fun p hp=>by simp only[List.mem_cons,List.not_mem_nil,or_false]at hp;rcases hp with rfl|rfl <;> rfl),by rfl,by decide +kernel,(fun p hp=>by simp only[List.mem_cons,List.not_mem_nil,or_false]at hp;rcases hp with rfl|rfl <;> exact⟨rfl,rfl,.inr (.inl rfl),rfl,rfl⟩),⟨rfl,rfl⟩,rfl⟩
  refine⟨_,(ae (aE (ci (aS (ff xH (hr.mono (by decide)) (by rfl) (aa (pv 0) (aa (pv 1) (aa (pv 2) (aa (pv 3) ad))))))) (ah (eZ AZ (by rfl))) av) (ae (eW (j:=4) rfl CN zB.nd rfl rfl (cZ (pv 2)) (fun fp s₀ H₀=>(cR xr (hr.mono (by decide)) (by rfl) (aa (pv 1) (aa (aj (dl (K:=K) rfl) (pv 0) ac (fun _ _=>rfl)) (aa (pv 2) (aa (aj (dl (K:=K) rfl) (pv 0) ac (fun _ _=>rfl)) ad))))))) (ah (am (aj aI (pv 4) (ak w6 (hr.mono (by decide)) (by rfl) (aa (pv 4) ad)) (fun _ _=>rfl)))))),?_⟩;refine⟨_,rfl,_,rfl,_,rfl,_,rfl,l1,l2,_,_,_,_,_,rfl,⟨L1.lst,by rw[hql];omega⟩,⟨L2.lst,by rw[hrl];omega⟩,PP.th hlen,.str _,.inl ⟨wy,rfl,hw,fun b H1 s1 wv=>⟨_,rfl,aw (fun c=>?_) (fun c=>?_)⟩⟩⟩
  ·have hb:b=false:=by simpa only[Bool.not_eq_true']using c
   rw[hql,hrl]at wv;exact kE (by rw[<- hb];exact(gk PP wv).symm) H1 s1
  have hb:b=true:=by simpa only[Bool.not_eq_false']using c
  rw[hql,hrl]at wv;have hwB:ck (aH qs) (aH rs) wy ps=true:=by rw[<- hb];exact(gk PP wv).symm
  obtain⟨hne,hin⟩:=iU hwB;have P1:=PP.mono s1;refine⟨_,rfl,l,rfl,⟨_,SqL.of P1.lst⟩,ij (SqL.of P1.lst) (by rw[aX];omega) (fun i v H'=>∃(q:Pr) (r:Addr) (s w:Int),v = .ref r∧ps[i]? = some q∧vP (sqF qs q.a q.b rs q.c q.d) (sqD q.b q.d) s w∧(ao s≤2103∧ao w≤2103)∧H' r=some (.tup [.int s,.int w])) (fun i v H H' st ⟨q,r,s,w,e,hq,fr,bd,c⟩=>⟨q,r,s,w,e,hq,fr,bd,st _ _ c⟩) ?_ ?_⟩
  ·intro i x H2 Kc hx s2 kk
   obtain⟨q,hq,rfl⟩:=cD hx;have mq:=List.mem_of_getElem? hq;have pq:=(P1.mono s2).pr q mq;have hi:=hin q mq;have plx:=pq.plx hi (show aH qs≤100 by unfold aH;omega);have ply:=pq.ply hi (show aH rs≤100 by unfold aH;omega);refine⟨_,rfl,_,rfl,q.p,_,_,_,rfl,rfl,SqT.of pq.p_,rfl,_,rfl,_,rfl,q.p,_,_,_,rfl,rfl,SqT.of pq.p_,rfl,l1,l2,qs,rs,_,_,rfl,(L1.mono s1).mono s2,(L2.mono s1).mono s2,⟨h1,h20⟩,⟨g1,g20⟩,plx.th,ply.th,.inr ⟨q.x,q.a,q.b,rfl,plx,.inr ⟨q.y,q.c,q.d,rfl,ply,fun r s' w' H3 fr f3 s3=>?_⟩⟩⟩;exact kk _ _ s3 ⟨q,r,s',w',rfl,hq,fr,⟨f3.ba,f3.bb⟩,f3.at_⟩
  ·intro l5 ys H9 nl5 s9 f9 hly hr
   rw[aX]at hly;obtain⟨gs,hgl,hg⟩:=iH (β:=Addr×Int×Int) ys (fun i v g=>v = .ref g.1∧∃q,ps[i]? = some q∧vP (sqF qs q.a q.b rs q.c q.d) (sqD q.b q.d) g.2.1 g.2.2∧(ao g.2.1≤2103∧ao g.2.2≤2103)∧H9 g.1=some (.tup [.int g.2.1,.int g.2.2])) fun i x hx=>by
    obtain⟨q,r,s',w',rfl,hq,fr,bd,c⟩:=hr i x hx;exact⟨(r,s',w'),rfl,q,hq,fr,bd,c⟩
   have hgi:∀(i:Nat) g,gs[i]? = some g->∃q,ps[i]? = some q∧vP (sqF qs q.a q.b rs q.c q.d) (sqD q.b q.d) g.2.1 g.2.2∧(ao g.2.1≤2103∧ao g.2.2≤2103)∧H9 g.1=some (.tup [.int g.2.1,.int g.2.2]):=fun i g hg'=>by
    obtain⟨y,hy⟩:=hV hgl.symm hg';exact(hg i y g hy hg').2
   have F9:CU H9 l5 gs:=by
    refine⟨by rw[f9];exact congrArg _ (congrArg _ (mL hgl fun i x g hx hg'=>(hg i x g hx hg').1)),fun g hgm=>?_⟩;obtain⟨i,hi,e⟩:=List.getElem_of_mem hgm;obtain⟨q,hq,fr,bd,c⟩:=hgi i g (by rw[List.getElem?_eq_getElem hi,e]);exact⟨c,fr.low.pos,af bd.1 (by decide),af bd.2 (by decide)⟩
   have hp0:0<ps.length:=List.length_pos_iff.mpr hne;refine⟨_,rfl,_,rfl,l5,gs,rfl,F9,⟨by omega,by omega⟩,fun k p H' hk hle s'=>?_⟩;have F10:=F9.mono s';obtain⟨q,hq,fr,bd,c⟩:=hgi k p hk;refine⟨l5,_,_,_,rfl,rfl,SqL.of F10.lst,db (j:=k) (v:=.ref p.1) (by rw[List.getElem?_map,hk];rfl),kQ hwB p.1 p.2.1 p.2.2 H' ⟨(F10.fr p (List.mem_of_getElem? hk)).1,fr.low,bd.1,bd.2⟩ ⟨fr.low,fun u hu=>?_,q,List.mem_of_getElem? hq,fr.eq⟩ (s1.trans (s9.trans s'))⟩;obtain⟨j,hj,e⟩:=List.getElem_of_mem hu;have hj':ps[j]? = some u:=by rw[List.getElem?_eq_getElem hj,e]
   obtain⟨g,hg'⟩:=hV (ys:=gs) (by omega) hj';obtain⟨u',hu',fr',_,_⟩:=hgi j g hg';rw[hj']at hu';cases hu';have pu:=PP.pr u hu;exact nO (bQ pu.lx.pos pu.ly.pos) fr'.low.pos fr'.eq (hle g (List.mem_of_getElem? hg'))
theorem v5:vL ["one","other","walk","most","x","y","here"] ["one","other","walk"] (ag (top 106)):=smk
theorem ge(xB:Df K mg "_law_walk_square" (top 106))(vQ:Fn P w K mg base "_law_square_of" ["one","x","other","y"] 3 AO)(vN:Fn P w K mg base "_law_below" ["one","other"] 1 wY):Fn P w K mg base "_law_walk_square" ["one","other","walk"] 4 CC:=by
 refine xB.fn v5 (fun _ _ _ _ _ _ us hl=>by obtain⟨_,_,_,rfl⟩:=hU hl;rfl) (fun vs H Q E h=>?_) (fun f cdv A outer s H vs Q E hr h=>?_)
 ·obtain⟨l1,l2,l,qs,rs,ps,rfl,_⟩:=h
  rfl
 ·obtain⟨l1,l2,l,qs,rs,ps,rfl,⟨L1,h1,h20⟩,⟨L2,g1,g20⟩,PP,⟨hne,hin⟩,k⟩:=h
  refine⟨_,(ae (au (i:=3) v5.nd rfl (Or.inl rfl) (aA (aa ac (aa ac ad)))) (ae (dh PassesOwn.never rfl (cZ (pv 2)) (cu rfl (aC (aF (i:=4) v5.nd rfl (Or.inl rfl)) (aC (aF (i:=5) v5.nd rfl (Or.inl rfl)) bK))) (ae (au (i:=6) v5.nd rfl (Or.inl rfl) (ak vQ (hr.mono (by decide)) (by rfl) (aa (pv 0) (aa (pv 4) (aa (pv 1) (aa (pv 5) ad)))))) (ah (aE (aS (ak vN (hr.mono (by decide)) (by rfl) (aa (pv 3) (aa (pv 6) ad)))) (ah (au (i:=3) v5.nd rfl (Or.inl rfl) (pv 6))) av)))) (ah (am (pv 3))))),?_⟩;refine⟨sz (by simp),fun p0 H1 s1 f1 n1=>?_⟩;have P1:=PP.mono s1;refine⟨_,rfl,l,rfl,⟨_,SqL.of P1.lst⟩,jg (K:=K) (a:=l) (xs:=prs ps) (fun i σ H2=>∃(z1 z2 z3:Option V) (r:Addr) (s w:Int),σ = [some (.ref l1),some (.ref l2),some (.ref l),some (.ref r),z1,z2,z3]∧yE H2 r s w 1100∧(∀(j:Nat) u,j<i->ps[j]? = some u->sqF qs u.a u.b rs u.c u.d*w≤s*sqD u.b u.d)∧((s=0∧w=1)∨∃u∈ps,sqF qs u.a u.b rs u.c u.d*w=s*sqD u.b u.d)∧0≤s∧Same H1 H2)
   ⟨_,_,_,p0,0,1,rfl,⟨f1,⟨by decide,by decide⟩,by decide,by decide⟩,fun j u h=>absurd h (by omega),.inl ⟨rfl,rfl⟩,by decide,Same.refl _⟩ (fun i σ H2 _ ⟨_,_,_,_,_,_,_,_,_,_,_,s2⟩=>SqL.of (s2 _ _ P1.lst)) ?_ ?_⟩
  ·rintro i x σ H2 hx ⟨z1,z2,z3,r,s',w',rfl,fr,hle,hat,hs0,s2⟩
   obtain⟨q,hq,rfl⟩:=cD hx;have mq:=List.mem_of_getElem? hq;have pq:=(P1.mono s2).pr q mq;have hi:=hin q mq;have plx:=pq.plx hi (show aH qs≤100 by unfold aH;omega);have ply:=pq.ply hi (show aH rs≤100 by unfold aH;omega);refine⟨q.p,_,rfl,SqT.of pq.p_,rfl,_,_,rfl,_,_,rfl,rfl,?_⟩;refine⟨_,rfl,_,rfl,_,rfl,_,rfl,l1,q.x,l2,q.y,qs,rs,_,_,_,_,rfl,(L1.mono s1).mono s2,(L2.mono s1).mono s2,⟨h1,h20⟩,⟨g1,g20⟩,plx,ply,fun r3 s3 w3 H3 fr3 f3 sm3=>?_⟩;have fr':=fr.mono sm3;have pD:=bQ pq.lx.pos pq.ly.pos;refine⟨_,rfl,_,rfl,r,r3,s',w',s3,w3,rfl,fr'.at_,f3.at_,⟨af fr'.ba (by decide),af fr'.bb (by decide),af f3.ba (by decide),af f3.bb (by decide)⟩,_,rfl,aw (fun c=>?_) (fun c=>?_)⟩
   ·have c:s'*w3<s3*w':=aR c
    have hw':0<w':=fr'.low.pos;have hw3:0<w3:=f3.low.pos;refine⟨_,rfl,_,_,_,r3,s3,w3,rfl,f3,fun j u hj hu=>?_,.inr ⟨q,mq,fr3.eq⟩,?_,s2.trans sm3⟩
    ·by_cases hji:j=i
     ·subst hji
      rw[hq]at hu;cases hu;exact Int.le_of_eq fr3.eq
     ·have pu:=PP.pr u (List.mem_of_getElem? hu)
      exact sr hw' hw3 (bQ pu.lx.pos pu.ly.pos) (hle j u (by omega) hu) (Int.le_of_lt c)
    ·have h0:0≤s'*w3:=Int.mul_nonneg hs0 (by omega)
     rcases Int.lt_or_le s3 0 with h|h
     ·exfalso
      have:=Int.mul_nonneg (show 0≤-s3 by omega) (show 0≤w' by omega);rw[Int.neg_mul]at this;omega
     ·exact h
   ·have c:¬s'*w3<s3*w':=bI c
    refine⟨_,_,_,r,s',w',rfl,fr',fun j u hj hu=>?_,hat,hs0,s2.trans sm3⟩
    by_cases hji:j=i
    ·subst hji
     rw[hq]at hu;cases hu;exact nO pD f3.low.pos fr3.eq (by omega)
    ·exact hle j u (by omega) hu
  ·rintro σ H2 ⟨z1,z2,z3,r,s',w',rfl,fr,hle,hat,hs0,s2⟩
   have hall:∀u∈ps,sqF qs u.a u.b rs u.c u.d*w'≤s'*sqD u.b u.d:=fun u hu=>by
    obtain⟨j,hj,e⟩:=List.getElem_of_mem hu;exact hle j u (by rw[aX];exact hj) (by rw[List.getElem?_eq_getElem hj,e])
   refine⟨_,rfl,k r s' w' H2 fr ⟨fr.low,hall,?_⟩ (s1.trans s2)⟩;rcases hat with⟨rfl,rfl⟩|h
   ·obtain⟨u,hu⟩:=List.exists_mem_of_ne_nil ps hne
    refine⟨u,hu,?_⟩;have:=hall u hu;have h0:=tH qs u.a u.b rs u.c u.d;omega
   ·exact h
theorem pd{a b c d:Int}(hb:0<b)(hd:0<d)(h:aK a b c d=true):∃k:Int,k*b≤a∧a≤(k+1)*b∧k*d≤c∧c≤(k+1)*d:=by
 unfold aK at h
 by_cases g:c*b<a*d
 ·rw[if_pos g]at h
  have h:¬(c / d+1)*b<a*1:=by simpa using h
  refine⟨c / d,?_,by omega,bR hd,by have:=cv (a:=c) hd;omega⟩;have q:=Int.mul_le_mul_of_nonneg_right (bR (a:=c) hd) (show 0≤b by omega);refine Int.le_of_mul_le_mul_right (a:=d) ?_ hd;rw[show c / d*b*d=c / d*d*b by grind];omega
 ·rw[if_neg g]at h
  have h:¬(a / b+1)*d<c*1:=by simpa using h
  refine⟨a / b,bR hb,by have:=cv (a:=a) hb;omega,?_,by omega⟩;have q:=Int.mul_le_mul_of_nonneg_right (bR (a:=a) hb) (show 0≤d by omega);refine Int.le_of_mul_le_mul_right (a:=b) ?_ hb;rw[show a / b*d*b=a / b*b*d by grind];omega
theorem je{wy:Str}{a b c d:Int}:goB wy a b c d=true↔(wy=aB∧b=1∧d=1∧(c - a=0∨c - a=1))∨(¬wy=aB∧wy=aL∧aK a b c d=true)∨(¬wy=aB∧¬wy=aL∧¬c*b<a*d∧aK a b c d=true):=by
 unfold goB
 by_cases h1:wy=aB
 ·rw[if_pos h1]
  simp[h1]
 ·rw[if_neg h1]
  by_cases h2:wy=aL
  ·rw[if_pos h2]
   exact⟨fun h=>.inr (.inl ⟨h1,h2,h⟩),fun h=>by
    rcases h with⟨z,_⟩|⟨_,_,h⟩|⟨_,z,_⟩
    ·exact absurd z h1
    ·exact h
    ·exact absurd h2 z⟩
  ·rw[if_neg h2]
   simp[h1,h2]
theorem oZ{n m:Int}{w:Str}{L:List Pr}:ck n m w L=true↔∃f l,L.head? = some f∧L.getLast? = some l∧L.all (inB n m)=true∧gM n m w f l=true∧cE w L=true:=by
 cases L with
 | nil=>simp[ck]
 | cons f r =>
  rw[cQ,Bool.and_eq_true,Bool.and_eq_true];constructor
  ·rintro⟨h1,h2,h3⟩
   exact⟨f,_,rfl,List.getLast?_eq_some_getLast (by simp),h1,h2,h3⟩
  ·rintro⟨f',l,e1,e2,h1,h2,h3⟩
   cases e1;rw[List.getLast?_eq_some_getLast (by simp)]at e2;cases e2;exact⟨h1,h2,h3⟩
structure Gd(q:Pr):Prop where
 lx:wS q.a q.b
 ly:wS q.c q.d
 nx:0≤q.a
 ny:0≤q.c
theorem tj{H:Hp}{q:Pr}(h:PrAt H q):Gd q:=⟨h.lx,h.ly,h.nx,h.ny⟩
structure CH(I:Pr->Prop)(E S:Pr->Pr->Prop)(ps:List Pr):Prop where
 ne:0<ps.length
 i:∀q∈ps,I q
 e:∀f l,ps[0]? = some f->ps[ps.length - 1]? = some l->E f l
 s:∀(j:Nat) u v,ps[j]? = some u->ps[j+1]? = some v->S u v
theorem dk{n m:Int}{wy:Str}{ps:List Pr}:ck n m wy ps=true↔CH (fun q=>inB n m q=true) (fun f l=>gM n m wy f l=true) (fun u v=>dE wy u v=true) ps:=by
 rw[oZ];constructor
 ·rintro⟨f,l,h1,h2,h3,h4,h5⟩
  rw[List.head?_eq_getElem?]at h1;rw[List.getLast?_eq_getElem?]at h2;refine⟨(List.getElem?_eq_some_iff.mp h1).1,List.all_eq_true.mp h3,fun f' l' e1 e2=>?_,dq.mp h5⟩;rw[h1]at e1;rw[h2]at e2;cases e1;cases e2;exact h4
 ·rintro⟨h1,h2,h3,h4⟩
  have e1:ps[0]? = some ps[0]:=List.getElem?_eq_getElem h1;have e2:ps[ps.length - 1]? = some ps[ps.length - 1]:=List.getElem?_eq_getElem (by omega);exact⟨ps[0],ps[ps.length - 1],by rw[List.head?_eq_getElem?];exact e1,by rw[List.getLast?_eq_getElem?];exact e2,List.all_eq_true.mpr h2,h3 _ _ e1 e2,dq.mpr h4⟩
theorem dX{n m:Int}{wy:Str}{ps:List Pr}:bU n m wy ps=true↔CH (fun q=>inB n m q=true∧(wy=aB->bV q=true)) (fun f l=>dO n m wy f l=true) (fun u v=>cO wy u v=true) ps:=by
 rw[ie];constructor
 ·rintro⟨f,l,h1,h2,h3,h4,h5,h6⟩
  rw[List.head?_eq_getElem?]at h1;rw[List.getLast?_eq_getElem?]at h2;refine⟨(List.getElem?_eq_some_iff.mp h1).1,fun q hq=>⟨List.all_eq_true.mp h3 q hq,fun z=>?_⟩,fun f' l' e1 e2=>?_,cV.mp h6⟩
  ·rw[if_pos z]at h4
   exact List.all_eq_true.mp h4 q hq
  ·rw[h1]at e1;rw[h2]at e2;cases e1;cases e2
   exact h5
 ·rintro⟨h1,h2,h3,h4⟩
  have e1:ps[0]? = some ps[0]:=List.getElem?_eq_getElem h1;have e2:ps[ps.length - 1]? = some ps[ps.length - 1]:=List.getElem?_eq_getElem (by omega);refine⟨ps[0],ps[ps.length - 1],by rw[List.head?_eq_getElem?];exact e1,by rw[List.getLast?_eq_getElem?];exact e2,List.all_eq_true.mpr fun q hq=>(h2 q hq).1,?_,h3 _ _ e1 e2,cV.mpr h4⟩
  by_cases z:wy=aB
  ·rw[if_pos z]
   exact List.all_eq_true.mpr fun q hq=>(h2 q hq).2 z
  ·rw[if_neg z]
theorem jc{n m:Int}{q:Pr}:inB n m q=true↔q.a≤n*q.b∧q.c≤m*q.d:=by
 unfold inB;simp
theorem gL{n m:Int}{wy:Str}{f l:Pr}:gM n m wy f l=true↔((f.a=0∧f.b=1)∧l.a=n∧l.b=1)∧(¬wy=a6->(f.c=0∧f.d=1)∧l.c=m∧l.d=1):=by
 unfold gM isP
 by_cases h:wy=a6
 ·simp[h]
 ·simp[h]
theorem dw{wy:Str}{u v:Pr}:dE wy u v=true↔goB wy u.a u.b v.a v.b=true∧goB wy u.c u.d v.c v.d=true:=by
 unfold dE;rw[Bool.and_eq_true]
theorem qQ{u v:Pr}:cP u v=true↔v.a*u.b≤u.a*v.b∧u.c*v.d≤v.c*u.d:=by
 unfold cP ltB;simp[Int.not_lt]
theorem oI{u v:Pr}:eJ u v=true↔(u.a=v.a∧u.b=v.b)∧u.b=1∧aK u.c u.d v.c v.d=true:=by
 unfold eJ;simp
theorem oH{u v:Pr}:fS u v=true↔(u.c=v.c∧u.d=v.d)∧u.d=1∧aK u.a u.b v.a v.b=true:=by
 unfold fS;simp
theorem ot{u v:Pr}:cg u v=true↔((u.a=v.a∧u.b=v.b)∧u.b=1∧aK u.c u.d v.c v.d=true)∨((u.c=v.c∧u.d=v.d)∧u.d=1∧aK u.a u.b v.a v.b=true):=by
 unfold cg;rw[Bool.or_eq_true,oI,oH]
theorem oX{u v:Pr}:dQ u v=true↔(v.a - u.a≤0∧u.c - v.c≤1)∨(v.a - u.a≤1∧u.c - v.c≤0):=by
 unfold dQ;simp
theorem kr{wy:Str}{u v:Pr}:cO wy u v=true↔(wy=aB∧dQ u v=true)∨(¬wy=aB∧cg u v=true)∨(¬wy=aB∧¬wy=aL∧cP u v=true):=by
 unfold cO
 by_cases h1:wy=aB
 ·rw[if_pos h1]
  exact⟨fun h=>.inl ⟨h1,h⟩,fun h=>by
   rcases h with⟨_,h⟩|⟨z,_⟩|⟨z,_⟩
   ·exact h
   ·exact absurd h1 z
   ·exact absurd h1 z⟩
 ·rw[if_neg h1]
  by_cases h2:wy=aL
  ·rw[if_pos h2]
   exact⟨fun h=>.inr (.inl ⟨h1,h⟩),fun h=>by
    rcases h with⟨z,_⟩|⟨_,h⟩|⟨_,z,_⟩
    ·exact absurd z h1
    ·exact h
    ·exact absurd h2 z⟩
  ·rw[if_neg h2,Bool.or_eq_true]
   exact⟨fun h=>by
    rcases h with h|h
    ·exact .inr (.inr ⟨h1,h2,h⟩)
    ·exact .inr (.inl ⟨h1,h⟩),fun h=>by
    rcases h with⟨z,_⟩|⟨_,h⟩|⟨_,_,h⟩
    ·exact absurd z h1
    ·exact .inr h
    ·exact .inl h⟩
theorem j7{n m:Int}{wy:Str}{f l:Pr}:dO n m wy f l=true↔((f.c=m∧f.d=1)∨(¬wy=a6∧f.a=0∧f.b=1))∧((l.c=0∧l.d=1)∨(¬wy=a6∧l.a=n∧l.b=1)):=by
 unfold dO isP
 by_cases h:wy=a6
 ·simp[h]
 ·simp[h]
theorem oh{q:Pr}:bV q=true↔q.b=1∧q.d=1:=by
 unfold bV;simp
theorem i4{b:Int}(h:0<b):(0:Rat)<(b:Rat):=Rat.intCast_lt_intCast.mpr h
theorem uM{a b c d:Int}(hb:0<b)(hd:0<d):rq a b<rq c d↔a*d<c*b:=by
 unfold rq;have e:(c:Rat) / (d:Rat)*(b:Rat)=(c:Rat)*(b:Rat) / (d:Rat):=by
  rw[Rat.div_def,Rat.div_def];grind
 rw[Rat.div_lt_iff (i4 hb),e,Rat.lt_div_iff (i4 hd),<- Rat.intCast_mul,<- Rat.intCast_mul,Rat.intCast_lt_intCast]
theorem de{a b c d:Int}(hb:0<b)(hd:0<d):rq a b≤rq c d↔a*d≤c*b:=by
 rw[<- Rat.not_lt,uM hd hb,Int.not_lt]
theorem dI(n:Int):rq n 1=(n:Rat):=by
 unfold rq;rw[Rat.div_def];show(n:Rat)*(1:Rat)⁻¹=_
 grind
theorem ce{n a b:Int}(hb:0<b):(n:Rat)≤rq a b↔n*b≤a:=by
 rw[<- dI,de (by decide) hb,Int.mul_one]
theorem cb{n a b:Int}(hb:0<b):rq a b≤(n:Rat)↔a≤n*b:=by
 rw[<- dI,de hb (by decide),Int.mul_one]
theorem d7{a b c d:Int}(l1:wS a b)(l2:wS c d)(h:rq a b=rq c d):a=c∧b=d :=
 bq l1 l2 (jR (nzl l1) (nzl l2) h)
theorem nc{a b c d:Int}(hb:0<b)(hd:0<d)(h:aK a b c d=true):Crs.Sh (rq a b) (rq c d):=by
 obtain⟨k,h1,h2,h3,h4⟩:=pd hb hd h;refine⟨k,(ce hb).mpr h1,?_,(ce hd).mpr h3,?_⟩
 ·rw[<- Crs.int_add1];exact(cb hb).mpr h2
 ·rw[<- Crs.int_add1];exact(cb hd).mpr h4
def px(q:Pr):Crs.Pt:=(rq q.a q.b,rq q.c q.d)
theorem cA{ps:List Pr}{j:Nat}{u:Crs.Pt}(h:(ps.map px)[j]? = some u):∃q,ps[j]? = some q∧u=px q:=by
 rw[List.getElem?_map]at h;obtain⟨q,h1,h2⟩:=Option.map_eq_some_iff.mp h;exact⟨q,h1,h2.symm⟩
theorem d8{ps:List Pr}{u:Crs.Pt}(h:u∈ps.map px):∃q∈ps,u=px q:=by
 obtain⟨q,h1,h2⟩:=List.mem_map.mp h;exact⟨q,h1,h2.symm⟩
def EgP(ps:List Pr)(f:Pr):Prop:=∃u∈ps,∃v∈ps,((u.c=f.c∧u.d=f.d)∧(v.c=f.c∧v.d=f.d)∧Crs.Bw (rq u.a u.b) (rq v.a v.b) (rq f.a f.b)∧Crs.Sh (rq u.a u.b) (rq v.a v.b))∨((u.a=f.a∧u.b=f.b)∧(v.a=f.a∧v.b=f.b)∧Crs.Bw (rq u.c u.d) (rq v.c v.d) (rq f.c f.d)∧Crs.Sh (rq u.c u.d) (rq v.c v.d))
theorem qZ(a:Rat)(b:Int)(h1:(b:Rat)≤a)(h2:a≤(b:Rat)+1):Crs.Sh a a:=⟨b,h1,h2,h1,h2⟩
theorem tI{a b:Int}(hb:0<b):Crs.Sh (rq a b) (rq a b):=qZ _ (a / b) ((ce hb).mpr (bR hb)) (by rw[<- Crs.int_add1];exact(cb hb).mpr (by have:=cv (a:=a) hb;omega))
theorem tm{ps:List Pr}{f:Pr}(gp:∀q∈ps,Gd q)(gf:Gd f)(h:Crs.Eg (ps.map px) (px f)):EgP ps f:=by
 rcases h with h|⟨j,u,v,hu,hv,h⟩
 ·obtain⟨q,hq,e⟩:=d8 h
  have g:=gp q hq;have e1:rq f.a f.b=rq q.a q.b:=congrArg Prod.fst e;have e2:rq f.c f.d=rq q.c q.d:=congrArg Prod.snd e;obtain⟨a1,a2⟩:=d7 gf.lx g.lx e1;obtain⟨a3,a4⟩:=d7 gf.ly g.ly e2;exact⟨q,hq,q,hq,.inl ⟨⟨a3.symm,a4.symm⟩,⟨a3.symm,a4.symm⟩,.inl ⟨by rw[e1];exact Rat.le_refl,by rw[e1];exact Rat.le_refl⟩,tI g.lx.pos⟩⟩
 ·obtain⟨p,hp,rfl⟩:=cA hu
  obtain⟨q,hq,rfl⟩:=cA hv;have mp:=List.mem_of_getElem? hp;have mq:=List.mem_of_getElem? hq;refine⟨p,mp,q,mq,?_⟩;rcases h with⟨e1,e2,b,s⟩|⟨e1,e2,b,s⟩
  ·exact .inl ⟨d7 (gp p mp).ly gf.ly e1,d7 (gp q mq).ly gf.ly e2,b,s⟩
  ·exact .inr ⟨d7 (gp p mp).lx gf.lx e1,d7 (gp q mq).lx gf.lx e2,b,s⟩
theorem qH{p q r s c d:Int}(hq:0<q)(hs:0<s)(hd:0<d):Crs.Bw (rq p q) (rq r s) (rq c d)↔btw p q r s c d:=by
 unfold Crs.Bw btw;rw[de hq hd,de hd hs,de hs hd,de hd hq]
theorem qP{u v:Pr}(gu:Gd u)(gv:Gd v):Crs.Bk (px u) (px v)↔cP u v=true:=by
 unfold Crs.Bk px;rw[qQ,de gv.lx.pos gu.lx.pos,de gu.ly.pos gv.ly.pos]
theorem sN{a b:Int}(h:b=1):Crs.Wh (rq a b):=⟨a,by rw[h,dI]⟩
theorem li{u v:Pr}(gu:Gd u)(gv:Gd v)(h:cg u v=true):Crs.Vs (px u) (px v)∨Crs.Hs (px u) (px v):=by
 rcases ot.mp h with⟨⟨e1,e2⟩,b1,sh⟩|⟨⟨e1,e2⟩,b1,sh⟩
 ·exact .inl ⟨by show rq u.a u.b=rq v.a v.b;rw[e1,e2],sN b1,nc gu.ly.pos gv.ly.pos sh⟩
 ·exact .inr ⟨by show rq u.c u.d=rq v.c v.d;rw[e1,e2],sN b1,nc gu.lx.pos gv.lx.pos sh⟩
theorem tp{u v p:Pr}(gu:Gd u)(gv:Gd v)(gp:Gd p)(h:Crs.Bx (px u) (px v) (px p)):Box u v p.a p.b p.c p.d :=
 ⟨(qH gu.lx.pos gv.lx.pos gp.lx.pos).mp h.1,(qH gu.ly.pos gv.ly.pos gp.ly.pos).mp h.2⟩
theorem jb{n m:Int}{q:Pr}(g:Gd q)(h:inB n m q=true):(0≤(px q).1∧(px q).1≤(n:Rat))∧0≤(px q).2∧(px q).2≤(m:Rat):=by
 have i:=jc.mp h;refine⟨⟨(ce (n:=0) g.lx.pos).mpr ?_,(cb g.lx.pos).mpr i.1⟩,(ce (n:=0) g.ly.pos).mpr ?_,(cb g.ly.pos).mpr i.2⟩
 ·have:=g.nx;omega
 ·have:=g.ny;omega
theorem eV(ps:List Pr):(ps.map px).length=ps.length:=List.length_map _
theorem uZ{a b c d:Int}(hb:0<b)(hd:0<d)(h:¬c*b<a*d):rq a b≤rq c d:=(de hb hd).mpr (by omega)
theorem tf{wy:Str}{a b c d:Int}(hb:0<b)(hd:0<d)(nf:¬wy=aL)(h:goB wy a b c d=true):rq a b≤rq c d∧Crs.Sh (rq a b) (rq c d):=by
 rcases je.mp h with⟨_,b1,d1,e⟩|⟨_,z,_⟩|⟨_,_,l,s⟩
 ·subst b1 d1
  refine⟨(de (by decide) (by decide)).mpr (by omega),a,?_,?_,?_,?_⟩
  ·rw[dI];exact Rat.le_refl
  ·rw[dI];grind
  ·rw[dI,Crs.int_le];omega
  ·rw[dI,<- Crs.int_add1,Crs.int_le];omega
 ·exact absurd z nf
 ·exact⟨uZ hb hd l,nc hb hd s⟩
theorem nI{wy:Str}{a b c d:Int}(hb:0<b)(hd:0<d)(f:wy=aL)(h:goB wy a b c d=true):Crs.Sh (rq a b) (rq c d):=by
 rcases je.mp h with⟨z,_⟩|⟨_,_,s⟩|⟨_,z,_⟩
 ·rw[f]at z;exact absurd z (by decide)
 ·exact nc hb hd s
 ·exact absurd f z
theorem rJ{n m:Int}{wy:Str}{ps:List Pr}(nf:¬wy=aL)(gp:∀q∈ps,Gd q)(h:ck n m wy ps=true):Crs.Mono (ps.map px):=by
 have W:=dk.mp h;refine⟨fun j u v hu hv=>?_⟩;obtain⟨p,hp,rfl⟩:=cA hu;obtain⟨q,hq,rfl⟩:=cA hv;obtain⟨s1,s2⟩:=dw.mp (W.s j p q hp hq);have g1:=gp p (List.mem_of_getElem? hp);have g2:=gp q (List.mem_of_getElem? hq);obtain⟨a1,a2⟩:=tf g1.lx.pos g2.lx.pos nf s1;obtain⟨a3,a4⟩:=tf g1.ly.pos g2.ly.pos nf s2;exact⟨⟨a1,a3⟩,a2,a4⟩
theorem fC{n m:Int}{wy:Str}{ps:List Pr}(h:ck n m wy ps=true){u:Pr}(hu:ps[0]? = some u):(u.a=0∧u.b=1)∧(¬wy=a6->u.c=0∧u.d=1):=by
 have W:=dk.mp h;have e2:ps[ps.length - 1]? = some (ps[ps.length - 1]'(by have:=W.ne;omega)):=List.getElem?_eq_getElem (by have:=W.ne;omega);have e:=gL.mp (W.e u _ hu e2);exact⟨e.1.1,fun z=>(e.2 z).1⟩
theorem iV{n m:Int}{wy:Str}{ps:List Pr}(h:ck n m wy ps=true){u:Pr}(hu:ps[ps.length - 1]? = some u):(u.a=n∧u.b=1)∧(¬wy=a6->u.c=m∧u.d=1):=by
 have W:=dk.mp h;have e2:ps[0]? = some (ps[0]'W.ne):=List.getElem?_eq_getElem W.ne;have e:=gL.mp (W.e _ u e2 hu);exact⟨⟨e.1.2.1,e.1.2.2⟩,fun z=>(e.2 z).2⟩
theorem kW{n m:Int}{wy:Str}{ps:List Pr}(h:bU n m wy ps=true){u:Pr}(hu:ps[0]? = some u):(u.c=m∧u.d=1)∨(¬wy=a6∧u.a=0∧u.b=1):=by
 have W:=dX.mp h;have e2:ps[ps.length - 1]? = some (ps[ps.length - 1]'(by have:=W.ne;omega)):=List.getElem?_eq_getElem (by have:=W.ne;omega);exact(j7.mp (W.e u _ hu e2)).1
theorem mT{n m:Int}{wy:Str}{ps:List Pr}(h:bU n m wy ps=true){u:Pr}(hu:ps[ps.length - 1]? = some u):(u.c=0∧u.d=1)∨(¬wy=a6∧u.a=n∧u.b=1):=by
 have W:=dX.mp h;have e2:ps[0]? = some (ps[0]'W.ne):=List.getElem?_eq_getElem W.ne;exact(j7.mp (W.e _ u e2 hu)).2
theorem dR{a b n:Int}(h:a=n∧b=1):rq a b=(n:Rat):=by rw[h.1,h.2,dI]
def mz(wy:Str)(ps fs:List Pr):Prop:=(∃f∈fs,EgP ps f)∨∃p∈ps,FS wy fs p.a p.b p.c p.d
theorem rK{n m:Int}{wy:Str}{ps fs:List Pr}(nf:¬wy=aL)(nh:¬wy=aB)(gp:∀q∈ps,Gd q)(gf:∀q∈fs,Gd q)(h:ck n m wy ps=true)(k:bU n m wy fs=true):mz wy ps fs:=by
 have W:=dk.mp h;have F:=dX.mp k;have key:=Crs.cross_on (W:=ps.map px) (G:=fs.map px) (N:=n) (M:=m) (rJ nf gp h) ⟨fun j f g hf hg=>?_⟩ (by rw[eV];exact W.ne) (by rw[eV];exact F.ne)
  (fun p hp=>?_) (fun p hp=>?_) (fun u hu=>?_) (fun u hu=>?_) (fun f hf=>?_) (fun f hf=>?_)
 ·rcases key with⟨f,hf,e⟩|⟨p,hp,j,f,g,hf,hg,nb,bx⟩
  ·obtain⟨q,hq,rfl⟩:=d8 hf
   exact .inl ⟨q,hq,tm gp (gf q hq) e⟩
  ·obtain⟨q,hq,rfl⟩:=d8 hp
   obtain⟨u,hu,rfl⟩:=cA hf;obtain⟨v,hv,rfl⟩:=cA hg;have gu:=gf u (List.mem_of_getElem? hu);have gv:=gf v (List.mem_of_getElem? hv);refine .inr ⟨q,hq,.inr ⟨j,u,v,hu,hv,?_,tp gu gv (gp q hq) bx⟩⟩;have:cP u v=false:=by
    cases e:cP u v with
    | false=>rfl
    | true=>exact absurd ((qP gu gv).mpr e) nb
   unfold msB;rw[if_neg nh,this];simp
 ·obtain⟨u,hu,rfl⟩:=cA hf
  obtain⟨v,hv,rfl⟩:=cA hg;have gu:=gf u (List.mem_of_getElem? hu);have gv:=gf v (List.mem_of_getElem? hv);rcases kr.mp (F.s j u v hu hv) with⟨z,_⟩|⟨_,s⟩|⟨_,_,b⟩
  ·exact absurd z nh
  ·exact .inr (li gu gv s)
  ·exact .inl ((qP gu gv).mpr b)
 ·obtain⟨q,hq,rfl⟩:=d8 hp
  exact jb (gp q hq) (W.i q hq)
 ·obtain⟨q,hq,rfl⟩:=d8 hp
  exact jb (gf q hq) (F.i q hq).1
 ·obtain⟨q,hq,rfl⟩:=cA hu
  exact dR (fC h hq).1
 ·rw[eV]at hu
  obtain⟨q,hq,rfl⟩:=cA hu;exact dR (iV h hq).1
 ·obtain⟨q,hq,rfl⟩:=cA hf
  rcases kW k hq with e|⟨np,e⟩
  ·exact .inl (dR e)
  ·refine .inr ⟨dR e,fun u hu=>?_⟩
   obtain⟨r,hr,rfl⟩:=cA hu;exact dR ((fC h hr).2 np)
 ·rw[eV]at hf
  obtain⟨q,hq,rfl⟩:=cA hf;rcases mT k hq with e|⟨np,e⟩
  ·exact .inl (dR e)
  ·refine .inr ⟨dR e,fun u hu=>?_⟩
   rw[eV]at hu;obtain⟨r,hr,rfl⟩:=cA hu;exact dR ((iV h hr).2 np)
theorem hit{L:List Rat}{y:Rat}(h0:∀u,L[0]? = some u->u≤y)(h1:∃u∈L,y≤u):L[0]? = some y∨∃(j:Nat) (u v:Rat),L[j]? = some u∧L[j+1]? = some v∧u≤y∧y≤v:=by
 obtain⟨s,q,e,hq,hl⟩:=Crs.first_of (P:=fun z=>y≤z) h1;cases s with
 | zero=>exact .inl (by rw[e,Rat.le_antisymm (h0 q e) hq])
 | succ s =>
  have hs:=(List.getElem?_eq_some_iff.mp e).1;have e':L[s]? = some (L[s]'(by omega)):=List.getElem?_eq_getElem (by omega);have:=hl s _ (by omega) e';exact .inr ⟨s,_,q,e',e,by grind,hq⟩
theorem jW{n m:Int}{ps fs:List Pr}(hnm:n=0∨m=0)(n0:0≤n)(m0:0≤m)(gp:∀q∈ps,Gd q)(gf:∀q∈fs,Gd q)(h:ck n m aL ps=true)(k:bU n m aL fs=true):mz aL ps fs:=by
 have W:=dk.mp h;have F:=dX.mp k;have np:¬aL=a6:=by decide
 have e0:ps[0]? = some (ps[0]'W.ne):=List.getElem?_eq_getElem W.ne;have el:ps[ps.length - 1]? = some (ps[ps.length - 1]'(by have:=W.ne;omega)):=List.getElem?_eq_getElem (by have:=W.ne;omega);have ef:fs[0]? = some (fs[0]'F.ne):=List.getElem?_eq_getElem F.ne;generalize ps[0]'W.ne=w0 at e0;generalize ps[ps.length - 1]'(by have:=W.ne;omega)=wl at el;generalize fs[0]'F.ne=f at ef;have mf:=List.mem_of_getElem? ef;have m0':=List.mem_of_getElem? e0;have ml:=List.mem_of_getElem? el;obtain⟨⟨f1,f2⟩,f3,f4⟩:=jb (gf f mf) (F.i f mf).1;have A:=fC h e0;have Z:=iV h el;have zero:∀{x:Rat},0≤x->x≤((0:Int):Rat)->x=0:=fun a b=>Rat.le_antisymm b a;refine .inl ⟨f,mf,tm gp (gf f mf) ?_⟩;have sx:∀(j:Nat) u v,ps[j]? = some u->ps[j+1]? = some v->Crs.Sh (rq u.a u.b) (rq v.a v.b)∧Crs.Sh (rq u.c u.d) (rq v.c v.d):=fun j u v hu hv=>by
  obtain⟨s1,s2⟩:=dw.mp (W.s j u v hu hv);have g1:=gp u (List.mem_of_getElem? hu);have g2:=gp v (List.mem_of_getElem? hv);exact⟨nI g1.lx.pos g2.lx.pos rfl s1,nI g1.ly.pos g2.ly.pos rfl s2⟩
 rcases hnm with rfl|rfl
 ·have all:∀q∈ps,rq q.a q.b=(px f).1:=fun q hq=>by
   obtain⟨⟨a1,a2⟩,_⟩:=jb (gp q hq) (W.i q hq);rw[zero f1 f2];exact zero a1 a2
  have h0:∀u,(ps.map fun q=>rq q.c q.d)[0]? = some u->u≤(px f).2:=fun u hu=>by
   rw[List.getElem?_map,e0]at hu;cases hu;show rq w0.c w0.d≤_;rw[dR (A.2 np)];exact f3
  have h1:(px f).2≤rq wl.c wl.d:=by
   rw[dR (Z.2 np)];exact f4
  rcases hit (L:=ps.map fun q=>rq q.c q.d) h0 ⟨_,List.mem_map.mpr ⟨wl,ml,rfl⟩,h1⟩ with z|⟨j,u,v,hu,hv,a1,a2⟩
  ·rw[List.getElem?_map,e0]at z
   injection z with z;refine .inl (List.mem_map.mpr ⟨w0,m0',Prod.ext (all w0 m0') z⟩)
  ·rw[List.getElem?_map]at hu hv
   obtain⟨p,hp,rfl⟩:=Option.map_eq_some_iff.mp hu;obtain⟨q,hq,rfl⟩:=Option.map_eq_some_iff.mp hv;exact .inr ⟨j,px p,px q,by rw[List.getElem?_map,hp];rfl,by rw[List.getElem?_map,hq];rfl,.inr ⟨all p (List.mem_of_getElem? hp),all q (List.mem_of_getElem? hq),.inl ⟨a1,a2⟩,(sx j p q hp hq).2⟩⟩
 ·have all:∀q∈ps,rq q.c q.d=(px f).2:=fun q hq=>by
   obtain⟨_,a1,a2⟩:=jb (gp q hq) (W.i q hq);rw[zero f3 f4];exact zero a1 a2
  have h0:∀u,(ps.map fun q=>rq q.a q.b)[0]? = some u->u≤(px f).1:=fun u hu=>by
   rw[List.getElem?_map,e0]at hu;cases hu;show rq w0.a w0.b≤_;rw[dR A.1];exact f1
  have h1:(px f).1≤rq wl.a wl.b:=by
   rw[dR Z.1];exact f2
  rcases hit (L:=ps.map fun q=>rq q.a q.b) h0 ⟨_,List.mem_map.mpr ⟨wl,ml,rfl⟩,h1⟩ with z|⟨j,u,v,hu,hv,a1,a2⟩
  ·rw[List.getElem?_map,e0]at z
   injection z with z;refine .inl (List.mem_map.mpr ⟨w0,m0',Prod.ext z (all w0 m0')⟩)
  ·rw[List.getElem?_map]at hu hv
   obtain⟨p,hp,rfl⟩:=Option.map_eq_some_iff.mp hu;obtain⟨q,hq,rfl⟩:=Option.map_eq_some_iff.mp hv;exact .inr ⟨j,px p,px q,by rw[List.getElem?_map,hp];rfl,by rw[List.getElem?_map,hq];rfl,.inl ⟨all p (List.mem_of_getElem? hp),all q (List.mem_of_getElem? hq),.inl ⟨a1,a2⟩,(sx j p q hp hq).1⟩⟩
theorem rH(u v:Pr):msB aL u v=true:=by
 unfold msB;rw[if_neg (by decide)];rfl
theorem oF{n m:Int}{ps fs:List Pr}(n0:0≤n)(m0:0≤m)(gp:∀q∈ps,Gd q)(gf:∀q∈fs,Gd q)(h:ck n m aL ps=true)(k:bU n m aL fs=true):mz aL ps fs:=by
 rcases Int.lt_or_le 0 n with hn|hn
 ·rcases Int.lt_or_le 0 m with hm|hm
  ·have W:=dk.mp h
   have F:=dX.mp k;have np:¬aL=a6:=by decide
   have ef:fs[0]? = some (fs[0]'F.ne):=List.getElem?_eq_getElem F.ne;have el:fs[fs.length - 1]? = some (fs[fs.length - 1]'(by have:=F.ne;omega)):=List.getElem?_eq_getElem (by have:=F.ne;omega);generalize fs[0]'F.ne=f at ef;generalize fs[fs.length - 1]'(by have:=F.ne;omega)=l at el;have S:Crs.Sd n m (fs.map px) (px f) (px l):=by
    refine⟨by rw[List.getElem?_map,ef];rfl,by rw[eV,List.getElem?_map,el];rfl,⟨fun j a b ha hb=>?_⟩,fun p hp=>?_,?_,?_⟩
    ·obtain⟨u,hu,rfl⟩:=cA ha
     obtain⟨v,hv,rfl⟩:=cA hb;rcases kr.mp (F.s j u v hu hv) with⟨z,_⟩|⟨_,s⟩|⟨_,z,_⟩
     ·exact absurd z (by decide)
     ·exact li (gf u (List.mem_of_getElem? hu)) (gf v (List.mem_of_getElem? hv)) s
     ·exact absurd rfl z
    ·obtain⟨q,hq,rfl⟩:=d8 hp
     exact jb (gf q hq) (F.i q hq).1
    ·rcases kW k ef with e|⟨_,e⟩
     ·exact .inl (dR e)
     ·exact .inr (dR e)
    ·rcases mT k el with e|⟨_,e⟩
     ·exact .inl (dR e)
     ·exact .inr (dR e)
   obtain⟨p,hp,on⟩:=Crs.cross_free (W:=ps.map px) (by omega) (by omega) S (by rw[eV];exact W.ne) (fun p hp=>by
     obtain⟨q,hq,rfl⟩:=d8 hp;exact jb (gp q hq) (W.i q hq)) (fun j u v hu hv=>by
     obtain⟨p,hp,rfl⟩:=cA hu;obtain⟨q,hq,rfl⟩:=cA hv;obtain⟨s1,s2⟩:=dw.mp (W.s j p q hp hq);have g1:=gp p (List.mem_of_getElem? hp);have g2:=gp q (List.mem_of_getElem? hq);exact⟨nI g1.lx.pos g2.lx.pos rfl s1,nI g1.ly.pos g2.ly.pos rfl s2⟩) (fun u hu=>by
     obtain⟨q,hq,rfl⟩:=cA hu;have A:=fC h hq;exact Prod.ext (dR A.1) (dR (A.2 np))) (fun u hu=>by
     rw[eV]at hu;obtain⟨q,hq,rfl⟩:=cA hu;have A:=iV h hq;exact Prod.ext (dR A.1) (dR (A.2 np)))
   obtain⟨q,hq,rfl⟩:=d8 hp;refine .inr ⟨q,hq,?_⟩;rcases on with on|⟨j,a,b,ha,hb,bx⟩
   ·obtain⟨r,hr,e⟩:=d8 on
    have e1:rq q.a q.b=rq r.a r.b:=congrArg Prod.fst e;have e2:rq q.c q.d=rq r.c r.d:=congrArg Prod.snd e;exact .inl ⟨r,hr,d7 (gp q hq).lx (gf r hr).lx e1,d7 (gp q hq).ly (gf r hr).ly e2⟩
   ·obtain⟨u,hu,rfl⟩:=cA ha
    obtain⟨v,hv,rfl⟩:=cA hb;exact .inr ⟨j,u,v,hu,hv,rH u v,tp (gf u (List.mem_of_getElem? hu)) (gf v (List.mem_of_getElem? hv)) (gp q hq) bx⟩
  ·exact jW (.inr (by omega)) n0 m0 gp gf h k
 ·exact jW (.inl (by omega)) n0 m0 gp gf h k
def Hp1(ps:List Pr):Prop:=∀(j:Nat) u v,ps[j]? = some u->ps[j+1]? = some v->(v.a - u.a=0∨v.a - u.a=1)∧(v.c - u.c=0∨v.c - u.c=1)
theorem qj{ps:List Pr}(st:Hp1 ps):∀(d i:Nat) u v,ps[i]? = some u->ps[i+d]? = some v->u.a≤v.a∧u.c≤v.c
 | 0,i,u,v,e1,e2=>by
  rw[Nat.add_zero,e1]at e2;cases e2;exact⟨Int.le_refl _,Int.le_refl _⟩
 | d+1,i,u,v,e1,e2=>by
  have hl:=(List.getElem?_eq_some_iff.mp e2).1;have e3:ps[i+d]? = some (ps[i+d]'(by omega)):=List.getElem?_eq_getElem (by omega);obtain⟨a1,a2⟩:=qj st d i u _ e1 e3;obtain⟨b1,b2⟩:=st (i+d) _ v e3 e2;omega
theorem rV{ps:List Pr}{x y:Int}(st:Hp1 ps)(h0:∀u,ps[0]? = some u->u.a=0∧u.c=0)(hx:0≤x)(hy:0≤y)(top:∃p∈ps,x≤p.a∧y≤p.c)(A:∃p∈ps,x≤p.a∧p.c≤y)(C:(∀p∈ps,x≤p.a->y≤p.c)∨(∀p∈ps,x+1≤p.a->y<p.c)):∃p∈ps,p.a=x∧p.c=y:=by
 obtain⟨s,t,e,ht,hl⟩:=Crs.first_of (P:=fun p:Pr=>x≤p.a∧y≤p.c) top;have mt:=List.mem_of_getElem? e;cases s with
 | zero =>
  have:=h0 t e;exact⟨t,mt,by omega,by omega⟩
 | succ s =>
  have hs:=(List.getElem?_eq_some_iff.mp e).1;have e':ps[s]? = some (ps[s]'(by omega)):=List.getElem?_eq_getElem (by omega);generalize ps[s]'(by omega)=p' at e';have n:=hl s p' (by omega) e';obtain⟨s1,s2⟩:=st s p' t e' e;have mp:=List.mem_of_getElem? e'
  by_cases c:p'.a<x
  ·obtain⟨p,hp,p1,p2⟩:=A
   obtain⟨k,hk⟩:=List.mem_iff_getElem?.mp hp;have:t.c≤p.c:=by
    rcases Nat.lt_or_ge s k with z|z
    ·obtain⟨d,rfl⟩:=Nat.exists_eq_add_of_le (show s+1≤k from z)
     exact(qj st d (s+1) t p e hk).2
    ·obtain⟨d,rfl⟩:=Nat.exists_eq_add_of_le z
     have:=(qj st d k p p' hk e').1;omega
   exact⟨t,mt,by omega,by omega⟩
  ·refine⟨t,mt,?_,by omega⟩
   rcases C with C|C
   ·have:=C p' mp (by omega)
    omega
   ·by_cases z:x+1≤t.a
    ·have:=C t mt z
     omega
    ·omega
theorem oE{n m:Int}{ps fs:List Pr}(gp:∀q∈ps,Gd q)(gf:∀q∈fs,Gd q)(h:ck n m aB ps=true)(k:bU n m aB fs=true):mz aB ps fs:=by
 have W:=dk.mp h;have F:=dX.mp k;have np:¬aB=a6:=by decide
 have hop:∀{a b c d:Int},goB aB a b c d=true->b=1∧d=1∧(c - a=0∨c - a=1):=fun hg=>by
  rcases je.mp hg with⟨_,z⟩|⟨z,_⟩|⟨z,_⟩
  ·exact z
  ·exact absurd rfl z
  ·exact absurd rfl z
 have st:Hp1 ps:=fun j u v hu hv=>by
  obtain⟨s1,s2⟩:=dw.mp (W.s j u v hu hv);exact⟨(hop s1).2.2,(hop s2).2.2⟩
 have e0:ps[0]? = some (ps[0]'W.ne):=List.getElem?_eq_getElem W.ne;have el:ps[ps.length - 1]? = some (ps[ps.length - 1]'(by have:=W.ne;omega)):=List.getElem?_eq_getElem (by have:=W.ne;omega);generalize ps[0]'W.ne=w0 at e0;generalize ps[ps.length - 1]'(by have:=W.ne;omega)=wl at el;have A0:=fC h e0;have Z0:=iV h el;have m0:=List.mem_of_getElem? e0;have ml:=List.mem_of_getElem? el;have whole:∀q∈ps,q.b=1∧q.d=1:=fun q hq=>by
  obtain⟨j,hj⟩:=List.mem_iff_getElem?.mp hq;cases j with
  | zero =>
   rw[e0]at hj;cases hj;exact⟨A0.1.2,(A0.2 np).2⟩
  | succ j =>
   have hs:=(List.getElem?_eq_some_iff.mp hj).1;have e':ps[j]? = some (ps[j]'(by omega)):=List.getElem?_eq_getElem (by omega);obtain⟨s1,s2⟩:=dw.mp (W.s j _ q e' hj);exact⟨(hop s1).2.1,(hop s2).2.1⟩
 have fw:∀q∈fs,(q.b=1∧q.d=1)∧q.a≤n∧q.c≤m:=fun q hq=>by
  have:=F.i q hq;have w1:=oh.mp (this.2 rfl);have i1:=jc.mp this.1;rw[w1.1,w1.2]at i1;exact⟨w1,by omega,by omega⟩
 have h0:∀u,ps[0]? = some u->u.a=0∧u.c=0:=fun u hu=>by
  have:=fC h hu;exact⟨this.1.1,(this.2 np).1⟩
 have wa:wl.a=n:=Z0.1.1;have wc:wl.c=m:=(Z0.2 np).1
 let A:Pr->Prop:=fun f=>∃p∈ps,f.a≤p.a∧p.c≤f.c
 have ef:fs[0]? = some (fs[0]'F.ne):=List.getElem?_eq_getElem F.ne;generalize fs[0]'F.ne=f0 at ef;have mf0:=List.mem_of_getElem? ef;have AA:A f0:=by
  rcases kW k ef with e|⟨_,e⟩
  ·exact⟨wl,ml,by have:=(fw f0 mf0).2.1;omega,by omega⟩
  ·exact⟨w0,m0,by have:=A0.1.1;omega,by have:=(A0.2 np).1;have:=(gf f0 mf0).ny;omega⟩
 obtain⟨s,f,e,hA,hl⟩:=Crs.last_of (P:=A) ⟨f0,mf0,AA⟩;have hs:=(List.getElem?_eq_some_iff.mp e).1;have mf:=List.mem_of_getElem? e;have wf:=fw f mf;have C:(∀p∈ps,f.a≤p.a->f.c≤p.c)∨(∀p∈ps,f.a+1≤p.a->f.c<p.c):=by
  rcases Nat.lt_or_ge (s+1) fs.length with z|z
  ·have e3:fs[s+1]? = some (fs[s+1]'z):=List.getElem?_eq_getElem z
   generalize fs[s+1]'z=g at e3;have nA:=hl (s+1) g (by omega) e3;have nA':∀p∈ps,g.a≤p.a->g.c<p.c:=fun p hp h1=>by
    rcases Int.lt_or_le g.c p.c with h2|h2
    ·exact h2
    ·exact absurd ⟨p,hp,h1,h2⟩ nA
   rcases kr.mp (F.s s f g e e3) with⟨_,z⟩|⟨z,_⟩|⟨z,_⟩
   ·rcases oX.mp z with⟨a1,a2⟩|⟨a1,a2⟩
    ·exact .inl fun p hp h1=>by have:=nA' p hp (by omega);omega
    ·exact .inr fun p hp h1=>by have:=nA' p hp (by omega);omega
   ·exact absurd rfl z
   ·exact absurd rfl z
  ·have es:fs[fs.length - 1]? = some f:=by rw[show fs.length - 1=s by omega];exact e
   rcases mT k es with e|⟨_,e⟩
   ·exact .inl fun p hp h1=>by have:=(gp p hp).ny;omega
   ·refine .inr fun p hp h1=>?_
    have:=(jc.mp (W.i p hp)).1;rw[(whole p hp).1]at this;omega
 obtain⟨p,hp,p1,p2⟩:=rV st h0 (gf f mf).nx (gf f mf).ny ⟨wl,ml,by omega,by omega⟩ hA C;refine .inr ⟨p,hp,.inl ⟨f,mf,⟨p1,?_⟩,p2,?_⟩⟩
 ·rw[(whole p hp).1,wf.1.1]
 ·rw[(whole p hp).2,wf.1.2]
theorem vD{n m:Int}{wy:Str}{ps fs:List Pr}(n0:0≤n)(m0:0≤m)(gp:∀q∈ps,Gd q)(gf:∀q∈fs,Gd q)(h:ck n m wy ps=true)(k:bU n m wy fs=true):mz wy ps fs:=by
 by_cases h1:wy=aB
 ·subst h1;exact oE gp gf h k
 by_cases h2:wy=aL
 ·subst h2;exact oF n0 m0 gp gf h k
 exact rK h2 h1 gp gf h k
theorem cvx{A B C D t1 t t2 M:Rat}(h1:t1≤t)(h2:t≤t2)(g1:(A+B*t1)*(A+B*t1)+(C+D*t1)*(C+D*t1)≤M)(g2:(A+B*t2)*(A+B*t2)+(C+D*t2)*(C+D*t2)≤M):(A+B*t)*(A+B*t)+(C+D*t)*(C+D*t)≤M:=by
 rcases Classical.em (t1=t2) with e|e
 ·have:t=t1:=by grind
  rw[this];exact g1
 have hp:0<t2 - t1:=by grind
 refine Rat.le_of_mul_le_mul_left ?_ hp;have a1:=Rat.mul_le_mul_of_nonneg_left g1 (show 0≤t2 - t by grind);have a2:=Rat.mul_le_mul_of_nonneg_left g2 (show 0≤t - t1 by grind);have sq:∀x:Rat,0≤x*x:=fun x=>by
  rcases Classical.em (0≤x) with z|z
  ·exact Rat.mul_nonneg z z
  ·have:=Rat.mul_nonneg (show 0≤-x by grind) (show 0≤-x by grind)
   grind
 have a3:0≤(t - t1)*(t2 - t)*(t2 - t1)*(B*B+D*D):=Rat.mul_nonneg (Rat.mul_nonneg (Rat.mul_nonneg (by grind) (by grind)) (by grind)) (Rat.add_nonneg (sq B) (sq D));have e:(t2 - t1)*((A+B*t)*(A+B*t)+(C+D*t)*(C+D*t))=(t2 - t)*((A+B*t1)*(A+B*t1)+(C+D*t1)*(C+D*t1))+(t - t1)*((A+B*t2)*(A+B*t2)+(C+D*t2)*(C+D*t2)) - (t - t1)*(t2 - t)*(t2 - t1)*(B*B+D*D):=by grind
 have e2:(t2 - t1)*M=(t2 - t)*M+(t - t1)*M:=by grind
 rw[e,e2];generalize (t2 - t)*((A+B*t1)*(A+B*t1)+(C+D*t1)*(C+D*t1))=u1 at *;generalize (t - t1)*((A+B*t2)*(A+B*t2)+(C+D*t2)*(C+D*t2))=u2 at *;generalize (t - t1)*(t2 - t)*(t2 - t1)*(B*B+D*D)=u3 at *;generalize (t2 - t)*M=u4 at *;generalize (t - t1)*M=u5 at *
 grind
theorem tG{X Y b X' Y' d:Int}{x y x' y':Rat}(hb:0<b)(hd:0<d)(e1:(X:Rat)=x*b)(e2:(Y:Rat)=y*b)(e3:(X':Rat)=x'*d)(e4:(Y':Rat)=y'*d):rq (sqN X Y b X' Y' d) (sqD b d)=(x' - x)*(x' - x)+(y' - y)*(y' - y):=by
 have hz:((b:Rat)*d)*(b*d)≠0:=by
  have:=Rat.mul_pos (Rat.mul_pos (i4 hb) (i4 hd)) (Rat.mul_pos (i4 hb) (i4 hd))
  grind
 unfold rq sqN sqD;simp only[Rat.intCast_mul,Rat.intCast_add,Rat.intCast_sub];rw[e1,e2,e3,e4];have:(x'*d*b - x*b*d)*(x'*d*b - x*b*d)+(y'*d*b - y*b*d)*(y'*d*b - y*b*d)=((x' - x)*(x' - x)+(y' - y)*(y' - y))*((b:Rat)*d*(b*d)):=by grind
 rw[this];exact Rat.mul_div_cancel hz
theorem ki{a b:Int}(hb:0<b):(a:Rat)=rq a b*(b:Rat):=by
 unfold rq;have:=i4 hb;exact(Rat.div_mul_cancel (by grind)).symm
theorem nD{c0 c1 a b X:Int}{k:Nat}(hb:0<b)(e:X=c0*b+(c1 - c0)*(a - (k:Int)*b)):(X:Rat)=((c0:Rat)+((c1:Rat) - c0)*(rq a b - ((k:Int):Rat)))*b:=by
 rw[e];simp only[Rat.intCast_mul,Rat.intCast_add,Rat.intCast_sub];have:=ki (a:=a) hb
 grind
theorem tq{qs rs:Crn}{k:Nat}{c d:Int}(hk:k+1<qs.length)(hd:0<d):∃A B C D:Rat,∀a b:Int,0<b->(k:Int)*b≤a->a≤((k:Int)+1)*b->rq (sqF qs a b rs c d) (sqD b d)=(A+B*rq a b)*(A+B*rq a b)+(C+D*rq a b)*(C+D*rq a b):=by
 refine⟨rq (ptX rs c d) d - (cX qs k:Rat)+((cX qs (k+1):Rat) - cX qs k)*((k:Int):Rat),- ((cX qs (k+1):Rat) - cX qs k),rq (ptY rs c d) d - (cY qs k:Rat)+((cY qs (k+1):Rat) - cY qs k)*((k:Int):Rat),- ((cY qs (k+1):Rat) - cY qs k),fun a b hb h1 h2=>?_⟩;have e:=tG hb hd (nD hb (iZ hb hk h1 h2)) (nD hb (iY hb hk h1 h2)) (ki (a:=ptX rs c d) hd) (ki (a:=ptY rs c d) hd);unfold sqF;rw[e];generalize rq (ptX rs c d) d=x';generalize rq (ptY rs c d) d=y';generalize (cX qs k:Rat)=x0;generalize (cX qs (k+1):Rat)=x1;generalize (cY qs k:Rat)=y0;generalize (cY qs (k+1):Rat)=y1;generalize rq a b=t;generalize ((k:Int):Rat)=z
 grind
theorem vj{qs rs:Crn}{a1 b1 a2 b2 a b c d s w:Int}(g1:1≤qs.length)(l1:wS a1 b1)(l2:wS a2 b2)(l:wS a b)(hd:0<d)(hw:0<w)(i1:0≤a1∧a1≤aH qs*b1)(i2:0≤a2∧a2≤aH qs*b2)(bw:Crs.Bw (rq a1 b1) (rq a2 b2) (rq a b))(sh:Crs.Sh (rq a1 b1) (rq a2 b2))
  (m1:sqF qs a1 b1 rs c d*w≤s*sqD b1 d) (m2:sqF qs a2 b2 rs c d*w≤s*sqD b2 d):sqF qs a b rs c d*w≤s*sqD b d:=by
 have p1:=l1.pos;have p2:=l2.pos;have p:=l.pos
 by_cases c1:qs.length=1
 ·have z:aH qs=0:=by unfold aH;omega
  rw[z]at i1 i2;have e1:a1=0:=by omega
  have e2:a2=0:=by omega
  have r1:rq a1 b1=((0:Int):Rat):=by
   rw[<- dI,e1];exact Rat.le_antisymm ((de p1 (by decide)).mpr (by omega)) ((de (by decide) p1).mpr (by omega))
  have r2:rq a2 b2=((0:Int):Rat):=by
   rw[<- dI,e2];exact Rat.le_antisymm ((de p2 (by decide)).mpr (by omega)) ((de (by decide) p2).mpr (by omega))
  have r:rq a b=rq a1 b1:=by
   rw[r2,<- r1]at bw;rcases bw with⟨x,y⟩|⟨x,y⟩
   ·exact Rat.le_antisymm y x
   ·exact Rat.le_antisymm y x
  obtain⟨rfl,rfl⟩:=d7 l l1 r;exact m1
 have n1:1≤aH qs:=by unfold aH;omega
 obtain⟨i,k0,k1,⟨f1,f2⟩,f3,f4⟩:=Crs.fit n1 sh ((ce (n:=0) p1).mpr (by omega)) ((cb p1).mpr i1.2) ((ce (n:=0) p2).mpr (by omega)) ((cb p2).mpr i2.2);have hk:i.toNat+1<qs.length:=by unfold aH at k1;omega
 have ei:((i.toNat:Nat):Int)=i:=by omega
 obtain⟨A,B,C,D,V⟩:=tq (qs:=qs) (rs:=rs) (k:=i.toNat) (c:=c) hk hd;rw[ei]at V;have f0:(i:Rat)≤rq a b∧rq a b≤(i:Rat)+1:=by
  rcases bw with⟨x,y⟩|⟨x,y⟩
  ·exact⟨Rat.le_trans f1 x,Rat.le_trans y f4⟩
  ·exact⟨Rat.le_trans f3 x,Rat.le_trans y f2⟩
 rw[<- Crs.int_add1]at f0 f2 f4;have v1:=V a1 b1 p1 ((ce p1).mp f1) ((cb p1).mp f2);have v2:=V a2 b2 p2 ((ce p2).mp f3) ((cb p2).mp f4);have v:=V a b p ((ce p).mp f0.1) ((cb p).mp f0.2);have q1:=(de (bQ p1 hd) hw).mpr m1;have q2:=(de (bQ p2 hd) hw).mpr m2;refine(de (bQ p hd) hw).mp ?_;rw[v1]at q1;rw[v2]at q2;rw[v];rcases bw with⟨x,y⟩|⟨x,y⟩
 ·exact cvx x y q1 q2
 ·exact cvx x y q2 q1
theorem vk{qs rs:Crn}{ps:List Pr}{f:Pr}{s w:Int}(g1:1≤qs.length)(g2:1≤rs.length)(gp:∀q∈ps,Gd q∧inB (aH qs) (aH rs) q=true)(gf:Gd f)(hw:0<w)(h:EgP ps f)(m:∀q∈ps,sqF qs q.a q.b rs q.c q.d*w≤s*sqD q.b q.d):sqF qs f.a f.b rs f.c f.d*w≤s*sqD f.b f.d:=by
 obtain⟨u,hu,v,hv,h⟩:=h;have mu:=m u hu;have mv:=m v hv;obtain⟨gu,iu⟩:=gp u hu;obtain⟨gv,iv⟩:=gp v hv;have iu:=jc.mp iu;have iv:=jc.mp iv;rcases h with⟨⟨e1,e2⟩,⟨e3,e4⟩,bw,sh⟩|⟨⟨e1,e2⟩,⟨e3,e4⟩,bw,sh⟩
 ·rw[e1,e2]at mu
  rw[e3,e4]at mv;exact vj g1 gu.lx gv.lx gf.lx gf.ly.pos hw ⟨gu.nx,iu.1⟩ ⟨gv.nx,iv.1⟩ bw sh mu mv
 ·rw[e1,e2,eS,eT]at mu
  rw[e3,e4,eS,eT]at mv;rw[eS,eT];exact vj g2 gu.ly gv.ly gf.ly gf.lx.pos hw ⟨gu.ny,iu.2⟩ ⟨gv.ny,iv.2⟩ bw sh mu mv
theorem pI{qs rs:Crn}{wy:Str}{ps fs:List Pr}{s w s' w':Int}(g1:1≤qs.length)(g2:1≤rs.length)(gp:∀q∈ps,Gd q)(gf:∀q∈fs,Gd q)(h:ck (aH qs) (aH rs) wy ps=true)(k:bU (aH qs) (aH rs) wy fs=true)(mx:Ba qs rs ps s w)(mn:v0 qs rs (FS wy fs) s' w'):¬s*w'<s'*w:=by
 have hw:=mx.low.pos;have hw':=mn.low.pos;have key:∀q:Pr,Gd q->sqF qs q.a q.b rs q.c q.d*w≤s*sqD q.b q.d->s'*sqD q.b q.d≤sqF qs q.a q.b rs q.c q.d*w'->¬s*w'<s'*w:=fun q gq u l=>by
  have hD:=bQ gq.lx.pos gq.ly.pos;have x1:=Int.mul_le_mul_of_nonneg_right u (show 0≤w' by omega);have x2:=Int.mul_le_mul_of_nonneg_right l (show 0≤w by omega);have x3:s'*w*sqD q.b q.d≤s*w'*sqD q.b q.d:=by
   generalize sqD q.b q.d=D at *;generalize sqF qs q.a q.b rs q.c q.d=F at *;rw[show F*w*w'=F*w'*w by grind,show s*D*w'=s*w'*D by grind]at x1;rw[show s'*D*w=s'*w*D by grind]at x2;exact Int.le_trans x2 x1
  have:=Int.le_of_mul_le_mul_right x3 hD;omega
 rcases vD (n:=aH qs) (m:=aH rs) (by unfold aH;omega) (by unfold aH;omega) gp gf h k with⟨f,hf,e⟩|⟨p,hp,e⟩
 ·exact key f (gf f hf) (vk g1 g2 (fun q hq=>⟨gp q hq,(iU h).2 q hq⟩) (gf f hf) hw e mx.most) (mn.least _ _ _ _ (gf f hf).lx (gf f hf).ly (.inl ⟨f,hf,⟨rfl,rfl⟩,rfl,rfl⟩))
 ·exact key p (gp p hp) (mx.most p hp) (mn.least _ _ _ _ (gp p hp).lx (gp p hp).ly e)
def jw(wy:Str):List Str:=if wy=wOn then [a6,aL] else if wy=aB then [wOn,a6,aL] else []
theorem ou{a c:Int}(e:c - a=0∨c - a=1):aK a 1 c 1=true:=by
 refine bF (k:=a) (by decide) (by decide) (by omega) (by omega) (by omega) (by omega)
theorem oj{n m:Int}{wy w2:Str}{ps:List Pr}(h:ck n m wy ps=true)(k:w2∈wy::jw wy):ck n m w2 ps=true:=by
 rcases List.mem_cons.mp k with e|k
 ·rw[e];exact h
 have n1:¬wOn=aB:=by decide
 have n2:¬wOn=aL:=by decide
 have hh:(wy=wOn∨wy=aB)∧(w2=wOn∨w2=a6∨w2=aL):=by
  unfold jw at k
  by_cases c1:wy=wOn
  ·rw[if_pos c1]at k
   simp only[List.mem_cons,List.not_mem_nil,or_false]at k;exact⟨.inl c1,.inr k⟩
  ·rw[if_neg c1]at k
   by_cases c2:wy=aB
   ·rw[if_pos c2]at k
    simp only[List.mem_cons,List.not_mem_nil,or_false]at k;exact⟨.inr c2,k⟩
   ·rw[if_neg c2]at k
    cases k
 have np:¬wy=a6:=by
  rcases hh.1 with e|e
  ·rw[e];decide
  ·rw[e];decide
 have go:∀{a b c d:Int},goB wy a b c d=true->goB w2 a b c d=true:=fun {a b c d} hg=>by
  have x:¬c*b<a*d∧aK a b c d=true:=by
   rcases je.mp hg with⟨_,b1,d1,e⟩|⟨_,z,_⟩|⟨_,_,z⟩
   ·subst b1 d1
    exact⟨by omega,ou e⟩
   ·rcases hh.1 with e|e
    ·rw[e]at z;exact absurd z (by decide)
    ·rw[e]at z;exact absurd z (by decide)
   ·exact z
  rw[je];rcases hh.2 with e|e|e
  ·exact .inr (.inr ⟨by rw[e];decide,by rw[e];decide,x⟩)
  ·exact .inr (.inr ⟨by rw[e];decide,by rw[e];decide,x⟩)
  ·exact .inr (.inl ⟨by rw[e];decide,e,x.2⟩)
 have W:=dk.mp h;refine dk.mpr ⟨W.ne,W.i,fun f l hf hl=>?_,fun j u v hu hv=>?_⟩
 ·have e:=gL.mp (W.e f l hf hl)
  exact gL.mpr ⟨e.1,fun _=>e.2 np⟩
 ·obtain⟨s1,s2⟩:=dw.mp (W.s j u v hu hv)
  exact dw.mpr ⟨go s1,go s2⟩
theorem qT{wy w2:Str}(h:dG wy)(k:w2∈wy::jw wy):dG w2:=by
 rcases List.mem_cons.mp k with e|k
 ·rw[e];exact h
 unfold jw at k;unfold dG
 split at k
 ·simp only[List.mem_cons,List.not_mem_nil,or_false]at k
  rcases k with e|e
  ·exact .inr (.inl e)
  ·exact .inr (.inr (.inl e))
 ·split at k
  ·simp only[List.mem_cons,List.not_mem_nil,or_false]at k
   rcases k with e|e|e
   ·exact .inl e
   ·exact .inr (.inl e)
   ·exact .inr (.inr (.inl e))
  ·cases k
inductive BS (vs:List V) (H:Hp) (Q:VK) (x_3:XK):Prop
 | mk:∀wy:Str,(vs = [.str wy])->(∀(r:Addr) (H':Hp),H r=none->H' r=some (.lst ((jw wy).map V.str))->Same H H'->Q (.ref r) H')->BS vs H Q x_3
inductive BN (vs:List V) (H:Hp) (Q:VK) (x_3:XK):Prop
 | mk:∀(l1 l2 l lf:Addr) (qs rs:Crn) (ps fs:List Pr) (wy:Str),(vs = [.ref l1,.ref l2,.ref l,.ref lf,.str wy])->((vR H l1 qs∧1≤qs.length∧qs.length≤20))->((vR H l2 rs∧1≤rs.length∧rs.length≤20))->((vU H l ps∧ps.length<400))->((vU H lf fs∧fs.length<400))->(dG wy)->(ck (aH qs) (aH rs) wy ps=true)->(bU (aH qs) (aH rs) wy fs=true)->(∀H',Same H H'->Q (.bl true) H')->BN vs H Q x_3
theorem kg{H:Hp}{r:Addr}{a b:Int}(e:H r=some (.tup [.int a,.int b])):Rp H 9 (.ref r) (.tup [.int a,.int b]):=Rp.t2 e .int .int
theorem BX:vL ["way"] ["way"] (ag (top 107)):=smk
theorem lT(zY:Df K mg "_law_also" (top 107))(T:Txt mg):Fn P w K mg base "_law_also" ["way"] 1 BS:=by
 refine zY.fn BX (fun _ _ _ _ _ _ us hl=>by obtain⟨_,rfl⟩:=gE hl;rfl) (fun vs H Q E h=>?_) (fun f cdv A outer s H vs Q E hr h=>?_)
 ·obtain⟨wy,rfl,_⟩:=h
  rfl
 ·obtain⟨wy,rfl,k⟩:=h
  refine⟨_,(ae (aE (aq aQ (pv 0) aP (ar _)) (ah (am (bW (aa aP (aa aP ad))))) av) (ae (aE (aq aQ (pv 0) aP (ar _)) (ah (am (bW (aa aP (aa aP (aa aP ad)))))) av) (ah (am (bW ad))))),?_⟩;unfold jw at k;refine⟨_,rfl,rfl,_,rfl,aw (fun c=>?_) (fun c=>?_)⟩
  ·rw[if_pos (show wy=wOn from aR (ds c))]at k
   exact⟨sz (by simp),fun r H1 s1 f1 n1=>k r H1 n1 f1 s1⟩
  rw[if_neg (show ¬wy=wOn from bI (ds c))]at k;refine⟨_,rfl,rfl,_,rfl,aw (fun c=>?_) (fun c=>?_)⟩
  ·rw[if_pos (show wy=aB from aR (ds c))]at k
   exact⟨sz (by simp),fun r H1 s1 f1 n1=>k r H1 n1 f1 s1⟩
  rw[if_neg (show ¬wy=aB from bI (ds c))]at k;exact⟨sz (by simp),fun r H1 s1 f1 n1=>k r H1 n1 f1 s1⟩
theorem zE:vL ["one","other","walk","fence","way","above","below"] ["one","other","walk","fence","way"] (ag (top 108)):=smk
theorem lP{C8 C9:Addr}(zU:Df K mg "_law_held" (top 108))(yq:Fx P w K mg base "walk_square" ["one","other","walk","way"] 8 [.str "on"] (Cw C8))(yd:Fx P w K mg base "fence_square" ["one","other","fence","way"] 10 [.str "on"] (CI C9))(xv:Fn P w K mg base "_law_walk_square" ["one","other","walk"] 4 CC)(xk:Fn P w K mg base "_law_fence_square" ["one","other","fence","way"] 6 CG)(vN:Fn P w K mg base "_law_below" ["one","other"] 1 wY):Fn P w K mg base "_law_held" ["one","other","walk","fence","way"] 11 BN:=by
 refine zU.fn zE (fun _ _ _ _ _ _ us hl=>by obtain⟨_,_,_,_,_,rfl⟩:=qc hl;rfl) (fun vs H Q E h=>?_) (fun f cdv A outer s H vs Q E hr h=>?_)
 ·obtain⟨l1,l2,l,lf,qs,rs,ps,fs,wy,rfl,_⟩:=h
  rfl
 ·obtain⟨l1,l2,l,lf,qs,rs,ps,fs,wy,rfl,⟨L1,h1,h20⟩,⟨L2,g1,g20⟩,⟨PP,hl⟩,⟨PF,hf⟩,hw,wb,fb,k⟩:=h
  refine⟨_,(ae (au (i:=5) zE.nd rfl (Or.inl rfl) (cR yq (hr.mono (by decide)) (by rfl) (aa (pv 0) (aa (pv 1) (aa (pv 2) (aa (pv 4) ad)))))) (ae (au (i:=6) zE.nd rfl (Or.inl rfl) (cR yd (hr.mono (by decide)) (by rfl) (aa (pv 0) (aa (pv 1) (aa (pv 3) (aa (pv 4) ad)))))) (ae (aE (cK (aq (pG hr.units10) (pv 5) (ak xv (hr.mono (by decide)) (by rfl) (aa (pv 0) (aa (pv 1) (aa (pv 2) ad)))) (ar _)) (cq (aq (pG hr.units10) (pv 6) (ak xk (hr.mono (by decide)) (by rfl) (aa (pv 0) (aa (pv 1) (aa (pv 3) (aa (pv 4) ad))))) (ar _)))).pt (ah (am cI)) av) (ah (am (d9 (ak vN (hr.mono (by decide)) (by rfl) (aa (pv 5) (aa (pv 6) ad))))))))),?_⟩;have gp:∀q∈ps,Gd q:=fun q hq=>tj (PP.pr q hq);have gf:∀q∈fs,Gd q:=fun q hq=>tj (PF.pr q hq);refine⟨_,rfl,_,rfl,_,rfl,_,rfl,l1,l2,l,qs,rs,ps,wy,rfl,⟨L1,h1,h20⟩,⟨L2,g1,g20⟩,PP,by omega,hw,(fun z=>absurd z (by rw[wb];decide)),fun _ ra sa wa H1 fa ma s1=>?_⟩;refine⟨_,rfl,_,rfl,_,rfl,_,rfl,l1,l2,lf,qs,rs,fs,wy,rfl,⟨L1.mono s1,h1,h20⟩,⟨L2.mono s1,g1,g20⟩,PF.mono s1,hf,hw,(fun z=>absurd z (by rw[fb];decide)),fun _ rb sb wb' H2 fb' mb s2=>?_⟩;have S2:=s1.trans s2;refine⟨_,rfl,_,rfl,_,rfl,_,rfl,l1,l2,l,qs,rs,ps,rfl,⟨L1.mono S2,h1,h20⟩,⟨L2.mono S2,g1,g20⟩,PP.mono S2,iU wb,fun rc sc wc H3 fc mc s3=>?_⟩;obtain⟨e1,e2⟩:=ma.uniq (fun q hq=>⟨(PP.pr q hq).lx.pos,(PP.pr q hq).ly.pos⟩) mc;subst e1 e2;have S3:=S2.trans s3;refine⟨_,_,kg (s3 _ _ (s2 _ _ fa.at_)),kg fc.at_,_,rfl,cB (by rw[jr];rfl) ?_⟩;refine⟨_,rfl,_,rfl,_,rfl,_,rfl,_,rfl,l1,l2,lf,qs,rs,fs,wy,rfl,⟨L1.mono S3,h1,h20⟩,⟨L2.mono S3,g1,g20⟩,PF.mono S3,hf,j8 fb,fun rd sd wd H4 fd md s4=>?_⟩;obtain⟨e1,e2⟩:=mb.uniq md;subst e1 e2;have S4:=S3.trans s4;refine⟨_,_,kg (s4 _ _ (s3 _ _ fb'.at_)),kg fd.at_,_,rfl,cB (by rw[jr];rfl) ?_⟩;refine⟨_,rfl,_,rfl,ra,rb,_,_,_,_,rfl,s4 _ _ (s3 _ _ (s2 _ _ fa.at_)),s4 _ _ (s3 _ _ fb'.at_),⟨af fc.ba (by decide),af fc.bb (by decide),af fd.ba (by decide),af fd.bb (by decide)⟩,_,rfl,?_⟩;rw[decide_eq_false (pI h1 g1 gp gf wb fb ma mb)];exact k H4 S4
theorem y9:vL ["script","one","other","n","m","cell","pot","way","walk","ways","fence"] ["script"] (ag (top 109)):=smk
theorem ue{C:Addr}(CT:Df K mg "law" (top 109))(zc:Fn P w K mg base "_law_lines" ["script"] 5 (Bi K))(yR:Fn P w K mg base "_law_folded" ["cells","many"] 1 AT)(xa:Fn P w K mg base "_law_begun" ["cell"] 1 Dr.spBegun)(xU:Fn P w K mg base "_law_drawn_way" ["pot"] 2 BR)(xG:Fn P w K mg base "_law_drawn_walk" ["pot","n","m","way"] 5 Bo)(xx:Fn P w K mg base "_law_drawn_fence" ["pot","n","m","way"] 6 AV)(xH:Fx P w K mg base "is_walk" ["one","other","thing","way"] 7 [.str "on"] (Ag C))(xI:Fx P w K mg base "is_fence" ["one","other","thing","way"] 8 [.str "on"] (zv C))(zK:Fn P w K mg base "_law_also" ["way"] 1 BS)(zH:Fn P w K mg base "_law_held" ["one","other","walk","fence","way"] 11 BN)(T:Txt mg):Fn P w K mg base "law" ["script"] 12 (lh K):=by
 refine CT.fn y9 (fun _ _ _ _ _ _ us hl=>by obtain⟨_,rfl⟩:=gE hl;rfl) (fun vs H Q E h=>?_) (fun f cdv A outer s H vs Q E hr h=>?_)
 ·obtain⟨sa,ss,rfl,_⟩:=h
  rfl
 ·obtain⟨sa,ss,rfl,hS,hlen,fin⟩:=h
  refine⟨_,(ae (cL (ak zc (hr.mono (by decide)) (by rfl) (aa (pv 0) ad)) (cu rfl (aC (aF (i:=1) y9.nd rfl (Or.inl rfl)) (aC (aF (i:=2) y9.nd rfl (Or.inl rfl)) bK)))) (ae (au (i:=3) y9.nd rfl (Or.inl rfl) (ap aV (aJ bz (by rfl) T.z_len dP (aa (pv 1) ad)) ac)) (ae (au (i:=4) y9.nd rfl (Or.inl rfl) (ap aV (aJ bz (by rfl) T.z_len dP (aa (pv 2) ad)) ac)) (ae (dh PassesOwn.never rfl (cZ (ak yR (hr.mono (by decide)) (by rfl) (aa (fe eU (pv 0) (gA ac) gB) (aa ac ad)))) (aF (i:=5) y9.nd rfl (Or.inl rfl)) (ae (au (i:=6) y9.nd rfl (Or.inl rfl) (ak xa (hr.mono (by decide)) (by rfl) (aa (pv 5) ad))) (ae (au (i:=7) y9.nd rfl (Or.inl rfl) (ak xU (hr.mono (by decide)) (by rfl) (aa (pv 6) ad))) (ae (au (i:=8) y9.nd rfl (Or.inl rfl) (ak xG (hr.mono (by decide)) (by rfl) (aa (pv 6) (aa (pv 3) (aa (pv 4) (aa (pv 7) ad)))))) (ae (aE (aq gX (cR xH (hr.mono (by decide)) (by rfl) (aa (pv 1) (aa (pv 2) (aa (pv 8) (aa (pv 7) ad))))) cI (ar _)) (ah (am cI)) av) (ah (dh PassesOwn.never rfl (cZ (ap nn (bW (aa (pv 7) ad)) (ak zK (hr.mono (by decide)) (by rfl) (aa (pv 7) ad)))) (aF (i:=9) y9.nd rfl (Or.inl rfl)) (ae (au (i:=10) y9.nd rfl (Or.inl rfl) (ak xx (hr.mono (by decide)) (by rfl) (aa (pv 6) (aa (pv 3) (aa (pv 4) (aa (pv 9) ad)))))) (ae (aE (cK (aq gX (cR xH (hr.mono (by decide)) (by rfl) (aa (pv 1) (aa (pv 2) (aa (pv 8) (aa (pv 9) ad))))) cI (ar _)) (cq (aq gX (cR xI (hr.mono (by decide)) (by rfl) (aa (pv 1) (aa (pv 2) (aa (pv 10) (aa (pv 9) ad))))) cI (ar _)))).pt (ah (am cI)) av) (ah (aE (ci (aS (ak zH (hr.mono (by decide)) (by rfl) (aa (pv 1) (aa (pv 2) (aa (pv 8) (aa (pv 10) (aa (pv 9) ad)))))))) (ah (am cI)) av))))))))))) (ah (am cI)))))),?_⟩;refine⟨_,rfl,sa,ss,rfl,hS,fun t l r qs rs H1 s1 et L1 ⟨h1,h10⟩ R1 ⟨g1,g10⟩ _ _ _=>?_⟩;have hql:(qs.map fun (q:Addr×Int×Int)=>V.ref q.1).length=qs.length:=List.length_map _;have hrl:(rs.map fun (q:Addr×Int×Int)=>V.ref q.1).length=rs.length:=List.length_map _;refine⟨t,_,rfl,SqT.of et,rfl,_,_,rfl,_,_,rfl,rfl,?_⟩;refine⟨_,rfl,l,_,rfl,.inl (SqL.of L1.lst),_,_,rfl,rfl,?_⟩;refine⟨_,rfl,r,_,rfl,.inl (SqL.of R1.lst),_,_,rfl,rfl,?_⟩;have N0:0≤(((qs.map fun (q:Addr×Int×Int)=>V.ref q.1).length:Nat):Int) - 1:=by omega
  have N1:(((qs.map fun (q:Addr×Int×Int)=>V.ref q.1).length:Nat):Int) - 1≤20:=by omega
  have M0:0≤(((rs.map fun (q:Addr×Int×Int)=>V.ref q.1).length:Nat):Int) - 1:=by omega
  have M1:(((rs.map fun (q:Addr×Int×Int)=>V.ref q.1).length:Nat):Int) - 1≤20:=by omega
  have hl100:(qs.map fun (q:Addr×Int×Int)=>V.ref q.1).length≤100:=by omega
  have hr100:(rs.map fun (q:Addr×Int×Int)=>V.ref q.1).length≤100:=by omega
  have eL:aH qs=(((qs.map fun (q:Addr×Int×Int)=>V.ref q.1).length:Nat):Int) - 1:=by rw[hql];rfl
  have eR:aH rs=(((rs.map fun (q:Addr×Int×Int)=>V.ref q.1).length:Nat):Int) - 1:=by rw[hrl];rfl
  generalize eN:(((qs.map fun (q:Addr×Int×Int)=>V.ref q.1).length:Nat):Int) - 1=N at *;generalize eM:(((rs.map fun (q:Addr×Int×Int)=>V.ref q.1).length:Nat):Int) - 1=M at *;refine⟨_,rfl,_,rfl,sa,_,rfl,s1.seq hS,fun c H2 s2 f2 n2=>?_⟩;rw[show(2:Int)=((2:Nat):Int) from rfl,qG]at f2;refine⟨c,_,rfl,f2,by rw[List.length_drop];omega,fun fo zs H3 e3 s3=>?_⟩;have L3:=(L1.mono s2).mono s3;have R3:=(R1.mono s2).mono s3;refine⟨fo,rfl,⟨_,SqL.of e3⟩,jg (K:=K) (a:=fo) (xs:=zs.map V.int) (fun i σ H4=>∃z5 z6 z7 z8 z9 z10,σ = [some (.ref sa),some (.ref l),some (.ref r),some (.int N),some (.int M),z5,z6,z7,z8,z9,z10]∧Same H3 H4)
   ⟨none,none,none,none,none,none,by rw[<- eN,<- eM];rfl,Same.refl _⟩ (fun i σ H4 _ ⟨_,_,_,_,_,_,_,s4⟩=>SqL.of (s4 _ _ e3)) ?_ ?_⟩
  ·rintro i x σ H4 hx ⟨z5,z6,z7,z8,z9,z10,rfl,s4⟩
   rw[List.getElem?_map]at hx;obtain⟨cc,_,rfl⟩:=Option.map_eq_some_iff.mp hx;have L4:=L3.mono s4;have R4:=R3.mono s4;refine⟨_,rfl,cc,rfl,fun p H5 s5 n5 p5=>?_⟩;refine⟨_,rfl,p,_,rfl,p5,by decide,fun wy H6 hw b6 p6=>?_⟩;refine⟨_,rfl,_,rfl,_,rfl,_,rfl,p,N,M,_,wy,rfl,p6,by omega,⟨N0,N1⟩,⟨M0,M1⟩,fun l7 ps H7 P7 g7 h7 n7 b7 p7=>?_⟩;have m7:l7≠p:=Pot.ne p6 n7;have B7:=b6.trans b7;have L7:=L4.mono (B7.same s5 n5);have R7:=R4.mono (B7.same s5 n5);refine⟨_,rfl,_,rfl,_,rfl,_,rfl,l,r,_,_,_,_,_,rfl,⟨L7.lst,hl100⟩,⟨R7.lst,hr100⟩,P7.th (by omega),.str _,.inl ⟨wy,rfl,hw,fun b9 H9 s9 wv=>?_⟩⟩;rw[eN,eM]at wv;have e9:=gk P7 wv;rw[g7.walk]at e9;subst e9;refine⟨_,_,rfl,rfl,_,rfl,cB (by decide) ?_⟩;have p9:=p7.same s9;have B9:But p H5 H9:=B7.trans (But.of s9);have P9:=P7.mono s9;refine⟨_,rfl,sz (by simp),fun a10 H10 s10 f10 n10=>⟨_,rfl,wy,rfl,fun a11 H11 n11 f11 s11=>?_⟩⟩;refine⟨a10,a11,_,_,rfl,rfl,s11 _ _ f10,f11,sz (by unfold jw;split <;> (try split) <;> simp),fun lw H12 s12 f12 n12=>?_⟩;have B12:But p H5 H12:=B9.trans (But.of (s10.trans (s11.trans s12)));have P12:=P9.mono (s10.trans (s11.trans s12));have p12:=p9.same (s10.trans (s11.trans s12));have f12':H12 lw=some (.lst ((wy::jw wy).map V.str)):=by rw[f12];rfl
   have mw:lw≠p:=Pot.ne (p9.same (s10.trans s11)) n12;refine⟨lw,rfl,⟨_,SqL.of f12'⟩,jg (K:=K) (a:=lw) (xs:=(wy::jw wy).map V.str) (fun j σ H13=>∃z9 z10,σ = [some (.ref sa),some (.ref l),some (.ref r),some (.int N),some (.int M),some (.int cc),some (.ref p),some (.str wy),some (.ref l7),z9,z10]∧But p H12 H13∧Pot H13 p (1000+600*(j:Int)))
    ⟨_,_,rfl,But.refl,p12.mono (by omega)⟩ (fun j σ H13 _ ⟨_,_,_,b13,_⟩=>SqL.of (b13 _ _ mw f12')) ?_ ?_⟩
   ·rintro j x σ H13 hx ⟨z9,z10,rfl,b13,p13⟩
    have hj:j<4:=by
     have h1:=(List.getElem?_eq_some_iff.mp hx).1;have h2:((wy::jw wy).map V.str).length≤4:=by
      rw[List.length_map];unfold jw
      split <;> (try split) <;> simp
     omega
    rw[List.getElem?_map]at hx;obtain⟨w2,hw2,rfl⟩:=Option.map_eq_some_iff.mp hx;have m2:=List.mem_of_getElem? hw2;have iw2:=qT hw m2;have wb2:=oj g7.walk m2;have P13:=ng P12 b13 p12 m7;have B13:=B12.trans b13;refine⟨_,rfl,_,rfl,_,rfl,_,rfl,p,N,M,_,w2,rfl,p13,by omega,⟨N0,N1⟩,⟨M0,M1⟩,fun l14 fs H14 P14 g14 h14 n14 b14 p14=>?_⟩;have m14:l14≠p:=Pot.ne p13 n14;have B14:=B13.trans b14;have L14:=L4.mono (B14.same s5 n5);have R14:=R4.mono (B14.same s5 n5);have Q14:=ng P13 b14 p13 m7;refine⟨_,rfl,_,rfl,_,rfl,_,rfl,l,r,_,_,_,_,_,rfl,⟨L14.lst,hl100⟩,⟨R14.lst,hr100⟩,Q14.th (by omega),.str _,.inl ⟨w2,rfl,iw2,fun b15 H15 s15 wv=>?_⟩⟩;rw[eN,eM]at wv;have e15:=gk Q14 wv;rw[wb2]at e15;subst e15;refine⟨_,_,rfl,rfl,_,rfl,cB (by decide) ?_⟩;refine⟨_,rfl,_,rfl,_,rfl,_,rfl,l,r,_,_,_,_,_,rfl,⟨(L14.mono s15).lst,hl100⟩,⟨(R14.mono s15).lst,hr100⟩,(P14.mono s15).th (by omega),.str _,.inl ⟨w2,rfl,iw2,fun b16 H16 s16 wv=>?_⟩⟩;rw[eN,eM]at wv;have e16:=ic (P14.mono s15) wv;rw[g14.fence]at e16;subst e16;refine⟨_,_,rfl,rfl,_,rfl,cB (by decide) ?_⟩;have S16:=s15.trans s16;refine⟨_,rfl,_,rfl,_,rfl,_,rfl,_,rfl,l,r,l7,l14,qs,rs,ps,fs,w2,rfl,⟨(L14.mono S16).la,h1,by omega⟩,⟨(R14.mono S16).la,g1,by omega⟩,⟨Q14.mono S16,by omega⟩,⟨P14.mono S16,by omega⟩,iw2,by rw[eL,eR];exact wb2,by rw[eL,eR];exact g14.fence,fun H17 s17=>⟨_,rfl,cB rfl ?_⟩⟩;have S17:=S16.trans s17;exact⟨_,_,rfl,b13.trans (b14.trans (But.of S17)),(p14.same S17).mono (by omega)⟩
   ·rintro σ H13 ⟨z9,z10,rfl,b13,p13⟩
    exact⟨_,_,_,_,_,_,rfl,s4.trans ((B12.trans b13).same s5 n5)⟩
  ·rintro σ H4 ⟨z5,z6,z7,z8,z9,z10,rfl,s4⟩
   exact fin _
end
theorem hLeft:W.LeftO Challenge.rw_oneleash_k19_whole_no_walk_below_a_fence.prog hView hLoose (fun _=>true) (W.Hook.obs (Hd.hook hFacts hGood)) (W.Hook.val (Hd.hook hFacts hGood)) 100000:=vG
theorem all_of{P:Program}{w:World}{K:W.Frag}(FK:hFacts K=hGood){h:Heap}{mg:Str->Option Value}{fa:Addr}(X:K.In h)(G:h.Ns mainGlobals mg)(hfa:mg "law" = some (.ref fa)) :
  ∃fd:FuncData,(∀(s:Shared) (v:Value),BindsTo s fd ⟨[v],[]⟩ [("script",v)])∧∀base:Heap,K.In base->base.Ns mainGlobals mg->Aj P w K mg base CX0 12 fa fd ["script"] (lh K):=by
 have H0:(iO.map (fun p=>Hd.fnFact K p.1):List (Option (Arguments×List Stmt×Scope×Value)))=iO.map (fun p=>some (aU (top p.2),az (top p.2),ag (top p.2),.none)):=(congrArg Prod.fst FK);have H1:(iM.map (fun p=>Hd.fnFact K p.1):List (Option (Arguments×List Stmt×Scope×Value)))=iM.map (fun p=>some (aU (top p.2),az (top p.2),ag (top p.2),.none)):=(congrArg Prod.fst (congrArg Prod.snd FK));have H2:(iL.map (fun p=>Hd.fnFact K p.1):List (Option (Arguments×List Stmt×Scope×Value)))=iL.map (fun p=>some (aU (top p.2),az (top p.2),ag (top p.2),.none)):=(congrArg Prod.fst (congrArg Prod.snd (congrArg Prod.snd FK)));have H3:(iK.map (fun p=>Hd.fnFact K p.1):List (Option (Arguments×List Stmt×Scope×Value)))=iK.map (fun p=>some (aU (top p.2),az (top p.2),ag (top p.2),.none)):=(congrArg Prod.fst (congrArg Prod.snd (congrArg Prod.snd (congrArg Prod.snd FK))));have H4:(iI.map (fun p=>Hd.fnFactD K p.1):List (Option (Arguments×List Stmt×Scope×List V)))=iI.map (fun p=>some (aU (top p.2.1),az (top p.2.1),ag (top p.2.1),p.2.2)):=(congrArg Prod.fst (congrArg Prod.snd (congrArg Prod.snd (congrArg Prod.snd (congrArg Prod.snd FK)))));have H5:(vh.all (Hd.excFact K):Bool)=true:=(congrArg Prod.fst (congrArg Prod.snd (congrArg Prod.snd (congrArg Prod.snd (congrArg Prod.snd (congrArg Prod.snd FK))))));have H6:(hNo.all (Hd.noFact K):Bool)=true:=(congrArg Prod.fst (congrArg Prod.snd (congrArg Prod.snd (congrArg Prod.snd (congrArg Prod.snd (congrArg Prod.snd (congrArg Prod.snd FK)))))));have H7:(rX.map (fun p=>Hd.tupFact K p.1):List (Option (List V)))=rX.map (fun p=>some p.2):=(congrArg Prod.fst (congrArg Prod.snd (congrArg Prod.snd (congrArg Prod.snd (congrArg Prod.snd (congrArg Prod.snd (congrArg Prod.snd (congrArg Prod.snd FK))))))));have H8:(iJ.map (fun p=>Hd.fnFactA K p.1 p.2.1):List (Option (Arguments×List Stmt×Scope×Value)))=iJ.map (fun p=>some (aU (top p.2.2),az (top p.2.2),ag (top p.2.2),.none)):=(congrArg Prod.snd (congrArg Prod.snd (congrArg Prod.snd (congrArg Prod.snd (congrArg Prod.snd (congrArg Prod.snd (congrArg Prod.snd (congrArg Prod.snd FK))))))));have zZ:Df K mg "is_whole" (top 8):=Hd.df_of X G (Hd.at_map H0 0 rfl);have xO:Df K mg "common_divisor" (top 9):=Hd.df_of X G (Hd.at_map H0 1 rfl);have Cb:Df K mg "plus" (top 11):=Hd.df_of X G (Hd.at_map H0 2 rfl);have By:Df K mg "minus" (top 12):=Hd.df_of X G (Hd.at_map H0 3 rfl);have Bu:Df K mg "times" (top 13):=Hd.df_of X G (Hd.at_map H0 4 rfl);have Cc:Df K mg "over" (top 14):=Hd.df_of X G (Hd.at_map H0 5 rfl);have Cd:Df K mg "less" (top 15):=Hd.df_of X G (Hd.at_map H0 6 rfl);have Ad:Df K mg "floor_of" (top 16):=Hd.df_of X G (Hd.at_map H0 7 rfl);have xz:Df K mg "number_of_least" (top 17):=Hd.df_of X G (Hd.at_map H0 8 rfl);have xc:Df K mg "number_of_greatest" (top 18):=Hd.df_of X G (Hd.at_map H0 9 rfl);have Aa:Df K mg "is_ratio" (top 19):=Hd.df_of X G (Hd.at_map H0 10 rfl);have Ax:Df K mg "last_of" (top 21):=Hd.df_of X G (Hd.at_map H0 11 rfl);have Ab:Df K mg "is_place" (top 23):=Hd.df_of X G (Hd.at_map H0 12 rfl);have xV:Df K mg "look_at_place" (top 24):=Hd.df_of X G (Hd.at_map H0 13 rfl);have Az:Df K mg "is_pair" (top 25):=Hd.df_of X G (Hd.at_map H0 14 rfl);have zq:Df K mg "are_pairs" (top 26):=Hd.df_of X G (Hd.at_map H0 15 rfl);have zg:Df K mg "number_at" (top 27):=Hd.df_of X G (Hd.at_map H0 16 rfl);have zN:Df K mg "point_at" (top 28):=Hd.df_of X G (Hd.at_map H0 17 rfl);have xy:Df K mg "share_a_stretch" (top 29):=Hd.df_of X G (Hd.at_map H0 18 rfl);have ze:Df K mg "step_from" (top 30):=Hd.df_of X G (Hd.at_map H1 0 rfl);have xZ:Df K mg "inner_product" (top 31):=Hd.df_of X G (Hd.at_map H1 1 rfl);have xK:Df K mg "square_between" (top 32):=Hd.df_of X G (Hd.at_map H1 2 rfl);have zf:Df K mg "square_of" (top 33):=Hd.df_of X G (Hd.at_map H1 3 rfl);have yf:Df K mg "nearest_part" (top 34):=Hd.df_of X G (Hd.at_map H1 4 rfl);have yy:Df K mg "least_along" (top 35):=Hd.df_of X G (Hd.at_map H1 5 rfl);have yx:Df K mg "look_at_way" (top 38):=Hd.df_of X G (Hd.at_map H1 6 rfl);have yU:Df K mg "steps_back" (top 42):=Hd.df_of X G (Hd.at_map H1 7 rfl);have yi:Df K mg "keeps_corner" (top 43):=Hd.df_of X G (Hd.at_map H1 8 rfl);have A5:Df K mg "slides" (top 44):=Hd.df_of X G (Hd.at_map H1 9 rfl);have xp:Df K mg "has_whole_places" (top 45):=Hd.df_of X G (Hd.at_map H1 10 rfl);have yX:Df K mg "hops_aside" (top 46):=Hd.df_of X G (Hd.at_map H1 11 rfl);have wV:Df K mg "is_measured_between" (top 52):=Hd.df_of X G (Hd.at_map H1 12 rfl);have xW:Df K mg "least_between" (top 53):=Hd.df_of X G (Hd.at_map H1 13 rfl);have ye:Df K mg "slide_square" (top 54):=Hd.df_of X G (Hd.at_map H1 14 rfl);have xn:Df K mg "measured_squares" (top 55):=Hd.df_of X G (Hd.at_map H1 15 rfl);have AB:Df K mg "goes_on" (top 60):=Hd.df_of X G (Hd.at_map H1 16 rfl);have yD:Df K mg "goes_freely" (top 61):=Hd.df_of X G (Hd.at_map H1 17 rfl);have Ce:Df K mg "hops" (top 62):=Hd.df_of X G (Hd.at_map H1 18 rfl);have yC:Df K mg "_law_cell_at" (top 70):=Hd.df_of X G (Hd.at_map H2 0 rfl)
 have yW:Df K mg "_law_folded" (top 71):=Hd.df_of X G (Hd.at_map H2 1 rfl);have zn:Df K mg "_law_begun" (top 72):=Hd.df_of X G (Hd.at_map H2 2 rfl);have zP:Df K mg "_law_take" (top 73):=Hd.df_of X G (Hd.at_map H2 3 rfl);have zO:Df K mg "_law_wide" (top 74):=Hd.df_of X G (Hd.at_map H2 4 rfl);have xN:Df K mg "_law_drawn_line" (top 75):=Hd.df_of X G (Hd.at_map H2 5 rfl);have zi:Df K mg "_law_moved" (top 76):=Hd.df_of X G (Hd.at_map H2 6 rfl);have xD:Df K mg "_law_drawn_other" (top 77):=Hd.df_of X G (Hd.at_map H2 7 rfl);have zj:Df K mg "_law_lines" (top 78):=Hd.df_of X G (Hd.at_map H2 8 rfl);have yB:Df K mg "_law_divisor" (top 79):=Hd.df_of X G (Hd.at_map H2 9 rfl);have zh:Df K mg "_law_ratio" (top 80):=Hd.df_of X G (Hd.at_map H2 10 rfl);have zl:Df K mg "_law_below" (top 81):=Hd.df_of X G (Hd.at_map H2 11 rfl);have yg:Df K mg "_law_point_at" (top 82):=Hd.df_of X G (Hd.at_map H2 12 rfl);have xX:Df K mg "_law_square_of" (top 83):=Hd.df_of X G (Hd.at_map H2 13 rfl);have yV:Df K mg "_law_lesser" (top 84):=Hd.df_of X G (Hd.at_map H2 14 rfl);have zV:Df K mg "_law_foot" (top 85):=Hd.df_of X G (Hd.at_map H2 15 rfl);have xC:Df K mg "_law_least_along" (top 86):=Hd.df_of X G (Hd.at_map H2 16 rfl);have yA:Df K mg "_law_greater" (top 87):=Hd.df_of X G (Hd.at_map H2 17 rfl);have yz:Df K mg "_law_spot_on" (top 88):=Hd.df_of X G (Hd.at_map H2 18 rfl);have Aw:Df K mg "_law_any" (top 89):=Hd.df_of X G (Hd.at_map H3 0 rfl);have zo:Df K mg "_law_ahead" (top 94):=Hd.df_of X G (Hd.at_map H3 1 rfl);have zT:Df K mg "_law_home" (top 95):=Hd.df_of X G (Hd.at_map H3 2 rfl);have xM:Df K mg "_law_drawn_walk" (top 96):=Hd.df_of X G (Hd.at_map H3 3 rfl);have zW:Df K mg "_law_down" (top 97):=Hd.df_of X G (Hd.at_map H3 4 rfl);have zQ:Df K mg "_law_over" (top 98):=Hd.df_of X G (Hd.at_map H3 5 rfl);have zR:Df K mg "_law_next" (top 99):=Hd.df_of X G (Hd.at_map H3 6 rfl);have zk:Df K mg "_law_ended" (top 100):=Hd.df_of X G (Hd.at_map H3 7 rfl);have xE:Df K mg "_law_drawn_fence" (top 101):=Hd.df_of X G (Hd.at_map H3 8 rfl);have xY:Df K mg "_law_drawn_way" (top 102):=Hd.df_of X G (Hd.at_map H3 9 rfl);have zX:Df K mg "_law_back" (top 103):=Hd.df_of X G (Hd.at_map H3 10 rfl);have yh:Df K mg "_law_measured" (top 104):=Hd.df_of X G (Hd.at_map H3 11 rfl);have xo:Df K mg "_law_fence_square" (top 105):=Hd.df_of X G (Hd.at_map H3 12 rfl);have xB:Df K mg "_law_walk_square" (top 106):=Hd.df_of X G (Hd.at_map H3 13 rfl);have zY:Df K mg "_law_also" (top 107):=Hd.df_of X G (Hd.at_map H3 14 rfl);have zU:Df K mg "_law_held" (top 108):=Hd.df_of X G (Hd.at_map H3 15 rfl);have CT:Df K mg "law" (top 109):=Hd.df_of X G (Hd.at_map H3 16 rfl);have wM:BG K mg "has_right_ends_fences" "has_right_ends" (top 40):=Hd.dfa_of X G (Hd.at_map H8 0 rfl);have xA:BG K mg "may_step_fences" "may_step" (top 47):=Hd.dfa_of X G (Hd.at_map H8 1 rfl);have wG:BG K mg "has_right_steps_fences" "has_right_steps" (top 49):=Hd.dfa_of X G (Hd.at_map H8 2 rfl);have wQ:BG K mg "has_right_ends_walks" "has_right_ends" (top 58):=Hd.dfa_of X G (Hd.at_map H8 3 rfl);have xL:BG K mg "may_step_walks" "may_step" (top 63):=Hd.dfa_of X G (Hd.at_map H8 4 rfl);have wL:BG K mg "has_right_steps_walks" "has_right_steps" (top 65):=Hd.dfa_of X G (Hd.at_map H8 5 rfl);have Bv:Cj K mg "ratio" (top 10) [.int 1]:=Hd.dfd_of X G (Hd.at_map H4 0 rfl);have Ac:Cj K mg "is_fence" (top 51) [.str "on"]:=Hd.dfd_of X G (Hd.at_map H4 1 rfl);have yj:Cj K mg "fence_square" (top 56) [.str "on"]:=Hd.dfd_of X G (Hd.at_map H4 2 rfl);have Ay:Cj K mg "is_walk" (top 67) [.str "on"]:=Hd.dfd_of X G (Hd.at_map H4 3 rfl);have yw:Cj K mg "walk_square" (top 68) [.str "on"]:=Hd.dfd_of X G (Hd.at_map H4 4 rfl);have Aq:Al K mg "NoRatio" (Hd.cls K "NoRatio"):=Hd.exc_of X G (Hd.at_all H5 0 rfl);have Bt:Al K mg "NoWay" (Hd.cls K "NoWay"):=Hd.exc_of X G (Hd.at_all H5 1 rfl);have AZ:Al K mg "NoWalk" (Hd.cls K "NoWalk"):=Hd.exc_of X G (Hd.at_all H5 2 rfl);have As:Al K mg "NoFence" (Hd.cls K "NoFence"):=Hd.exc_of X G (Hd.at_all H5 3 rfl);have Ar:Al K mg "NoPlace" (Hd.cls K "NoPlace"):=Hd.exc_of X G (Hd.at_all H5 4 rfl);have C1:Al K mg "LeashError" (Hd.cls K "LeashError"):=Hd.exc_of X G (Hd.at_all H5 5 rfl);have T:Txt mg:=⟨W.mg_none_of X G (Hd.no_of (Hd.at_all H6 0 rfl)),W.mg_none_of X G (Hd.no_of (Hd.at_all H6 1 rfl)),W.mg_none_of X G (Hd.no_of (Hd.at_all H6 2 rfl)),W.mg_none_of X G (Hd.no_of (Hd.at_all H6 3 rfl)),W.mg_none_of X G (Hd.no_of (Hd.at_all H6 4 rfl)),W.mg_none_of X G (Hd.no_of (Hd.at_all H6 5 rfl)),W.mg_none_of X G (Hd.no_of (Hd.at_all H6 6 rfl)),W.mg_none_of X G (Hd.no_of (Hd.at_all H6 7 rfl)),W.mg_none_of X G (Hd.no_of (Hd.at_all H6 8 rfl)),W.mg_none_of X G (Hd.no_of (Hd.at_all H6 9 rfl)),W.mg_none_of X G (Hd.no_of (Hd.at_all H6 10 rfl)),W.mg_none_of X G (Hd.no_of (Hd.at_all H6 11 rfl)),W.mg_none_of X G (Hd.no_of (Hd.at_all H6 12 rfl)),W.mg_none_of X G (Hd.no_of (Hd.at_all H6 13 rfl)),W.mg_none_of X G (Hd.no_of (Hd.at_all H6 14 rfl))⟩
 obtain⟨Di,od_WAYS,its_WAYS,n_WAYS,sl_WAYS,Dd,Dc,Cu⟩:=Hd.tup_of (Hd.at_map H7 0 rfl);refine tZ h hfa fun base=>?_;have hW:∀H,SqT K H Di [.str wOn,.str a6,.str aL,.str aB]:=fun H=>SqT.mod Dc rfl (Hd.vals_sz Cu (by decide)) Cu;have xb:=lU (P:=P) (w:=w) (base:=base) zZ T;have wq:=gK (P:=P) (w:=w) (base:=base) xO T;have wx:=qt (P:=P) (w:=w) (base:=base) Bv Aq xb wq;have xJ:=lY (P:=P) (w:=w) (base:=base) Ad;have zM:=lV (P:=P) (w:=w) (base:=base) Aa xb wq T;have we:=mP (P:=P) (w:=w) (base:=base) Ax T;have xl:=lW (P:=P) (w:=w) (base:=base) Ab zM we;have xT:=hX (P:=P) (w:=w) (base:=base) xV Ar xl;have At:=sv (P:=P) (w:=w) (base:=base) Cb wx;have yO:=qw (P:=P) (w:=w) (base:=base) By wx;have yN:=qr (P:=P) (w:=w) (base:=base) Bu wx;have B8:=sA (P:=P) (w:=w) (base:=base) Cc wx;have wE:=sB (P:=P) (w:=w) (base:=base) Cd;have yl:=kJ (P:=P) (w:=w) (base:=base) zg wx;have wD:=lJ (P:=P) (w:=w) (base:=base) zN xT xJ we yl T;have w5:=kH (P:=P) (w:=w) (base:=base) ze yO;have wj:=ib (P:=P) (w:=w) (base:=base) xZ At yN;have wm:=gG (P:=P) (w:=w) (base:=base) xK w5 wj;have xr:=kI (P:=P) (w:=w) (base:=base) zf wm wD;have vV:=fZ (P:=P) (w:=w) (base:=base) xy (hJ wE) xJ (mG wx);have x9:=iy (P:=P) (w:=w) (base:=base) yf w5 wj B8 wE;have yr:=jk (P:=P) (w:=w) (base:=base) yy wD x9 At yN yO wm;have xQ:=jo (P:=P) (w:=w) (base:=base) yC T;have xa:=kR (P:=P) (w:=w) (base:=base) zn T;have vM:=lL (P:=P) (w:=w) (base:=base) zP;have w9:=lK (P:=P) (w:=w) (base:=base) zO vM T;have wo:=gJ (P:=P) (w:=w) (base:=base) xN vM w9 T;have wT:=jj (P:=P) (w:=w) (base:=base) yx Bt (W.mg_of X G Dd) hW T;have Au:=mR (P:=P) (w:=w) (base:=base) Az xl T;have xt:=kT (P:=P) (w:=w) (base:=base) zq Au T;have wP:=dW (P:=P) (w:=w) (base:=base) wQ we;have Av:=mS (P:=P) (w:=w) (base:=base) AB (hJ wE) vV;have yv:=jp (P:=P) (w:=w) (base:=base) yD vV;have Ca:=sC (P:=P) (w:=w) (base:=base) Ce;have xg:=gH (P:=P) (w:=w) (base:=base) xL Ca yv Av;have wJ:=dM (P:=P) (w:=w) (base:=base) wL xg T;have xH:=mQ (P:=P) (w:=w) (base:=base) Ay wT xt wP wJ;have wK:=dN (P:=P) (w:=w) (base:=base) wM we;have xf:=jC (P:=P) (w:=w) (base:=base) yU (hJ wE);have wu:=iB (P:=P) (w:=w) (base:=base) yi vV;have Ak:=oR (P:=P) (w:=w) (base:=base) A5 wu;have xm:=fQ (P:=P) (w:=w) (base:=base) xp;have yT:=jF (P:=P) (w:=w) (base:=base) yX;have xu:=gb (P:=P) (w:=w) (base:=base) xA yT Ak xf;have wF:=dD (P:=P) (w:=w) (base:=base) wG xu T;have xI:=lX (P:=P) (w:=w) (base:=base) Ac wT xt xm wK wF T;have ym:=kM (P:=P) (w:=w) (base:=base) zi vM T;have xw:=gh (P:=P) (w:=w) (base:=base) xD vM ym wo T;have zc:=kN (P:=P) (w:=w) (base:=base) zj xQ xa wo xw;have yu:=jn (P:=P) (w:=w) (base:=base) yB T;have wB:=kK (P:=P) (w:=w) (base:=base) zh yu;have vN:=kP (P:=P) (w:=w) (base:=base) zl;have vT:=jl (P:=P) (w:=w) (base:=base) yz vM w9 wB;have wI:=mO (P:=P) (w:=w) (base:=base) Aw vM vT;have yn:=kS (P:=P) (w:=w) (base:=base) zo vM vT vN;have yQ:=lO (P:=P) (w:=w) (base:=base) zT T;have xG:=gI (P:=P) (w:=w) (base:=base) xM vM wI yn yQ T;have vY:=jD (P:=P) (w:=w) (base:=base) yV vN;have yt:=jm (P:=P) (w:=w) (base:=base) yA vN;have yS:=lR (P:=P) (w:=w) (base:=base) zW vM vT vN T;have yP:=lM (P:=P) (w:=w) (base:=base) zQ vM vT vN T;have zG:=lN (P:=P) (w:=w) (base:=base) zR vM wI vY yt yS yP;have zd:=kO (P:=P) (w:=w) (base:=base) zk T;have xx:=gi (P:=P) (w:=w) (base:=base) xE vM wI zG zd T;have xU:=ia (P:=P) (w:=w) (base:=base) xY vM;have yR:=jE (P:=P) (w:=w) (base:=base) yW T;have zJ:=lS (P:=P) (w:=w) (base:=base) zX vN;have v7:=ga (P:=P) (w:=w) (base:=base) xz wE T;have wU:=eB (P:=P) (w:=w) (base:=base) wV xf;have xi:=hZ (P:=P) (w:=w) (base:=base) xW wE yr;have x8:=ix (P:=P) (w:=w) (base:=base) ye wu xi;have xj:=fO (P:=P) (w:=w) (base:=base) xn xr wU x8 T;have yd:=iC (P:=P) (w:=w) (base:=base) yj As xI xj v7;have wt:=iz (P:=P) (w:=w) (base:=base) yg;have vQ:=h8 (P:=P) (w:=w) (base:=base) xX wt wB;have zI:=lQ (P:=P) (w:=w) (base:=base) zV wB;have v9:=gg (P:=P) (w:=w) (base:=base) xC vQ vY zI wt vN;have yc:=iA (P:=P) (w:=w) (base:=base) yh vN v9;have xk:=fP (P:=P) (w:=w) (base:=base) xo vQ vY zJ yc T;have w6:=eO (P:=P) (w:=w) (base:=base) xc v7;have yq:=ji (P:=P) (w:=w) (base:=base) yw AZ xH xr w6;have xv:=ge (P:=P) (w:=w) (base:=base) xB vQ vN;have zK:=lT (P:=P) (w:=w) (base:=base) zY T;have zH:=lP (P:=P) (w:=w) (base:=base) zU yq yd xv xk vN;exact ue CT zc yR xa xU xG xx xH xI zK zH T
end K19
end
open PySem PySem.W PyProof.Rows
set_option maxRecDepth 100000 in
set_option maxHeartbeats 0 in
theorem PySem.Challenge.cw_oneleash_k19_whole_no_walk_below_a_fence_holds : PySem.Challenge.rw_oneleash_k19_whole_no_walk_below_a_fence.Holds := by
 w_on;o_law
 refine holds_open (q:=K19.hView) (loose:=K19.hLoose) (Xt:=fun _=>true) (XP:=fun _ _=>True) (Yf:=Hook.obs (Hd.hook K19.hFacts K19.hGood)) (Ya:=Hook.val (Hd.hook K19.hFacts K19.hGood)) (YP:=Hook.says (Hd.hook K19.hFacts K19.hGood)) (N:=100000) K19.hLeft (Hook.of _) (Hook.keeps _) (fun _ _=>trivial) (fun _ _ _ _ _=>trivial) (by rfl) (by rfl) (by rfl) (fun _ _=>recFacts_nil rfl) (by rfl) (by first|assumption|decide +kernel) (by decide +kernel) ⟨rfl,rfl,rfl,rfl,rfl,by decide +kernel⟩ ?hw ?hc
 case hw=>w_witness2
 exact Hd.law_walk (l:=Challenge.rw_oneleash_k19_whole_no_walk_below_a_fence) (k:=12) ⟨rfl,by decide,by decide,rfl⟩ rfl rfl fun K FK w mg fa h KX G hmg=>K19.all_of FK KX G hmg
