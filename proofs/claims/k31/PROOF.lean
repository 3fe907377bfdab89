import PyProof.Rows.All
import Wide.All
import OpenK.AllK
import Wide.FinOn
import Lean
import PyProof.EqAt
import PyProof.EqKinds
import PyProof.TupleCall
import PyProof.ExcArgsOwn
import KE.KTryMore
import PyProof.NsDelKeeps
import PyProof.ConsumeWalk
import PyProof.ZipIter
import PyProof.WalksEnum
import PyProof.EnumMake
import PyProof.NeKinds
import PyProof.CompMap
import PyProof.DictWalks
import KE.KLam
import KE.KRevIter
import PyProof.ListRange
import PyProof.AttrMissHeap
import KE.KDictOf
import PySem.Challenge.RW_oneleash_k31_free_walk_or_fence
local macro_rules | `(tactic| omega)=>`(tactic| lia)
section
set_option Elab.async false
set_option linter.all false
set_option maxRecDepth 100000
namespace L2
open PySem PySem.Spec PyProof.Rows
abbrev Key:=Sum Int Str
def kD:Key->Value->Bool
 | .inl k,v=>Value.isInt k v
 | .inr x,v=>Value.isStrOf x v
def yx(w:World):Key->Int
 | .inl k=>hashInt k
 | .inr x=>hashStr w x
theorem bZ:∀{k:Key} {v:Value},kD k v=true->(∃i t,k=Sum.inl i∧v=Value.int i t)∨(∃x t,k=Sum.inr x∧v=Value.str x t)
 | .inl i,v,h=>by
  obtain⟨t,e⟩:=Value.isInt_shape (k:=i) (v:=v) h;exact .inl ⟨i,t,rfl,e⟩
 | .inr x,v,h=>by
  obtain⟨t,e⟩:=Value.isStrOf_shape (x:=x) (v:=v) h;exact .inr ⟨x,t,rfl,e⟩
theorem qU(i:Int)(t:Tok):kD (.inl i) (.int i t)=true:=by simp[kD,Value.isInt]
theorem qT(x:Str)(t:Tok):kD (.inr x) (.str x t)=true:=by simp[kD,Value.isStrOf]
theorem wK(a b:Int):decide ((Sum.inl a:Key)=Sum.inl b)=(a == b):=by
 by_cases e:a=b
 ·subst e;simp
 ·have h:¬(Sum.inl a:Key)=Sum.inl b:=fun q=>e (Sum.inl.inj q)
  rw[decide_eq_false h];exact(beq_eq_false_iff_ne.mpr e).symm
theorem wH(a b:Str):decide ((Sum.inr a:Key)=Sum.inr b)=decide (a=b):=by
 by_cases e:a=b
 ·subst e;simp
 ·have h:¬(Sum.inr a:Key)=Sum.inr b:=fun q=>e (Sum.inr.inj q)
  rw[decide_eq_false h,decide_eq_false e]
theorem wJ(a:Int)(b:Str):decide ((Sum.inl a:Key)=Sum.inr b)=false:=decide_eq_false (fun q=>nomatch q)
theorem wI(a:Str)(b:Int):decide ((Sum.inr a:Key)=Sum.inl b)=false:=decide_eq_false (fun q=>nomatch q)
def cw(prog:Program)(w:World):PySem.KeyKind prog w Key where
 is:=kD
 hash:=yx w
 inj:=fun v a b ha hb=>by
  rcases bZ ha with⟨i,t,rfl,rfl⟩|⟨x,t,rfl,rfl⟩
  ·rcases bZ hb with⟨j,u,rfl,e⟩|⟨y,u,rfl,e⟩
   ·injection e with e1 _;rw[e1]
   ·exact nomatch e
  ·rcases bZ hb with⟨j,u,rfl,e⟩|⟨y,u,rfl,e⟩
   ·exact nomatch e
   ·injection e with e1 _;rw[e1]
 byValue:=fun k v h=>by
  rcases bZ h with⟨i,t,rfl,rfl⟩|⟨x,t,rfl,rfl⟩ <;> rfl
 pyHash:=fun hv h=>by
  rcases bZ hv with⟨i,t,rfl,rfl⟩|⟨x,t,rfl,rfl⟩
  ·exact wpAny_pyHash_int h
  ·exact wpAny_pyHash_str h
 eqBool:=fun hu hv h=>by
  rcases bZ hu with⟨i,t,rfl,rfl⟩|⟨x,t,rfl,rfl⟩
  ·rcases bZ hv with⟨j,u,rfl,rfl⟩|⟨y,u,rfl,rfl⟩
   ·rw[wK]at h;exact wpAny_eqBool_int h
   ·rw[wJ]at h;exact SeqAt.EqAt.int_str i t y u _ _ _ _ h
  ·rcases bZ hv with⟨j,u,rfl,rfl⟩|⟨y,u,rfl,rfl⟩
   ·rw[wI]at h;exact SeqAt.EqAt.str_int x t j u _ _ _ _ h
   ·rw[wH]at h;exact wpAny_eqBool_str h
 «strs»:=fun k x t v h=>by
  rcases bZ h with⟨i,u,rfl,e⟩|⟨y,u,rfl,e⟩
  ·exact nomatch e
  ·injection e with e1 _
   subst e1;cases v <;> rfl
theorem mL(prog:Program)(w:World)(i:Int)(t:Tok):(cw prog w).is (.inl i) (.int i t)=true:=qU i t
theorem mK(prog:Program)(w:World)(x:Str)(t:Tok):(cw prog w).is (.inr x) (.str x t)=true:=qT x t
end L2
namespace L2
open PySem PySem.Spec PyProof.Rows
inductive V where
 | non|bl (b:Bool)|int (i:Int)|str (x:Str)|byt (b:Array UInt8)|flt (b:UInt64)|ref (a:Addr)|ty (n:String)
 deriving DecidableEq
def aW:V->Value->Prop
 | .non,u=>u=Value.none
 | .bl b,u=>u=Value.bool b
 | .int i,u=>∃t,u=Value.int i t
 | .str x,u=>∃t,u=Value.str x t
 | .byt b,u=>∃t,u=Value.bytes b t
 | .flt b,u=>∃t,u=Value.float b t
 | .ref a,u=>u=Value.ref a
 | .ty n,u=>u=Value.type n
abbrev aT:List V->List Value->Prop:=Paired aW
theorem aT.length{xs:List V}{us:List Value}(r:aT xs us):xs.length=us.length:=Paired.length r
theorem aT.get:∀{xs:List V} {us:List Value} {i:Nat} {x:V},aT xs us->xs[i]? = some x->∃u,us[i]? = some u∧aW x u
 | _,_,_,_,.nil,e=>by simp at e
 | _,_,0,_,.cons r _,e=>by simp at e;subst e;exact⟨_,rfl,r⟩
 | _,_,i+1,x,.cons _ t,e=>by
  obtain⟨u,h1,h2⟩:=aT.get (i:=i) (x:=x) t (by simpa using e);exact⟨u,by simpa using h1,h2⟩
theorem aT.set{x:V}{u:Value}(r:aW x u):∀{xs:List V} {us:List Value} (i:Nat),aT xs us->aT (xs.set i x) (us.set i u)
 | _,_,_,.nil=>.nil
 | _,_,0,.cons _ t=>.cons r t
 | _,_,i+1,.cons q t=>.cons q (aT.set r i t)
theorem aT.append:∀{xs ys:List V} {us ws:List Value},aT xs us->aT ys ws->aT (xs++ys) (us++ws)
 | _,_,_,_,.nil,s=>s
 | _,_,_,_,.cons r t,s=>.cons r (aT.append t s)
theorem aT.take:∀{xs:List V} {us:List Value} (n:Nat),aT xs us->aT (xs.take n) (us.take n)
 | _,_,0,_=>.nil
 | _,_,_+1,.nil=>.nil
 | _,_,n+1,.cons r t=>.cons r (aT.take n t)
theorem aT.drop:∀{xs:List V} {us:List Value} (n:Nat),aT xs us->aT (xs.drop n) (us.drop n)
 | _,_,0,r=>r
 | _,_,_+1,.nil=>.nil
 | _,_,n+1,.cons _ t=>aT.drop n t
def iy:Option V->Option Value->Prop
 | some v,some u=>aW v u
 | none,none=>True
 | _,_=>False
def KV{κ:Type}:List (κ×V)->List (κ×Value)->Prop:=Paired fun (p:κ×V) (q:κ×Value)=>p.1=q.1∧aW p.2 q.2
def kV:Key->V
 | .inl i=>.int i
 | .inr x=>.str x
inductive HO where
 /-- a list -/
 | lst (xs:List V)
 /-- a tuple (never changes) -/
 | tup (xs:List V)
 /-- a dict whose keys are ints and texts;one whose keys are tuples of ints and texts (the empty one is both) -/
 | dK (kvs:List (Key×V))|dT (kvs:List (List Key×V))
 /-- a set of ints: its members,its size -/
 | set (S:Int->Bool) (n:Nat)
 /-- an instance of the class at C,its dict at dx,its attributes -/
 | ins (C dx:Addr) (fs:List (Str×V))
 /-- the dict of the instance at x -/
 | own (x:Addr)
 /-- the dict of an exception -/
 | xd (fs:List (Str×V))
 /-- a bound method,f of x -/
 | met (f x:Addr)
 /-- a range object lo,lo+1,.. vX hi -/
 | rng (lo hi:Int)
 /-- a thing that is known to the object (the script;a dict while a loop walks it): read,never written while it is so -/
 | frz (o:Obj) (u:HO)
 /-- a code object's table -/
 | tbl (ps:Array Value)
 /-- any other thing,by what is true of its one object (a def of one's own: SetO a S n:=HO.ext fun h=>..) -/
 | ext (φ:Heap->Prop)
abbrev Hp:=Addr->Option HO
def upd(H:Hp)(a:Addr)(o:HO):Hp:=fun b=>if b=a then some o else H b
theorem upd_same{H:Hp}{a:Addr}{o:HO}:upd H a o a=some o:=by unfold upd;rw[if_pos rfl]
theorem aN{H:Hp}{a b:Addr}{o:HO}(h:b≠a):upd H a o b=H b:=by unfold upd;rw[if_neg h]
theorem pR{H:Hp}{a b:Addr}{o u:HO}(h:H a=some o)(h':H b=some u)(d:o≠u):a≠b:=by
 intro e;subst e;rw[h]at h';exact d (Option.some.inj h')
theorem aS{H:Hp}{a b:Addr}{o:HO}(h:H a=some o)(h':H b=none):a≠b:=by
 intro e;subst e;rw[h]at h';cases h'
section
variable (P:Program) (w:World)
def bK(H:Hp)(h:Heap)(a:Addr):HO->Prop
 | .lst xs=>xs.length≤sizeLine∧∃(its:List Value) (n:Nat),aT xs its∧h.get? a=some { cls:=.type "list",data:=.seq its.toArray n }
 | .tup xs=>xs.length≤sizeLine∧∃its:List Value,aT xs its∧IsTup h a its.toArray
 | .dK kvs=>kvs.length≤sizeLine∧(a == sysModules)=false∧∃vs,KV kvs vs∧h.DictOf (cw P w) a vs
 | .dT kvs=>kvs.length≤sizeLine∧(a == sysModules)=false∧∃xs:List (List Key×Addr×Value),
   Paired (fun (p:List Key×V) (q:List Key×Addr×Value)=>p.1=q.1∧H q.2.1=some (.tup (p.1.map kV))∧aW p.2 q.2.2) kvs xs ∧
   ∃o es ep,h.get? a=some o∧o.ExactDict∧o.data = .dict es ep∧es.toList=xs.map (entryOfKey (tupleKind (cw P w)))∧(xs.map (·.1)).Nodup
 | .set S n=>h.SetOf (intKind P w) a S n
 | .ins C dx fs=>H dx=some (.own a)∧fs.length≤1000∧dx≠a∧h.get? a=some (W.instObj C dx) ∧
   ∃mA,h.Ns1 dx mA∧(∀f,iy (fs.lookup f) (mA f))∧PySem.Within mA (fs.map (·.1))
 | .own _=>∃o,h.get? a=some o
 | .xd fs=>∃mA,h.Ns1 a mA∧∀f,iy (fs.lookup f) (mA f)
 | .rng lo hi=>∃t u v,h.get? a=some { cls:=.type "range",data:=.fields #[.int lo t,.int hi u,.int 1 v] }
 | .frz o u=>h.get? a=some o∧bK H h a u
 | .tbl ps=>h.get? a=some { cls:=.none,data:=.fields ps }
 | .met f x=>h.get? a=some (W.methodObj (.ref f) (.ref x))
 | .ext φ=>φ h∧(∃o,h.get? a=some o)∧∀h1 h2:Heap,φ h1->(∀o,h1.get? a=some o->h2.get? a=some o)->φ h2
def HOk(H:Hp)(h:Heap):Prop:=∀a o,H a=some o->bK P w H h a o
end
section
variable {P:Program} {w:World} {H H':Hp} {h h':Heap} {a:Addr} {o:HO}
theorem bK.lt(x:bK P w H h a o):a<h.objs.size:=by
 cases o with
 | lst xs=>obtain⟨_,_,_,_,e⟩:=x;exact Heap.lt_size e
 | tup xs=>obtain⟨_,_,_,p⟩:=x;exact p.lt
 | dK kvs=>obtain⟨_,_,_,_,o,_,_,e,_⟩:=x;exact Heap.lt_size e
 | dT kvs=>obtain⟨_,_,_,_,o,_,_,e,_⟩:=x;exact Heap.lt_size e
 | set S n=>obtain⟨o,_,_,_,e,_⟩:=x;exact Heap.lt_size e
 | ins C dx fs=>obtain⟨_,_,_,e,_⟩:=x;exact Heap.lt_size e
 | own y=>obtain⟨_,e⟩:=x;exact Heap.lt_size e
 | xd fs=>obtain⟨_,⟨_,_,_,e,_⟩,_⟩:=x;exact Heap.lt_size e
 | rng lo hi=>obtain⟨_,_,_,e⟩:=x;exact Heap.lt_size e
 | frz ob u=>obtain⟨e,_⟩:=x;exact Heap.lt_size e
 | tbl ps=>exact Heap.lt_size (show h.get? a=some _ from x)
 | met f y=>exact Heap.lt_size (show h.get? a=some _ from x)
 | ext φ=>obtain⟨_,⟨_,e⟩,_⟩:=x;exact Heap.lt_size e
theorem Paired.mapP{α β:Type}{F G:α->β->Prop}:∀{l₁:List α} {l₂:List β},Paired F l₁ l₂->(∀a b,F a b->G a b)->Paired G l₁ l₂
 | _,_,.nil,_=>.nil
 | _,_,.cons r t,f=>.cons (f _ _ r) (Paired.mapP t f)
theorem bK.stay(x:bK P w H h a o)(k:∀b u,(b=a∨H b=some (.own a))->h.get? b=some u->h'.get? b=some u)
  (ho:∀b,H b=some (.own a)->H' b=some (.own a)) (ht:∀b xs,H b=some (.tup xs)->H' b=some (.tup xs)):bK P w H' h' a o:=by
 induction o with
 | lst xs=>obtain⟨z,its,n,r,e⟩:=x;exact⟨z,its,n,r,k _ _ (.inl rfl) e⟩
 | tup xs=>obtain⟨z,its,r,ob,e,c⟩:=x;exact⟨z,its,r,ob,k _ _ (.inl rfl) e,c⟩
 | dK kvs=>obtain⟨z,y,vs,r,ob,es,ep,e,c⟩:=x;exact⟨z,y,vs,r,ob,es,ep,k _ _ (.inl rfl) e,c⟩
 | dT kvs =>
  obtain⟨z,y,xs,r,ob,es,ep,e,c⟩:=x;exact⟨z,y,xs,Paired.mapP r fun p q z=>⟨z.1,ht _ _ z.2.1,z.2.2⟩,ob,es,ep,k _ _ (.inl rfl) e,c⟩
 | set S n=>obtain⟨ob,es,ep,t,e,c⟩:=x;exact⟨ob,es,ep,t,k _ _ (.inl rfl) e,c⟩
 | ins C dx fs =>
  obtain⟨d,z,ne,e,mA,⟨od,es,ep,e2,c⟩,r⟩:=x;exact⟨ho _ d,z,ne,k _ _ (.inl rfl) e,mA,⟨od,es,ep,k _ _ (.inr d) e2,c⟩,r⟩
 | own y=>obtain⟨ob,e⟩:=x;exact⟨ob,k _ _ (.inl rfl) e⟩
 | xd fs=>obtain⟨mA,⟨od,es,ep,e,c⟩,r⟩:=x;exact⟨mA,⟨od,es,ep,k _ _ (.inl rfl) e,c⟩,r⟩
 | rng lo hi=>obtain⟨t,u,v,e⟩:=x;exact⟨t,u,v,k _ _ (.inl rfl) e⟩
 | frz ob u ih=>obtain⟨e,q⟩:=x;exact⟨k _ _ (.inl rfl) e,ih q⟩
 | tbl ps =>
  have e:h.get? a=some { cls:=.none,data:=.fields ps }:=x;show h'.get? a=some { cls:=.none,data:=.fields ps };exact k a _ (.inl rfl) e
 | met f y =>
  have e:h.get? a=some (W.methodObj (.ref f) (.ref y)):=x;show h'.get? a=some (W.methodObj (.ref f) (.ref y));exact k a _ (.inl rfl) e
 | ext φ=>obtain⟨p,⟨o,e⟩,st⟩:=x;exact⟨st _ _ p fun o q=>k _ _ (.inl rfl) q,⟨o,k _ _ (.inl rfl) e⟩,st⟩
theorem HOk.lt(x:HOk P w H h)(e:H a=some o):a<h.objs.size:=(x a o e).lt
theorem HOk.fresh(x:HOk P w H h)(e:h.objs.size≤a):H a=none:=by
 cases q:H a with
 | none=>rfl
 | some u=>exact absurd (Nat.lt_of_lt_of_le (x.lt q) e) (Nat.lt_irrefl _)
theorem HOk.kept(x:HOk P w H h)(k:∀b u,h.get? b=some u->h'.get? b=some u):HOk P w H h':=fun a o e =>
 (x a o e).stay (fun b u _ q=>k b u q) (fun _ q=>q) fun _ _ q=>q
theorem HOk.laid(x:HOk P w H h)(k:∀b u,h.get? b=some u->h'.get? b=some u)(hp:h.objs.size≤a)(new:bK P w (upd H a o) h' a o):HOk P w (upd H a o) h':=fun b u e=>by
 have hn:=x.fresh hp
 by_cases hb:b=a
 ·subst hb;rw[upd_same]at e;cases e;exact new
 ·rw[aN hb]at e
  exact(x b u e).stay (fun c v _ q=>k c v q) (fun c q=>by rw[aN (aS q hn)];exact q) fun c xs q=>by rw[aN (aS q hn)];exact q
end
def Rd(H:Hp)(a:Addr)(u:HO):Prop:=H a=some u∨∃o,H a=some (.frz o u)
theorem Rd.ok{P:Program}{w:World}{H:Hp}{h:Heap}{a:Addr}{u:HO}(r:Rd H a u)(x:HOk P w H h):bK P w H h a u:=by
 rcases r with r|⟨o,r⟩
 ·exact x a u r
 ·obtain⟨_,q⟩:=x a _ r
  exact q
def Mut:Option HO->Prop
 | some (.lst _)=>True
 | some (.dK _)=>True
 | some (.dT _)=>True
 | some (.set _ _)=>True
 | some (.ins _ _ _)=>True
 | some (.ext _)=>True
 | _=>False
section
variable {P:Program} {w:World} {H:Hp} {h h':Heap} {x e:Addr} {o':HO}
theorem HOk.write(ok:HOk P w H h)(mu:Mut (H x))(he:e=x∨H e=some (.own x))(k:∀b u,b≠e->h.get? b=some u->h'.get? b=some u)(heo:∃u,h'.get? e=some u)
  (new:bK P w (upd H x o') h' x o'):HOk P w (upd H x o') h':=fun b u q=>by
 have nown:∀c y,H c=some (.own y)->c≠x:=fun c y r z=>by subst z;rw[r]at mu;exact mu
 have ntup:∀c xs,H c=some (.tup xs)->c≠x:=fun c xs r z=>by subst z;rw[r]at mu;exact mu
 by_cases hb:b=x
 ·subst hb;rw[upd_same]at q;cases q;exact new
 ·rw[aN hb]at q
  by_cases hbe:b=e
  ·have q':H b=some (.own x):=by
    rcases he with z|z
    ·exact absurd (hbe.trans z) hb
    ·rw[hbe];exact z
   rw[q]at q';cases q';obtain⟨v,hv⟩:=heo;exact⟨v,by rw[hbe];exact hv⟩
  ·refine(ok b u q).stay (fun c v hc r=>k c v ?_ r) (fun c r=>by rw[aN (nown c b r)];exact r) fun c xs r=>by rw[aN (ntup c xs r)];exact r
   rcases hc with rfl|hc
   ·exact hbe
   ·rintro rfl
    rcases he with z|z
    ·exact nown c b hc z
    ·rw[hc]at z;cases z;exact hb rfl
end
structure Un(fs ex:List Addr)(H H':Hp)(h h':Heap):Prop where
 keep:∀b o,h.get? b=some o->H b=none->b∉fs->b∉ex->h'.get? b=some o
 slot:∀b o,h.get? b=some o->H b=none->b∈fs->b∉ex->∃sl,h'.get? b=some { o with slots:=sl }
 free:∀b o,h.get? b=some o->H b=none->b∉ex->H' b=none
 there:∀b o,h.get? b=some o->b∉ex->∃o',h'.get? b=some o'
 tups:∀b xs,H b=some (.tup xs)->H' b=some (.tup xs)
 frzs:∀b o u,H b=some (.frz o u)->H' b=some (.frz o u)
 tbls:∀b ps,H b=some (.tbl ps)->∃more,H' b=some (.tbl (ps++more))
section
variable {fs fs' ex ex':List Addr} {H H1 H2:Hp} {h h1 h2 h':Heap} {a x e:Addr} {o:HO}
theorem Un.any(u:Un fs ex H H1 h h1){b:Addr}{ob:Obj}(q:h.get? b=some ob)(n:H b=none)(hx:b∉ex):∃sl,h1.get? b=some { ob with slots:=sl }:=by
 by_cases hb:b∈fs
 ·exact u.slot b ob q n hb hx
 ·exact⟨ob.slots,u.keep b ob q n hb hx⟩
theorem Un.kept(k:∀b u,h.get? b=some u->h'.get? b=some u):Un fs ex H H h h' :=
 ⟨fun b ob q _ _ _=>k b ob q,fun b ob q _ _ _=>⟨ob.slots,k b ob q⟩,fun _ _ _ n _=>n,fun b ob q _=>⟨ob,k b ob q⟩,fun _ _ q=>q,fun _ _ _ q=>q,fun _ ps q=>⟨#[],by rw[q];simp⟩⟩
theorem Un.refl:Un fs ex H H h h:=Un.kept fun _ _ q=>q
theorem Un.laid(k:∀b u,h.get? b=some u->h'.get? b=some u)(hp:h.objs.size≤a)(hn:H a=none):Un fs ex H (upd H a o) h h' where
 keep:=fun b u q _ _ _=>k b u q
 slot:=fun b u q _ _ _=>⟨u.slots,k b u q⟩
 free:=fun b u q n _=>by rw[aN (Nat.ne_of_lt (Nat.lt_of_lt_of_le (Heap.lt_size q) hp))];exact n
 there:=fun b u q _=>⟨u,k b u q⟩
 tups:=fun b xs q=>by rw[aN (aS q hn)];exact q
 frzs:=fun b u xs q=>by rw[aN (aS q hn)];exact q
 tbls:=fun b ps q=>⟨#[],by rw[aN (aS q hn),q];simp⟩
theorem Un.write(mu:Mut (H x))(he:e=x∨H e=some (.own x))(k:∀b u,b≠e->h.get? b=some u->h'.get? b=some u)(heo:∃u,h'.get? e=some u):Un fs ex H (upd H x o) h h':=by
 have hx:∀b,H b=none->b≠x:=fun b n z=>by subst z;rw[n]at mu;exact mu
 have hb:∀b,H b=none->b≠e:=fun b n z=>by
  subst z;rcases he with r|r
  ·exact hx b n r
  ·rw[n]at r;cases r
 have hm:∀b u,H b=some u->¬Mut (some u)->b≠x:=fun b u q nm z=>by subst z;rw[q]at mu;exact nm mu
 refine⟨fun b u q n _ _=>k b u (hb b n) q,fun b u q n _ _=>⟨u.slots,k b u (hb b n) q⟩,fun b u q n _=>by rw[aN (hx b n)];exact n,fun b u q _=>?_,
  fun b xs q=>by rw[aN (hm b _ q fun z=>z)];exact q,fun b u xs q=>by rw[aN (hm b _ q fun z=>z)];exact q,fun b ps q=>⟨#[],by rw[aN (hm b _ q fun z=>z),q];simp⟩⟩
 by_cases hbe:b=e
 ·subst hbe;exact heo
 ·exact⟨u,k b u hbe q⟩
end
def trk(h:Heap)(H:Hp):List Addr:=(List.range h.objs.size).filter fun a=>(H a).isSome
def lD(h:Heap)(H:Hp):Heap:=W.hideAll h (trk h H)
theorem qY(h:Heap)(H:Hp):(lD h H).objs.size=h.objs.size:=W.hideAll_size _ _
theorem tD{h:Heap}{H:Hp}{b:Addr}{o:Obj}(e:h.get? b=some o)(n:H b=none):(lD h H).get? b=some o :=
 W.hideAll_get _ e fun hm=>by
  have q:(H b).isSome=true:=(List.mem_filter.mp hm).2;rw[n]at q;simp at q
theorem uP{h:Heap}{H:Hp}{b:Addr}{o:Obj}(e:(lD h H).get? b=some o):h.get? b=some o∧H b=none:=by
 have e':h.get? b=some o:=W.of_hideAll (trk h H) e;refine⟨e',?_⟩;cases q:H b with
 | none=>rfl
 | some x =>
  have hm:b∈trk h H:=List.mem_filter.mpr ⟨List.mem_range.mpr (Heap.lt_size e'),by simp[q]⟩;have z:(lD h H).get? b=none:=W.hideAll_none (trk h H) hm;rw[z]at e;cases e
end L2
namespace L2
open PySem PySem.Spec PyProof.Rows
structure Mod(K:W.Frag)(mg:Str->Option Value)(base:Heap):Prop where
 kin:K.In base
 glob:base.Ns mainGlobals mg
 blt:∃mb,base.Ns builtinsNs mb∧∀x:Str,x≠"__name__"->mb x=bootBuiltins x
 nolimit:base.NoLimit
structure Cx where
 prog:Program
 w:World
 K:W.Frag
 mg:Str->Option Value
 base:Heap
 A:Around
 N:List Str
 s₀:Shared
 H₀:Hp
 env:Env
 outer:List Env
 stack:List Env
 ex:List Addr
 fn:Str->Bool
 calm:Bool
 pn:List (Addr×Obj)
 xe:Value->Shared->Prop
def frs(l:List Env):List Addr:=l.filterMap (·.frame)
abbrev Cx.fs(X:Cx):List Addr:=frs X.outer
def Vis(sc:Scope)(x:Str):Prop:=sc.names.lookup x=some .local∨sc.names.lookup x=some .cell∨sc.names.lookup x=some .free
def Loc(sc:Scope)(x:Str):Prop:=sc.names.lookup x=some .local∨sc.names.lookup x=some .cell
def yE(env:Env)(h:Heap)(m:Str->Option Value)(x:Str)(u:Value):Prop :=
 (env.kindOf x=some .local∧m x=some u)∨((env.kindOf x=some .cell∨env.kindOf x=some .free)∧∃c,env.cells.lookup x=some c∧h.IsCell c (some u))
structure Cx.Ok(X:Cx):Prop where
 mod:Mod X.K X.mg X.base
 kind:X.env.scope.kind = .function
 glob:X.env.globals=mainGlobals
 blt:X.env.builtins=builtinsNs
 above:X.s₀.heap.objs.size≤X.env.locals
 inj:∀x y c,X.env.cells.lookup x=some c->X.env.cells.lookup y=some c->x=y
 has:∀x,(X.env.kindOf x=some .cell∨X.env.kindOf x=some .free)->∃c,X.env.cells.lookup x=some c
 cab:∀x c,X.fn x=true->X.env.cells.lookup x=some c->X.s₀.heap.objs.size≤c
 hd:X.calm=true->X.A.handled=none
 frames:X.A.frames=some X.stack
 stk:X.stack=X.outer∨(X.stack=X.env::X.outer∧X.env.frame=some X.env.locals)
 exf:∀b∈X.ex,b≠X.env.locals∧∀x c,X.env.cells.lookup x=some c->c≠b
 bs:∀b o,X.base.get? b=some o->X.s₀.heap.get? b=some o∧X.H₀ b=none
 bsz:X.base.objs.size≤X.s₀.heap.objs.size
 noex:∀b o,X.base.get? b=some o->b∉X.ex
 exfs:∀b∈X.ex,b∉X.fs
 funs:X.s₀.heap.FunFrames X.base X.outer
 frf:∀b∈X.fs,X.H₀ b=none
structure yI(X:Cx)(pins:List (Addr×Obj))(σ:List (Option V))(H:Hp)(s:Shared):Prop where
 ok:X.Ok
 os:s.os=X.s₀.os
 bare:AllBare s.gens
 base:Un X.fs X.ex X.H₀ H X.s₀.heap s.heap
 loc:∃m,s.heap.Ns X.env.locals m∧∀(i:Nat) (x:Str) (v:V),X.N[i]? = some x->σ[i]? = some (some v)->Vis X.env.scope x->∃u,aW v u∧yE X.env s.heap m x u
 cell:∀x c,X.env.cells.lookup x=some c->∃v,s.heap.IsCell c v
 free:H X.env.locals=none
 freeC:∀x c,X.env.cells.lookup x=some c->H c=none
 pin:∀p∈X.pn++pins,s.heap.get? p.1=some p.2∧H p.1=none∧p.1≠X.env.locals∧p.1∉X.fs∧∀v,p.2.data≠.cell v
 hok:HOk X.prog X.w H s.heap
 len:σ.length=X.N.length
section
variable {X:Cx} {pins:List (Addr×Obj)} {σ:List (Option V)} {H H':Hp} {s:Shared} {h':Heap}
theorem Cx.Ok.nofr(ok:X.Ok){b:Addr}{o:Obj}(e:X.base.get? b=some o):b∉X.fs:=fun hb=>by
 have:=(ok.funs.mem hb).1;rw[e]at this;cases this
theorem yI.bs(I:yI X pins σ H s):∀b o,X.base.get? b=some o->s.heap.get? b=some o∧H b=none:=fun b o e =>
 ⟨I.base.keep b o (I.ok.bs b o e).1 (I.ok.bs b o e).2 (I.ok.nofr e) (I.ok.noex b o e),I.base.free b o (I.ok.bs b o e).1 (I.ok.bs b o e).2 (I.ok.noex b o e)⟩
theorem yI.bk(I:yI X pins σ H s):∀b o,X.base.get? b=some o->s.heap.get? b=some o:=fun b o e=>(I.bs b o e).1
theorem yI.mod(I:yI X pins σ H s):Mod X.K X.mg X.base:=I.ok.mod
theorem yI.kIn(I:yI X pins σ H s):X.K.In s.heap:=I.ok.mod.kin.keeps I.bk
theorem yI.lt(I:yI X pins σ H s):X.env.locals<s.heap.objs.size:=let ⟨_,hn,_⟩:=I.loc;hn.lt
theorem yI.sz(I:yI X pins σ H s):X.s₀.heap.objs.size≤s.heap.objs.size:=Nat.le_trans I.ok.above (Nat.le_of_lt I.lt)
theorem yI.nofs(I:yI X pins σ H s){a:Addr}(h:s.heap.objs.size≤a):a∉X.fs:=fun hb=>by
 obtain⟨_,o,ho,_⟩:=I.ok.funs.mem hb;exact absurd (Nat.lt_of_lt_of_le (Heap.lt_size ho) (Nat.le_trans I.sz h)) (Nat.lt_irrefl _)
theorem yI.cne(I:yI X pins σ H s):∀x c,X.env.cells.lookup x=some c->c≠X.env.locals:=fun x c e z=>by
 obtain⟨v,o,ho,hd⟩:=I.cell x c e;obtain⟨m,⟨o',es,ep,ho',hd',_⟩,_⟩:=I.loc;rw[z,ho']at ho;cases ho;rw[hd']at hd;cases hd
theorem yI.funs(I:yI X pins σ H s):s.heap.FunFrames X.base X.outer:=by
 have all:∀(l:List Env),(∀b∈frs l,b∈X.fs)->X.s₀.heap.FunFrames X.base l->s.heap.FunFrames X.base l:=by
  intro l
  induction l with
  | nil=>intro _ _;trivial
  | cons env r ih =>
   intro hs hl;obtain⟨hk,⟨L,o,hf,hn,ho,hd⟩,hr⟩:=hl;have hL:L∈X.fs:=hs L (by unfold frs;rw[List.filterMap_cons,hf];exact List.mem_cons_self);obtain⟨sl,e⟩:=I.base.slot L o ho (I.ok.frf L hL) hL fun z=>I.ok.exfs L z hL;exact⟨hk,⟨L,_,hf,hn,e,hd⟩,ih (fun b hb=>hs b (by unfold frs;rw[List.filterMap_cons,hf];exact List.mem_cons_of_mem _ hb)) hr⟩
 exact all X.outer (fun _ hb=>hb) I.ok.funs
theorem yI.stack(I:yI X pins σ H s):s.heap.FunFrames X.base X.stack:=by
 rcases I.ok.stk with e|⟨e,hf⟩
 ·rw[e];exact I.funs
 ·rw[e]
  obtain⟨m,hn,_⟩:=I.loc;refine .cons (by rw[I.ok.kind];decide) hf hn ?_ I.funs;exact Heap.get?_none_of_le (Nat.le_trans I.ok.bsz I.ok.above)
theorem yI.stkSub(I:yI X pins σ H s):∀b∈frs X.stack,b∈X.env.locals::X.fs:=fun b hb=>by
 rcases I.ok.stk with e|⟨e,hf⟩
 ·rw[e]at hb;exact List.mem_cons_of_mem _ hb
 ·rw[e]at hb
  unfold frs at hb;rw[List.filterMap_cons,hf]at hb;exact hb
theorem yI.stkFree(I:yI X pins σ H s):∀b∈frs X.stack,H b=none:=fun b hb=>by
 rcases List.mem_cons.mp (I.stkSub b hb) with e|hb
 ·rw[e];exact I.free
 ·obtain⟨_,o,ho,_⟩:=I.ok.funs.mem hb
  exact I.base.free b o ho (I.ok.frf b hb) fun z=>I.ok.exfs b z hb
theorem yI.step{g':Array GenState}{t':Nat}{d':Drawn}{ch:List Addr}(I:yI X pins σ H s)
  (hch:∀b∈ch,(b∈X.ex∨X.s₀.heap.objs.size≤b)∧b≠X.env.locals∧(∀x c,X.env.cells.lookup x=some c->c≠b)∧∀p∈X.pn++pins,p.1≠b)
  (keep:∀b o,b≠X.env.locals->b∉X.fs->b∉ch->s.heap.get? b=some o->H b=none->h'.get? b=some o)
  (slot:∀b o,b≠X.env.locals->b∈X.fs->b∉ch->s.heap.get? b=some o->H b=none->∃sl,h'.get? b=some { o with slots:=sl }) (free:∀b o,b∉ch->s.heap.get? b=some o->H b=none->H' b=none)
  (there:∀b o,b∉ch->s.heap.get? b=some o->∃o',h'.get? b=some o')
  (tups:∀b xs,H b=some (.tup xs)->H' b=some (.tup xs)) (frzs:∀b o u,H b=some (.frz o u)->H' b=some (.frz o u)) (tbls:∀b ps,H b=some (.tbl ps)->∃more,H' b=some (.tbl (ps++more)))
  (ns:∀m,s.heap.Ns X.env.locals m->h'.Ns X.env.locals m) (hok:HOk X.prog X.w H' h') (hg:AllBare g') :
  yI X pins σ H' { s with heap:=h',gens:=g',drawn:=d',toks:=t' }:=by
 have neL:∀b o,X.s₀.heap.get? b=some o->b≠X.env.locals:=fun b o e=>Nat.ne_of_lt (Nat.lt_of_lt_of_le (Heap.lt_size e) I.ok.above);have neC:∀b o,X.s₀.heap.get? b=some o->b∉X.ex->b∉ch:=fun b o e hx hb=>by
  rcases(hch b hb).1 with z|z
  ·exact hx z
  ·exact absurd (Nat.lt_of_lt_of_le (Heap.lt_size e) z) (Nat.lt_irrefl _)
 have cellK:∀x c,X.env.cells.lookup x=some c->∀v,s.heap.IsCell c v->h'.IsCell c v:=fun x c e v ⟨o,ho,hd⟩=>by
  have nch:c∉ch:=fun z=>(hch c z).2.2.1 x c e rfl
  by_cases hc:c∈X.fs
  ·obtain⟨sl,q⟩:=slot c o (I.cne x c e) hc nch ho (I.freeC x c e)
   exact⟨_,q,hd⟩
  ·exact⟨o,keep c o (I.cne x c e) hc nch ho (I.freeC x c e),hd⟩
 refine⟨I.ok,I.os,hg,⟨fun b o e n hb hx=>?_,fun b o e n hb hx=>?_,fun b o e n hx=>?_,fun b o e hx=>?_,fun b xs e=>tups b xs (I.base.tups b xs e),fun b o xs e=>frzs b o xs (I.base.frzs b o xs e),fun b ps e=>?_⟩,?_,fun x c e=>?_,?_,fun x c e=>?_,fun p hp=>?_,hok,I.len⟩
 ·exact keep b o (neL b o e) hb (neC b o e hx) (I.base.keep b o e n hb hx) (I.base.free b o e n hx)
 ·obtain⟨sl,e1⟩:=I.base.slot b o e n hb hx
  obtain⟨sl',e2⟩:=slot b _ (neL b o e) hb (neC b o e hx) e1 (I.base.free b o e n hx);exact⟨sl',e2⟩
 ·obtain⟨o',e1⟩:=I.base.there b o e hx
  exact free b o' (neC b o e hx) e1 (I.base.free b o e n hx)
 ·obtain⟨o',e1⟩:=I.base.there b o e hx
  exact there b o' (neC b o e hx) e1
 ·obtain⟨m1,e1⟩:=I.base.tbls b ps e
  obtain⟨m2,e2⟩:=tbls b _ e1;exact⟨m1++m2,by rw[e2,Array.append_assoc]⟩
 ·obtain⟨m,hn,hl⟩:=I.loc
  refine⟨m,ns m hn,fun i x v e1 e2 e3=>?_⟩;obtain⟨u,r,l⟩:=hl i x v e1 e2 e3;refine⟨u,r,?_⟩;rcases l with l|⟨k,c,e,z⟩
  ·exact .inl l
  ·exact .inr ⟨k,c,e,cellK x c e _ z⟩
 ·obtain⟨v,z⟩:=I.cell x c e
  exact⟨v,cellK x c e v z⟩
 ·obtain⟨m,⟨o,_,_,ho,_⟩,_⟩:=I.loc
  exact free _ o (fun z=>(hch _ z).2.1 rfl) ho I.free
 ·obtain⟨v,o,ho,hd⟩:=I.cell x c e
  exact free c o (fun z=>(hch c z).2.2.1 x c e rfl) ho (I.freeC x c e)
 ·obtain⟨e,n,ne,nf,d⟩:=I.pin p hp
  have nch:p.1∉ch:=fun z=>(hch p.1 z).2.2.2 p hp rfl;exact⟨keep p.1 p.2 ne nf nch e n,free p.1 p.2 nch e n,ne,nf,d⟩
theorem yI.un{t':Nat}(I:yI X pins σ H s)(u:Un X.fs [] H H' s.heap h')(hok:HOk X.prog X.w H' h'):yI X pins σ H' { s with heap:=h',toks:=t' }:=by
 obtain⟨m,⟨o,es,ep,ho,r⟩,_⟩:=id I.loc;obtain⟨sl,hL⟩:=u.any ho I.free (by simp);exact I.step (g':=s.gens) (d':=s.drawn) (ch:=[]) (fun _ z=>nomatch z) (fun b o _ hb _ e n=>u.keep b o e n hb (by simp)) (fun b o _ hb _ e n=>u.slot b o e n hb (by simp)) (fun b o _ e n=>u.free b o e n (by simp)) (fun b o _ e=>u.there b o e (by simp)) u.tups u.frzs u.tbls (fun m' hm=>by
  obtain⟨o',es',ep',ho',r'⟩:=hm;rw[ho]at ho';cases ho';exact⟨_,es',ep',hL,r'⟩) hok I.bare
theorem yI.call{g':Array GenState}{t':Nat}{d':Drawn}{ch:List Addr}(I:yI X pins σ H s)(u:Un (frs X.stack) ch H H' s.heap h')(hok:HOk X.prog X.w H' h')(hg:AllBare g')
  (hch:∀b∈ch,(b∈X.ex∨X.s₀.heap.objs.size≤b)∧b≠X.env.locals∧(∀x c,X.env.cells.lookup x=some c->c≠b)∧∀p∈X.pn++pins,p.1≠b) :
  yI X pins σ H' { s with heap:=h',gens:=g',drawn:=d',toks:=t' }:=by
 obtain⟨m,⟨o,es,ep,ho,r⟩,_⟩:=id I.loc;obtain⟨sl,hL⟩:=u.any ho I.free fun z=>(hch _ z).2.1 rfl;exact I.step (ch:=ch) hch (fun b o hL hb hc e n=>u.keep b o e n (fun z=>(List.mem_cons.mp (I.stkSub b z)).elim hL hb) hc) (fun b o _ _ hc e n=>u.any e n hc) (fun b o hc e n=>u.free b o e n hc) (fun b o hc e=>u.there b o e hc) u.tups u.frzs u.tbls (fun m' hm=>by
  obtain⟨o',es',ep',ho',r'⟩:=hm;rw[ho]at ho';cases ho';exact⟨_,es',ep',hL,r'⟩) hok hg
theorem yI.turned{t':Nat}{it:Addr}(I:yI X pins σ H s)(k:∀b o,b≠it->s.heap.get? b=some o->h'.get? b=some o)(hn:H it=none)(hL:it≠X.env.locals)
  (h1:it∈X.ex∨X.s₀.heap.objs.size≤it) (h2:∀x c,X.env.cells.lookup x=some c->c≠it) (h3:∀p∈X.pn++pins,p.1≠it):yI X pins σ H { s with heap:=h',toks:=t' }:=by
 have nit:∀b u,H b=some u->b≠it:=fun b u e z=>by rw[z,hn]at e;cases e
 refine I.step (g':=s.gens) (d':=s.drawn) (ch:=[it]) (fun b hb=>?_) (fun b o _ _ hc e _=>k b o (fun z=>hc (by simp[z])) e) (fun b o _ _ hc e _=>⟨o.slots,k b o (fun z=>hc (by simp[z])) e⟩) (fun _ _ _ _ n=>n)
  (fun b o hc e=>⟨o,k b o (fun z=>hc (by simp[z])) e⟩) (fun _ _ e=>e) (fun _ _ _ e=>e) (fun b ps e=>⟨#[],by rw[e];simp⟩) (fun m hm=>?_) (fun b u e=>?_) I.bare
 ·have e:b=it:=by simpa using hb
  subst e;exact⟨h1,hL,h2,h3⟩
 ·obtain⟨o,es,ep,ho,r⟩:=hm
  exact⟨o,es,ep,k _ o (Ne.symm hL) ho,r⟩
 ·refine(I.hok b u e).stay (fun c v hc q=>k c v ?_ q) (fun _ q=>q) fun _ _ q=>q
  rcases hc with z|z
  ·rw[z];exact nit b u e
  ·exact nit c _ z
theorem yI.tok(I:yI X pins σ H s)(t:Nat):yI X pins σ H { s with toks:=t }:=I.un (h':=s.heap) (t':=t) Un.refl I.hok
theorem yI.kept{t':Nat}(I:yI X pins σ H s)(k:∀b u,s.heap.get? b=some u->h'.get? b=some u):yI X pins σ H { s with heap:=h',toks:=t' }:=I.un (Un.kept k) (I.hok.kept k)
theorem yI.laid{a:Addr}{o:HO}{t':Nat}(I:yI X pins σ H s)(k:∀b u,s.heap.get? b=some u->h'.get? b=some u)(hp:s.heap.objs.size≤a)(new:bK X.prog X.w (upd H a o) h' a o) :
  yI X pins σ (upd H a o) { s with heap:=h',toks:=t' }:=I.un (Un.laid k hp (I.hok.fresh hp)) (I.hok.laid k hp new)
theorem yI.write{x e:Addr}{o:HO}{t':Nat}(I:yI X pins σ H s)(mu:Mut (H x))(he:e=x∨H e=some (.own x))(k:∀b u,b≠e->s.heap.get? b=some u->h'.get? b=some u)(heo:∃u,h'.get? e=some u)
  (new:bK X.prog X.w (upd H x o) h' x o):yI X pins σ (upd H x o) { s with heap:=h',toks:=t' }:=I.un (Un.write mu he k heo) (I.hok.write mu he k heo new)
theorem yI.pins_of{pins':List (Addr×Obj)}(I:yI X pins σ H s)(h:∀p∈pins',s.heap.get? p.1=some p.2∧H p.1=none∧p.1≠X.env.locals∧p.1∉X.fs∧∀v,p.2.data≠.cell v):yI X pins' σ H s :=
 ⟨I.ok,I.os,I.bare,I.base,I.loc,I.cell,I.free,I.freeC,fun p hp=>(List.mem_append.mp hp).elim (fun z=>I.pin p (List.mem_append_left _ z)) (h p),I.hok,I.len⟩
theorem mH{N:List Str}(hN:N.Nodup){i j:Nat}{x:Str}(a:N[i]? = some x)(b:N[j]? = some x):i=j:=by
 obtain⟨h1,e1⟩:=List.getElem?_eq_some_iff.mp a;obtain⟨h2,e2⟩:=List.getElem?_eq_some_iff.mp b;exact(List.getElem_inj hN).mp (e1.trans e2.symm)
theorem hV{M:Model}{A:Around}{E:Value->Shared->Prop}{i:Nat}{x:Str}{v:V}{u:Value}{Q:Unit->Shared->Prop}(I:yI X pins σ H s)(hN:X.N.Nodup)(hi:X.N[i]? = some x)(hx:Loc X.env.scope x)(r:aW v u)
  (h:∀s',yI X pins (σ.set i (some v)) H s'->(∃a,Heap.SameBut a s.heap s'.heap∧(a=X.env.locals∨X.env.cells.lookup x=some a))->Q () s') (hf:X.fn x=true∨X.env.scope.names.lookup x=some .local:=by first|exact .inl rfl|exact .inr rfl|assumption):wpAny M A (storeName X.env x u) Q E s:=by
 obtain⟨m,hn,hl⟩:=id I.loc;have hcls:(X.env.scope.kind == .class || (X.env.scope.kind == .module && X.env.locals != X.env.globals))=false:=by rw[I.ok.kind];rfl
 have hiσ:i<σ.length:=by rw[I.len];exact(List.getElem?_eq_some_iff.mp hi).1
 have cne:=I.cne;have tracked:∀{a:Addr} {h':Heap},(∃o,s.heap.get? a=some o∧H a=none)->Heap.SameBut a s.heap h'->HOk X.prog X.w H h':=fun {a h'} ha hs b ob e=>by
  obtain⟨_,_,hfree⟩:=ha;refine(I.hok b ob e).stay (fun c w' hc q=>(hs.2 c ?_).trans q) (fun _ q=>q) fun _ _ q=>q;rintro rfl;rcases hc with rfl|hc
  ·rw[hfree]at e;cases e
  ·rw[hfree]at hc;cases hc
 rcases hx with hk|hk
 ·refine wpAny_storeName_local hk hn (fun h' hn' hs=>?_) hcls
  obtain⟨oL,_,_,hoL,_⟩:=id hn;refine h _ ⟨I.ok,I.os,I.bare,⟨fun b o e n hb hx=>?_,fun b o e n hb hx=>?_,I.base.free,fun b o e hx=>?_,I.base.tups,I.base.frzs,I.base.tbls⟩,⟨_,hn',fun j y v' e1 e2 e3=>?_⟩,fun y c e=>?_,I.free,I.freeC,fun p hp=>?_,tracked ⟨oL,hoL,I.free⟩ hs,by simpa using I.len⟩ ⟨_,hs,.inl rfl⟩
  ·exact(hs.2 b (Nat.ne_of_lt (Nat.lt_of_lt_of_le (Heap.lt_size e) I.ok.above))).trans (I.base.keep b o e n hb hx)
  ·obtain⟨sl,e1⟩:=I.base.slot b o e n hb hx
   exact⟨sl,(hs.2 b (Nat.ne_of_lt (Nat.lt_of_lt_of_le (Heap.lt_size e) I.ok.above))).trans e1⟩
  ·obtain⟨o',e1⟩:=I.base.there b o e hx
   exact⟨o',(hs.2 b (Nat.ne_of_lt (Nat.lt_of_lt_of_le (Heap.lt_size e) I.ok.above))).trans e1⟩
  ·by_cases hj:j=i
   ·subst hj
    rw[hi]at e1;cases e1;rw[List.getElem?_set_self hiσ]at e2;cases e2;exact⟨u,r,.inl ⟨hk,by simp⟩⟩
   ·rw[List.getElem?_set_ne (Ne.symm hj)]at e2
    obtain⟨u',r',q⟩:=hl j y v' e1 e2 e3;refine⟨u',r',?_⟩;rcases q with⟨k,e⟩|⟨k,c,e,z⟩
    ·refine .inl ⟨k,?_⟩
     have:y≠x:=fun e=>hj (mH hN e1 (e▸hi));simp[this,e]
    ·exact .inr ⟨k,c,e,z.sameBut hs (cne y c e)⟩
  ·obtain⟨w',z⟩:=I.cell y c e
   exact⟨w',z.sameBut hs (cne y c e)⟩
  ·obtain⟨e,n,ne,nf,d⟩:=I.pin p hp
   exact⟨(hs.2 p.1 ne).trans e,n,ne,nf,d⟩
 ·have hfn:X.fn x=true:=by
   rcases hf with z|z
   ·exact z
   ·rw[z]at hk;cases hk
  obtain⟨c,hc⟩:=I.ok.has x (.inl hk);obtain⟨w',z⟩:=I.cell x c hc;refine wpAny_storeName_cell I.ok.kind hk hc z (fun h' hc' hs=>?_);obtain⟨oc,hoc,hocd⟩:=id z;refine h { s with heap:=h' } ⟨I.ok,I.os,I.bare,⟨fun b o e n hb hx=>?_,fun b o e n hb hx=>?_,I.base.free,fun b o e hx=>?_,I.base.tups,I.base.frzs,I.base.tbls⟩,⟨m,hn.sameBut hs (Ne.symm (cne x c hc)),fun j y v' e1 e2 e3=>?_⟩,fun y c' e=>?_,I.free,I.freeC,fun p hp=>?_,tracked ⟨oc,hoc,I.freeC x c hc⟩ hs,by simpa using I.len⟩ ⟨c,hs,.inr hc⟩
  ·exact(hs.2 b (Nat.ne_of_lt (Nat.lt_of_lt_of_le (Heap.lt_size e) (I.ok.cab x c hfn hc)))).trans (I.base.keep b o e n hb hx)
  ·obtain⟨sl,e1⟩:=I.base.slot b o e n hb hx
   exact⟨sl,(hs.2 b (Nat.ne_of_lt (Nat.lt_of_lt_of_le (Heap.lt_size e) (I.ok.cab x c hfn hc)))).trans e1⟩
  ·obtain⟨o',e1⟩:=I.base.there b o e hx
   exact⟨o',(hs.2 b (Nat.ne_of_lt (Nat.lt_of_lt_of_le (Heap.lt_size e) (I.ok.cab x c hfn hc)))).trans e1⟩
  ·by_cases hj:j=i
   ·subst hj
    rw[hi]at e1;cases e1;rw[List.getElem?_set_self hiσ]at e2;cases e2;exact⟨u,r,.inr ⟨.inl hk,c,hc,hc'⟩⟩
   ·rw[List.getElem?_set_ne (Ne.symm hj)]at e2
    obtain⟨u',r',q⟩:=hl j y v' e1 e2 e3;refine⟨u',r',?_⟩;rcases q with q|⟨k,c',e,z'⟩
    ·exact .inl q
    ·refine .inr ⟨k,c',e,z'.sameBut hs ?_⟩
     rintro rfl;exact hj (mH hN e1 (I.ok.inj _ _ _ e hc▸hi))
  ·by_cases hcc:c'=c
   ·subst hcc;exact⟨_,hc'⟩
   ·obtain⟨w2,z2⟩:=I.cell y c' e
    exact⟨w2,z2.sameBut hs hcc⟩
  ·obtain⟨e,n,ne,nf,d⟩:=I.pin p hp
   refine⟨(hs.2 p.1 ?_).trans e,n,ne,nf,d⟩;intro q;rw[q,hoc]at e;have q':oc=p.2:=Option.some.inj e;exact d w' (by rw[<- q'];exact hocd)
theorem jg{M:Model}{A:Around}{E:Value->Shared->Prop}{i:Nat}{x:Str}{v:V}{u:Value}{Q:Unit->Shared->Prop}(I:yI X pins σ H s)(hN:X.N.Nodup)(hi:X.N[i]? = some x)(hx:Loc X.env.scope x)(r:aW v u)
  (h:∀s',yI X pins (σ.set i (some v)) H s'->Q () s') (hf:X.fn x=true∨X.env.scope.names.lookup x=some .local:=by first|exact .inl rfl|exact .inr rfl|assumption):wpAny M A (storeName X.env x u) Q E s :=
 hV I hN hi hx r (fun s' I' _=>h s' I') hf
theorem yI.call'{s':Shared}{ch:List Addr}(I:yI X pins σ H s)(ho:s'.os=s.os)(u:Un (frs X.stack) ch H H' s.heap s'.heap)(hok:HOk X.prog X.w H' s'.heap)(hg:AllBare s'.gens)
  (hch:∀b∈ch,(b∈X.ex∨X.s₀.heap.objs.size≤b)∧b≠X.env.locals∧(∀x c,X.env.cells.lookup x=some c->c≠b)∧∀p∈X.pn++pins,p.1≠b):yI X pins σ H' s':=by
 obtain⟨h',g',d',t',o'⟩:=s';have e:o'=s.os:=ho;subst e;exact I.call (g':=g') (t':=t') (d':=d') u hok hg hch
end
abbrev XK:=Value->Option Addr->Hp->Prop
abbrev St:=List (Option V)
abbrev VK:=V->Hp->Prop
abbrev TE:=St->Hp->VK->Prop
abbrev TT:=St->Hp->(Bool->Hp->Prop)->Prop
abbrev TA:=St->Hp->(List V->Hp->Prop)->Prop
structure CI where
 nx:St->Hp->Prop
 rt:VK
 bk:St->Hp->Prop:=fun _ _=>False
 ct:St->Hp->Prop:=fun _ _=>False
abbrev TS:=CI->St->Hp->Prop
def EP(X:Cx)(pins:List (Addr×Obj))(σ:St)(Q:VK)(u:Value)(s':Shared):Prop:=∃v H',yI X pins σ H' s'∧aW v u∧Q v H'
def TP(X:Cx)(pins:List (Addr×Obj))(σ:St)(Q:Bool->Hp->Prop)(b:Bool)(s':Shared):Prop:=∃H',yI X pins σ H' s'∧Q b H'
def AP(X:Cx)(pins:List (Addr×Obj))(σ:St)(Q:List V->Hp->Prop)(us:List Value)(s':Shared):Prop:=∃vs H',yI X pins σ H' s'∧aT vs us∧Q vs H'
def SP(X:Cx)(pins:List (Addr×Obj))(D:CI)(f:Flow)(s':Shared):Prop :=
 match f with
 | .next=>∃σ' H',yI X pins σ' H' s'∧D.nx σ' H'
 | .brk=>∃σ' H',yI X pins σ' H' s'∧D.bk σ' H'
 | .cont=>∃σ' H',yI X pins σ' H' s'∧D.ct σ' H'
 | .ret u=>∃v σ' H',yI X pins σ' H' s'∧aW v u∧D.rt v H'
def PE(X:Cx)(e:Expr)(t:TE):Prop :=
 ∀(pins:List (Addr×Obj)) (s:Shared) (σ:St) (H:Hp) (Q:VK),yI X pins σ H s->t σ H Q->wpAny (model X.prog X.w) X.A (eval e X.env) (EP X pins σ Q) X.xe s
def PT(X:Cx)(e:Expr)(t:TT):Prop :=
 ∀(pins:List (Addr×Obj)) (s:Shared) (σ:St) (H:Hp) (Q:Bool->Hp->Prop),yI X pins σ H s->t σ H Q->wpAny (model X.prog X.w) X.A (isTrue e X.env (eval e X.env)) (TP X pins σ Q) X.xe s
def PW(X:Cx)(e:Expr)(t:TT):Prop :=
 ∀(whole:Sem Value) (pins:List (Addr×Obj)) (s:Shared) (σ:St) (H:Hp) (Q:Bool->Hp->Prop),yI X pins σ H s->t σ H Q->wpAny (model X.prog X.w) X.A (isTrue e X.env whole) (TP X pins σ Q) X.xe s
theorem PW.pt{X:Cx}{e:Expr}{t:TT}(h:PW X e t):PT X e t:=h _
def PA(X:Cx)(es:List Expr)(t:TA):Prop :=
 ∀(pos:Pos) (pins:List (Addr×Obj)) (s:Shared) (σ:St) (H:Hp) (Q:List V->Hp->Prop),yI X pins σ H s->t σ H Q->wpAny (model X.prog X.w) X.A (spliced (backTo pos (starEach es X.env))) (AP X pins σ Q) X.xe s
def PS(X:Cx)(st:Stmt)(t:TS):Prop :=
 ∀(pins:List (Addr×Obj)) (s:Shared) (σ:St) (H:Hp) (D:CI),yI X pins σ H s->t D σ H->wpAny (model X.prog X.w) X.A (exec st X.env) (SP X pins D) X.xe s
def PSs(X:Cx)(st:List Stmt)(t:TS):Prop :=
 ∀(pins:List (Addr×Obj)) (s:Shared) (σ:St) (H:Hp) (D:CI),yI X pins σ H s->t D σ H->wpAny (model X.prog X.w) X.A (execs st X.env) (SP X pins D) X.xe s
theorem thn{α:Type}{t:Sem α}{Q Q':α->Shared->Prop}{M:Model}{A:Around}{E:Value->Shared->Prop}{s:Shared}(h:wpAny M A t Q E s)(hQ:∀a s,Q a s->Q' a s):wpAny M A t Q' E s:=wpAny_mono h hQ fun _ _ x=>x
end L2
namespace L2
open PySem PySem.Spec PyProof.Rows
section
variable {X:Cx}
inductive DQ (i:Nat) (σ:St) (H:Hp) (Q:VK):Prop
 | mk (v:V) (e:σ[i]? = some (some v)) (q:Q v H):DQ i σ H Q
def tC(v:V):TE:=fun _ H Q=>Q v H
theorem sJ{i:Nat}{x:Str}{pos:Pos}(hN:X.N[i]? = some x)(hv:Vis X.env.scope x)(hd:(x == ("__debug__" : Str))=false:=by decide)(hcd:(x == ("__classdict__" : Str))=false:=by decide):PE X (.Name x pos) (DQ i):=by
 intro pins s σ H Q I h;obtain⟨v,e,h⟩:=h;obtain⟨m,hn,hl⟩:=I.loc;obtain⟨u,r,l⟩:=hl i x v hN e hv;have fin:EP X pins σ Q u s:=⟨v,H,I,r,h⟩;rcases l with⟨hk,hm⟩|⟨hk,c,hc,hcell⟩
 ·exact wpAny_Name (wpAny_loadName_local I.ok.kind hk hn hm fin) hd
 ·rcases hk with hk|hk
  ·exact wpAny_Name (wpAny_loadName_cell I.ok.kind hk hc hcell fin) hd
  ·exact wpAny_Name (wpAny_loadName_free I.ok.kind hk hc hcell fin hcd) hd
theorem ad{i j pos}:PE X (.Constant (.int i) j pos) (tC (.int i)):=fun _ _ _ H _ I h=>wpAny_Constant_int ⟨.int i,H,I.tok _,⟨_,rfl⟩,h⟩
theorem dJ{b j pos}:PE X (.Constant (.bool b) j pos) (tC (.bl b)):=fun _ _ _ H _ I h=>Constant_bool ⟨.bl b,H,I,rfl,h⟩
theorem cb{j pos}:PE X (.Constant .none j pos) (tC .non):=fun _ _ _ H _ I h=>Constant_none ⟨.non,H,I,rfl,h⟩
theorem fk{x j pos}:PE X (.Constant (.str x) j pos) (tC (.str x)):=fun _ _ _ H _ I h=>Calls.Constant_str ⟨.str x,H,I.tok _,⟨_,rfl⟩,h⟩
def Gl(X:Cx)(x:Str):Prop:=X.env.kindOf x=some .globalImplicit
theorem gM{E:Value->Shared->Prop}{pins:List (Addr×Obj)}{s:Shared}{σ:St}{H:Hp}{x:Str}{u:Value}{pos:Pos}{Q:Value->Shared->Prop}(I:yI X pins σ H s)(hg:Gl X x)(hm:X.mg x=some u)(h:Q u s)
  (hd:(x == ("__debug__" : Str))=false:=by decide):wpAny (model X.prog X.w) X.A (eval (.Name x pos) X.env) Q E s :=
 Calls.Name_function_global I.ok.kind hg (Calls.loadGlobal_global (by rw[I.ok.glob];exact I.mod.glob.keeps I.bk) hm h) hd
theorem fT{E:Value->Shared->Prop}{pins:List (Addr×Obj)}{s:Shared}{σ:St}{H:Hp}{x:Str}{u:Value}{pos:Pos}{Q:Value->Shared->Prop}(I:yI X pins σ H s)(hg:Gl X x)(hm:X.mg x=none)(hv:bootBuiltins x=some u)(h:Q u s)
  (hn:x≠"__name__":=by decide) (hd:(x == ("__debug__" : Str))=false:=by decide):wpAny (model X.prog X.w) X.A (eval (.Name x pos) X.env) Q E s:=by
 obtain⟨mb,h1,h2⟩:=I.mod.blt;exact Calls.Name_function_global I.ok.kind hg (Calls.loadGlobal_builtin (by rw[I.ok.glob];exact I.mod.glob.keeps I.bk) hm (by rw[I.ok.blt];exact h1.keeps I.bk) ((h2 x hn).trans hv) h) hd
theorem bI{x:Str}{v:V}{u:Value}{pos:Pos}(hg:Gl X x)(hm:X.mg x=some u)(r:aW v u)(hd:(x == ("__debug__" : Str))=false:=by decide):PE X (.Name x pos) (tC v) :=
 fun _ _ _ H _ I h=>gM I hg hm ⟨v,H,I,r,h⟩ hd
theorem uM{x:Str}{v:V}{u:Value}{pos:Pos}(hg:Gl X x)(hm:X.mg x=none)(hv:bootBuiltins x=some u)(r:aW v u)(hn:x≠"__name__":=by decide)(hd:(x == ("__debug__" : Str))=false:=by decide):PE X (.Name x pos) (tC v) :=
 fun _ _ _ H _ I h=>fT I hg hm hv ⟨v,H,I,r,h⟩ hn hd
variable {a b:Expr} {ta tb:TE} {pos:Pos}
def PC(X:Cx)(op:CmpOp)(a b:Expr)(t:TE):Prop :=
 ∀(pins:List (Addr×Obj)) (s:Shared) (σ:St) (H:Hp) (Q:VK),yI X pins σ H s->t σ H Q ->
  wpAny (model X.prog X.w) X.A (eval a X.env) (fun v s₁=>wpAny (model X.prog X.w) X.A (eval b X.env) (fun u s₂=>wpAny (model X.prog X.w) X.A (compareOp op v u) (EP X pins σ Q) X.xe s₂) X.xe s₁) X.xe s
def tB(t:TE):TT:=fun σ H Q=>t σ H fun x H1=>∃c,x = .bl c∧Q c H1
theorem kZ{op:CmpOp}{t:TE}(h:PC X op a b t)(h1:behindInMarks op b=false:=by first|exact nobehind _ (by decide) (by decide)|rfl):PT X (.Compare a [op] [b] pos) (tB t):=by
 intro pins s σ H Q I hw;refine wpAny_isTrue_Compare1 (thn (h pins s σ H _ I hw) fun v s1 h1=>thn h1 fun u s2 h2=>thn h2 fun c s3 ⟨x,H1,I1,r1,q1⟩=>?_) h1;obtain⟨d,rfl,q⟩:=q1;cases r1;exact wpAny_truthy_bool ⟨H1,I1,q⟩
theorem bo{e:Expr}{t:TE}(h:PE X e t)(he:∀whole,isTrue e X.env whole=(do let v <- whole;standAt e.pos;holding [v] (truthy v)):=by intro _;rfl):PT X e (tB t):=by
 intro pins s σ H Q I hw;refine isTrue_plain (thn (h pins s σ H _ I hw) fun v s1 ⟨x,H1,I1,r1,q1⟩=>?_) (he _);obtain⟨d,rfl,q⟩:=q1;cases r1;exact wpAny_truthy_bool ⟨H1,I1,q⟩
variable {tA tB':TT} {rest:List Expr}
def yt(t u:TT):TT:=fun σ H Q=>t σ H fun c H1=>if c=true then u σ H1 Q else Q false H1
def tOr(t u:TT):TT:=fun σ H Q=>t σ H fun c H1=>if c=true then Q true H1 else u σ H1 Q
def yk(t:TT):TT:=fun σ H Q=>t σ H fun c H1=>Q (!c) H1
theorem dX(ha:PT X a tA):PW X (.BoolOp .And [a] pos) tA:=by
 intro wh pins s σ H Q I h;refine isTrue_and (thn (ha pins s σ H Q I h) fun c s1 e=>?_);cases c with
 | true=>exact isTrue_and_nil e
 | false=>exact e
theorem cT(ha:PT X a tA):PW X (.BoolOp .Or [a] pos) tA:=by
 intro wh pins s σ H Q I h;refine isTrue_or (thn (ha pins s σ H Q I h) fun c s1 e=>?_);cases c with
 | false=>exact isTrue_or_nil e
 | true=>exact e
theorem d7(ha:PT X a tA)(hb:PW X (.BoolOp .And (b::rest) pos) tB'):PW X (.BoolOp .And (a::b::rest) pos) (yt tA tB'):=by
 intro wh pins s σ H Q I h;refine isTrue_and (thn (ha pins s σ H _ I h) fun c s1 ⟨H1,I1,q1⟩=>?_);cases c with
 | true=>exact hb wh pins s1 σ H1 Q I1 q1
 | false=>exact⟨H1,I1,q1⟩
theorem cX(ha:PT X a tA)(hb:PW X (.BoolOp .Or (b::rest) pos) tB'):PW X (.BoolOp .Or (a::b::rest) pos) (tOr tA tB'):=by
 intro wh pins s σ H Q I h;refine isTrue_or (thn (ha pins s σ H _ I h) fun c s1 ⟨H1,I1,q1⟩=>?_);cases c with
 | true=>exact⟨H1,I1,q1⟩
 | false=>exact hb wh pins s1 σ H1 Q I1 q1
theorem ca(ha:PT X a tA):PT X (.UnaryOp .Not a pos) (yk tA):=by
 intro pins s σ H Q I h;exact isTrue_not (ha pins s σ H (fun c H1=>Q (!c) H1) I h)
def xu(ta tb:TE):TE:=fun σ H Q=>ta σ H fun x H1=>∃c,x = .bl c∧if c=true then tb σ H1 Q else Q (.bl false) H1
def yj(ta tb:TE):TE:=fun σ H Q=>ta σ H fun x H1=>∃c,x = .bl c∧if c=true then Q (.bl true) H1 else tb σ H1 Q
def xn(ta:TE):TE:=fun σ H Q=>ta σ H fun x H1=>∃c,x = .bl c∧Q (.bl (!c)) H1
theorem dO{op}{t:TE}(h:PE X a t):PE X (.BoolOp op [a] pos) t:=fun pins s σ H Q I hw=>BoolOp_one (h pins s σ H Q I hw)
theorem d8(ha:PE X a ta)(hb:PE X (.BoolOp .And (b::rest) pos) tb):PE X (.BoolOp .And (a::b::rest) pos) (xu ta tb):=by
 intro pins s σ H Q I h;refine BoolOp_and (thn (ha pins s σ H _ I h) fun v s1 ⟨x,H1,I1,r1,q1⟩=>?_);obtain⟨c,rfl,q1⟩:=q1;cases r1;refine wpAny_truthy_bool ?_;cases c with
 | true=>exact hb pins s1 σ H1 Q I1 q1
 | false=>exact⟨.bl false,H1,I1,rfl,q1⟩
theorem vL(ha:PE X a ta)(hb:PE X (.BoolOp .Or (b::rest) pos) tb):PE X (.BoolOp .Or (a::b::rest) pos) (yj ta tb):=by
 intro pins s σ H Q I h;refine BoolOp_or (thn (ha pins s σ H _ I h) fun v s1 ⟨x,H1,I1,r1,q1⟩=>?_);obtain⟨c,rfl,q1⟩:=q1;cases r1;refine wpAny_truthy_bool ?_;cases c with
 | false=>exact hb pins s1 σ H1 Q I1 q1
 | true=>exact⟨.bl true,H1,I1,rfl,q1⟩
theorem oq(ha:PE X a ta):PE X (.UnaryOp .Not a pos) (xn ta):=by
 intro pins s σ H Q I h;refine UnaryOp_ (thn (ha pins s σ H _ I h) fun v s1 ⟨x,H1,I1,r1,q1⟩=>?_);obtain⟨c,rfl,q1⟩:=q1;cases r1;exact not_of (wpAny_truthy_bool ⟨.bl (!c),H1,I1,rfl,q1⟩)
def tIf(t:TT)(ta tb:TE):TE:=fun σ H Q=>t σ H fun c H1=>if c=true then ta σ H1 Q else tb σ H1 Q
theorem gB{c:Expr}(hc:PT X c tA)(ha:PE X a ta)(hb:PE X b tb):PE X (.IfExp c a b pos) (tIf tA ta tb):=by
 intro pins s σ H Q I h;refine wpAny_IfExp (thn (hc pins s σ H _ I h) fun d s1 ⟨H1,I1,q1⟩=>?_);cases d with
 | true=>exact ha pins s1 σ H1 Q I1 q1
 | false=>exact hb pins s1 σ H1 Q I1 q1
end
end L2
namespace L2
open PySem PySem.Spec PyProof.Rows
def SqL(K:W.Frag)(H:Hp)(a:Addr)(xs:List V):Prop :=
 Rd H a (.lst xs) ∨
  ∃(o:Obj) (its:Array Value) (n:Nat),K.lookup a=some o∧o.cls = .type "list"∧o.dict=none∧o.data = .seq its n∧its.size≤sizeLine∧aT xs its.toList
def SqT(K:W.Frag)(H:Hp)(a:Addr)(xs:List V):Prop :=
 Rd H a (.tup xs) ∨
  ∃(o:Obj) (its:Array Value) (n:Nat),K.lookup a=some o∧o.cls = .type "tuple"∧o.data = .seq its n∧its.size≤sizeLine∧aT xs its.toList
def yD:Value->Option V
 | .none=>some .non
 | .bool b=>some (.bl b)
 | .int i _=>some (.int i)
 | .str x _=>some (.str x)
 | .bytes b _=>some (.byt b)
 | .float b _=>some (.flt b)
 | .ref a=>some (.ref a)
 | .type n=>some (.ty n)
 | _=>none
theorem aW.abs{x:V}{u:Value}(r:aW x u):yD u=some x:=by
 cases x with
 | non=>cases r;rfl
 | bl _=>cases r;rfl
 | int _=>obtain⟨t,rfl⟩:=r;rfl
 | str _=>obtain⟨t,rfl⟩:=r;rfl
 | byt _=>obtain⟨t,rfl⟩:=r;rfl
 | flt _=>obtain⟨t,rfl⟩:=r;rfl
 | ref _=>cases r;rfl
 | ty _=>cases r;rfl
theorem aW.inj{x y:V}{u:Value}(r:aW x u)(q:aW y u):x=y:=Option.some.inj (r.abs.symm.trans q.abs)
theorem aT.inj:∀{xs ys:List V} {us:List Value},aT xs us->aT ys us->xs=ys
 | _,_,_,.nil,.nil=>rfl
 | _,_,_,.cons r t,.cons r' t'=>by rw[r.inj r',aT.inj t t']
section
variable {X:Cx} {pins:List (Addr×Obj)} {σ:St} {H:Hp} {s:Shared} {a:Addr} {xs ys:List V}
theorem SqL.of{K:W.Frag}(h:H a=some (.lst xs)):SqL K H a xs:=.inl (.inl h)
theorem SqT.of{K:W.Frag}(h:H a=some (.tup xs)):SqT K H a xs:=.inl (.inl h)
theorem yI.list(I:yI X pins σ H s)(h:SqL X.K H a xs):∃its:List Value,aT xs its∧PlainL s.heap a its.toArray∧xs.length≤sizeLine:=by
 rcases h with h|⟨o,its,n,hk,hc,hd,hs,hz,r⟩
 ·obtain⟨z,its,n,r,e⟩:=h.ok I.hok
  exact⟨its,r,⟨_,n,e,rfl,rfl,rfl⟩,z⟩
 ·refine⟨its.toList,r,⟨o,n,I.kIn a o hk,hc,hd,by simpa using hs⟩,?_⟩
  have e:=r.length;simp only[Array.length_toList]at e;omega
theorem yI.tuple(I:yI X pins σ H s)(h:SqT X.K H a xs):∃its:List Value,aT xs its∧IsTup s.heap a its.toArray∧xs.length≤sizeLine:=by
 rcases h with h|⟨o,its,n,hk,hc,hs,hz,r⟩
 ·obtain⟨z,its,r,p⟩:=h.ok I.hok
  exact⟨its,r,p,z⟩
 ·refine⟨its.toList,r,⟨o,I.kIn a o hk,hc,n,by simpa using hs⟩,?_⟩
  have e:=r.length;simp only[Array.length_toList]at e;omega
theorem yI.list_inj(I:yI X pins σ H s)(h:SqL X.K H a xs)(h':SqL X.K H a ys):xs=ys:=by
 obtain⟨its,r,⟨o,n,e,_,_,d⟩,_⟩:=I.list h;obtain⟨its',r',⟨o',n',e',_,_,d'⟩,_⟩:=I.list h';rw[e]at e';cases e';rw[d]at d';injection d' with d1 _
 have:its=its':=by simpa using congrArg Array.toList d1
 subst this;exact r.inj r'
theorem yI.tuple_inj(I:yI X pins σ H s)(h:SqT X.K H a xs)(h':SqT X.K H a ys):xs=ys:=by
 obtain⟨its,r,⟨o,e,_,n,d⟩,_⟩:=I.tuple h;obtain⟨its',r',⟨o',e',_,n',d'⟩,_⟩:=I.tuple h';rw[e]at e';cases e';rw[d]at d';injection d' with d1 _
 have:its=its':=by simpa using congrArg Array.toList d1
 subst this;exact r.inj r'
end
abbrev Cx.wish(X:Cx)(E:Value->Shared->Prop):Cx:={ X with xe:=E }
abbrev Cx.nox(X:Cx):Cx:=X.wish fun _ _=>False
theorem Cx.Ok.wish{X:Cx}(ok:X.Ok)(E:Value->Shared->Prop):(X.wish E).Ok :=
 ⟨ok.mod,ok.kind,ok.glob,ok.blt,ok.above,ok.inj,ok.has,ok.cab,ok.hd,ok.frames,ok.stk,ok.exf,ok.bs,ok.bsz,ok.noex,ok.exfs,ok.funs,ok.frf⟩
theorem Cx.Ok.unwish{X:Cx}{E:Value->Shared->Prop}(ok:(X.wish E).Ok):X.Ok :=
 ⟨ok.mod,ok.kind,ok.glob,ok.blt,ok.above,ok.inj,ok.has,ok.cab,ok.hd,ok.frames,ok.stk,ok.exf,ok.bs,ok.bsz,ok.noex,ok.exfs,ok.funs,ok.frf⟩
section
variable {X:Cx} {pins:List (Addr×Obj)} {σ:St} {H:Hp} {s:Shared} {E:Value->Shared->Prop}
theorem yI.wish(I:yI X pins σ H s)(E:Value->Shared->Prop):yI (X.wish E) pins σ H s:=⟨I.ok.wish E,I.os,I.bare,I.base,I.loc,I.cell,I.free,I.freeC,I.pin,I.hok,I.len⟩
theorem yI.unwish(I:yI (X.wish E) pins σ H s):yI X pins σ H s:=⟨I.ok.unwish,I.os,I.bare,I.base,I.loc,I.cell,I.free,I.freeC,I.pin,I.hok,I.len⟩
theorem SP.unwish{D:CI}{f:Flow}{s':Shared}(h:SP (X.wish E) pins D f s'):SP X pins D f s':=by
 cases f with
 | next=>obtain⟨σ',H',I,q⟩:=h;exact⟨σ',H',I.unwish,q⟩
 | brk=>obtain⟨σ',H',I,q⟩:=h;exact⟨σ',H',I.unwish,q⟩
 | cont=>obtain⟨σ',H',I,q⟩:=h;exact⟨σ',H',I.unwish,q⟩
 | ret u=>obtain⟨v,σ',H',I,r,q⟩:=h;exact⟨v,σ',H',I.unwish,r,q⟩
theorem PSs.nox{st:List Stmt}{t:TS}(h:PSs X.nox st t):PSs X st t:=fun pins s σ H D I hw =>
 wpAny_mono (h pins s σ H D (I.wish _) hw) (fun _ _ q=>q.unwish) fun _ _ z=>False.elim z
end
section
variable {X:Cx} {st:Stmt} {rest:List Stmt} {t u:TS} {e:Expr} {te:TE} {pos:Pos}
def xo:TS:=fun D σ H=>D.nx σ H
def yi(t u:TS):TS:=fun D σ H=>t { D with nx:=u D } σ H
theorem aH:PSs X [] xo:=fun _ _ σ H _ I h=>wpAny_execs_nil ⟨σ,H,I,h⟩
theorem ag(h1:PS X st t)(h2:PSs X rest u):PSs X (st::rest) (yi t u):=by
 intro pins s σ H D I h;refine wpAny_execs_cons (thn (h1 pins s σ H { D with nx:=u D } I h) fun f s1 q=>?_);cases f with
 | next =>
  obtain⟨σ',H',I',q⟩:=q;exact h2 pins s1 σ' H' D I' q
 | ret v=>exact q
 | brk=>exact q
 | cont=>exact q
theorem ar(h1:PS X st t):PSs X [st] t:=by
 intro pins s σ H D I h;refine wpAny_execs_cons (thn (h1 pins s σ H D I h) fun f s1 q=>?_);cases f with
 | next=>exact wpAny_execs_nil q
 | ret v=>exact q
 | brk=>exact q
 | cont=>exact q
theorem yI.quiet{pins:List (Addr×Obj)}{σ:St}{H:Hp}{s:Shared}(I:yI X pins σ H s):interactive X.env=false:=by simp[interactive,I.ok.kind]
def xr(te:TE):TS:=fun D σ H=>te σ H fun _ H1=>D.nx σ H1
theorem cI(he:PE X e te)(hs:swapsWith e none pos.line X.env=pure false:=by rfl):PS X (.Expr e pos) (xr te):=by
 intro pins s σ H D I h;exact wpAny_Expr_any (thn (he pins s σ H _ I h) fun v s1 ⟨x,H1,I1,r1,q1⟩=>⟨σ,H1,I1,q1⟩) I.quiet hs
def xl(te:TE):TS:=fun D σ H=>te σ H D.rt
theorem az(he:PE X e te):PS X (.Return (some e) pos) (xl te):=by
 intro pins s σ H D I h;exact wpAny_Return_some (thn (he pins s σ H _ I h) fun v s1 ⟨x,H1,I1,r1,q1⟩=>⟨x,σ,H1,I1,r1,q1⟩)
def ym(c:TT)(t u:TS):TS:=fun D σ H=>c σ H fun b H1=>if b=true then t D σ H1 else u D σ H1
theorem aQ{c:Expr}{a b:List Stmt}{tc:TT}(hc:PT X c tc)(ha:PSs X a t)(hb:PSs X b u):PS X (.If c a b pos) (ym tc t u):=by
 intro pins s σ H D I h;refine wpAny_If (thn (hc pins s σ H _ I h) fun d s1 ⟨H1,I1,q1⟩=>?_);cases d with
 | true=>exact ha pins s1 σ H1 D I1 q1
 | false=>exact hb pins s1 σ H1 D I1 q1
end
abbrev TG:=V->St->Hp->(St->Hp->Prop)->Prop
abbrev TGs:=List V->St->Hp->(St->Hp->Prop)->Prop
def PG(X:Cx)(target:Expr)(t:TG):Prop :=
 ∀(pins:List (Addr×Obj)) (s:Shared) (σ:St) (H:Hp) (v:V) (u:Value) (Q:St->Hp->Prop),yI X pins σ H s->aW v u->t v σ H Q ->
  wpAny (model X.prog X.w) X.A (assign target X.env u) (fun _ s'=>∃σ' H',yI X pins σ' H' s'∧Q σ' H') X.xe s
def PGs(X:Cx)(ts:List Expr)(t:TGs):Prop :=
 ∀(pins:List (Addr×Obj)) (s:Shared) (σ:St) (H:Hp) (vs:List V) (us:List Value) (Q:St->Hp->Prop),yI X pins σ H s->aT vs us->t vs σ H Q ->
  wpAny (model X.prog X.w) X.A (assignInOrder ((assignEach ts X.env).map (·.2)) us) (fun _ s'=>∃σ' H',yI X pins σ' H' s'∧Q σ' H') X.xe s
abbrev xg:=V->V->V->Hp->(Hp->Prop)->Prop
def xh(X:Cx)(t:xg):Prop :=
 ∀(pins:List (Addr×Obj)) (s:Shared) (σ:St) (H:Hp) (o i v:V) (ov iv u:Value) (Q:Hp->Prop),yI X pins σ H s->aW o ov->aW i iv->aW v u->t o i v H Q ->
  wpAny (model X.prog X.w) X.A (setItem ov iv u) (fun _ s'=>∃H',yI X pins σ H' s'∧Q H') X.xe s
abbrev TIp:=V->V->Hp->VK->Prop
def PIp(X:Cx)(op:Operator)(t:TIp):Prop :=
 ∀(pins:List (Addr×Obj)) (s:Shared) (σ:St) (H:Hp) (x y:V) (v u:Value) (Q:VK),yI X pins σ H s->aW x v->aW y u->t x y H Q ->
  wpAny (model X.prog X.w) X.A (inplaceOp op v u) (EP X pins σ Q) X.xe s
section
variable {X:Cx} {pos:Pos}
def jA(i:Nat):TG:=fun v σ H Q=>Q (σ.set i (some v)) H
theorem aU{i:Nat}{x:Str}(hN:X.N.Nodup)(hi:X.N[i]? = some x)(hx:Loc X.env.scope x)(hf:X.fn x=true∨X.env.scope.names.lookup x=some .local:=by first|exact .inl rfl|exact .inr rfl|assumption):PG X (.Name x pos) (jA i):=by
 intro pins s σ H v u Q I r h;exact wpAny_assign_Name (jg I hN hi hx r (fun s' I'=>⟨_,H,I',h⟩) hf)
inductive EX (vs:List V) (σ:St) (H:Hp) (Q:St->Hp->Prop):Prop
 | mk (e:vs = []) (q:Q σ H):EX vs σ H Q
inductive Ez (t:TG) (u:TGs) (vs:List V) (σ:St) (H:Hp) (Q:St->Hp->Prop):Prop
 | mk (v:V) (r:List V) (e:vs=v::r) (q:t v σ H fun σ' H'=>u r σ' H' Q):Ez t u vs σ H Q
theorem eO:PGs X [] EX:=by
 intro pins s σ H vs us Q I r h;obtain⟨e,h⟩:=h;subst e;cases r;exact assignInOrder_nil ⟨σ,H,I,h⟩
theorem bW{e:Expr}{es:List Expr}{t:TG}{u:TGs}(h1:PG X e t)(h2:PGs X es u)
  (hs:(assignEach (e::es) X.env).map (·.2)=assign e X.env::(assignEach es X.env).map (·.2):=by rfl):PGs X (e::es) (Ez t u):=by
 intro pins s σ H vs us Q I r h;obtain⟨v,vr,e1,h⟩:=h;subst e1;cases r with
 | cons r rr =>
  rw[hs];refine assignInOrder_cons (thn (h1 pins s σ H _ _ _ I r h) fun _ s1 ⟨σ1,H1,I1,q1⟩=>?_);exact h2 pins s1 σ1 H1 _ _ Q I1 rr q1
inductive EN (K:W.Frag) (n:Nat) (t:TGs) (v:V) (σ:St) (H:Hp) (Q:St->Hp->Prop):Prop
 | mk (a:Addr) (xs:List V) (e:v = .ref a) (s:SqT K H a xs) (l:xs.length=n) (q:t xs σ H Q):EN K n t v σ H Q
theorem hZ{es:List Expr}{k:Nat}{t:TGs}{n:Nat}(hc:X.calm=true)(h:PGs X es t)
  (hn:(assignEach es X.env).length=n:=by rfl) (hst:(assignEach es X.env).findIdx? (·.1)=none:=by rfl):PG X (.Tuple es k pos) (EN X.K n t):=by
 intro pins s σ H v u Q I r hw;obtain⟨a,xs,e1,hq,hl,hw⟩:=hw;subst e1;cases r;obtain⟨its,rv,ht,hz⟩:=I.tuple hq;refine assign_Tuple_tuple (I.ok.hd hc) ht (by simp[hn,<- hl,rv.length]) hst fun h' hx=>?_;have I1:yI X pins σ H { s with heap:=h' }:=I.kept (t':=s.toks) fun b o e=>hx b o (Nat.ne_of_lt (Heap.lt_size e)) e
 exact h pins _ σ H xs _ Q I1 (by simpa using rv) hw
def yB(to ti:TE)(t:xg):TG:=fun v σ H Q=>to σ H fun o H1=>ti σ H1 fun i H2=>t o i v H2 fun H3=>Q σ H3
theorem wq{o i:Expr}{to ti:TE}{t:xg}(ho:PE X o to)(hi:PE X i ti)(hs:xh X t)
  (ha:∀v,assign (.Subscript o i pos) X.env v=(do
   let ov <- holding [v] (eval o X.env)
   let iv <- holding [v,ov] (eval i X.env)
   standAt pos
   holding [v,ov,iv] (setItem ov iv v)
   release [v,ov,iv] []):=by intro _;rfl):PG X (.Subscript o i pos) (yB to ti t):=by
 intro pins s σ H v u Q I r h;rw[ha];refine wpAny_bind (wpAny_holding (thn (ho pins s σ H _ I h) fun ov s1 ⟨x,H1,I1,r1,q1⟩=>?_));refine wpAny_bind (wpAny_holding (thn (hi pins s1 σ H1 _ I1 q1) fun iv s2 ⟨y,H2,I2,r2,q2⟩=>?_));refine wpAny_bind (wpAny_standAt (wpAny_bind (wpAny_holding (thn (hs pins s2 σ H2 x y v ov iv u _ I2 r1 r2 r q2) fun _ s3 ⟨H3,I3,q3⟩=>?_))));exact wpAny_release ⟨σ,H3,I3,q3⟩
def se(te:TE)(g:TG):TS:=fun D σ H=>te σ H fun x H1=>g x σ H1 D.nx
theorem wm{tg e:Expr}{te:TE}{g:TG}(he:PE X e te)(hg:PG X tg g)(hs:swapsWithSole [tg] e pos.line X.env=pure false:=by rfl)(hw:swappedStores [tg] e X.env=pure none:=by rfl)
  (h1:(assignEach [tg] X.env).map (·.2) = [assign tg X.env]:=by rfl):PS X (.Assign [tg] e pos) (se te g):=by
 intro pins s σ H D I h;refine wpAny_Assign_stores (thn (he pins s σ H _ I h) fun v s1 ⟨x,H1,I1,r1,q1⟩=>?_) hs hw;rw[h1];exact thn (hg pins s1 σ H1 x v _ I1 r1 q1) fun _ s2 q=>q
theorem ax{i:Nat}{x:Str}{e:Expr}{te:TE}{pos':Pos}(hN:X.N.Nodup)(hi:X.N[i]? = some x)(hx:Loc X.env.scope x)(he:PE X e te)(hs:swapsWith e (some (.Name x pos')) pos.line X.env=pure false:=by rfl)(hf:X.fn x=true∨X.env.scope.names.lookup x=some .local:=by first|exact .inl rfl|exact .inr rfl|assumption) :
  PS X (.Assign [.Name x pos'] e pos) (se te (jA i)):=by
 intro pins s σ H D I h;refine wpAny_Assign_Name (thn (he pins s σ H _ I h) fun v s1 ⟨y,H1,I1,r1,q1⟩=>?_) hs;exact jg I1 hN hi hx r1 (fun s2 I2=>⟨_,H1,I2,q1⟩) hf
def yr(i:Nat)(te:TE)(ti:TIp):TS:=fun D σ H=>∃x,σ[i]? = some (some x)∧te σ H fun y H1=>ti x y H1 fun z H2=>D.nx (σ.set i (some z)) H2
theorem ol{i:Nat}{x:Str}{e:Expr}{te:TE}{op:Operator}{ti:TIp}{pos':Pos}(hN:X.N.Nodup)(hi:X.N[i]? = some x)(hx:Loc X.env.scope x)(he:PE X e te)(ho:PIp X op ti)(hf:X.fn x=true∨X.env.scope.names.lookup x=some .local:=by first|exact .inl rfl|exact .inr rfl|assumption) :
  PS X (.AugAssign (.Name x pos') op e pos) (yr i te ti):=by
 intro pins s σ H D I h;obtain⟨v,e1,h⟩:=h;obtain⟨m,hn,hl⟩:=I.loc;have vis:Vis X.env.scope x:=by rcases hx with k|k;exact .inl k;exact .inr (.inl k)
 obtain⟨u,r,l⟩:=hl i x v hi e1 vis;refine wpAny_AugAssign_Name ?_;have go:wpAny (model X.prog X.w) X.A (eval e X.env) (fun w s₂=>wpAny (model X.prog X.w) X.A (inplaceOp op u w) (fun r s₃=>wpAny (model X.prog X.w) X.A (storeName X.env x r) (fun _=>SP X pins D .next) X.xe s₃) X.xe s₂) X.xe s:=by
  refine thn (he pins s σ H _ I h) fun w s1 ⟨y,H1,I1,r1,q1⟩=>?_;refine thn (ho pins s1 σ H1 v y u w _ I1 r r1 q1) fun z s2 ⟨zv,H2,I2,r2,q2⟩=>?_;exact jg I2 hN hi hx r2 (fun s3 I3=>⟨_,H2,I3,q2⟩) hf
 rcases l with⟨hk,hm⟩|⟨hk,c,hc,hcell⟩
 ·exact wpAny_loadName_local I.ok.kind hk hn hm go
 ·rcases hk with hk|hk
  ·exact wpAny_loadName_cell I.ok.kind hk hc hcell go
  ·rcases hx with k|k
   ·have:X.env.scope.names.lookup x=some .free:=hk
    rw[k]at this;cases this
   ·have:X.env.scope.names.lookup x=some .free:=hk
    rw[k]at this;cases this
def ipI(f:Int->Int->Int):TIp:=fun x y H Q=>∃i j,x = .int i∧y = .int j∧Q (.int (f i j)) H
theorem wL:PIp X .Add (ipI fun i j=>i+j):=by
 intro pins s σ H x y v u Q I r1 r2 h;obtain⟨i,j,e1,e2,q⟩:=h;subst e1;subst e2;obtain⟨t,rfl⟩:=r1;obtain⟨t',rfl⟩:=r2;exact iadd_int ⟨.int _,H,I.tok _,⟨_,rfl⟩,q⟩
end
section
variable {X:Cx} {pos:Pos}
def rX(c:TT)(tb:TS):TS:=fun D σ H=>∃W:Nat->St->Hp->Prop,(∃m,W m σ H)∧∀m σ H,W m σ H ->
 c σ H fun b H1=>if b=true then ∃N:St->Hp->Prop,(∀σ' H',N σ' H'->∃m',m'<m∧W m' σ' H')∧tb { D with nx:=N,ct:=N,bk:=D.nx } σ H1 else D.nx σ H1
theorem dN{c:Expr}{body:List Stmt}{tc:TT}{tb:TS}(hp:PassesOwn (model X.prog X.w) X.A X.env X.xe)(hc:PT X c tc)(hb:PSs X body tb):PS X (.While c body [] pos) (rX tc tb):=by
 intro pins s σ H D I h;obtain⟨W,⟨m0,w0⟩,turn⟩:=h;refine wpAny_While (codeAny_whileLoop (fun n s'=>∃σ' H',yI X pins σ' H' s'∧W n σ' H') ?_ m0 ⟨σ,H,I,w0⟩);rintro n s1 ⟨σ1,H1,I1,w1⟩;refine wpAny_passesOwn hp (thn (hc pins s1 σ1 H1 _ I1 (turn n σ1 H1 w1)) fun b s2 ⟨H2,I2,q2⟩=>?_);cases b with
 | true =>
  obtain⟨N,hN,q2⟩:=q2;rw[if_pos rfl];refine wpAny_passesOwn hp (thn (hb pins s2 σ1 H2 _ I2 q2) fun f s3 q3=>?_);cases f with
  | next =>
   obtain⟨σ3,H3,I3,n3⟩:=q3;obtain⟨m',hm,w3⟩:=hN σ3 H3 n3;exact⟨m',hm,σ3,H3,I3,w3⟩
  | cont =>
   obtain⟨σ3,H3,I3,n3⟩:=q3;obtain⟨m',hm,w3⟩:=hN σ3 H3 n3;exact⟨m',hm,σ3,H3,I3,w3⟩
  | brk=>exact q3
  | ret v=>exact q3
 | false =>
  rw[if_neg Bool.false_ne_true];exact wpAny_execs_nil ⟨σ1,H2,I2,q2⟩
end
structure It where
 go:Nat->Hp->Prop
 yld:Nat->Hp->V->Hp->Prop
 stop:Nat->Hp->Prop
def eZ(X:Cx)(pins:List (Addr×Obj))(H:Hp)(b:Addr):Prop :=
 H b=none∧b≠X.env.locals∧b∉X.fs∧(b∈X.ex∨X.s₀.heap.objs.size≤b)∧(∀x c,X.env.cells.lookup x=some c->c≠b)∧∀p∈X.pn++pins,p.1≠b
theorem yI.fpOk{X:Cx}{pins:List (Addr×Obj)}{σ:St}{H H':Hp}{s:Shared}{b:Addr}(I:yI X pins σ H s)(hb:s.heap.objs.size≤b)(hn:H' b=none):eZ X pins H' b:=by
 refine⟨hn,Nat.ne_of_gt (Nat.lt_of_lt_of_le I.lt hb),I.nofs hb,.inr (Nat.le_trans I.sz hb),fun x c e z=>?_,fun p hp z=>?_⟩
 ·obtain⟨v,q⟩:=I.cell x c e
  exact absurd (Nat.lt_of_lt_of_le q.lt (by rw[z];exact hb)) (Nat.lt_irrefl _)
 ·exact absurd (Nat.lt_of_lt_of_le (Heap.lt_size (I.pin p hp).1) (by rw[z];exact hb)) (Nat.lt_irrefl _)
structure C3(P:Program)(w:World)(K:W.Frag)(tg:Expr)(J:It)(fp:List Addr)(it:Addr)(tn:Nat->Heap->Prop):Prop where
 mem:it∈fp
 obj:∀i h,tn i h->∀b∈fp,∃o,h.get? b=some o∧∀v,o.data≠.cell v
 keep:∀i h h',tn i h->(∀b∈fp,∀o,h.get? b=some o->h'.get? b=some o)->tn i h'
 item:∀(X:Cx),X.prog=P->X.w=w->X.K=K->X.calm=true->∀(i:Nat) (pins:List (Addr×Obj)) (s:Shared) (σ:St) (H:Hp) (E:Value->Shared->Prop),yI X pins σ H s->(∀b∈fp,eZ X pins H b)->tn i s.heap->J.go i H ->
  wpAny (model P w) X.A (pyNext (.ref it)) (fun r s1=>∃u,r=some u ∧
   wpAny (model P w) X.A (letOwnedTupleGo tg (.ref it) u) (fun _ s2=>∃x H',yI X pins σ H' s2∧aW x u∧J.yld i H x H'∧tn (i+1) s2.heap∧∀b∈fp,H' b=none) E s1) E s
 done:∀(X:Cx),X.prog=P->X.w=w->X.K=K->X.calm=true->∀(i:Nat) (pins:List (Addr×Obj)) (s:Shared) (σ:St) (H:Hp) (E:Value->Shared->Prop),yI X pins σ H s->(∀b∈fp,eZ X pins H b)->tn i s.heap->J.stop i H ->
  wpAny (model P w) X.A (pyNext (.ref it)) (fun r s1=>r=none∧yI X pins σ H s1) E s
 self:∀(A:Around) (i:Nat) (s:Shared) (Q:Value->Shared->Prop) (E:Value->Shared->Prop),tn i s.heap->Q (.ref it) s->wpAny (model P w) A (pyIter (.ref it)) Q E s
abbrev TI:=St->Hp->(It->Hp->Prop)->Prop
def PIE(X:Cx)(pins:List (Addr×Obj))(σ:St)(tg:Expr)(R:It->Hp->Prop)(itv:Value)(s2:Shared):Prop :=
 ∃(it:Addr) (fp:List Addr) (tn:Nat->Heap->Prop) (J:It) (H':Hp),itv = .ref it∧yI X pins σ H' s2∧C3 X.prog X.w X.K tg J fp it tn∧tn 0 s2.heap∧(∀b∈fp,eZ X pins H' b)∧R J H'
def PI(X:Cx)(tg iter:Expr)(wi:TI):Prop :=
 ∀(pins:List (Addr×Obj)) (s:Shared) (σ:St) (H:Hp) (R:It->Hp->Prop),yI X pins σ H s->wi σ H R ->
  wpAny (model X.prog X.w) X.A (eval iter X.env) (fun v s1=>wpAny (model X.prog X.w) X.A (pyIter v) (PIE X pins σ tg R) X.xe s1) X.xe s
theorem mU{M:Model}{A:Around}{E:Value->Shared->Prop}{s:Shared}{tg:Expr}{it:Addr}{u:Value}{o:Obj}{n:String}{vs:Array Value}{Q:Unit->Shared->Prop}(ho:s.heap.get? it=some o)(hc:o.cls = .type n)(hd:o.data = .fields vs)
    (hn:["enumerate","zip","dict_itemiterator","dict_reverseitemiterator","odict_iterator","itertools.zip_longest","itertools.pairwise"].contains n=false) (hQ:Q () s):wpAny M A (letOwnedTupleGo tg (.ref it) u) Q E s:=by
  unfold letOwnedTupleGo;cases tg <;> first
    | exact wpAny_pure hQ
    | (cases u <;> first
        | exact wpAny_pure hQ
        | (refine wpAny_bind (wpAny_load ho ?_)
           rw[hc,hd];show wpAny M A (if (["enumerate","zip","dict_itemiterator","dict_reverseitemiterator","odict_iterator","itertools.zip_longest","itertools.pairwise"].contains n && vs[0]? == some (rawInt _))=true then _ else _) Q E s
           rw[if_neg (by intro h;rw[hn,Bool.false_and]at h;cases h)];exact wpAny_pure hQ))
def Itl(K:W.Frag)(a:Addr):It :=
 ⟨fun i H=>∃xs x,SqL K H a xs∧xs[i]? = some x,fun i H x H'=>H'=H∧∀xs,SqL K H a xs->xs[i]? = some x,fun i H=>∃xs,SqL K H a xs∧xs.length≤i⟩
def Itt(K:W.Frag)(a:Addr):It :=
 ⟨fun i H=>∃xs x,SqT K H a xs∧xs[i]? = some x,fun i H x H'=>H'=H∧∀xs,SqT K H a xs->xs[i]? = some x,fun i H=>∃xs,SqT K H a xs∧xs.length≤i⟩
def Itr(lo:Int)(n:Nat):It:=⟨fun i _=>i<n,fun i H x H'=>H'=H∧x = .int (lo+i),fun i _=>n≤i⟩
theorem qr{P:Program}{w:World}{K:W.Frag}{tg:Expr}(a it:Addr):C3 P w K tg (Itl K a) [it] it (fun i h=>h.IsListIter it a i) where
 mem:=by simp
 obj:=fun i h st b hb=>by
  have e:b=it:=by simpa using hb
  subst e;obtain⟨o,e,c,d⟩:=st;exact⟨o,e,fun v z=>by rw[d]at z;cases z⟩
 keep:=fun i h h' st k=>st.at fun o e=>k it (by simp) o e
 item:=by
  intro X hP hw hK hc i pins s σ H E I hf st hg;subst hP hw hK;obtain⟨xs,x,hq,hx⟩:=hg;obtain⟨its,rv,p,hz⟩:=I.list hq;obtain⟨u,hu,ru⟩:=rv.get hx;obtain⟨f0,f1,f2,f3,f4,f5⟩:=hf it (by simp);refine wpAny_pyNext_list_item st p.isList (x:=u) (by simpa using hu) fun h' st' sb=>?_;have I1:yI X pins σ H { s with heap:=h' }:=I.turned (t':=s.toks) (fun b o hb e=>(sb.2 b hb).trans e) f0 f1 f3 f4 f5;obtain⟨o,e,c,d⟩:=id st';exact⟨u,rfl,mU (s:={ s with heap:=h' }) e c d (by decide) ⟨x,H,I1,ru,⟨rfl,fun ys hy=>by rw[I.list_inj hy hq];exact hx⟩,st',fun b hb=>(hf b hb).1⟩⟩
 done:=by
  intro X hP hw hK hc i pins s σ H E I hf st hg;subst hP hw hK;obtain⟨xs,hq,hx⟩:=hg;obtain⟨its,rv,p,hz⟩:=I.list hq;obtain⟨f0,f1,f2,f3,f4,f5⟩:=hf it (by simp);have hl:=rv.length;exact wpAny_pyNext_list_end (I.ok.hd hc) st p.isList (by simp;omega) fun h' eb=>⟨rfl,I.turned (t':=s.toks) (fun b o hb e=>eb b o hb e) f0 f1 f3 f4 f5⟩
 self:=fun _ _ _ _ _ st h=>wpAny_pyIter_listiter st h
theorem nV{P:Program}{w:World}{K:W.Frag}{tg:Expr}(a it:Addr):C3 P w K tg (Itt K a) [it] it (fun i h=>h.IsTupleIter it a i) where
 mem:=by simp
 obj:=fun i h st b hb=>by
  have e:b=it:=by simpa using hb
  subst e;obtain⟨o,e,c,d⟩:=st;exact⟨o,e,fun v z=>by rw[d]at z;cases z⟩
 keep:=fun i h h' st k=>st.at fun o e=>k it (by simp) o e
 item:=by
  intro X hP hw hK hc i pins s σ H E I hf st hg;subst hP hw hK;obtain⟨xs,x,hq,hx⟩:=hg;obtain⟨its,rv,p,hz⟩:=I.tuple hq;obtain⟨u,hu,ru⟩:=rv.get hx;obtain⟨f0,f1,f2,f3,f4,f5⟩:=hf it (by simp);refine wpAny_pyNext_tuple_item st (show s.heap.IsTuple a its.toArray from p) (x:=u) (by simpa using hu) fun h' st' sb=>?_;have I1:yI X pins σ H { s with heap:=h' }:=I.turned (t':=s.toks) (fun b o hb e=>(sb.2 b hb).trans e) f0 f1 f3 f4 f5;obtain⟨o,e,c,d⟩:=id st';exact⟨u,rfl,mU (s:={ s with heap:=h' }) e c d (by decide) ⟨x,H,I1,ru,⟨rfl,fun ys hy=>by rw[I.tuple_inj hy hq];exact hx⟩,st',fun b hb=>(hf b hb).1⟩⟩
 done:=by
  intro X hP hw hK hc i pins s σ H E I hf st hg;subst hP hw hK;obtain⟨xs,hq,hx⟩:=hg;obtain⟨its,rv,p,hz⟩:=I.tuple hq;obtain⟨f0,f1,f2,f3,f4,f5⟩:=hf it (by simp);have hl:=rv.length;exact wpAny_pyNext_tuple_end (I.ok.hd hc) st (show s.heap.IsTuple a its.toArray from p) (by simp;omega) fun h' eb=>⟨rfl,I.turned (t':=s.toks) (fun b o hb e=>eb b o hb e) f0 f1 f3 f4 f5⟩
 self:=fun _ _ _ _ _ st h=>wpAny_pyIter_tupleiter st h
theorem nW{P:Program}{w:World}{K:W.Frag}{tg:Expr}(it:Addr)(lo:Int)(n:Nat):C3 P w K tg (Itr lo n) [it] it (fun i h=>IsRangeIter h it (lo+(i:Nat)*1) ((n:Int) - (i:Nat)) 1) where
 mem:=by simp
 obj:=fun i h st b hb=>by
  have e:b=it:=by simpa using hb
  subst e;exact⟨_,st,fun v z=>by
   have z':Data.fields _=Data.cell v:=z;cases z'⟩
 keep:=fun i h h' st k=>k it (by simp) _ st
 item:=by
  intro X hP hw hK hc i pins s σ H E I hf st hg;subst hP hw hK;obtain⟨f0,f1,f2,f3,f4,f5⟩:=hf it (by simp);have W:=Walks.range (prog:=X.prog) (w:=X.w) (I.ok.hd hc) it lo 1 n;refine W.item i s _ _ hg st fun v h' tk hv st' kk=>?_;obtain⟨t,rfl⟩:=hv;have I1:yI X pins σ H { s with heap:=h',toks:=tk }:=I.turned (fun b o hb e=>kk b o (by simpa using hb) e) f0 f1 f3 f4 f5;refine⟨_,rfl,mU (s:={ s with heap:=h',toks:=tk }) (n:="range_iterator") st' rfl rfl (by decide) ⟨.int (lo+i),H,I1,⟨t,?_⟩,⟨rfl,rfl⟩,st',fun b hb=>(hf b hb).1⟩⟩;rw[Int.mul_one]
 done:=by
  intro X hP hw hK hc i pins s σ H E I hf st hg;subst hP hw hK;obtain⟨f0,f1,f2,f3,f4,f5⟩:=hf it (by simp);exact wpAny_pyNext_range_end (I.ok.hd hc) st (by have:n≤i:=hg;omega) fun h' eb=>⟨rfl,I.turned (t':=s.toks) (fun b o hb e=>eb b o hb e) f0 f1 f3 f4 f5⟩
 self:=fun _ _ _ _ _ st h=>wpAny_pyIter_rangeiter st h
end L2
namespace L2
open PySem PySem.Spec PyProof.Rows
section
variable {X:Cx} {tg:Expr}
def xQ(K:W.Frag)(tl:TE):TI:=fun σ H R=>tl σ H fun x H1=>∃a,x = .ref a∧(∃xs,SqL K H1 a xs)∧R (Itl K a) H1
def yy(K:W.Frag)(tl:TE):TI:=fun σ H R=>tl σ H fun x H1=>∃a,x = .ref a∧(∃xs,SqT K H1 a xs)∧R (Itt K a) H1
theorem cQ{l:Expr}{tl:TE}(hl:PE X l tl):PI X tg l (xQ X.K tl):=by
 intro pins s σ H R I h;refine thn (hl pins s σ H _ I h) fun v s1 ⟨x,H1,I1,r1,q1⟩=>?_;obtain⟨a,e,⟨xs,hq⟩,q⟩:=q1;subst e;cases r1;obtain⟨its,rv,p,hz⟩:=I1.list hq;refine wpAny_pyIter_list p.isList ?_;refine⟨s1.heap.objs.size,[s1.heap.objs.size],_,_,H1,rfl,I1.kept (t':=s1.toks) fun b o e=>Heap.get?_push_of_some _ e,qr a _,⟨_,Heap.get?_push_size _ rfl,rfl,rfl⟩,fun b hb=>?_,q⟩;have e:b=s1.heap.objs.size:=by simpa using hb
 subst e;exact I1.fpOk (Nat.le_refl _) (I1.hok.fresh (Nat.le_refl _))
theorem wn{l:Expr}{tl:TE}(hl:PE X l tl):PI X tg l (yy X.K tl):=by
 intro pins s σ H R I h;refine thn (hl pins s σ H _ I h) fun v s1 ⟨x,H1,I1,r1,q1⟩=>?_;obtain⟨a,e,⟨xs,hq⟩,q⟩:=q1;subst e;cases r1;obtain⟨its,rv,p,hz⟩:=I1.tuple hq;refine wpAny_pyIter_tuple (show s1.heap.IsTuple a its.toArray from p) ?_;refine⟨s1.heap.objs.size,[s1.heap.objs.size],_,_,H1,rfl,I1.kept (t':=s1.toks) fun b o e=>Heap.get?_push_of_some _ e,nV a _,⟨_,Heap.get?_push_size _ rfl,rfl,rfl⟩,fun b hb=>?_,q⟩;have e:b=s1.heap.objs.size:=by simpa using hb
 subst e;exact I1.fpOk (Nat.le_refl _) (I1.hok.fresh (Nat.le_refl _))
theorem mi{pins:List (Addr×Obj)}{σ:St}{H:Hp}{s:Shared}{R:It->Hp->Prop}{E:Value->Shared->Prop}{lo hi:Int}{t u v:Tok}{tk:Nat}(I:yI X pins σ H s)(h1:-(2^62)≤lo)(h2:lo<2^62)(h3:-(2^62)≤hi)(h4:hi<2^62)
  (q:R (Itr lo (hi - lo).toNat) H):wpAny (model X.prog X.w) X.A (pyIter (.ref s.heap.objs.size)) (PIE X pins σ tg R) E { s with heap:=s.heap.push { cls:=.type "range",data:=.fields #[.int lo t,.int hi u,.int 1 v] },toks:=tk }:=by
 refine wpAny_pyIter_range (IsRange.new ..) (small_one h1 h2 h3 h4) ?_;have I1:yI X pins σ H { s with heap:=s.heap.push { cls:=.type "range",data:=.fields #[.int lo t,.int hi u,.int 1 v] },toks:=tk }:=I.kept fun b o e=>Heap.get?_push_of_some _ e;refine⟨(s.heap.push { cls:=.type "range",data:=.fields #[.int lo t,.int hi u,.int 1 v] }).objs.size,[(s.heap.push { cls:=.type "range",data:=.fields #[.int lo t,.int hi u,.int 1 v] }).objs.size],_,_,H,rfl,
  I1.kept (t':=tk) fun b o e=>Heap.get?_push_of_some _ e,nW _ lo (hi - lo).toNat,?_,fun b hb=>?_,q⟩
 ·have e1:lo+((0:Nat):Int)*1=lo:=by simp
  have e2:(((hi - lo).toNat:Nat):Int) - ((0:Nat):Int)=Builtin.Range.rangeSize lo hi 1:=by rw[rangeSize_one];split <;> omega
  show IsRangeIter _ _ (lo+((0:Nat):Int)*1) ((((hi - lo).toNat:Nat):Int) - ((0:Nat):Int)) 1;rw[e1,e2];exact Heap.get?_push_size _ rfl
 ·have e:b=(s.heap.push { cls:=.type "range",data:=.fields #[.int lo t,.int hi u,.int 1 v] }).objs.size:=by simpa using hb
  subst e;exact I1.fpOk (Nat.le_refl _) (I1.hok.fresh (Nat.le_refl _))
def xP(ta:TA):TI:=fun σ H R=>ta σ H fun vs H1=>∃j:Int,vs = [.int j]∧-(2^62)≤j∧j<2^62∧R (Itr 0 j.toNat) H1
def xO(ta:TA):TI:=fun σ H R=>ta σ H fun vs H1=>∃i j:Int,vs = [.int i,.int j]∧(-(2^62)≤i∧i<2^62∧-(2^62)≤j∧j<2^62)∧R (Itr i (j - i).toNat) H1
theorem fJ{a:Expr}{ta:TA}{p pos:Pos}(hg:Gl X "range")(hm:X.mg "range" = none)(ha:PA X [a] ta)(hs:starEach [a] X.env = [(false,eval a X.env)]:=by rfl):PI X tg (.Call (.Name "range" p) [a] [] pos) (xP ta):=by
 intro pins s σ H R I h;refine Call_ (fT I hg hm boot_range (PyProof.Rows.callWith_type1 (thn (ha pos pins s σ H _ I h) fun us s1 ⟨vs,H1,I1,r1,q1⟩=>?_) hs rfl));obtain⟨j,e,q1,q2,q⟩:=q1;subst e;cases r1 with
 | cons r rr =>
  cases rr;obtain⟨t,rfl⟩:=r;exact call_range_1 (mi I1 (by omega) (by omega) q1 q2 (by simpa using q))
theorem hY{a b:Expr}{ta:TA}{p pos:Pos}(hg:Gl X "range")(hm:X.mg "range" = none)(ha:PA X [a,b] ta)(hs:starEach [a,b] X.env = [(false,eval a X.env),(false,eval b X.env)]:=by rfl)(hs2:starEach [b] X.env = [(false,eval b X.env)]:=by rfl) :
  PI X tg (.Call (.Name "range" p) [a,b] [] pos) (xO ta):=by
 intro pins s σ H R I h;refine Call_ (fT I hg hm boot_range (PyProof.Rows.callWith_type1 (thn (ha pos pins s σ H _ I h) fun us s1 ⟨vs,H1,I1,r1,q1⟩=>?_) (by rw[hs,hs2]) (by rw[hs2];rfl)));obtain⟨i,j,e,⟨q1,q2,q3,q4⟩,q⟩:=q1;subst e;cases r1 with
 | cons r rr =>
  cases rr with
  | cons r' rr =>
   cases rr;obtain⟨t,rfl⟩:=r;obtain⟨t',rfl⟩:=r';exact call_range_2 (mi I1 q1 q2 q3 q4 q)
def yo(wi:TI)(g:TG)(tb:TS):TS:=fun D σ H=>wi σ H fun J H1=>∃W:Nat->Nat->St->Hp->Prop,(∃m,W 0 m σ H1)∧∀i m σ H,W i m σ H ->
 (J.stop i H∧D.nx σ H)∨(J.go i H∧∃N:St->Hp->Prop,(∀σ' H',N σ' H'->∃m',m'<m∧W (i+1) m' σ' H')∧∀x H',J.yld i H x H'->g x σ H' fun σ2 H2=>tb { D with nx:=N,ct:=N,bk:=D.nx } σ2 H2)
def jp(fp:List Addr)(h:Heap):List (Addr×Obj):=fp.filterMap fun b=>(h.get? b).map fun o=>(b,o)
theorem dy{fp:List Addr}{h:Heap}{b:Addr}{o:Obj}(hb:b∈fp)(e:h.get? b=some o):(b,o)∈jp fp h:=List.mem_filterMap.mpr ⟨b,hb,by rw[e];rfl⟩
theorem qK{fp:List Addr}{h:Heap}{p:Addr×Obj}(hp:p∈jp fp h):p.1∈fp∧h.get? p.1=some p.2:=by
 obtain⟨b,hb,e⟩:=List.mem_filterMap.mp hp;cases q:h.get? b with
 | none=>rw[q]at e;cases e
 | some o =>
  rw[q]at e;have e':(b,o)=p:=Option.some.inj e;subst e';exact⟨hb,q⟩
theorem yI.pinned{pins:List (Addr×Obj)}{σ:St}{H:Hp}{s:Shared}{fp:List Addr}(I:yI X pins σ H s)(hf:∀b∈fp,eZ X pins H b)(ho:∀b∈fp,∃o,s.heap.get? b=some o∧∀v,o.data≠.cell v):yI X (pins++jp fp s.heap) σ H s :=
 I.pins_of fun p hp=>(List.mem_append.mp hp).elim (fun z=>I.pin p (List.mem_append_right _ z)) fun z=>by
  obtain⟨hb,e⟩:=qK z;obtain⟨f0,f1,f2,_⟩:=hf p.1 hb;obtain⟨o,e',d⟩:=ho p.1 hb;rw[e]at e';cases e';exact⟨e,f0,f1,f2,d⟩
theorem yI.unpinned{pins pl:List (Addr×Obj)}{σ:St}{H:Hp}{s:Shared}(I:yI X (pins++pl) σ H s):yI X pins σ H s:=I.pins_of fun p hp=>I.pin p (List.mem_append_right _ (List.mem_append_left _ hp))
theorem cO{iter:Expr}{body:List Stmt}{wi:TI}{g:TG}{tb:TS}{pos:Pos}(hp:PassesOwn (model X.prog X.w) X.A X.env X.xe)(hc:X.calm=true)(hi:PI X tg iter wi)(hg:PG X tg g)(hb:PSs X body tb)
  (hs:∀x,foldedSetIterable iter X.env x=pure x:=by intro _;rfl):PS X (.For tg iter body [] pos) (yo wi g tb):=by
 intro pins s σ H D I h;refine wpAny_For (thn (hi pins s σ H _ I h) fun v s1 h1=>thn h1 fun itv s2 h2=>?_) hs;obtain⟨it,fp,tn,J,H2,e,I2,T,st2,f2,W,⟨m0,w0⟩,turn⟩:=h2;subst e;have stat:∀{H':Hp},(∀b∈fp,H' b=none)->∀b∈fp,eZ X pins H' b:=fun hn b hb=>⟨hn b hb,(f2 b hb).2⟩;refine codeAny_forLoop_any (fun n s'=>∃i σ' H',yI X pins σ' H' s'∧tn i s'.heap∧(∀b∈fp,H' b=none)∧W i n σ' H') ?_ m0 ⟨0,σ,H2,I2,st2,fun b hb=>(f2 b hb).1,w0⟩;rintro n s3 ⟨i,σ3,H3,I3,st3,fr3,w3⟩;rcases turn i n σ3 H3 w3 with⟨stop,qn⟩|⟨go,N,hN,step⟩
 ·refine wpAny_passesOwn hp (thn (T.done X rfl rfl rfl hc i pins s3 σ3 H3 X.xe I3 (stat fr3) st3 stop) fun r s4 ⟨hr,I4⟩=>?_)
  subst hr;exact wpAny_execs_nil ⟨σ3,H3,I4,qn⟩
 ·refine wpAny_passesOwn hp (thn (T.item X rfl rfl rfl hc i pins s3 σ3 H3 X.xe I3 (stat fr3) st3 go) fun r s4 ⟨u,hr,h4⟩=>?_)
  subst hr;refine wpAny_passesOwn hp (thn h4 fun _ s5 ⟨x,H5,I5,r5,y5,st5,fr5⟩=>?_);have I5':=I5.pinned (stat fr5) (T.obj _ _ st5);refine wpAny_passesOwn hp (thn (hg _ s5 σ3 H5 x u _ I5' r5 (step x H5 y5)) fun _ s6 ⟨σ6,H6,I6,q6⟩=>?_);refine wpAny_passesOwn hp (thn (hb _ s6 σ6 H6 _ I6 q6) fun f s7 q7=>?_);have again:∀{σ7:St} {H7:Hp},yI X (pins++jp fp s5.heap) σ7 H7 s7->N σ7 H7->∃m,m<n∧∃i σ' H',yI X pins σ' H' s7∧tn i s7.heap∧(∀b∈fp,H' b=none)∧W i m σ' H':=fun {σ7 H7} I7 n7=>by
   obtain⟨m',hm,w7⟩:=hN σ7 H7 n7;refine⟨m',hm,i+1,σ7,H7,I7.unpinned,T.keep _ _ _ st5 fun b hb o e=>(I7.pin (b,o) (List.mem_append_right _ (List.mem_append_right _ (dy hb e)))).1,fun b hb=>?_,w7⟩;obtain⟨o,e,d⟩:=T.obj _ _ st5 b hb;exact(I7.pin (b,o) (List.mem_append_right _ (List.mem_append_right _ (dy hb e)))).2.1
  cases f with
  | next=>obtain⟨σ7,H7,I7,n7⟩:=q7;exact again I7 n7
  | cont=>obtain⟨σ7,H7,I7,n7⟩:=q7;exact again I7 n7
  | brk=>obtain⟨σ7,H7,I7,q7⟩:=q7;exact⟨σ7,H7,I7.unpinned,q7⟩
  | ret v=>obtain⟨x7,σ7,H7,I7,r7,q7⟩:=q7;exact⟨x7,σ7,H7,I7.unpinned,r7,q7⟩
end
theorem fw{K:W.Frag}{a:Addr}{xs:List V}{g:TG}{tb:TS}{D:CI}{σ:St}{H:Hp}(Pv:Nat->St->Hp->Prop)(h0:Pv 0 σ H)(hl:∀i σ H,i≤xs.length->Pv i σ H->SqL K H a xs)
  (hs:∀i x σ H,xs[i]? = some x->Pv i σ H->g x σ H fun σ2 H2=>tb { D with nx:=Pv (i+1),ct:=Pv (i+1),bk:=D.nx } σ2 H2) (hd:∀σ H,Pv xs.length σ H->D.nx σ H) :
  ∃W:Nat->Nat->St->Hp->Prop,(∃m,W 0 m σ H)∧∀i m σ H,W i m σ H ->
   ((Itl K a).stop i H∧D.nx σ H)∨((Itl K a).go i H∧∃N:St->Hp->Prop,(∀σ' H',N σ' H'->∃m',m'<m∧W (i+1) m' σ' H')∧∀x H',(Itl K a).yld i H x H'->g x σ H' fun σ2 H2=>tb { D with nx:=N,ct:=N,bk:=D.nx } σ2 H2):=by
 refine⟨fun i m σ H=>m=xs.length - i∧i≤xs.length∧Pv i σ H,⟨xs.length,by simp,Nat.zero_le _,h0⟩,?_⟩;rintro i m σ H ⟨rfl,hi,p⟩;have q:=hl i σ H hi p
 by_cases hlt:i<xs.length
 ·refine .inr ⟨⟨xs,xs[i],q,by simp[hlt]⟩,Pv (i+1),fun σ' H' p'=>⟨xs.length - (i+1),by omega,rfl,hlt,p'⟩,fun x H' y=>?_⟩
  obtain⟨e,y⟩:=y;subst e;exact hs i x σ _ (y xs q) p
 ·have e:i=xs.length:=by omega
  subst e;exact .inl ⟨⟨xs,q,Nat.le_refl _⟩,hd σ H p⟩
theorem dB{lo:Int}{n:Nat}{g:TG}{tb:TS}{D:CI}{σ:St}{H:Hp}(Pv:Nat->St->Hp->Prop)(h0:Pv 0 σ H)
  (hs:∀i σ H,i<n->Pv i σ H->g (.int (lo+i)) σ H fun σ2 H2=>tb { D with nx:=Pv (i+1),ct:=Pv (i+1),bk:=D.nx } σ2 H2) (hd:∀σ H,Pv n σ H->D.nx σ H) :
  ∃W:Nat->Nat->St->Hp->Prop,(∃m,W 0 m σ H)∧∀i m σ H,W i m σ H ->
   ((Itr lo n).stop i H∧D.nx σ H)∨((Itr lo n).go i H∧∃N:St->Hp->Prop,(∀σ' H',N σ' H'->∃m',m'<m∧W (i+1) m' σ' H')∧∀x H',(Itr lo n).yld i H x H'->g x σ H' fun σ2 H2=>tb { D with nx:=N,ct:=N,bk:=D.nx } σ2 H2):=by
 refine⟨fun i m σ H=>m=n - i∧i≤n∧Pv i σ H,⟨n,by simp,Nat.zero_le _,h0⟩,?_⟩;rintro i m σ H ⟨rfl,hi,p⟩
 by_cases hlt:i<n
 ·refine .inr ⟨hlt,Pv (i+1),fun σ' H' p'=>⟨n - (i+1),by omega,rfl,hlt,p'⟩,fun x H' y=>?_⟩
  obtain⟨e,y⟩:=y;subst e y;exact hs i σ _ hlt p
 ·have e:i=n:=by omega
  subst e;exact .inl ⟨Nat.le_refl _,hd σ H p⟩
theorem dL{c:TT}{tb:TS}{D:CI}{σ:St}{H:Hp}(Pv:St->Hp->Prop)(μ:St->Hp->Nat)(h0:Pv σ H)
  (hs:∀σ H,Pv σ H->c σ H fun b H1=>if b=true then tb { D with nx:=fun σ' H'=>Pv σ' H'∧μ σ' H'<μ σ H,ct:=fun σ' H'=>Pv σ' H'∧μ σ' H'<μ σ H,bk:=D.nx } σ H1 else D.nx σ H1)
  (mono:∀σ H Q Q',(∀b H1,Q b H1->Q' b H1)->c σ H Q->c σ H Q'):rX c tb D σ H:=by
 refine⟨fun m σ H=>m=μ σ H∧Pv σ H,⟨_,rfl,h0⟩,?_⟩;rintro m σ H ⟨rfl,p⟩;refine mono σ H _ _ (fun b H1 q=>?_) (hs σ H p);cases b with
 | true=>exact⟨_,fun σ' H' ⟨p',l⟩=>⟨_,l,rfl,p'⟩,q⟩
 | false=>exact q
end L2
namespace L2
open PySem PySem.Spec PyProof.Rows
abbrev R2:=V->V->Hp->VK->Prop
def OpR(X:Cx)(f:Value->Value->Sem Value)(r:R2):Prop :=
 ∀(pins:List (Addr×Obj)) (s:Shared) (σ:St) (H:Hp) (x y:V) (v u:Value) (Q:VK),yI X pins σ H s->aW x v->aW y u->r x y H Q ->
  wpAny (model X.prog X.w) X.A (f v u) (EP X pins σ Q) X.xe s
def UnR(X:Cx)(f:Value->Sem Value)(r:V->Hp->VK->Prop):Prop :=
 ∀(pins:List (Addr×Obj)) (s:Shared) (σ:St) (H:Hp) (x:V) (v:Value) (Q:VK),yI X pins σ H s->aW x v->r x H Q ->
  wpAny (model X.prog X.w) X.A (f v) (EP X pins σ Q) X.xe s
def eJ(X:Cx)(f:Value)(r:List V->Hp->VK->Prop):Prop :=
 ∀(pins:List (Addr×Obj)) (s:Shared) (σ:St) (H:Hp) (xs:List V) (us:List Value) (Q:VK),yI X pins σ H s->aT xs us->r xs H Q ->
  wpAny (model X.prog X.w) X.A (call f us) (EP X pins σ Q) X.xe s
def tOp(r:R2)(ta tb:TE):TE:=fun σ H Q=>ta σ H fun x H1=>tb σ H1 fun y H2=>r x y H2 Q
def tUn(r:V->Hp->VK->Prop)(ta:TE):TE:=fun σ H Q=>ta σ H fun x H1=>r x H1 Q
inductive rI (C:Int->Int->Prop) (g:Int->Int->V) (x y:V) (H:Hp) (Q:VK):Prop
 | mk (i j:Int) (e:x = .int i) (f:y = .int j) (c:C i j) (q:Q (g i j) H):rI C g x y H Q
inductive Eo (g:Int->Int->V) (x y:V) (H:Hp) (Q:VK):Prop
 | mk (i j:Int) (e:x = .int i) (f:y = .int j) (q:Q (g i j) H):Eo g x y H Q
def rU(g:Int->V):V->Hp->VK->Prop:=fun x H Q=>∃i,x = .int i∧Q (g i) H
section
variable {X:Cx} {a b c:Expr} {ta tb tc:TE} {pos:Pos}
theorem xc(ha:PE X a ta)(hb:PE X b tb){pins:List (Addr×Obj)}{s:Shared}{σ:St}{H:Hp}{R:V->V->Hp->Prop}(I:yI X pins σ H s)
  (h:ta σ H fun x H1=>tb σ H1 fun y H2=>R x y H2) {Q:Value->Shared->Prop} {f:Value->Value->Sem Value}
  (hf:∀v u s2 x y H2,yI X pins σ H2 s2->aW x v->aW y u->R x y H2->wpAny (model X.prog X.w) X.A (f v u) Q X.xe s2) :
  wpAny (model X.prog X.w) X.A (eval a X.env) (fun v s₁=>wpAny (model X.prog X.w) X.A (eval b X.env) (fun u s₂=>wpAny (model X.prog X.w) X.A (f v u) Q X.xe s₂) X.xe s₁) X.xe s:=by
 refine thn (ha pins s σ H _ I h) fun v s1 ⟨x,H1,I1,r1,q1⟩=>?_;refine thn (hb pins s1 σ H1 _ I1 q1) fun u s2 ⟨y,H2,I2,r2,q2⟩=>?_;exact hf v u s2 x y H2 I2 r1 r2 q2
theorem ao{op:Operator}{r:R2}(ho:OpR X (binaryOp op) r)(ha:PE X a ta)(hb:PE X b tb):PE X (.BinOp a op b pos) (tOp r ta tb):=by
 intro pins s σ H Q I h;exact wpAny_BinOp (xc ha hb I h fun v u s2 x y H2 I2 rx ry q=>ho pins s2 σ H2 x y v u Q I2 rx ry q)
theorem dI{op:UnaryOp}{r:V->Hp->VK->Prop}(ho:UnR X (unaryOp op) r)(ha:PE X a ta):PE X (.UnaryOp op a pos) (tUn r ta):=by
 intro pins s σ H Q I h;exact UnaryOp_ (thn (ha pins s σ H _ I h) fun v s1 ⟨x,H1,I1,r1,q1⟩=>ho pins s1 σ H1 x v Q I1 r1 q1)
theorem opI{f:Value->Value->Sem Value}{C:Int->Int->Prop}{g:Int->Int->Int}
  (rule:∀(i j:Int) (t u:Tok) (s:Shared) (Q:Value->Shared->Prop) (E:Value->Shared->Prop),C i j->Q (.int (g i j) s.toks) { s with toks:=s.toks+1 }->wpAny (model X.prog X.w) X.A (f (.int i t) (.int j u)) Q E s) :
  OpR X f (rI C fun i j=>.int (g i j)):=by
 intro pins s σ H x y v u Q I rx ry h;obtain⟨i,j,rfl,rfl,hc,q⟩:=h;obtain⟨t,rfl⟩:=rx;obtain⟨t',rfl⟩:=ry;exact rule i j t t' s _ _ hc ⟨.int (g i j),H,I.tok _,⟨_,rfl⟩,q⟩
theorem xI{f:Value->Value->Sem Value}{g:Int->Int->Int}
  (rule:∀(i j:Int) (t u:Tok) (s:Shared) (Q:Value->Shared->Prop) (E:Value->Shared->Prop),Q (.int (g i j) s.toks) { s with toks:=s.toks+1 }->wpAny (model X.prog X.w) X.A (f (.int i t) (.int j u)) Q E s) :
  OpR X f (Eo fun i j=>.int (g i j)):=by
 intro pins s σ H x y v u Q I rx ry h;obtain⟨i,j,rfl,rfl,q⟩:=h;obtain⟨t,rfl⟩:=rx;obtain⟨t',rfl⟩:=ry;exact rule i j t t' s _ _ ⟨.int (g i j),H,I.tok _,⟨_,rfl⟩,q⟩
theorem uO{f:Value->Value->Sem Value}{g:Int->Int->Bool}
  (rule:∀(i j:Int) (t u:Tok) (s:Shared) (Q:Value->Shared->Prop) (E:Value->Shared->Prop),Q (.bool (g i j)) s->wpAny (model X.prog X.w) X.A (f (.int i t) (.int j u)) Q E s) :
  OpR X f (Eo fun i j=>.bl (g i j)):=by
 intro pins s σ H x y v u Q I rx ry h;obtain⟨i,j,rfl,rfl,q⟩:=h;obtain⟨t,rfl⟩:=rx;obtain⟨t',rfl⟩:=ry;exact rule i j t t' s _ _ ⟨.bl (g i j),H,I,rfl,q⟩
def yh(i j:Int):Prop:=0≤j∧j≤1000000∧i.natAbs<2^64
def vD(i j:Int):Prop:=(-(2^64)<i∧i<2^64)∨(-(2^64)<j∧j<2^64)
theorem vD.ok{i j:Int}(h:vD i j):IntMulOk i j:=by
 rcases h with⟨h1,h2⟩|⟨h1,h2⟩
 ·exact .of_left (intBits_le_64 h1 h2)
 ·exact .of_right (intBits_le_64 h1 h2)
theorem aP:OpR X (binaryOp .Add) (Eo fun i j=>.int (i+j)):=xI fun _ _ _ _ _ _ _ q=>add_int q
theorem aG:OpR X (binaryOp .Sub) (Eo fun i j=>.int (i - j)):=xI fun _ _ _ _ _ _ _ q=>sub_int q
theorem fu:OpR X (binaryOp .Mod) (rI (fun _ j=>0<j) fun i j=>.int (i % j)):=opI fun i j _ _ _ _ _ hc q=>by
 have h1:(0:Int)<j:=hc;exact mod_int' (by omega) (by rw[Int.fmod_eq_emod_of_nonneg i (by omega)];exact q)
theorem dQ:OpR X (binaryOp .Pow) (rI yh fun i j=>.int (i^j.toNat)):=opI fun _ _ _ _ _ _ _ hc q=>pow_int_small hc.1 hc.2.1 hc.2.2 q
theorem sM:OpR X (binaryOp .LShift) (rI yh fun i j=>.int (i*2^j.toNat)):=opI fun _ _ _ _ _ _ _ hc q=>lshift_int_small hc.1 hc.2.1 hc.2.2 q
theorem unI{f:Value->Sem Value}{g:Int->Int}
  (rule:∀(i:Int) (t:Tok) (s:Shared) (Q:Value->Shared->Prop) (E:Value->Shared->Prop),Q (.int (g i) s.toks) { s with toks:=s.toks+1 }->wpAny (model X.prog X.w) X.A (f (.int i t)) Q E s) :
  UnR X f (rU fun i=>.int (g i)):=by
 intro pins s σ H x v Q I rx h;obtain⟨i,rfl,q⟩:=h;obtain⟨t,rfl⟩:=rx;exact rule i t s _ _ ⟨.int (g i),H,I.tok _,⟨_,rfl⟩,q⟩
theorem cS:UnR X (unaryOp .USub) (rU fun i=>.int (-i)):=unI fun _ _ _ _ _ q=>neg_int q
end
def xA:V->V->Bool
 | .non,.non=>true | .non,.int _=>true | .int _,.non=>true | .non,.bl _=>true | .bl _,.non=>true | .non,.str _=>true | .str _,.non=>true
 | .int _,.int _=>true | .bl _,.bl _=>true | .str _,.str _=>true | .byt _,.byt _=>true
 | .int _,.str _=>true | .str _,.int _=>true | .bl _,.str _=>true | .str _,.bl _=>true
 | _,_=>false
inductive E8 (x y:V) (H:Hp) (Q:VK):Prop
 | mk (s:xA x y=true) (q:Q (.bl (decide (x=y))) H):E8 x y H Q
inductive E7 (x y:V) (H:Hp) (Q:VK):Prop
 | mk (s:xA x y=true) (q:Q (.bl (!decide (x=y))) H):E7 x y H Q
theorem qi{i j:Int}:decide (V.int i=V.int j)=(i == j):=by
 rw[Bool.eq_iff_iff];simp
theorem tT{i j:Bool}:decide (V.bl i=V.bl j)=(i == j):=by
 rw[Bool.eq_iff_iff];simp
theorem qh{i j:Str}:decide (V.str i=V.str j)=(i == j):=by
 rw[Bool.eq_iff_iff];simp
theorem qj{i j:Array UInt8}:decide (V.byt i=V.byt j)=(i.toList == j.toList):=by
 rw[Bool.eq_iff_iff];cases i;cases j;simp
section
variable {X:Cx} {a b c:Expr} {ta tb tc:TE} {pos:Pos}
theorem aZ{pins:List (Addr×Obj)}{σ:St}{H:Hp}{s:Shared}{Q:VK}{k k':Bool}(I:yI X pins σ H s)(q:Q (.bl k) H)(e:k=k'):EP X pins σ Q (.bool k') s:=by
 subst e;exact⟨.bl k,H,I,rfl,q⟩
theorem bR:OpR X (compareOp .Eq) E8:=by
 intro pins s σ H x y v u Q I rx ry h;obtain⟨hs,q⟩:=h;cases x with
 | non =>
  cases rx;cases y with
  | non=>cases ry;exact PySem.EqNone.eq_none_none (aZ I q (by simp))
  | bl j=>cases ry;exact PySem.EqNone.eq_none_bool (aZ I q (by simp))
  | int j=>obtain⟨t',rfl⟩:=ry;exact PySem.EqNone.eq_none_int (aZ I q (by simp))
  | str j=>obtain⟨t',rfl⟩:=ry;exact PySem.EqNone.eq_none_str (aZ I q (by simp))
  | _=>exact absurd (show false=true from hs) Bool.false_ne_true
 | bl i =>
  cases rx;cases y with
  | non=>cases ry;exact PySem.EqNone.eq_bool_none (aZ I q (by simp))
  | bl j=>cases ry;exact eq_bool (aZ I q tT)
  | str j=>obtain⟨t',rfl⟩:=ry;exact PySem.EqMixed.eq_bool_str (aZ I q (by simp))
  | _=>exact absurd (show false=true from hs) Bool.false_ne_true
 | int i =>
  obtain⟨t,rfl⟩:=rx;cases y with
  | non=>cases ry;exact PySem.EqNone.eq_int_none (aZ I q (by simp))
  | int j=>obtain⟨t',rfl⟩:=ry;exact eq_int (aZ I q qi)
  | str j=>obtain⟨t',rfl⟩:=ry;exact PySem.EqMixed.eq_int_str (aZ I q (by simp))
  | _=>exact absurd (show false=true from hs) Bool.false_ne_true
 | str i =>
  obtain⟨t,rfl⟩:=rx;cases y with
  | non=>cases ry;exact PySem.EqNone.eq_str_none (aZ I q (by simp))
  | bl j=>cases ry;exact PySem.EqMixed.eq_str_bool (aZ I q (by simp))
  | int j=>obtain⟨t',rfl⟩:=ry;exact PySem.EqMixed.eq_str_int (aZ I q (by simp))
  | str j=>obtain⟨t',rfl⟩:=ry;exact eq_str (aZ I q qh)
  | _=>exact absurd (show false=true from hs) Bool.false_ne_true
 | byt i =>
  obtain⟨t,rfl⟩:=rx;cases y with
  | byt j=>obtain⟨t',rfl⟩:=ry;exact W.eq_bytes (aZ I q qj)
  | _=>exact absurd (show false=true from hs) Bool.false_ne_true
 | _=>cases y <;> exact absurd (show false=true from hs) Bool.false_ne_true
theorem gG:OpR X (compareOp .NotEq) E7:=by
 intro pins s σ H x y v u Q I rx ry h;obtain⟨hs,q⟩:=h;cases x with
 | non =>
  cases rx;cases y with
  | non=>cases ry;exact PySem.EqNone.ne_none_none (aZ I q (by simp))
  | bl j=>cases ry;exact PySem.EqNone.ne_none_bool (aZ I q (by simp))
  | int j=>obtain⟨t',rfl⟩:=ry;exact PySem.EqNone.ne_none_int (aZ I q (by simp))
  | str j=>obtain⟨t',rfl⟩:=ry;exact PySem.EqNone.ne_none_str (aZ I q (by simp))
  | _=>exact absurd (show false=true from hs) Bool.false_ne_true
 | bl i =>
  cases rx;cases y with
  | non=>cases ry;exact PySem.EqNone.ne_bool_none (aZ I q (by simp))
  | bl j=>cases ry;exact ne_bool (aZ I q (congrArg not tT))
  | str j=>obtain⟨t',rfl⟩:=ry;exact PySem.EqMixed.ne_bool_str (aZ I q (by simp))
  | _=>exact absurd (show false=true from hs) Bool.false_ne_true
 | int i =>
  obtain⟨t,rfl⟩:=rx;cases y with
  | non=>cases ry;exact PySem.EqNone.ne_int_none (aZ I q (by simp))
  | int j=>obtain⟨t',rfl⟩:=ry;exact ne_int (aZ I q (congrArg not qi))
  | str j=>obtain⟨t',rfl⟩:=ry;exact PySem.EqMixed.ne_int_str (aZ I q (by simp))
  | _=>exact absurd (show false=true from hs) Bool.false_ne_true
 | str i =>
  obtain⟨t,rfl⟩:=rx;cases y with
  | non=>cases ry;exact PySem.EqNone.ne_str_none (aZ I q (by simp))
  | bl j=>cases ry;exact PySem.EqMixed.ne_str_bool (aZ I q (by simp))
  | int j=>obtain⟨t',rfl⟩:=ry;exact PySem.EqMixed.ne_str_int (aZ I q (by simp))
  | str j=>obtain⟨t',rfl⟩:=ry;exact ne_str (aZ I q (congrArg not qh))
  | _=>exact absurd (show false=true from hs) Bool.false_ne_true
 | byt i =>
  obtain⟨t,rfl⟩:=rx;cases y with
  | byt j=>obtain⟨t',rfl⟩:=ry;exact W.ne_bytes (aZ I q (congrArg not qj))
  | _=>exact absurd (show false=true from hs) Bool.false_ne_true
 | _=>cases y <;> exact absurd (show false=true from hs) Bool.false_ne_true
theorem cY:OpR X (compareOp .Lt) (Eo fun i j=>.bl (decide (i<j))):=uO fun _ _ _ _ _ _ _ q=>lt_int q
theorem ku:OpR X (compareOp .LtE) (Eo fun i j=>.bl (decide (i≤j))):=uO fun _ _ _ _ _ _ _ q=>le_int q
theorem iB:OpR X (compareOp .Gt) (Eo fun i j=>.bl (decide (j<i))):=uO fun _ _ _ _ _ _ _ q=>gt_int q
theorem pI:OpR X (compareOp .GtE) (Eo fun i j=>.bl (decide (j≤i))):=uO fun _ _ _ _ _ _ _ q=>ge_int q
theorem sN:OpR X (compareOp .Is) (fun x y H Q=>y = .non∧Q (.bl (decide (x = .non))) H):=by
 intro pins s σ H x y v u Q I rx ry h;obtain⟨rfl,q⟩:=h;cases ry;refine is_none_gen (aZ I q ?_);cases x <;> first
  | (cases rx;rfl)
  | (obtain⟨t,rfl⟩:=rx;rfl)
theorem gF:OpR X (compareOp .IsNot) (fun x y H Q=>y = .non∧Q (.bl (!decide (x = .non))) H):=by
 intro pins s σ H x y v u Q I rx ry h;obtain⟨rfl,q⟩:=h;cases ry;refine isnot_none_gen (aZ I q ?_);cases x <;> first
  | (cases rx;rfl)
  | (obtain⟨t,rfl⟩:=rx;rfl)
theorem aE(b:Expr){op:CmpOp}(h:op≠.In:=by decide)(h2:op≠.NotIn:=by decide):behindInMarks op b=false:=by
 have e1:(op == CmpOp.In)=false:=by cases op <;> first|rfl|exact absurd rfl h
 have e2:(op == CmpOp.NotIn)=false:=by cases op <;> first|rfl|exact absurd rfl h2
 cases b <;> simp[behindInMarks,e1,e2]
theorem bY{op:CmpOp}{r:R2}(ho:OpR X (compareOp op) r)(ha:PE X a ta)(hb:PE X b tb)(hm:behindInMarks op b=false):PE X (.Compare a [op] [b] pos) (tOp r ta tb):=by
 intro pins s σ H Q I h;exact wpAny_Compare1 (xc ha hb I h fun v u s2 x y H2 I2 rx ry q=>ho pins s2 σ H2 x y v u Q I2 rx ry q) hm
inductive E9 (x:V) (H:Hp) (Q:Bool->Hp->Prop):Prop
 | mk (k:Bool) (e:x = .bl k) (q:Q k H):E9 x H Q
def vF(t:TE):TT:=fun σ H Q=>t σ H fun x H'=>E9 x H' Q
theorem aC{op:CmpOp}{r:R2}(ho:OpR X (compareOp op) r)(ha:PE X a ta)(hb:PE X b tb)(hm:behindInMarks op b=false):PT X (.Compare a [op] [b] pos) (vF (tOp r ta tb)):=by
 intro pins s σ H Q I h;refine wpAny_isTrue_Compare1 (thn (ha pins s σ H _ I h) fun v s1 ⟨x,H1,I1,r1,q1⟩=>thn (hb pins s1 σ H1 _ I1 q1) fun u s2 ⟨y,H2,I2,r2,q2⟩ =>
  thn (ho pins s2 σ H2 x y v u _ I2 r1 r2 q2) fun c s3 ⟨z,H3,I3,r3,k,e,q3⟩=>?_) hm
 subst e;cases r3;exact wpAny_truthy_bool ⟨H3,I3,q3⟩
def r9(r r':R2)(ta tb tc:TE):TE:=fun σ H Q=>ta σ H fun x H1=>tb σ H1 fun y H2=>r x y H2 fun z H3=>∃k,z = .bl k ∧
 (if k=true then tc σ H3 fun w' H4=>r' y w' H4 Q else Q (.bl false) H3)
theorem mw{op op':CmpOp}{r r':R2}(ho:OpR X (compareOp op) r)(ho':OpR X (compareOp op') r')(ha:PE X a ta)(hb:PE X b tb)(hc:PE X c tc)
  (hm:lastMarks [op,op'] [b,c]=false:=by with_unfolding_all rfl):PE X (.Compare a [op,op'] [b,c] pos) (r9 r r' ta tb tc):=by
 intro pins s σ H Q I h;refine Compare_chain (thn (ha pins s σ H _ I h) fun v s1 ⟨x,H1,I1,r1,q1⟩=>chain_link (thn (hb pins s1 σ H1 _ I1 q1) fun u s2 ⟨y,H2,I2,r2,q2⟩ =>
  thn (ho pins s2 σ H2 x y v u _ I2 r1 r2 q2) fun d s3 ⟨z,H3,I3,r3,k,e,q3⟩=>?_)) hm
 subst e;cases r3;refine wpAny_truthy_bool ?_;cases k with
 | false=>exact ite_ff ⟨.bl false,H3,I3,rfl,q3⟩
 | true=>exact ite_tt (chain_last (thn (hc pins s3 σ H3 _ I3 q3) fun w' s4 ⟨z',H4,I4,r4,q4⟩=>ho' pins s4 σ H4 y z' u w' Q I4 r2 r4 q4))
theorem sI{op op':CmpOp}{r r':R2}(ho:OpR X (compareOp op) r)(ho':OpR X (compareOp op') r')(ha:PE X a ta)(hb:PE X b tb)(hc:PE X c tc)
  (hm:lastMarks [op,op'] [b,c]=false:=by with_unfolding_all rfl):PT X (.Compare a [op,op'] [b,c] pos) (vF (r9 r r' ta tb tc)):=by
 intro pins s σ H Q I h;refine isTrue_chain (thn (ha pins s σ H _ I h) fun v s1 ⟨x,H1,I1,r1,q1⟩=>test_link (thn (hb pins s1 σ H1 _ I1 q1) fun u s2 ⟨y,H2,I2,r2,q2⟩ =>
  thn (ho pins s2 σ H2 x y v u _ I2 r1 r2 q2) fun d s3 ⟨z,H3,I3,r3,k,e,q3⟩=>?_)) hm
 subst e;cases r3;refine wpAny_truthy_bool ?_;cases k with
 | false =>
  obtain⟨k',e',q'⟩:=q3;cases e';exact ite_ff ⟨H3,I3,q'⟩
 | true =>
  refine ite_tt (test_last (thn (hc pins s3 σ H3 _ I3 q3) fun w' s4 ⟨z',H4,I4,r4,q4⟩=>thn (ho' pins s4 σ H4 y z' u w' _ I4 r2 r4 q4) fun d' s5 ⟨z2,H5,I5,r5,k2,e2,q5⟩=>?_));subst e2;cases r5;exact wpAny_truthy_bool ⟨H5,I5,q5⟩
theorem lu:(sizeLine:Nat)<2^63:=by rw[sizeLine_eq];decide
theorem fc{x:V}{us:List Value}(r:aT [x] us):∃u,us = [u]∧aW x u:=by
 cases r with
 | cons r1 r2=>cases r2;exact⟨_,rfl,r1⟩
theorem rO{x y:V}{us:List Value}(r:aT [x,y] us):∃u w',us = [u,w']∧aW x u∧aW y w':=by
 cases r with
 | cons r1 r2 =>
  cases r2 with
  | cons r3 r4=>cases r4;exact⟨_,_,rfl,r1,r3⟩
theorem fE:eJ X (.builtin "abs") (fun xs H Q=>∃i,xs = [.int i]∧Q (.int (if i<0 then -i else i)) H):=by
 intro pins s σ H xs us Q I r h;obtain⟨i,rfl,q⟩:=h;obtain⟨u,rfl,t,rfl⟩:=fc r;exact call_abs_int fun u tk=>⟨.int (if i<0 then -i else i),H,I.tok _,⟨_,rfl⟩,q⟩
theorem fL(hc:X.calm=true):eJ X (.builtin "max") (fun xs H Q=>∃i j,xs = [.int i,.int j]∧Q (.int (if j>i then j else i)) H):=by
 intro pins s σ H xs us Q I r h;obtain⟨i,j,rfl,q⟩:=h;obtain⟨u,w',rfl,⟨t,rfl⟩,⟨t',rfl⟩⟩:=rO r;refine max_two_ints (I.ok.hd hc) fun h' tk k=>⟨_,H,I.kept k,?_,q⟩
 by_cases hj:j>i
 ·rw[if_pos hj,if_pos hj];exact⟨_,rfl⟩
 ·rw[if_neg hj,if_neg hj];exact⟨_,rfl⟩
theorem dC(hc:X.calm=true):eJ X (.builtin "min") (fun xs H Q=>∃i j,xs = [.int i,.int j]∧Q (.int (if j<i then j else i)) H):=by
 intro pins s σ H xs us Q I r h;obtain⟨i,j,rfl,q⟩:=h;obtain⟨u,w',rfl,⟨t,rfl⟩,⟨t',rfl⟩⟩:=rO r;refine min_two_ints (I.ok.hd hc) fun h' tk k=>⟨_,H,I.kept k,?_,q⟩
 by_cases hj:j<i
 ·rw[if_pos hj,if_pos hj];exact⟨_,rfl⟩
 ·rw[if_neg hj,if_neg hj];exact⟨_,rfl⟩
theorem rG:eJ X (.type "int") (fun xs H Q=>(∃i,xs = [.int i]∧Q (.int i) H)∨∃k,xs = [.bl k]∧Q (.int (if k then 1 else 0)) H):=by
 intro pins s σ H xs us Q I r h;rcases h with⟨i,rfl,q⟩|⟨k,rfl,q⟩
 ·obtain⟨u,rfl,t,rfl⟩:=fc r
  exact call_int_int ⟨.int i,H,I,⟨_,rfl⟩,q⟩
 ·obtain⟨u,rfl,r1⟩:=fc r
  cases r1;exact call_int_bool ⟨.int (if k then 1 else 0),H,I.tok _,⟨_,rfl⟩,q⟩
end
end L2
namespace L2
open PySem PySem.Spec PyProof.Rows
structure DN(h:Heap)(x dx C:Addr)(mA:Str->Option Value):Prop where
 obj:h.get? x=some (W.instObj C dx)
 ns:h.Ns1 dx mA
 ne:dx≠x
theorem qQ{h:Heap}{dx:Addr}{mA:Str->Option Value}(n:h.Ns1 dx mA):∃od,h.get? dx=some od∧∀name,W.lookIn name od=some (mA name):=by
 obtain⟨o,es,ep,ho,hd,hk,_,hm⟩:=n;refine⟨o,ho,fun name=>?_⟩;have e:=hm name;unfold nsFind findBy at e;rw[<- Array.find?_toList]at e;unfold W.lookIn;rw[hd];dsimp only
 split
 ·rename_i y q
  rw[q]at e;exact congrArg some e
 ·rename_i q
  rw[q]at e;have a:es.toList.any (·.refKey)=false:=by
   rw[List.any_eq_false];intro y hy;obtain⟨z,t,hkey⟩:=hk y (Array.mem_toList_iff.mp hy);simp[DictEntry.refKey,hkey]
  have a':¬es.toList.any (·.refKey)=true:=by rw[a];exact Bool.false_ne_true
  rw[if_neg a'];exact congrArg some e
theorem DN.look{h:Heap}{x dx C:Addr}{mA:Str->Option Value}(I:DN h x dx C mA):∃od,W.InstAt h x (W.instObj C dx) C (some od)∧∀name,W.lookIn name od=some (mA name) :=
 let ⟨od,ho,hl⟩:=qQ I.ns
 ⟨od,⟨I.obj,rfl,rfl,ho⟩,hl⟩
section
variable {prog:Program} {w:World} {A:Around} {E:Value->Shared->Prop} {s:Shared} {K:W.Frag} {x dx C f:Addr} {mA:Str->Option Value} {name:Str} {v:Value}
theorem u7{expr:Bool}{Q:Value->Shared->Prop}(X:K.In s.heap)(I:DN s.heap x dx C mA)(hg:W.plainGet K C name=true)(hh:W.hasDictIn K C=true)
  (ha:W.findIn K (.ref C) name=some none) (hv:mA name=some v) (hv':W.handedIn v=true) (h:Q v { s with toks:=s.toks+1 }) :
  wpAny (model prog w) A (getAttr (.ref x) name expr) Q E s:=by
 obtain⟨od,J,hl⟩:=I.look;exact W.get_value X J (W.plainGet_of hg).1 (W.findObj_own hh ha rfl (by rw[hl,hv])) hv' h
theorem uE{ns:List Str}{Q:Unit->Shared->Prop}(X:K.In s.heap)(I:DN s.heap x dx C mA)
  (hs:W.findIn K (.ref C) "__setattr__" = some (some (.builtin "object.__setattr__"))) (hp:W.plainOver K C=true) (ht:W.takerIn K C name=some none) (hh:W.hasDictIn K C=true)
  (hw:PySem.Within mA ns) (hsz:ns.length≤sizeLine)
  (h:∀h',DN h' x dx C (fun y=>if y=name then some v else mA y)->Heap.SameBut dx s.heap h'->Q () { s with heap:=h',toks:=s.toks+2 }) :
  wpAny (model prog w) A (setAttr (.ref x) name v) Q E s:=by
 obtain⟨od,J,hl⟩:=I.look;refine W.set_plain X J hs (W.osa_open (s:={ s with toks:=s.toks+1 }) (r:=none) X J hp ht fun b=>?_);obtain⟨cd,hc,hd'⟩:=W.any_some hh;have hx:s.heap.get? x=some ⟨.ref C,some dx,.plain,#[]⟩:=I.obj;refine wpAny_bind (wpAny_pure (wpAny_bind (wpAny_bind (wpAny_loadPart hx (wpAny_bind (W.Looks.here (s:={ s with toks:=s.toks+1 }) (W.looks_clsIn X hc) ?_))))));rw[hd'];refine wpAny_pure (a:=some dx) (wpAny_bind (wpAny_pure (wpAny_bind ?_)));refine wpAny_nsSet1 (s:={ s with toks:=s.toks+1 }) I.ns fun h' hn2 hs2=>?_;obtain⟨oD,esD,epD,hoD,hdD,hcD⟩:=hn2.count (PySem.Within.cons name v hw);refine wpAny_bind (wpAny_lookBehind hoD (by rw[hdD];exact pastItsLine_dict (Nat.le_trans hcD (by rw[List.length_cons];omega))) ?_);exact wpAny_pure (h _ ⟨(hs2.2 _ (Ne.symm I.ne)).trans I.obj,hn2,I.ne⟩ hs2)
theorem sS{R:Result->Shared->Prop}{vs:List Value}{kw:List (Str×Value)}(X:K.In s.heap)(hm:W.makesIn K C=true)
  (hi:W.findIn K (.ref C) "__init__" = some (some (.ref f))) (hf:W.typeIn K (.ref f)=some (.type "function"))
  (h:codeAny (model prog w) (A.under (.builtin "type.__call__" ⟨.ref C::vs,kw⟩)) (.call (.ref f) ⟨.ref (s.heap.objs.size+1)::vs,kw⟩) (W.InitBack (s.heap.objs.size+1) R)
   { s with heap:=(s.heap.push W.emptyDict).push (W.instObj C s.heap.objs.size) }) :
  codeAny (model prog w) A (.call (.ref C) ⟨vs,kw⟩) R s:=by
 obtain⟨hh,g,d,t,os⟩:=s;exact W.make_core (W.makes_of X hm) (W.looks_findIn X hi) (fun self=>W.bind_fn X self hf) (.inl rfl) h
end
def db(f:Str)(v:V):List (Str×V)->List (Str×V)
 | []=>[(f,v)]
 | (g,x)::r=>if g=f then (g,v)::r else (g,x)::db f v r
theorem iE(f g:Str)(v:V):∀fs:List (Str×V),(db f v fs).lookup g=if g=f then some v else fs.lookup g
 | []=>by
  show List.lookup g [(f,v)]=_
  by_cases h:g=f
  ·have hb:(g == f)=true:=beq_iff_eq.mpr h
   simp only[List.lookup,hb,if_pos h]
  ·have hb:(g == f)=false:=beq_eq_false_iff_ne.mpr h
   simp only[List.lookup,hb,if_neg h]
 | (k,x)::r=>by
  have ih:=iE f g v r;rw[show db f v ((k,x)::r)=(if k=f then (k,v)::r else (k,x)::db f v r) from rfl]
  by_cases hk:k=f
  ·rw[if_pos hk]
   by_cases h:g=k
   ·have hb:(g == k)=true:=beq_iff_eq.mpr h
    simp only[List.lookup,hb,if_pos (h.trans hk)]
   ·have hb:(g == k)=false:=beq_eq_false_iff_ne.mpr h
    simp only[List.lookup,hb,if_neg (fun e:g=f=>h (e.trans hk.symm))]
  ·rw[if_neg hk]
   by_cases h:g=k
   ·have hb:(g == k)=true:=beq_iff_eq.mpr h
    simp only[List.lookup,hb,if_neg (fun e:g=f=>hk (h.symm.trans e))]
   ·have hb:(g == k)=false:=beq_eq_false_iff_ne.mpr h
    simp only[List.lookup,hb];exact ih
theorem ie(f:Str)(v:V):∀fs:List (Str×V),f∈(db f v fs).map (·.1)∧∀g,g∈fs.map (·.1)->g∈(db f v fs).map (·.1)
 | []=>⟨by simp[db],fun g h=>by simp at h⟩
 | (k,x)::r=>by
  obtain⟨i1,i2⟩:=ie f v r;rw[show db f v ((k,x)::r)=(if k=f then (k,v)::r else (k,x)::db f v r) from rfl]
  by_cases hk:k=f
  ·rw[if_pos hk]
   subst hk;exact⟨by simp,fun g h=>by simpa using h⟩
  ·rw[if_neg hk]
   refine⟨?_,fun g h=>?_⟩
   ·rw[List.map_cons]
    exact List.mem_cons_of_mem _ i1
   ·rw[List.map_cons]at h ⊢
    rcases List.mem_cons.mp h with e|e
    ·exact List.mem_cons.mpr (.inl e)
    ·exact List.mem_cons_of_mem _ (i2 g e)
theorem iG(f:Str)(v:V):∀fs:List (Str×V),(db f v fs).length≤fs.length+1
 | []=>by simp[db]
 | (k,x)::r=>by
  have ih:=iG f v r;rw[show db f v ((k,x)::r)=(if k=f then (k,v)::r else (k,x)::db f v r) from rfl]
  by_cases hk:k=f
  ·rw[if_pos hk,List.length_cons,List.length_cons];omega
  ·rw[if_neg hk,List.length_cons,List.length_cons];omega
theorem iy.some_of{v:V}{o:Option Value}(r:iy (some v) o):∃u,o=some u∧aW v u:=by
 cases o with
 | none=>exact(show False from r).elim
 | some u=>exact⟨u,rfl,r⟩
theorem qZ{v:V}{u:Value}(r:aW v u):W.handedIn u=true:=by
 cases v with
 | non=>cases (show u=Value.none from r);rfl
 | bl b=>cases (show u=Value.bool b from r);rfl
 | int i=>obtain⟨t,e⟩:=(show ∃t,u=Value.int i t from r);cases e;rfl
 | str x=>obtain⟨t,e⟩:=(show ∃t,u=Value.str x t from r);cases e;rfl
 | byt b=>obtain⟨t,e⟩:=(show ∃t,u=Value.bytes b t from r);cases e;rfl
 | flt b=>obtain⟨t,e⟩:=(show ∃t,u=Value.float b t from r);cases e;rfl
 | ref a=>cases (show u=Value.ref a from r);rfl
 | ty n=>cases (show u=Value.type n from r);rfl
section
variable {P:Program} {w:World} {H H':Hp} {h h':Heap} {a C dx:Addr} {fs fs':List (Str×V)}
theorem lC(hok:HOk P w H h)(e:H a=some (.ins C dx fs)):∃mA,DN h a dx C mA∧(∀f,iy (fs.lookup f) (mA f))∧PySem.Within mA (fs.map (·.1))∧fs.length≤1000∧H dx=some (.own a):=by
 obtain⟨d,z,ne,ob,mA,n,r,q⟩:=(show bK P w H h a (.ins C dx fs) from hok a _ e);exact⟨mA,⟨ob,n,ne⟩,r,q,z,d⟩
end
structure EB(K:W.Frag)(C:Addr):Prop where
 pg:W.plainGet K C Str.empty=true
 hd:W.hasDictIn K C=true
 po:W.plainOver K C=true
 sa:W.findIn K (.ref C) "__setattr__" = some (some (.builtin "object.__setattr__"))
theorem EB.get{K:W.Frag}{C:Addr}(c:EB K C)(f:Str):W.plainGet K C f=true:=c.pg
def bE(K:W.Frag)(C:Addr)(f:Str):Prop:=W.findIn K (.ref C) f=some none
theorem bE.taker{K:W.Frag}{C:Addr}{f:Str}(n:bE K C f):W.takerIn K C f=some none:=by
 unfold W.takerIn;rw[show W.findIn K (.ref C) f=some none from n];rfl
structure E3(K:W.Frag)(C:Addr)(m:Str)(f:Addr):Prop where
 at_:W.findIn K (.ref C) m=some (some (.ref f))
 fn:W.isFn K (.ref f)=true
 kp:W.keepIn K (.ref f)=true
section
variable {X:Cx} {pins:List (Addr×Obj)} {σ:St} {H:Hp} {s:Shared} {a C dx:Addr} {fs:List (Str×V)} {f:Str} {v:V} {A:Around} {E:Value->Shared->Prop}
theorem oF{b:Bool}{Q:Value->Shared->Prop}(I:yI X pins σ H s)(e:H a=some (.ins C dx fs))(c:EB X.K C)(n:bE X.K C f)(l:fs.lookup f=some v)
  (h:∀u s',yI X pins σ H s'->aW v u->Q u s'):wpAny (model X.prog X.w) A (getAttr (.ref a) f b) Q E s:=by
 obtain⟨mA,O,r,_,_,_⟩:=lC I.hok e;obtain⟨u,hu,ru⟩:=iy.some_of (v:=v) (o:=mA f) (by rw[<- l];exact r f);exact u7 I.kIn O (c.get f) c.hd n hu (qZ ru) (h u _ (I.tok _) ru)
theorem oa{y:V}{u:Value}{Q:Unit->Shared->Prop}(I:yI X pins σ H s)(e:H a=some (.ins C dx fs))(c:EB X.K C)(n:bE X.K C f)(hl:fs.length<1000)(ry:aW y u)
  (h:∀s',yI X pins σ (upd H a (.ins C dx (db f y fs))) s'->Q () s'):wpAny (model X.prog X.w) A (setAttr (.ref a) f u) Q E s:=by
 obtain⟨mA,O,r,wi,_,ho⟩:=lC I.hok e;have hz:(fs.map (·.1)).length≤sizeLine:=by rw[List.length_map,sizeLine_eq];omega
 refine uE I.kIn O c.sa c.po n.taker c.hd wi hz fun h' O' sb=>h _ ?_;have hd:∃o,h'.get? dx=some o:=let ⟨o,_,_,e',_⟩:=O'.ns;⟨o,e'⟩;refine I.write (x:=a) (e:=dx) (by rw[e];exact True.intro) (.inr ho) (fun b q hb z=>(sb.2 b hb).trans z) hd ?_;refine⟨by rw[aN O.ne];exact ho,?_,O.ne,O'.obj,_,O'.ns,fun g=>?_,fun g hg=>?_⟩
 ·have:=iG f y fs;omega
 ·show iy ((db f y fs).lookup g) (if g=f then some u else mA g)
  rw[iE]
  by_cases q:g=f
  ·rw[if_pos q,if_pos q];exact ry
  ·rw[if_neg q,if_neg q];exact r g
 ·by_cases q:g=f
  ·rw[q];exact(ie f y fs).1
  ·refine(ie f y fs).2 g (wi g fun z=>hg ?_)
   show(if g=f then some u else mA g)=none
   rw[if_neg q];exact z
theorem yI.made(I:yI X pins σ H s):yI X pins σ (upd (upd H s.heap.objs.size (.own (s.heap.objs.size+1))) (s.heap.objs.size+1) (.ins C s.heap.objs.size []))
  { s with heap:=(s.heap.push W.emptyDict).push (W.instObj C s.heap.objs.size) }:=by
 have e1:(s.heap.push W.emptyDict).get? s.heap.objs.size=some W.emptyDict:=Heap.get?_push_size s.heap rfl;have e2:((s.heap.push W.emptyDict).push (W.instObj C s.heap.objs.size)).get? (s.heap.objs.size+1)=some (W.instObj C s.heap.objs.size):=by
  have:=Heap.get?_push_size (s.heap.push W.emptyDict) (o:=W.instObj C s.heap.objs.size) rfl
  rwa [Heap.size_push]at this
 have e3:(s.heap.push W.emptyDict).Ns s.heap.objs.size (fun _=>none):=⟨W.emptyDict,#[],_,e1,rfl,(fun e he=>absurd he (by simp)),fun _=>rfl⟩;have I1:=I.laid (a:=s.heap.objs.size) (o:=.own (s.heap.objs.size+1)) (h':=s.heap.push W.emptyDict) (t':=s.toks) (fun b u q=>Heap.get?_push_of_some _ q) (Nat.le_refl _) ⟨_,e1⟩;refine I1.laid (a:=s.heap.objs.size+1) (o:=.ins C s.heap.objs.size []) (t':=s.toks) (fun b u q=>Heap.get?_push_of_some _ q) (Nat.le_of_eq (Heap.size_push _ _)) ?_;have ne:s.heap.objs.size≠s.heap.objs.size+1:=Nat.ne_of_lt (Nat.lt_succ_self _);refine⟨by rw[aN ne,upd_same],Nat.zero_le _,ne,e2,fun _=>none,(Heap.Ns1.of_empty e3).at fun o q=>Heap.get?_push_of_some _ q,fun _=>True.intro,fun y hy=>absurd rfl hy⟩
theorem vw{prog:Program}{w:World}{env:Env}{e:Expr}{f:Str}{pos:Pos}{s:Shared}{Q:Value->Shared->Prop}(hb:attributeBase e f env (eval e env)=eval e env)
  (h:wpAny (model prog w) A (eval e env) (fun o s₁=>wpAny (model prog w) A (getAttr o f true) Q E s₁) E s):wpAny (model prog w) A (eval (.Attribute e f pos) env) Q E s :=
 Attribute_any_ h (by rw[arm_eval_Attribute,hb])
end
def xq(K:W.Frag)(ta:TE)(f:Str):TE:=fun σ H Q=>ta σ H fun x H1=>∃a C dx fs v,x = .ref a∧H1 a=some (.ins C dx fs)∧EB K C∧bE K C f∧fs.lookup f=some v∧Q v H1
def yu(K:W.Frag)(ta tv:TE)(f:Str):TS:=fun D σ H=>tv σ H fun y H1=>ta σ H1 fun x H2=>∃a C dx fs,x = .ref a∧H2 a=some (.ins C dx fs)∧EB K C∧bE K C f∧fs.length<1000 ∧
 D.nx σ (upd H2 a (.ins C dx (db f y fs)))
section
variable {X:Cx} {o e value:Expr} {f:Str} {pos pos' tpos:Pos} {ta tv:TE}
theorem dP(he:PE X e ta)(hb:attributeBase e f X.env (eval e X.env)=eval e X.env):PE X (.Attribute e f pos) (xq X.K ta f):=by
 intro pins s σ H Q I h;refine vw hb (thn (he pins s σ H _ I h) fun u s1 ⟨x,H1,I1,rx,a,C,dx,fs,v,ex,ea,c,n,l,q⟩=>?_);subst ex;obtain rfl:u=Value.ref a:=rx;exact oF I1 ea c n l fun u' s2 I2 ru=>⟨v,H1,I2,ru,q⟩
theorem k6(ha:PE X o ta)(hv:PE X value tv)(hs:swapsWith value (some (.Attribute o f pos')) pos.line X.env=pure false):PS X (.Assign [.Attribute o f pos'] value pos) (yu X.K ta tv f):=by
 intro pins s σ H D I h;refine plainObj_wpAny_Assign_Attribute (thn (hv pins s σ H _ I h) fun u s1 ⟨y,H1,I1,ry,q⟩=>thn (ha pins s1 σ H1 _ I1 q) fun ov s2 ⟨x,H2,I2,rx,a,C,dx,fs,ex,ea,c,n,l,q2⟩=>?_) hs;subst ex;obtain rfl:ov=Value.ref a:=rx;exact oa I2 ea c n l ry fun s3 I3=>⟨σ,_,I3,q2⟩
end
section
variable {X:Cx} {pins:List (Addr×Obj)} {σ:St} {H:Hp} {s:Shared} {A:Around} {E:Value->Shared->Prop} {Q:Value->Shared->Prop} {c:Value} {b:Bool}
inductive B6 (K:W.Frag) (H:Hp):V->Value->Prop where
 | non:B6 K H .non (.type "NoneType")
 | bl (x:Bool):B6 K H (.bl x) (.type "bool")
 | int (i:Int):B6 K H (.int i) (.type "int")
 | str (x:Str):B6 K H (.str x) (.type "str")
 | flt (x:UInt64):B6 K H (.flt x) (.type "float")
 | lst {a:Addr} {xs:List V} (e:H a=some (.lst xs)):B6 K H (.ref a) (.type "list")
 | frz {a:Addr} {o:Obj} {xs:List V} (e:H a=some (.frz o (.lst xs))):B6 K H (.ref a) (.type "list")
 | tup {a:Addr} {xs:List V} (e:H a=some (.tup xs)):B6 K H (.ref a) (.type "tuple")
 | dK {a:Addr} {kvs:List (Key×V)} (e:H a=some (.dK kvs)):B6 K H (.ref a) (.type "dict")
 | dT {a:Addr} {kvs:List (List Key×V)} (e:H a=some (.dT kvs)):B6 K H (.ref a) (.type "dict")
 | ins {a C dx:Addr} {fs:List (Str×V)} (e:H a=some (.ins C dx fs)) (cl:EB K C) (ha:W.findIn K (.ref C) "__class__" = some (some (.builtin "object.__class__")))
   (hn:W.specialIn K (.builtin "object.__class__") "__get__" = some (some (.builtin "getset_descriptor.__get__"))) (htk:W.takesIn K (.builtin "object.__class__")=some true)
   (hm:W.mroIn K C (.type "object")=some true):B6 K H (.ref a) (.ref C)
theorem qV{x:V}{u t:Value}(I:yI X pins σ H s)(rx:aW x u)(ty:B6 X.K H x t)(e:W.kitOne X.K t c=some b)(h:∀tk,Q (.bool b) { s with toks:=tk }) :
  wpAny (model X.prog X.w) A (call (.builtin "isinstance") [u,c]) Q E s:=by
 cases ty with
 | non=>cases (show u=Value.none from rx);exact W.kia_one W.kitx_none I.kIn True.intro e (fun z=>nomatch z) h
 | bl y=>cases (show u=Value.bool y from rx);exact W.kia_one W.kitx_bool I.kIn True.intro e (fun z=>nomatch z) h
 | int i=>obtain⟨t,q⟩:=(show ∃t,u=Value.int i t from rx);cases q;exact W.kia_one W.kitx_int I.kIn True.intro e (fun z=>nomatch z) h
 | str y=>obtain⟨t,q⟩:=(show ∃t,u=Value.str y t from rx);cases q;exact W.kia_one W.kitx_str I.kIn True.intro e (fun z=>nomatch z) h
 | flt y=>obtain⟨t,q⟩:=(show ∃t,u=Value.float y t from rx);cases q;exact W.kia_one W.kitx_float I.kIn True.intro e (fun z=>nomatch z) h
 | @lst a xs ea =>
  cases (show u=Value.ref a from rx);obtain⟨_,_,n,_,h1⟩:=(show bK X.prog X.w H s.heap a (.lst xs) from I.hok a _ ea);exact W.kia_one W.kitx_list I.kIn ⟨_,h1,rfl⟩ e (fun z=>nomatch z) h
 | @frz a ob xs ea =>
  cases (show u=Value.ref a from rx);obtain⟨_,_,_,n,_,h1⟩:=(show bK X.prog X.w H s.heap a (.frz ob (.lst xs)) from I.hok a _ ea);exact W.kia_one W.kitx_list I.kIn ⟨_,h1,rfl⟩ e (fun z=>nomatch z) h
 | @tup a xs ea =>
  cases (show u=Value.ref a from rx);obtain⟨_,_,_,p⟩:=(show bK X.prog X.w H s.heap a (.tup xs) from I.hok a _ ea);obtain⟨o,h1,h2,_⟩:=p;exact W.kia_one W.kitx_tuple I.kIn ⟨o,h1,h2⟩ e (fun z=>nomatch z) h
 | @dK a kvs ea =>
  cases (show u=Value.ref a from rx);obtain⟨_,_,vs,_,p⟩:=(show bK X.prog X.w H s.heap a (.dK kvs) from I.hok a _ ea);obtain⟨o,es,ep,h1,h2,_⟩:=p;exact W.kia_one W.kitx_dict I.kIn ⟨o,h1,h2.1⟩ e (fun z=>nomatch z) h
 | @dT a kvs ea =>
  cases (show u=Value.ref a from rx);obtain⟨_,_,xs,_,o,es,ep,h1,h2,_⟩:=(show bK X.prog X.w H s.heap a (.dT kvs) from I.hok a _ ea);exact W.kia_one W.kitx_dict I.kIn ⟨o,h1,h2.1⟩ e (fun z=>nomatch z) h
 | @ins a C dx fs ea cl ha hn htk hm =>
  cases (show u=Value.ref a from rx);obtain⟨mA,O,_⟩:=lC I.hok ea;obtain⟨od,J,_⟩:=O.look;exact W.kia_one (W.kitx_own (cl.get _) cl.hd ha hn htk hm) I.kIn J e (fun z=>nomatch z) h
end
end L2
namespace L2
open PySem PySem.Spec PyProof.Rows
structure y7(k:Nat)(A:Around):Prop where
 hd:A.handled=none
 dp:A.depth+3*k+5<recursionLimit
 un:A.units+16*k+200<cLine
 gd:A.guards=some []
theorem y7.mono{j k:Nat}{A:Around}(r:y7 k A)(h:j≤k):y7 j A:=⟨r.hd,by have:=r.dp;omega,by have:=r.un;omega,r.gd⟩
theorem y7.deeper{k:Nat}{A:Around}(r:y7 (k+1) A)(env:Env):y7 k (A.deeper env) :=
 ⟨r.hd,by have:=r.dp;show A.depth+1+3*k+5<_;omega,by have:=r.un;show A.units+3+16*k+200<_;omega,r.gd⟩
theorem oE{A:Around}{C:Addr}{us:List Value}{kw:List (Str×Value)}:(A.under (.builtin "type.__call__" ⟨.ref C::us,kw⟩)).depth=A.depth+1:=by
 first|rfl|simp[Around.under,Code.weight,Code.isCreation,Code.isGuard,Code.isCaller,Code.frames,Code.isFrame,guardIds]
theorem oC{A:Around}{C:Addr}{us:List Value}{kw:List (Str×Value)}:(A.under (.builtin "type.__call__" ⟨.ref C::us,kw⟩)).units=A.units+1:=by
 first|rfl|simp[Around.under,Code.cUnits,Code.frames,Code.isFrame]
theorem mM{A:Around}{C:Addr}{us:List Value}{kw:List (Str×Value)}(h:A.guards=some []):(A.under (.builtin "type.__call__" ⟨.ref C::us,kw⟩)).guards=some []:=by
 first|exact h|(unfold Around.under;simp[h,Code.guards,Code.isGuard,guardIds,pushGuards])
theorem y7.make{k:Nat}{A:Around}(r:y7 (k+1) A)(C:Addr)(us:List Value)(kw:List (Str×Value)):y7 k (A.under (.builtin "type.__call__" ⟨.ref C::us,kw⟩)) :=
 ⟨r.hd,by have:=r.dp;rw[oE];omega,by have:=r.un;rw[oC];omega,mM r.gd⟩
theorem y7.depth{k:Nat}{A:Around}(r:y7 k A):A.depth<recursionLimit:=by have:=r.dp;omega
theorem y7.units{k:Nat}{A:Around}(r:y7 k A):A.units+64<cLine:=by have:=r.un;omega
theorem y7.units0{k:Nat}{A:Around}(r:y7 k A):A.units<cLine:=by have:=r.un;omega
def v5:TA:=fun _ H Q=>Q [] H
def o4(ta:TE)(tr:TA):TA:=fun σ H Q=>ta σ H fun x H1=>tr σ H1 fun xs H2=>Q (x::xs) H2
section
variable {X:Cx} {e:Expr} {es:List Expr} {te:TE} {t:TA} {pos:Pos}
theorem af:PA X [] v5:=fun _ _ _ _ H Q I h=>Calls.spliced_nil ⟨[],H,I,.nil,h⟩
theorem aa(ha:PE X e te)(hr:PA X es t)(hs:starEach (e::es) X.env=(false,eval e X.env)::starEach es X.env:=by rfl):PA X (e::es) (o4 te t):=by
 intro pos pins s σ H Q I h;rw[hs];show wpAny _ _ (spliced ((false,eval e X.env)::backTo pos (starEach es X.env))) _ _ s;refine Calls.spliced_cons (thn (ha pins s σ H _ I h) fun u s1 ⟨x,H1,I1,r1,q1⟩=>?_);exact thn (hr pos pins s1 σ H1 _ I1 q1) fun us s2 ⟨xs,H2,I2,r2,q2⟩=>⟨x::xs,H2,I2,.cons r1 r2,q2⟩
def xj(t:TA):TE:=fun σ H Q=>t σ H fun xs H1=>xs.length≤sizeLine∧∀p,H1 p=none->Q (.ref p) (upd H1 p (.tup xs))
theorem h8{x1}(h:PA X es t):PE X (.Tuple es x1 pos) (xj t):=by
 intro pins s σ H Q I hq;refine wpAny_Tuple_spliced (thn (h pos pins s σ H _ I hq) fun us s1 ⟨xs,H1,I1,r,z,q⟩=>⟨by rw[<- r.length];exact z,?_⟩);have hf:H1 s1.heap.objs.size=none:=I1.hok.fresh (Nat.le_refl _);refine⟨.ref s1.heap.objs.size,upd H1 s1.heap.objs.size (.tup xs),I1.laid (t':=s1.toks) (fun b u e=>Heap.get?_push_of_some _ e) (Nat.le_refl _) ?_,rfl,q _ hf⟩;exact⟨z,us,r,⟨_,Heap.get?_push_size _ rfl,rfl,_,rfl⟩⟩
end
abbrev Sp:=List V->Hp->VK->XK->Prop
abbrev CXT:=List Env->Hp->Shared->XK->Value->Shared->Prop
structure C8(P:Program)(w:World)(K:W.Frag)(mg:Str->Option Value)(base:Heap)(A:Around)(outer:List Env)(s:Shared)(H:Hp):Prop where
 frames:A.frames=some outer
 mod:Mod K mg base
 bs:∀b o,base.get? b=some o->s.heap.get? b=some o∧H b=none
 bsz:base.objs.size≤s.heap.objs.size
 funs:s.heap.FunFrames base outer
 frf:∀b∈frs outer,H b=none
 hok:HOk P w H s.heap
 bare:AllBare s.gens
def CE(outer:List Env)(P:Program)(w:World)(H:Hp)(s:Shared)(Q:VK)(u:Value)(s':Shared):Prop :=
 ∃v H',s'.os=s.os∧AllBare s'.gens∧Un (frs outer) [] H H' s.heap s'.heap∧HOk P w H' s'.heap∧aW v u∧Q v H'
def CR(CX:CXT)(outer:List Env)(P:Program)(w:World)(H:Hp)(s:Shared)(Q:VK)(E:XK)(r:Result)(s':Shared):Prop :=
 match r with
 | .ok (.ret u)=>CE outer P w H s Q u s'
 | .ok _=>False
 | .error e=>CX outer H s E e s'
structure Bf(P:Program)(w:World)(K:W.Frag)(mg:Str->Option Value)(base:Heap)(CX:CXT)(k:Nat)(f:Addr)(fd:FuncData)(ps:List Str)(sp:Sp):Prop where
 len:∀vs H Q E,sp vs H Q E->vs.length=ps.length
 run:∀(A:Around) (outer:List Env) (s:Shared) (H:Hp) (args:Args) (us:List Value) (vs:List V) (Q:VK) (E:XK),y7 k A->C8 P w K mg base A outer s H->BindsTo s fd args (ps.zip us)->aT vs us->sp vs H Q E ->
  codeAny (model P w) A (.call (.ref f) args) (CR CX outer P w H s Q E) s
theorem Bf.imp{P:Program}{w:World}{K:W.Frag}{mg:Str->Option Value}{base:Heap}{CX:CXT}{k:Nat}{f:Addr}{fd:FuncData}{ps:List Str}{sp sp':Sp}(F:Bf P w K mg base CX k f fd ps sp)
  (h:∀vs H Q E,sp' vs H Q E->sp vs H Q E):Bf P w K mg base CX k f fd ps sp' :=
 ⟨fun vs H Q E q=>F.len vs H Q E (h _ _ _ _ q),fun A outer s H args us vs Q E hr he hb hv hs=>F.run A outer s H args us vs Q E hr he hb hv (h _ _ _ _ hs)⟩
theorem C8.make{P:Program}{w:World}{K:W.Frag}{mg:Str->Option Value}{base:Heap}{A:Around}{outer:List Env}{s:Shared}{H:Hp}(e:C8 P w K mg base A outer s H)(C:Addr)(us:List Value)(kw:List (Str×Value)) :
  C8 P w K mg base (A.under (.builtin "type.__call__" ⟨.ref C::us,kw⟩)) outer s H:=⟨by first|exact e.frames|(simpa[Around.under,Code.envs,Code.isFrame,pushEnvs]using e.frames),e.mod,e.bs,e.bsz,e.funs,e.frf,e.hok,e.bare⟩
section
variable {X:Cx} {pins:List (Addr×Obj)} {σ:St} {H:Hp} {s s':Shared}
theorem yI.env0(I:yI X pins σ H s):C8 X.prog X.w X.K X.mg X.base X.A X.stack s H :=
 ⟨I.ok.frames,I.ok.mod,I.bs,Nat.le_trans I.ok.bsz I.sz,I.stack,I.stkFree,I.hok,I.bare⟩
theorem yI.after{Q:VK}{u:Value}(I:yI X pins σ H s)(h:CE X.stack X.prog X.w H s Q u s'):EP X pins σ Q u s':=by
 obtain⟨v,H',os,bare,un,hok,r,q⟩:=h;obtain⟨hh,g,d,t,os'⟩:=s';obtain rfl:os'=s.os:=os;exact⟨v,H',I.call (h':=hh) (g':=g) (d':=d) (t':=t) (ch:=[]) un hok bare (fun b z=>absurd z (by simp)),r,q⟩
end
def o5(sp:Sp)(dvs:List V)(E:XK)(t:TA):TE:=fun σ H Q=>t σ H fun vs H1=>sp (vs++dvs) H1 Q E
def vG(C:Addr)(sp:Sp)(dvs:List V)(E:XK)(t:TA):TE:=fun σ H Q=>t σ H fun vs H1=>∀x dx,H1 x=none->H1 dx=none->dx≠x ->
 sp (.ref x::(vs++dvs)) (upd (upd H1 dx (.own x)) x (.ins C dx [])) (fun v H2=>v = .non∧Q (.ref x) H2) E
def eW(K:W.Frag)(fd:FuncData)(ps:List Str)(ds:List Value):Prop :=
 ∀(s:Shared) (us:List Value),K.In s.heap->(us++ds).length=ps.length->BindsTo s fd ⟨us,[]⟩ (ps.zip (us++ds))
theorem eW.all{K:W.Frag}{fd:FuncData}{ps:List Str}(h:∀us:List Value,us.length=ps.length->bindArgs fd ⟨us,[]⟩=pure (ps.zip us)):eW K fd ps []:=fun s us _ hl=>by
 rw[List.append_nil]at hl ⊢;exact .of_eq (h us hl)
def gh(CX:CXT)(X:Cx)(E:XK):Prop:=∀(pins:List (Addr×Obj)) (σ:St) (H:Hp) (s:Shared) (e:Value) (s':Shared),yI X pins σ H s->CX X.stack H s E e s'->X.xe e s'
section
variable {X:Cx} {CX:CXT} {k:Nat} {f C:Addr} {fd:FuncData} {ps:List Str} {sp:Sp} {dvs:List V} {ds:List Value} {E:XK} {x m:Str} {p pos apos:Pos} {e o:Expr} {es:List Expr} {ta:TE} {t:TA}
theorem sE{pins:List (Addr×Obj)}{σ:St}{H:Hp}{s:Shared}{Q:VK}{us:List Value}{vs:List V}(F:Bf X.prog X.w X.K X.mg X.base CX k f fd ps sp)(hr:y7 k X.A)(hb:eW X.K fd ps ds)(hd:aT dvs ds)(hx:gh CX X E)
  (I:yI X pins σ H s) (r:aT vs us) (h:sp (vs++dvs) H Q E):wpAny (model X.prog X.w) X.A (call (.ref f) us) (EP X pins σ Q) X.xe s:=by
 have r2:aT (vs++dvs) (us++ds):=r.append hd;have hl:(us++ds).length=ps.length:=by rw[<- r2.length];exact F.len _ _ _ _ h
 refine wpAny_call (codeAny_mono (F.run X.A X.stack s H ⟨us,[]⟩ (us++ds) (vs++dvs) Q E hr I.env0 (hb s us I.kIn hl) r2 h) fun r s' hq=>?_);cases r with
 | error e=>exact hx pins σ H s e s' I hq
 | ok fl =>
  cases fl with
  | ret u=>exact I.after hq
  | next=>exact False.elim hq
  | brk=>exact False.elim hq
  | cont=>exact False.elim hq
theorem lc(F:Bf X.prog X.w X.K X.mg X.base CX k f fd ps sp)(hr:y7 k X.A)(hg:Gl X x)(hm:X.mg x=some (.ref f))(hk:W.keepIn X.K (.ref f)=true)(hb:eW X.K fd ps ds)(hd:aT dvs ds)(hx:gh CX X E)
  (ha:PA X (e::es) t) (hdb:(x == ("__debug__" : Str))=false:=by decide) (he:starEach (e::es) X.env=(false,eval e X.env)::starEach es X.env:=by rfl) (hpl:(backTo pos (starEach es X.env)).any (·.1)=false:=by rfl) :
  PE X (.Call (.Name x p) (e::es) [] pos) (o5 sp dvs E t):=by
 intro pins s σ H Q I h;refine wpAny_Call_Name_kw (gM I hg hm ?_ hdb);refine W.callWith_K (h₀:=X.base) I.ok.mod.kin hk (thn (ha pos pins s σ H _ I h) fun us s1 ⟨vs,H1,I1,r,q⟩=>⟨I1.kIn,?_⟩) he hpl;exact sE F hr hb hd hx I1 r q
structure Mk(K:W.Frag)(C f:Addr):Prop where
 makes:W.makesIn K C=true
 init:W.findIn K (.ref C) "__init__" = some (some (.ref f))
 fn:W.isFn K (.ref f)=true
 kp:W.keepIn K (.ref C)=true
theorem sD{pins:List (Addr×Obj)}{σ:St}{H:Hp}{s:Shared}{Q:VK}{us:List Value}{vs:List V}(M:Mk X.K C f)(F:Bf X.prog X.w X.K X.mg X.base CX k f fd ps sp)(hr:y7 (k+1) X.A)(hb:eW X.K fd ps ds)(hd:aT dvs ds)
  (hx:gh CX X E) (I:yI X pins σ H s) (r:aT vs us)
  (h:∀x dx,H x=none->H dx=none->dx≠x->sp (.ref x::(vs++dvs)) (upd (upd H dx (.own x)) x (.ins C dx [])) (fun v H2=>v = .non∧Q (.ref x) H2) E) :
  wpAny (model X.prog X.w) X.A (call (.ref C) us) (EP X pins σ Q) X.xe s:=by
 have hq:=h (s.heap.objs.size+1) s.heap.objs.size (I.hok.fresh (Nat.le_succ _)) (I.hok.fresh (Nat.le_refl _)) (Nat.ne_of_lt (Nat.lt_succ_self _));have I2:=yI.made (C:=C) I;have r2:aT (V.ref (s.heap.objs.size+1)::(vs++dvs)) (Value.ref (s.heap.objs.size+1)::(us++ds)):=.cons rfl (r.append hd);have hl:(Value.ref (s.heap.objs.size+1)::us++ds).length=ps.length:=by
  have e:=r2.length;rw[F.len _ _ _ _ hq]at e;exact e.symm
 refine wpAny_call (sS (f:=f) I.kIn M.makes M.init (beq_iff_eq.mp M.fn) (codeAny_mono (F.run _ X.stack _ _ ⟨Value.ref (s.heap.objs.size+1)::us,[]⟩ (Value.ref (s.heap.objs.size+1)::(us++ds)) _ _ E (hr.make C us [])
  (I2.env0.make C us []) (hb _ (Value.ref (s.heap.objs.size+1)::us) I2.kIn hl) r2 hq) fun r s' hq'=>?_))
 cases r with
 | error e=>exact hx pins σ _ _ e s' I2 hq'
 | ok fl =>
  cases fl with
  | ret u =>
   obtain⟨v,H',I3,rv,ev,q3⟩:=I2.after hq';subst ev;exact⟨rv,⟨V.ref (s.heap.objs.size+1),H',I3,rfl,q3⟩⟩
  | next=>exact False.elim hq'
  | brk=>exact False.elim hq'
  | cont=>exact False.elim hq'
theorem uK(M:Mk X.K C f)(F:Bf X.prog X.w X.K X.mg X.base CX k f fd ps sp)(hr:y7 (k+1) X.A)(hg:Gl X x)(hm:X.mg x=some (.ref C))(hb:eW X.K fd ps ds)(hd:aT dvs ds)(hx:gh CX X E)
  (ha:PA X (e::es) t) (hdb:(x == ("__debug__" : Str))=false:=by decide) (he:starEach (e::es) X.env=(false,eval e X.env)::starEach es X.env:=by rfl) (hpl:(backTo pos (starEach es X.env)).any (·.1)=false:=by rfl) :
  PE X (.Call (.Name x p) (e::es) [] pos) (vG C sp dvs E t):=by
 intro pins s σ H Q I h;refine wpAny_Call_Name_kw (gM I hg hm ?_ hdb);refine W.callWith_K (h₀:=X.base) I.ok.mod.kin M.kp (thn (ha pos pins s σ H _ I h) fun us s1 ⟨vs,H1,I1,r,q⟩=>⟨I1.kIn,?_⟩) he hpl;exact sD M F hr hb hd hx I1 r q
end
section
variable {X:Cx} {CX:CXT} {k:Nat} {f C:Addr} {fd:FuncData} {ps ks:List Str} {sp:Sp} {E:XK} {x m:Str} {p pos apos kpos:Pos} {e o:Expr} {es:List Expr} {kws:List Keyword} {te ta:TE} {t tk:TA} {nm:Option Str}
variable {g:List Value->List Value->List Value} {gV:List V->List V->List V}
end
structure yG(N P:List Str)(sc:Scope):Prop where
 kind:sc.kind = .function
 co:sc.isCoroutine=false
 gen:sc.isGenerator=false
 nd:N.Nodup
 pre:N.take P.length=P
 par:∀x∈P,sc.names.lookup x=some .local∨sc.names.lookup x=some .cell
 nofree:∀y∈sc.names,y.2≠.free
theorem kM{kindOf:Str->Option NameKind}{x:Str}:∀{binds:List (Str×Value)} {m:Str->Option Value},(∀v,(x,v)∉binds)->bindL kindOf binds m x=m x
 | [],_,_=>rfl
 | (n,v)::r,m,h=>by
  unfold bindL;rw[kM fun w hw=>h w (List.mem_cons_of_mem _ hw)]
  split
  ·have:x≠n:=by rintro rfl;exact h v List.mem_cons_self
   simp[this]
  ·rfl
theorem kO{kindOf:Str->Option NameKind}{x:Str}:∀{binds:List (Str×Value)} {m:Str->Option Value},(∀v,(x,v)∉binds)->bindC kindOf binds m x=m x
 | [],_,_=>rfl
 | (n,v)::r,m,h=>by
  unfold bindC;rw[kO fun w hw=>h w (List.mem_cons_of_mem _ hw)]
  split
  ·rfl
  ·have:x≠n:=by rintro rfl;exact h v List.mem_cons_self
   simp[this]
theorem kN{kindOf:Str->Option NameKind}{x:Str}{v:Value}:∀{P:List Str} {vs:List Value} {i:Nat} {m:Str->Option Value},P.Nodup->P[i]? = some x->vs[i]? = some v->kindOf x=some .local ->
  bindL kindOf (P.zip vs) m x=some v
 | [],_,_,_,_,h,_,_=>by simp at h
 | _::_,[],_,_,_,_,h,_=>by simp at h
 | p::P,w::vs,0,m,nd,h1,h2,hk=>by
  simp at h1 h2;subst h1;subst h2;show bindL kindOf ((p,w)::P.zip vs) m p=_;unfold bindL;rw[kM fun v hv=>(List.nodup_cons.mp nd).1 (List.of_mem_zip hv).1,if_pos hk];simp
 | p::P,w::vs,i+1,m,nd,h1,h2,hk=>by
  show bindL kindOf ((p,w)::P.zip vs) m x=_;unfold bindL;exact kN (i:=i) (List.nodup_cons.mp nd).2 (by simpa using h1) (by simpa using h2) hk
theorem kP{kindOf:Str->Option NameKind}{x:Str}{v:Value}:∀{P:List Str} {vs:List Value} {i:Nat} {m:Str->Option Value},P.Nodup->P[i]? = some x->vs[i]? = some v->kindOf x≠some .local ->
  bindC kindOf (P.zip vs) m x=some v
 | [],_,_,_,_,h,_,_=>by simp at h
 | _::_,[],_,_,_,_,h,_=>by simp at h
 | p::P,w::vs,0,m,nd,h1,h2,hk=>by
  simp at h1 h2;subst h1;subst h2;show bindC kindOf ((p,w)::P.zip vs) m p=_;unfold bindC;rw[kO fun v hv=>(List.nodup_cons.mp nd).1 (List.of_mem_zip hv).1,if_neg hk];simp
 | p::P,w::vs,i+1,m,nd,h1,h2,hk=>by
  show bindC kindOf ((p,w)::P.zip vs) m x=_;unfold bindC;exact kP (i:=i) (List.nodup_cons.mp nd).2 (by simpa using h1) (by simpa using h2) hk
def eS(N:List Str)(vs:List V):St:=vs.map some++List.replicate (N.length - vs.length) none
def bw(CX:CXT)(P:Program)(w:World)(K:W.Frag)(mg:Str->Option Value)(base:Heap)(N:List Str)(qual:Str)(scope:Scope)(f:Addr)(cd:Value)(A:Around)(outer:List Env)(s:Shared)(H:Hp)(E:XK):Cx where
 prog:=P
 w:=w
 K:=K
 mg:=mg
 base:=base
 A:=A.deeper (envOfC qual scope s.heap.objs.size f cd)
 N:=N
 s₀:=s
 H₀:=H
 env:=envOfC qual scope s.heap.objs.size f cd
 outer:=outer
 stack:=envOfC qual scope s.heap.objs.size f cd::outer
 ex:=[]
 calm:=true
 fn:=fun _=>true
 pn:=[]
 xe:=fun e s'=>wpAny (model P w) (A.deeper (envOfC qual scope s.heap.objs.size f cd)) (leaving (envOfC qual scope s.heap.objs.size f cd) e) (fun _ s''=>CX outer H s E e s'') (fun e' s''=>CX outer H s E e' s'') s'
theorem nK{sc:Scope}{n:Nat}{x:Str}(h:sc.names.lookup x=some .cell):∃c,(cellsFrom n sc.names []).lookup x=some c:=by
 have q:=W.cellsFrom_some sc.names n [] (.inl h);exact Option.isSome_iff_exists.mp q
theorem qX{CX:CXT}{P:Program}{w:World}{K:W.Frag}{mg:Str->Option Value}{base:Heap}{N ps:List Str}{qual:Str}{scope:Scope}{f:Addr}{cd:Value}{A:Around}{outer:List Env}{s s1:Shared}{H:Hp}{E:XK}{us:List Value}{vs:List V}
  (S:yG N ps scope) (hd:A.handled=none) (e0:C8 P w K mg base A outer s H) (hl:vs.length=ps.length) (r:aT vs us)
  (x:InCallC s s.heap.objs.size (bindL (envOfC qual scope s.heap.objs.size f cd).kindOf (ps.zip us) fun _=>none) (cellsFrom (s.heap.objs.size+1) scope.names []) (bindC (envOfC qual scope s.heap.objs.size f cd).kindOf (ps.zip us) fun _=>none) s1) :
  yI (bw CX P w K mg base N qual scope f cd A outer s H E) [] (eS N vs) H s1:=by
 have hpl:ps.length≤N.length:=by have:=congrArg List.length S.pre;rw[List.length_take]at this;omega
 obtain⟨h1,tk,rfl,hk⟩:=x.done;have noA:∀b:Addr,b∉(bw CX P w K mg base N qual scope f cd A outer s H E).ex:=fun b z=>absurd (show b∈([]:List Addr) from z) (by simp);refine⟨⟨e0.mod,S.kind,rfl,rfl,Nat.le_refl _,fun y z c h1 h2=>?_,fun y hy=>?_,fun y c _ h=>?_,fun _=>hd,Around.frames_deeper e0.frames,.inr ⟨rfl,rfl⟩,fun b z=>absurd z (noA b),e0.bs,e0.bsz,fun b _ _=>noA b,fun b z=>absurd z (noA b),e0.funs,e0.frf⟩,
  rfl,e0.bare,Un.kept hk,⟨_,x.toInCall.ns,fun i y v h1 h2 h3=>?_⟩,fun y c h=>⟨_,x.cell y c h⟩,e0.hok.fresh (Nat.le_refl _),fun y c h=>?_,fun p hp=>absurd (show p∈([]:List (Addr×Obj)) from hp) (by simp),e0.hok.kept hk,?_⟩
 ·exact name_of_addr x.apart (PySem.mem_of_lookup h1) (PySem.mem_of_lookup h2)
 ·have hy:scope.names.lookup y=some .cell∨scope.names.lookup y=some .free:=hy
  rcases hy with hy|hy
  ·exact nK hy
  ·exact absurd rfl (S.nofree _ (PySem.mem_of_lookup hy))
 ·exact Nat.le_of_lt (x.above y c (PySem.mem_of_lookup h))
 ·have hi:i<vs.length:=by
   unfold eS at h2
   by_cases hi:i<vs.length
   ·exact hi
   ·rw[List.getElem?_append_right (by simpa using hi)]at h2
    rw[List.getElem?_replicate]at h2
    split at h2 <;> cases h2
  have ha:vs[i]? = some v:=by
   unfold eS at h2;rw[List.getElem?_append_left (by simpa using hi),List.getElem?_map]at h2;cases e:vs[i]? with
   | none=>rw[e]at h2;cases h2
   | some a=>rw[e]at h2;cases h2;rfl
  obtain⟨u,hu,rv⟩:=r.get ha;have hp:ps[i]? = some y:=by
   rw[<- S.pre,List.getElem?_take_of_lt (by omega)];exact h1
  have ndP:ps.Nodup:=by rw[<- S.pre];exact S.nd.sublist (List.take_sublist _ _)
  refine⟨u,rv,?_⟩;rcases S.par y (List.mem_of_getElem? hp) with k|k
  ·exact .inl ⟨k,kN ndP hp hu k⟩
  ·obtain⟨c,e⟩:=nK (n:=s.heap.objs.size+1) k
   refine .inr ⟨.inl k,c,e,?_⟩;have q:=x.cell y c e;rw[kP ndP hp hu (by show scope.names.lookup y≠_;rw[k];decide)]at q;exact q
 ·exact e0.hok.fresh (Nat.le_of_lt (x.above y c (PySem.mem_of_lookup h)))
 ·unfold eS
  show _=N.length;rw[List.length_append,List.length_map,List.length_replicate];omega
theorem m7{CX:CXT}{P:Program}{w:World}{K:W.Frag}{mg:Str->Option Value}{base:Heap}{k:Nat}{f:Addr}{name qual:Str}{params:Arguments}{body:List Stmt}{scope:Scope}{dV kV doc pm cdv ct oc:Value}{an od:Option Addr}
  {osl:Array (Option Value)} {N ps:List Str} {sp:Sp} (lk:K.lookup f=some ⟨oc,od,.func (W.fnOf name qual params body scope dV kV doc pm an cdv ct),osl⟩) (hcd:W.codeIn K cdv qual=true) (S:yG N ps scope)
  (len:∀vs H Q E,sp vs H Q E->vs.length=ps.length)
  (hbody:∀(A:Around) (outer:List Env) (s:Shared) (H:Hp) (vs:List V) (Q:VK) (E:XK),y7 k (A.deeper (envOfC qual scope s.heap.objs.size f cdv))->sp vs H Q E ->
   ∃t,PSs (bw CX P w K mg base N qual scope f cdv A outer s H E) body t∧t { nx:=fun _ H'=>Q .non H',rt:=Q } (eS N vs) H) :
  Bf P w K mg base CX (k+1) f (W.fnOf name qual params body scope dV kV doc pm an cdv ct) ps sp:=by
 refine⟨len,fun A outer s H args us vs Q E hr e0 hb r hsp=>?_⟩;have hl:=len _ _ _ _ hsp;have KX:K.In s.heap:=e0.mod.kin.keeps fun b o e=>(e0.bs b o e).1;have lim:s.heap.NoLimit:=e0.mod.nolimit.keeps fun b o e=>(e0.bs b o e).1;have hkind:∀y∈ps.zip us,scope.names.lookup y.1=some .local∨(scope.names.lookup y.1=some .cell∧((cellsFrom (s.heap.objs.size+1) scope.names []).lookup y.1).isSome=true):=fun ⟨n,v⟩ hy=>by
  rcases S.par n (List.of_mem_zip hy).1 with q|q
  ·exact .inl q
  ·exact .inr ⟨q,W.cellsFrom_some _ _ _ (.inl q)⟩
 refine codeAny_call_function hr.depth (KX _ _ lk) rfl S.co S.gen rfl (W.codeRec_of KX hcd) (hb _ _ _ _ ?_);refine wpAny_newFunctionEnv_cells S.kind hkind fun env he s1 x=>?_;subst he;refine⟨lim.keeps x.toInCall.keep,codeAny_func ?_⟩;obtain⟨t,ht,hq⟩:=hbody A outer s H vs Q E (hr.deeper _) hsp;have I:yI (bw CX P w K mg base N qual scope f cdv A outer s H E) [] (eS N vs) H s1:=qX S hr.hd e0 hl r x;refine wpAny_mono (ht [] s1 (eS N vs) H _ I hq) (fun fl s' hs=>?_) fun e s' hs=>hs;have fin:∀{σ':St} {H':Hp} {v:V} {u:Value},yI (bw CX P w K mg base N qual scope f cdv A outer s H E) [] σ' H' s'->aW v u->Q v H'->CE outer P w H s Q u s' :=
  fun {σ' H' v u} J rv q=>⟨v,H',J.os,J.bare,J.base,J.hok,rv,q⟩
 cases fl with
 | ret u =>
  obtain⟨v,σ',H',J,rv,q⟩:=hs;exact fin J rv q
 | next =>
  obtain⟨σ',H',J,q⟩:=hs;exact fin (v:=V.non) (u:=Value.none) J rfl q
 | brk =>
  obtain⟨_,_,_,q⟩:=hs;exact False.elim q
 | cont =>
  obtain⟨_,_,_,q⟩:=hs;exact False.elim q
end L2
namespace L2
open PySem PySem.Spec PyProof.Rows
section
variable {X:Cx} {x:Str} {p pos:Pos} {e:Expr} {es:List Expr} {t:TA} {id T:String} {r:List V->Hp->VK->Prop}
def tCB(r:List V->Hp->VK->Prop)(t:TA):TE:=fun σ H Q=>t σ H fun vs H1=>r vs H1 Q
theorem aF(hc:eJ X (.builtin id) r)(hg:Gl X x)(hm:X.mg x=none)(hv:bootBuiltins x=some (.builtin id))(ha:PA X (e::es) t)(hn:x≠"__name__":=by decide)(hdb:(x == ("__debug__" : Str))=false:=by decide)
  (he:starEach (e::es) X.env=(false,eval e X.env)::starEach es X.env:=by rfl) (hpl:(backTo pos (starEach es X.env)).any (·.1)=false:=by rfl):PE X (.Call (.Name x p) (e::es) [] pos) (tCB r t):=by
 intro pins s σ H Q I h;refine wpAny_Call_Name_kw (fT I hg hm hv ?_ hn hdb);exact PyProof.Rows.callWith_builtin1 (thn (ha pos pins s σ H _ I h) fun us s1 ⟨vs,H1,I1,r1,q1⟩=>hc pins s1 σ H1 vs us Q I1 r1 q1) he hpl
theorem ej(hc:eJ X (.type T) r)(hg:Gl X x)(hm:X.mg x=none)(hv:bootBuiltins x=some (.type T))(ha:PA X (e::es) t)(hn:x≠"__name__":=by decide)(hdb:(x == ("__debug__" : Str))=false:=by decide)
  (he:starEach (e::es) X.env=(false,eval e X.env)::starEach es X.env:=by rfl) (hpl:(backTo pos (starEach es X.env)).any (·.1)=false:=by rfl):PE X (.Call (.Name x p) (e::es) [] pos) (tCB r t):=by
 intro pins s σ H Q I h;refine wpAny_Call_Name_kw (fT I hg hm hv ?_ hn hdb);exact PyProof.Rows.callWith_type1 (thn (ha pos pins s σ H _ I h) fun us s1 ⟨vs,H1,I1,r1,q1⟩=>hc pins s1 σ H1 vs us Q I1 r1 q1) he hpl
end
end L2
namespace HT
open PySem PyProof.Rows
section
open PySem.SeqAt
open PySem.AutoSeq1 (wpAny_loadPart')
open PySem.MeetsSeq PySem.MeetsSeq2 PySem.MeetsSeq3
end
section
variable {prog:Program} {w:World} {A:Around} {E:Value->Shared->Prop} {s:Shared}
def sIx(n d:Nat):Option Int->Nat
 | none=>d
 | some v=>if v<0 then (v+(n:Int)).toNat else min v.toNat n
theorem sIx_none(n d:Nat):sIx n d none=d:=rfl
theorem sIx_nat(n d k:Nat):sIx n d (some (k:Int))=min k n:=by
 show(if (k:Int)<0 then ((k:Int)+(n:Int)).toNat else min (k:Int).toNat n)=min k n
 rw[if_neg (by omega),Int.toNat_natCast]
end
end HT
namespace L2
open PySem PySem.Spec PyProof.Rows
abbrev TO:=St->Hp->(Option Int->Hp->Prop)->Prop
def PO(X:Cx)(e:Option Expr)(t:TO):Prop :=
 ∀(pins:List (Addr×Obj)) (s:Shared) (σ:St) (H:Hp) (Q:Option Int->Hp->Prop),yI X pins σ H s->t σ H Q ->
  wpAny (model X.prog X.w) X.A (evalPart e X.env) (fun u s'=>∃o H',yI X pins σ H' s'∧IsPart u o∧Q o H') X.xe s
def ur:TO:=fun _ H Q=>Q none H
def xm(t:TE):TO:=fun σ H Q=>t σ H fun x H1=>∃i,x = .int i∧Q (some i) H1
section
variable {X:Cx} {e:Expr} {te:TE} {lo hi:Option Expr} {tl th:TO} {pos p2:Pos}
theorem iU:PO X none ur:=by
 intro pins s σ H Q I h;rw[evalPart_none];exact wpAny_pure ⟨none,H,I,.none,h⟩
theorem gz(h:PE X e te):PO X (some e) (xm te):=by
 intro pins s σ H Q I hw;rw[evalPart_some];refine thn (h pins s σ H _ I hw) fun u s1 ⟨x,H1,I1,r1,q1⟩=>?_;obtain⟨i,rfl,q⟩:=q1;obtain⟨t,rfl⟩:=r1;exact⟨some i,H1,I1,.int i t,q⟩
def SlR(X:Cx)(r:V->Option Int->Option Int->Hp->VK->Prop):Prop :=
 ∀(pins:List (Addr×Obj)) (s:Shared) (σ:St) (H:Hp) (x:V) (v vl vu:Value) (lo hi:Option Int) (sl:Addr) (Q:VK),yI X pins σ H s->aW x v->s.heap.IsSliceOf sl vl vu .none->IsPart vl lo->IsPart vu hi->r x lo hi H Q ->
  ∃T id,typeLookup (.type T) "__getitem__" = pure (some (.builtin id))∧s.TypeIs v T∧wpAny (model X.prog X.w) X.A (getItem v (.ref sl)) (EP X pins σ Q) X.xe s
def tSl(r:V->Option Int->Option Int->Hp->VK->Prop)(te:TE)(tl th:TO):TE:=fun σ H Q=>te σ H fun x H1=>tl σ H1 fun l H2=>th σ H2 fun u H3=>r x l u H3 Q
theorem gA{r:V->Option Int->Option Int->Hp->VK->Prop}(hr:SlR X r)(he:PE X e te)(hl:PO X lo tl)(hu:PO X hi th):PE X (.Subscript e (.Slice lo hi none p2) pos) (tSl r te tl th):=by
 intro pins s σ H Q I h;refine Subscript_ (thn (he pins s σ H _ I h) fun v s1 ⟨x,H1,I1,r1,q1⟩=>?_);refine wpAny_Slice (thn (hl pins s1 σ H1 _ I1 q1) fun vl s2 ⟨l,H2,I2,pl,q2⟩=>thn (hu pins s2 σ H2 _ I2 q2) fun vu s3 ⟨u,H3,I3,pu,q3⟩=>?_);rw[evalPart_none];refine wpAny_pure ?_;have I4:yI X pins σ H3 { s3 with heap:=s3.heap.push { cls:=.type "slice",data:=.fields #[vl,vu,.none] } }:=I3.kept (t':=s3.toks) fun b ob q=>Heap.get?_push_of_some _ q;obtain⟨T,id,hT,ht,hg⟩:=hr pins { s3 with heap:=s3.heap.push { cls:=.type "slice",data:=.fields #[vl,vu,.none] } } σ H3 x v vl vu l u s3.heap.objs.size Q I4 r1 (Heap.IsSliceOf.new ..) pl pu q3;show wpAny (model X.prog X.w) X.A (subscriptTail e (.Slice lo hi none p2) v (.ref s3.heap.objs.size)) (EP X pins σ Q) X.xe { s3 with heap:=s3.heap.push { cls:=.type "slice",data:=.fields #[vl,vu,.none] } };exact tail_any (ops:=[.ref s3.heap.objs.size,v]) ht hT hg (by with_unfolding_all rfl)
def fP(xs:List V)(lo hi:Option Int):List V:=(xs.drop (HT.sIx xs.length 0 lo)).take (HT.sIx xs.length xs.length hi - HT.sIx xs.length 0 lo)
theorem d5(xs:List V)(lo hi:Option Int):(fP xs lo hi).length≤xs.length:=by
 unfold fP;rw[List.length_take,List.length_drop];omega
end
end L2
namespace L2
open PySem PySem.Spec PyProof.Rows
def ixN(n:Nat)(i:Int):Option Nat:=if 0≤i then (if i<n then some i.toNat else none) else if -(n:Int)≤i then some (i+n).toNat else none
def atI{α:Type}(xs:List α)(i:Int):Option α:=(ixN xs.length i).bind fun j=>xs[j]?
theorem pW{n:Nat}{i:Int}{j:Nat}(h:ixN n i=some j):seqIndex? i n=some j∧j<n∧-(n:Int)≤i∧i<n:=by
 unfold ixN at h
 by_cases h0:0≤i
 ·rw[if_pos h0]at h
  by_cases h1:i<n
  ·rw[if_pos h1]at h
   have e:i.toNat=j:=Option.some.inj h;exact⟨by rw[seqIndex_of h0 h1,e],by omega,by omega,h1⟩
  ·rw[if_neg h1]at h;cases h
 ·rw[if_neg h0]at h
  by_cases h1:-(n:Int)≤i
  ·rw[if_pos h1]at h
   have e:(i+n).toNat=j:=Option.some.inj h;exact⟨by rw[seqIndex_neg (by omega) h1,e],by omega,h1,by omega⟩
  ·rw[if_neg h1]at h;cases h
theorem qo{α:Type}{xs:List α}{i:Int}{v:α}(h:atI xs i=some v):∃j,seqIndex? i xs.length=some j∧xs[j]? = some v∧j<xs.length∧-(xs.length:Int)≤i∧i<xs.length:=by
 unfold atI at h;cases e:ixN xs.length i with
 | none=>rw[e]at h;cases h
 | some j =>
  rw[e]at h;obtain⟨h1,h2,h3,h4⟩:=pW e;exact⟨j,h1,h,h2,h3,h4⟩
theorem d6{α:Type}{xs:List α}{j:Nat}{v:α}(h:xs[j]? = some v):atI xs (j:Int)=some v:=by
 have hj:j<xs.length:=(List.getElem?_eq_some_iff.mp h).1;have e:ixN xs.length (j:Int)=some j:=by
  unfold ixN;rw[if_pos (by omega),if_pos (by omega)];simp
 unfold atI;rw[e];exact h
theorem uf{α:Type}(xs:List α)(v:α):atI (xs++[v]) (-1)=some v:=by
 have hl:(xs++[v]).length=xs.length+1:=by simp
 have e:ixN (xs++[v]).length (-1)=some xs.length:=by
  unfold ixN;rw[hl,if_neg (by decide),if_pos (by omega)]
  congr 1
  omega
 unfold atI;rw[e];show(xs++[v])[xs.length]? = some v;simp
def vC(b:Expr):Prop:=∀o i,subscripted b false o i=operate [o,i] (getItem o i)
def IxR(X:Cx)(r:R2):Prop :=
 ∀(value slice:Expr) (pins:List (Addr×Obj)) (s:Shared) (σ:St) (H:Hp) (x y:V) (v u:Value) (Q:VK),yI X pins σ H s->aW x v->aW y u->r x y H Q ->
  subscripted slice false v u=operate [v,u] (getItem v u)->wpAny (model X.prog X.w) X.A (subscriptTail value slice v u) (EP X pins σ Q) X.xe s
def MtR(X:Cx)(id:String)(r:V->List V->Hp->VK->Prop):Prop :=
 ∀(pins:List (Addr×Obj)) (s:Shared) (σ:St) (H:Hp) (x:V) (xs:List V) (v:Value) (us:List Value) (Q:VK),yI X pins σ H s->aW x v->aT xs us->r x xs H Q ->
  wpAny (model X.prog X.w) X.A (call (.builtin id) (v::us)) (EP X pins σ Q) X.xe s
section
variable {X:Cx} {a b:Expr} {ta tb:TE} {pos:Pos}
theorem aj{r:R2}(hr:IxR X r)(ha:PE X a ta)(hb:PE X b tb)(hs:vC b):PE X (.Subscript a b pos) (tOp r ta tb):=by
 intro pins s σ H Q I h;exact Subscript_ (xc ha hb I h fun v u s2 x y H2 I2 rx ry q=>hr a b pins s2 σ H2 x y v u Q I2 rx ry q (hs _ _))
inductive ET (K:W.Frag) (x y:V) (H:Hp) (Q:VK):Prop
 | mk (p:Addr) (xs:List V) (i:Int) (v:V) (e:x = .ref p) (f:y = .int i) (s:SqL K H p xs) (a:atI xs i=some v) (q:Q v H):ET K x y H Q
inductive EL (K:W.Frag) (x y:V) (H:Hp) (Q:VK):Prop
 | mk (p:Addr) (xs:List V) (i:Int) (v:V) (e:x = .ref p) (f:y = .int i) (s:SqT K H p xs) (a:atI xs i=some v) (q:Q v H):EL K x y H Q
theorem aM:IxR X (ET X.K):=by
 intro value slice pins s σ H x y v u Q I rx ry h hs;obtain⟨p,xs,i,z,rfl,rfl,hq,he,q⟩:=h;cases rx;obtain⟨t,rfl⟩:=ry;obtain⟨its,r,pl,hz⟩:=I.list hq;obtain⟨j,h1,h2,h3,h4,h5⟩:=qo he;obtain⟨w,ew,rw'⟩:=r.get h2;have hl:=r.length;have hn:=lu;have fin:EP X pins σ Q w s:=⟨z,H,I,rw',q⟩
 by_cases h0:0≤i
 ·have hj:i.toNat=j:=by
   rw[seqIndex_of h0 h5]at h1;exact Option.some.inj h1
  exact item_listR pl.isList h0 (by omega) (by rw[hj];simpa using ew) fin hs
 ·have hj:(i+(its.toArray.size:Int)).toNat=j:=by
   rw[seqIndex_neg (by omega) h4]at h1;rw[List.size_toArray,<- hl];exact Option.some.inj h1
  exact subscriptTail_builtinR (x:=w) pl.isList.typeIs slot_list_getitem.lookup
   (wpAny_getItem_list_neg (Q:=fun r s'=>r=w∧EP X pins σ Q r s') pl.isList (by omega) (by rw[List.size_toArray] <;> omega) (by omega) (by rw[hj];simpa using ew) ⟨rfl,fin⟩) hs
theorem ai:IxR X (EL X.K):=by
 intro value slice pins s σ H x y v u Q I rx ry h hs;obtain⟨p,xs,i,z,rfl,rfl,hq,he,q⟩:=h;cases rx;obtain⟨t,rfl⟩:=ry;obtain⟨its,r,pl,hz⟩:=I.tuple hq;obtain⟨j,h1,h2,h3,h4,h5⟩:=qo he;obtain⟨w,ew,rw'⟩:=r.get h2;have hl:=r.length;have hn:=lu;have fin:EP X pins σ Q w s:=⟨z,H,I,rw',q⟩;exact subscriptTail_builtinR (x:=w) pl.typeIs slot_tuple_getitem.lookup
  (getItem_tuple (j:=j) (Q:=fun r s'=>r=w∧EP X pins σ Q r s') pl (by omega) (by omega) (by rw[List.size_toArray,<- hl];exact h1) (by simpa using ew) ⟨rfl,fin⟩) hs
theorem oB(its:List Value)(n j:Nat)(u:Value):Obj.mapSeq (·.setIfInBounds j u) { cls:=.type "list",data:=.seq its.toArray n }={ cls:=.type "list",data:=.seq (its.set j u).toArray n }:=by
 simp[Obj.mapSeq]
theorem yI.lst{pins:List (Addr×Obj)}{σ:St}{H:Hp}{s:Shared}{p:Addr}{xs:List V}(I:yI X pins σ H s)(h:H p=some (.lst xs)) :
  ∃(its:List Value) (n:Nat),aT xs its∧s.heap.get? p=some { cls:=.type "list",data:=.seq its.toArray n }∧xs.length≤sizeLine:=by
 obtain⟨z,its,n,r,e⟩:=I.hok p _ h;exact⟨its,n,r,e,z⟩
theorem yI.lstUpd{pins:List (Addr×Obj)}{σ:St}{H:Hp}{s:Shared}{p:Addr}{xs ys:List V}{its its':List Value}{n n':Nat}{f:Obj->Obj}(I:yI X pins σ H s)(h:H p=some (.lst xs))
  (ho:s.heap.get? p=some { cls:=.type "list",data:=.seq its.toArray n }) (hf:f { cls:=.type "list",data:=.seq its.toArray n }={ cls:=.type "list",data:=.seq its'.toArray n' }) (r:aT ys its') (hz:ys.length≤sizeLine) (t:Nat) :
  yI X pins σ (upd H p (.lst ys)) { s with heap:=s.heap.update p f,toks:=t }:=by
 have e:(s.heap.update p f).get? p=some { cls:=.type "list",data:=.seq its'.toArray n' }:=by
  rw[Heap.get?_update_self f ho (by rw[hf] <;> rfl),hf]
 refine I.write (x:=p) (e:=p) (by rw[h];trivial) (.inl rfl) (fun b u hb q=>(Heap.get?_update_other _ _ (Ne.symm hb)).trans q) ⟨_,e⟩ ?_;exact⟨hz,its',n',r,e⟩
def xF:V->V->V->Hp->(Hp->Prop)->Prop:=fun o i v H Q=>∃p xs k j,o = .ref p∧i = .int k∧H p=some (.lst xs)∧ixN xs.length k=some j∧Q (upd H p (.lst (xs.set j v)))
theorem sA:xh X xF:=by
 intro pins s σ H o i v ov iv u Q I ro ri rv h;obtain⟨p,xs,k,j,rfl,rfl,hp,hj,q⟩:=h;cases ro;obtain⟨t,rfl⟩:=ri;obtain⟨its,n,r,ho,hz⟩:=I.lst hp;obtain⟨h1,h2,h3,h4⟩:=pW hj;have hl:=r.length;have hn:=lu;have I':yI X pins σ (upd H p (.lst (xs.set j v))) { s with heap:=s.heap.update p (Obj.mapSeq (·.setIfInBounds j u)) } :=
  I.lstUpd hp ho (oB its n j u) (r.set rv j) (by rw[List.length_set];exact hz) s.toks
 by_cases h0:0≤k
 ·have hk:k.toNat=j:=by
   rw[seqIndex_of h0 h4]at h1;exact Option.some.inj h1
  exact W.ki_setAt ho h0 (by omega) (by rw[List.size_toArray,<- hl];exact h4) (by rw[hk];exact⟨_,I',q⟩)
 ·have hk:(k+(its.toArray.size:Int)).toNat=j:=by
   rw[seqIndex_neg (by omega) h3]at h1;rw[List.size_toArray,<- hl];exact Option.some.inj h1
  exact W.ki_setBack ho (by omega) (by rw[List.size_toArray,<- hl];exact h3) (by omega) (by rw[hk];exact⟨_,I',q⟩)
theorem kS(lo hi:Option Int)(n:Nat):(sliceBounds lo hi none n).1=((HT.sIx n 0 lo:Nat):Int)∧(sliceBounds lo hi none n).2.1=((HT.sIx n n hi:Nat):Int)∧(sliceBounds lo hi none n).2.2=1:=by
 refine⟨?_,?_,rfl⟩
 ·cases lo with
  | none=>simp[sliceBounds,HT.sIx]
  | some i =>
   simp only[sliceBounds,HT.sIx,Option.getD_none,show(1:Int)>0 by decide,if_true]
   by_cases h:i<0
   ·simp only[h,if_true] <;> omega
   ·simp only[h,if_false] <;> omega
 ·cases hi with
  | none=>simp[sliceBounds,HT.sIx]
  | some i =>
   simp only[sliceBounds,HT.sIx,Option.getD_none,show(1:Int)>0 by decide,if_true]
   by_cases h:i<0
   ·simp only[h,if_true] <;> omega
   ·simp only[h,if_false] <;> omega
theorem jT(its:List Value)(lo hi:Option Int):slicePick its.toArray lo hi none=((its.drop (HT.sIx its.length 0 lo)).take (HT.sIx its.length its.length hi - HT.sIx its.length 0 lo)).toArray:=by
 obtain⟨h1,h2,h3⟩:=kS lo hi its.toArray.size;unfold slicePick;rw[h1,h2,h3];simp only[sliceRange_one,pick_run,List.size_toArray] <;> rfl
def yv(K:W.Frag):V->Option Int->Option Int->Hp->VK->Prop:=fun x lo hi H Q=>∃a xs,x = .ref a∧SqL K H a xs∧∀p,H p=none->Q (.ref p) (upd H p (.lst (fP xs lo hi)))
theorem uC:SlR X (yv X.K):=by
 intro pins s σ H x v vl vu lo hi sl Q I rx hs pl pu h;obtain⟨a,xs,rfl,hx,q⟩:=h;cases rx;obtain⟨its,r,ht,hz⟩:=I.list hx;have hlen:=r.length;refine⟨"list",_,slot_list_getitem.lookup,ht.isList.typeIs,?_⟩;refine wpAny_getItem_list_slice ht.isList hs pl pu .none (by simp) ?_ (by rw[List.size_toArray] <;> omega);rw[jT,<- hlen];refine⟨.ref s.heap.objs.size,_,I.laid (t':=s.toks) (o:=.lst (fP xs lo hi)) (fun b ob q=>Heap.get?_push_of_some _ q) (Nat.le_refl _) ?_,rfl,q _ (I.hok.fresh (Nat.le_refl _))⟩;exact⟨Nat.le_trans (d5 xs lo hi) hz,_,0,(r.drop (HT.sIx xs.length 0 lo)).take (HT.sIx xs.length xs.length hi - HT.sIx xs.length 0 lo),Heap.get?_push_size _ rfl⟩
def vU:V->Bool
 | .non=>true
 | .bl _=>true
 | .int _=>true
 | .str _=>true
 | _=>false
def eqV:V->V->Bool
 | .non,.non=>true
 | .bl a,.bl b=>a == b
 | .bl a,.int b=>(if a then 1 else 0) == b
 | .int a,.bl b=>a == (if b then 1 else 0)
 | .int a,.int b=>a == b
 | .str a,.str b=>a == b
 | _,_=>false
theorem wS{A:Around}{s:Shared}{y x:V}{u v:Value}(ry:aW y u)(rx:aW x v)(fy:vU y=true)(fx:vU x=true):SeqAt.EqAt A s u v (eqV y x):=by
 cases y with
 | non =>
  cases ry;cases x with
  | non=>cases rx;exact SeqAt.EqAt.same _
  | bl b=>cases rx;exact SeqAt.EqAt.none_bool b
  | int b=>obtain⟨t,rfl⟩:=rx;exact SeqAt.EqAt.none_int b t
  | str b=>obtain⟨t,rfl⟩:=rx;exact SeqAt.EqAt.none_str b t
  | _=>exact absurd (show false=true from fx) Bool.false_ne_true
 | bl a =>
  cases ry;cases x with
  | non=>cases rx;exact SeqAt.EqAt.bool_none a
  | bl b=>cases rx;exact SeqAt.EqAt.bool_bool a b
  | int b=>obtain⟨t,rfl⟩:=rx;exact SeqAt.EqAt.bool_int a b t
  | str b=>obtain⟨t,rfl⟩:=rx;exact SeqAt.EqAt.bool_str a b t
  | _=>exact absurd (show false=true from fx) Bool.false_ne_true
 | int a =>
  obtain⟨t',rfl⟩:=ry;cases x with
  | non=>cases rx;exact SeqAt.EqAt.int_none a t'
  | bl b=>cases rx;exact SeqAt.EqAt.int_bool a t' b
  | int b=>obtain⟨t,rfl⟩:=rx;exact SeqAt.EqAt.int_int a t' b t
  | str b=>obtain⟨t,rfl⟩:=rx;exact SeqAt.EqAt.int_str a t' b t
  | _=>exact absurd (show false=true from fx) Bool.false_ne_true
 | str a =>
  obtain⟨t',rfl⟩:=ry;cases x with
  | non=>cases rx;exact SeqAt.EqAt.str_none a t'
  | bl b=>cases rx;exact SeqAt.EqAt.str_bool a t' b
  | int b=>obtain⟨t,rfl⟩:=rx;exact SeqAt.EqAt.str_int a t' b t
  | str b=>obtain⟨t,rfl⟩:=rx;exact SeqAt.EqAt.str_str a t' b t
  | _=>exact absurd (show false=true from fx) Bool.false_ne_true
 | _=>exact absurd (show false=true from fy) Bool.false_ne_true
inductive Ex (K:W.Frag) (xs:List V) (H:Hp) (Q:VK):Prop
 | mk (p:Addr) (ys:List V) (e:xs = [.ref p]) (s:SqL K H p ys∨SqT K H p ys) (q:Q (.int ys.length) H):Ex K xs H Q
theorem aI:eJ X (.builtin "len") (Ex X.K):=by
 intro pins s σ H xs us Q I r h;obtain⟨p,ys,rfl,hq,q⟩:=h;obtain⟨u,rfl,rx⟩:=fc r;cases rx;have hn:=lu;rcases hq with hq|hq
 ·obtain⟨its,r',pl,hz⟩:=I.list hq
  have hlen:=r'.length;exact Calls.call_len_list pl.isList (by simp only[List.size_toArray] <;> omega) ⟨.int ys.length,H,I.tok _,⟨s.toks+1,by rw[List.size_toArray,hlen]⟩,q⟩
 ·obtain⟨its,r',pl,hz⟩:=I.tuple hq
  have hlen:=r'.length;exact len_tuple pl (by simp only[List.size_toArray] <;> omega) ⟨.int ys.length,H,I.tok _,⟨s.toks+1,by rw[List.size_toArray,hlen]⟩,q⟩
theorem lS:eJ X (.type "list") (fun xs H Q=>∃p ys,xs = [.ref p]∧(SqL X.K H p ys∨SqT X.K H p ys)∧∀l,H l=none->Q (.ref l) (upd H l (.lst ys))):=by
 intro pins s σ H xs us Q I r h;obtain⟨p,ys,rfl,hq,q⟩:=h;obtain⟨u,rfl,rx⟩:=fc r;cases rx;have fin:∀(its:List Value),aT ys its->ys.length≤sizeLine->∀(h':Heap) (c':Nat),(∀b o',s.heap.get? b=some o'->h'.get? b=some o') ->
   h'.get? s.heap.objs.size=some { cls:=.type "list",dict:=none,data:=.seq its.toArray c',slots:=#[] }->EP X pins σ Q (.ref s.heap.objs.size) { s with heap:=h' }:=fun its r' hz h' c' kp e =>
  ⟨.ref s.heap.objs.size,_,I.laid (t':=s.toks) kp (Nat.le_refl _) (show bK X.prog X.w _ h' _ (.lst ys) from⟨hz,its,c',r',e⟩),rfl,q _ (I.hok.fresh (Nat.le_refl _))⟩
 rcases hq with hq|hq
 ·obtain⟨its,r',pl,hz⟩:=I.list hq
  have hlen:=r'.length;obtain⟨o,ho,hc,n,hd⟩:=pl.isList;exact call_list_seq p (.inl rfl) ho hc hd (fun h' c' kp e=>fin its r' hz h' c' kp e) (by simp only[List.size_toArray] <;> omega)
 ·obtain⟨its,r',pl,hz⟩:=I.tuple hq
  have hlen:=r'.length;obtain⟨o,ho,hc,n,hd⟩:=pl;exact call_list_seq p (.inr rfl) ho hc hd (fun h' c' kp e=>fin its r' hz h' c' kp e) (by simp only[List.size_toArray] <;> omega)
def tyV(K:W.Frag)(T:String)(x:V)(H:Hp):Prop:=match x with
 | .str _=>T = "str"
 | .int _=>T = "int"
 | .ref p=>(T = "list"∧∃xs,SqL K H p xs)∨(T = "tuple"∧∃o,K.lookup p=some o∧o.cls = .type "tuple"∧o.dict=none) ∨
   (T = "dict"∧((∃kvs,H p=some (.dK kvs))∨∃kvs,H p=some (.dT kvs)))∨(T = "set"∧∃S n,H p=some (.set S n))
 | _=>False
theorem rQ{pins:List (Addr×Obj)}{σ:St}{H:Hp}{s:Shared}{T:String}{x:V}{v:Value}(I:yI X pins σ H s)(r:aW x v)(ty:tyV X.K T x H) :
  s.TypeIs v T∧∀a,v = .ref a->∃ob,s.heap.get? a=some ob∧ob.dict=none:=by
 cases x with
 | str z =>
  obtain⟨t,rfl⟩:=r;cases (show T = "str" from ty);exact⟨typeIs_str s z t,fun _ e=>nomatch e⟩
 | int i =>
  obtain⟨t,rfl⟩:=r;cases (show T = "int" from ty);exact⟨typeIs_int s i t,fun _ e=>nomatch e⟩
 | ref p =>
  cases r;rcases ty with⟨rfl,xs,hq⟩|⟨rfl,o,hk,hc,hd⟩|⟨rfl,hk⟩|⟨rfl,S,n,hk⟩
  ·obtain⟨its,_,pl,_⟩:=I.list hq
   refine⟨pl.isList.typeIs,fun a e=>?_⟩;cases e;obtain⟨o,n,e,c,hd,_⟩:=pl;exact⟨o,e,hd⟩
  ·refine⟨⟨o,I.kIn p o hk,hc⟩,fun a e=>?_⟩
   cases e;exact⟨o,I.kIn _ o hk,hd⟩
  ·have z:∃o,s.heap.get? p=some o∧o.ExactDict:=by
    rcases hk with⟨kvs,hk⟩|⟨kvs,hk⟩
    ·obtain⟨_,_,_,_,o,_,_,e,ex,_⟩:=I.hok p _ hk
     exact⟨o,e,ex⟩
    ·obtain⟨_,_,_,_,o,_,_,e,ex,_⟩:=I.hok p _ hk
     exact⟨o,e,ex⟩
   obtain⟨o,e,ex⟩:=z;refine⟨⟨o,e,ex.1⟩,fun a e2=>?_⟩;cases e2;exact⟨o,e,ex.2.1⟩
  ·obtain⟨o,_,_,_,e,ex,_⟩:=I.hok p _ hk
   refine⟨⟨o,e,ex.1⟩,fun a e2=>?_⟩;cases e2;exact⟨o,e,ex.2.1⟩
 | _=>exact False.elim ty
def yq(K:W.Frag)(T:String)(r:V->List V->Hp->VK->Prop)(to:TE):TE:=fun σ H Q=>to σ H fun x H1=>tyV K T x H1∧r x [] H1 Q
def tBM(K:W.Frag)(T:String)(r:V->List V->Hp->VK->Prop)(to:TE)(t:TA):TE:=fun σ H Q=>to σ H fun x H1=>tyV K T x H1∧t σ H1 fun xs H2=>r x xs H2 Q
variable {o e:Expr} {es:List Expr} {to:TE} {t:TA} {name:Str} {apos cpos:Pos} {T id:String} {r:V->List V->Hp->VK->Prop}
theorem ot(pa:PlainAttrs T)(slot:Slot T name id)(hty:typeOf (.builtin id)=pure (.type "method_descriptor"))(hm:MtR X id r)(ho:PE X o to)
  (hbase:attributeBase o name X.env (eval o X.env)=eval o X.env:=by rfl) (hline:(apos.endLine == cpos.line)=true:=by rfl):PE X (.Call (.Attribute o name apos) [] [] cpos) (yq X.K T r to):=by
 intro pins s σ H Q I h;refine wpAny_Call_method0_late hbase hline (thn (ho pins s σ H _ I h) fun v s1 ⟨x,H1,I1,r1,ty,q1⟩=>?_);obtain⟨h1,h2⟩:=rQ I1 r1 ty;exact⟨T,id,pa,slot,hty,h1,h2,Calls.callWith_builtin rfl (PySem.evalArgs_none (hm pins s1 σ H1 x [] v [] Q I1 r1 .nil q1))⟩
theorem fm(pa:PlainAttrs T)(slot:Slot T name id)(hty:typeOf (.builtin id)=pure (.type "method_descriptor"))(hm:MtR X id r)(ho:PE X o to)(ha:PA X (e::es) t)
  (hbase:attributeBase o name X.env (eval o X.env)=eval o X.env:=by rfl)
  (hfew:((backTo cpos (starEach (e::es) X.env)).all (fun x=>!x.1) && (backToKw cpos (keywordEach [] X.env)).all (fun x=>x.1.isSome)
   && decide ((e::es).length+([]:List Keyword).length+(if ([]:List Keyword).isEmpty then 0 else 1)<30))=true:=by rfl)
  (hline:(apos.endLine == cpos.line)=true:=by rfl) (hs:starEach (e::es) X.env=(false,eval e X.env)::starEach es X.env:=by rfl) (hplain:(backTo cpos (starEach es X.env)).any (·.1)=false:=by rfl) :
  PE X (.Call (.Attribute o name apos) (e::es) [] cpos) (tBM X.K T r to t):=by
 intro pins s σ H Q I h;refine wpAny_Call_method_late hbase hfew hline rfl (thn (ho pins s σ H _ I h) fun v s1 ⟨x,H1,I1,r1,ty,q1⟩=>?_);obtain⟨h1,h2⟩:=rQ I1 r1 ty;refine⟨T,id,pa,slot,hty,h1,h2,?_⟩;have hA:=ha cpos pins s1 σ H1 _ I1 q1;rw[hs]at hA ⊢;refine Calls.callWith_builtin (by show(false || (backTo cpos (starEach es X.env)).any (·.1))=false;rw[hplain] <;> rfl) (Calls.evalArgs_plain ?_);exact thn hA fun us s2 ⟨vs,H2,I2,r2,q2⟩=>hm pins s2 σ H2 x vs v us Q I2 r1 r2 q2
end
end L2
namespace L2
open PySem PySem.Spec PyProof.Rows
def MtM(X:Cx)(id:String)(r:V->List V->Hp->VK->Prop):Prop :=
 ∀(pins:List (Addr×Obj)) (s:Shared) (σ:St) (H:Hp) (x:V) (xs:List V) (v:Value) (us:List Value) (Q:VK),yI X pins σ H s->aW x v->aT xs us->r x xs H Q ->
  wpAny (model X.prog X.w) X.A (call (.builtin id) (v::us)) (EP X pins σ Q) X.xe s
theorem aT.one:∀{x:V} {us:List Value},aT [x] us->∃u,us = [u]∧aW x u
 | _,_,.cons r .nil=>⟨_,rfl,r⟩
theorem aT.zero:∀{us:List Value},aT [] us->us = []
 | _,.nil=>rfl
theorem aT.reverse{xs:List V}{us:List Value}(h:aT xs us):aT xs.reverse us.reverse:=by
 induction h with
 | nil=>exact .nil
 | cons r t ih=>rw[List.reverse_cons,List.reverse_cons];exact aT.append ih (.cons r .nil)
section
variable {X:Cx} {pins:List (Addr×Obj)} {σ:St} {H:Hp} {s:Shared} {l b:Addr} {xs ys zs:List V}
theorem yI.lset{its its':List Value}{n:Nat}{f:Array Value->Array Value}{t':Nat}(I:yI X pins σ H s)(hH:H l=some (.lst xs))
  (e:s.heap.get? l=some { cls:=.type "list",data:=.seq its.toArray n }) (hf:f its.toArray=its'.toArray) (hv:aT ys its') (hz:ys.length≤sizeLine) :
  yI X pins σ (upd H l (.lst ys)) { s with heap:=s.heap.update l (Obj.mapSeq f),toks:=t' }:=by
 have q:=PySem.IsL.update e f;rw[hf]at q;refine I.write (x:=l) (e:=l) (by rw[hH];exact trivial) (.inl rfl) (fun b' u hb hu=>(Heap.get?_update_other s.heap (Obj.mapSeq f) (Ne.symm hb)).trans hu) ⟨_,q⟩ ?_;exact⟨hz,its',_,hv,q⟩
theorem yI.lnew{its:List Value}{t':Nat}(I:yI X pins σ H s)(hv:aT ys its)(hz:ys.length≤sizeLine) :
  yI X pins σ (upd H s.heap.objs.size (.lst ys)) { s with heap:=s.heap.push { cls:=.type "list",data:=.seq its.toArray },toks:=t' } :=
 I.laid (fun _ _ q=>Heap.get?_push_of_some _ q) (Nat.le_refl _) ⟨hz,its,0,hv,Heap.get?_push_size _ rfl⟩
theorem yI.fresh(I:yI X pins σ H s):H s.heap.objs.size=none:=I.hok.fresh (Nat.le_refl _)
theorem yI.lstM(I:yI X pins σ H s)(hH:H l=some (.lst xs)):xs.length≤sizeLine∧∃(its:List Value) (n:Nat),aT xs its∧xs.length=its.length∧s.heap.get? l=some { cls:=.type "list",data:=.seq its.toArray n }:=by
 obtain⟨z,its,n,r,e⟩:=I.hok l _ hH;exact⟨z,its,n,r,r.length,e⟩
theorem sO{n:Nat}(h:n≤sizeLine):Builtin.List.listTooLong n=false:=by
 unfold Builtin.List.listTooLong;exact decide_eq_false (by omega)
end
section
variable {X:Cx}
def uI:V->List V->Hp->VK->Prop:=fun x vs H Q=>∃l xs y,x = .ref l∧vs = [y]∧H l=some (.lst xs)∧xs.length<sizeLine∧Q .non (upd H l (.lst (xs++[y])))
theorem ia:MtM X "list.append" uI:=by
 intro pins s σ H x vs v us Q I rx rv h;obtain⟨l,xs,y,rfl,rfl,hH,hz,q⟩:=h;cases rx;obtain⟨u,rfl,ru⟩:=rv.one;obtain⟨z,its,n,r,hl,e⟩:=I.lstM hH;refine call_meets F.slot_list_append ⟨_,e,rfl⟩ F.entry_list_append (F.args_list_append_2 _ _) (PySem.list_append l its.toArray n u (by rw[List.size_toArray];omega)) ⟨e,?_⟩;refine⟨.non,_,I.lset (its':=its++[u]) hH e (by simp) (r.append (.cons ru .nil)) ?_,rfl,q⟩;rw[List.length_append,List.length_singleton];omega
def sH:V->List V->Hp->VK->Prop:=fun x vs H Q=>∃l xs,x = .ref l∧vs = []∧H l=some (.lst xs)∧Q .non (upd H l (.lst xs.reverse))
theorem oA:MtM X "list.reverse" sH:=by
 intro pins s σ H x vs v us Q I rx rv h;obtain⟨l,xs,rfl,rfl,hH,q⟩:=h;cases rx;have hus:=rv.zero;subst hus;obtain⟨z,its,n,r,hl,e⟩:=I.lstM hH;refine call_meets F.slot_list_reverse ⟨_,e,rfl⟩ F.entry_list_reverse (F.args_list_reverse_1 _) (AutoSeq1.list_reverse_list_0 l its.toArray n (by rw[List.size_toArray];omega)) ⟨e,?_⟩;refine⟨.non,_,I.lset (its':=its.reverse) hH e (by simp) r.reverse ?_,rfl,q⟩;rw[List.length_reverse];omega
def wg:V->List V->Hp->VK->Prop:=fun x vs H Q=>∃l xs,x = .ref l∧vs = []∧H l=some (.lst xs)∧Q .non (upd H l (.lst []))
theorem sQ:MtM X "list.clear" wg:=by
 intro pins s σ H x vs v us Q I rx rv h;obtain⟨l,xs,rfl,rfl,hH,q⟩:=h;cases rx;have hus:=rv.zero;subst hus;obtain⟨z,its,n,r,hl,e⟩:=I.lstM hH;refine call_meets F.slot_list_clear ⟨_,e,rfl⟩ F.entry_list_clear (F.args_list_clear_1 _) (AutoSeq1.list_clear_list_0 l its.toArray n (by rw[List.size_toArray];omega)) ⟨e,?_⟩;exact⟨.non,_,I.lset (its':=[]) (ys:=[]) hH e rfl .nil (Nat.zero_le _),rfl,q⟩
def yw:R2:=fun x y H Q=>∃l b xs zs,x = .ref l∧y = .ref b∧H l=some (.lst xs)∧H b=some (.lst zs)∧xs.length+zs.length≤sizeLine∧∀p,H p=none->Q (.ref p) (upd H p (.lst (xs++zs)))
theorem wx:OpR X (binaryOp .Add) yw:=by
 intro pins s σ H x y v u Q I rx ry h;obtain⟨l,b,xs,zs,rfl,rfl,hH,hB,hz,q⟩:=h;cases rx;cases ry;obtain⟨z,its,n,r,hl,e⟩:=I.lstM hH;obtain⟨z2,its2,n2,r2,hl2,e2⟩:=I.lstM hB;refine PySem.P.add_list e e2 ?_ (by rw[List.size_toArray,List.size_toArray];omega);have ea:its.toArray++its2.toArray=(its++its2).toArray:=by simp
 rw[ea];exact⟨.ref _,_,I.lnew (t':=s.toks) (r.append r2) (by rw[List.length_append];omega),rfl,q _ I.fresh⟩
end
section
variable {prog:Program} {w:World} {A:Around} {E:Value->Shared->Prop} {s:Shared}
set_option maxRecDepth 100000 in
end
section
variable {X:Cx}
end
end L2
namespace Att
open PySem PySem.W PySem.Calls PyProof.Rows
theorem iJ{P:Params}{h:Heap}:∀(ns:List Int) (vs:List Value),WellAll P h vs (ns.map WData.int)->IntsAre vs ns:=by
 intro ns
 induction ns with
 | nil =>
  intro vs w;rw[List.map_nil]at w;cases w;exact .nil
 | cons n ns ih =>
  intro vs w;rw[List.map_cons]at w;cases w with
  | cons a b =>
   cases a;exact .cons _ _ (ih _ b)
theorem qB{l:OpenLaw}{n:Nat}(hn:l.most=some n){P:Params}{h:Heap}{args:List WData}{vals:List Value}
  (hpre:l.row.toRowW.claim.pre args=true) (hwl:WellAll P h vals args) :
  ∃a vs ns,vals = [Value.ref a]∧args = [WData.list (ns.map WData.int)]∧h.get? a=some { cls:=.type "list",data:=.seq vs.toArray }∧IntsAre vs ns∧ns.length≤n:=by
 have hsh:WShape.hasAll [] args [.list .int]=true:=(pre_splitW hpre).1;have hc:l.pre.holds [] { args:=args }=true:=(pre_splitW hpre).2;obtain⟨d,r,rfl,h1,h2⟩:=hasAllW_cons hsh;obtain rfl:=hasAllW_nil h2;obtain⟨xs,rfl,h3⟩:=hasW_list h1;obtain⟨ns,rfl⟩:=items_int h3;have hlen:ns.length≤n:=by
  unfold OpenLaw.pre at hc;have h4:(WTm.not (.lt (.lit (.int (n:Int))) (.len (.arg 0)))).holds [] { args:=[.list (ns.map .int)] }=true:=by
   have h4:=(holds_andW hc).1;rw[hn]at h4;exact h4
  have h5:=condW_of h4 (w_not (w_lt w_lit (w_len_list (w_arg rfl))));rw[List.length_map]at h5;refine Nat.le_of_not_lt fun q=>?_;have q':(n:Int)<((ns.length:Nat):Int):=by omega
  first
   | (rw[decide_eq_true q']at h5;exact absurd h5 (by decide))
   | (simp at h5;omega)
 cases hwl with
 | cons w1 w2 =>
  cases w2;cases w1 with
  | list ho hall=>exact⟨_,_,ns,rfl,rfl,ho,iJ ns _ hall,hlen⟩
theorem qC(l:OpenLaw)(args:List WData):l.row.toRowW.claim.post args (.bool true) args=true :=
 postW_of (r:=l.row.toRowW) (X:=(true == true))
  (show WShape.has [] (.bool true) .bool=true by first|rfl|decide|simp[WShape.has,WShape.arms,WShape.armsAll])
  (show(WTm.eq .res (.lit (.bool true))).value [] { args:=args,res:=some (.bool true),after:=args }=some (.bool (true == true)) from w_eq_bool (w_res rfl) w_lit) rfl
theorem attach_call{l:OpenLaw}{n:Nat}{q:Program}{loose:List Str}{XP:(Str->Option Value)->Heap->Prop}{YP:World->Heap->Prop}{d:DefRec}
  (hn:l.most=some n) (hdf:d.params.defaults = [])
  (call:∀(w:World) (s₀ s₁:Shared) (mg mb:Str->Option Value) (fa:Addr) (o:Obj) (pm cd doc:Value) (a:Addr) (vs:List Value) (ns:List Int),
   Ground q loose [] XP w s₀ mg mb s₁.heap->YP w s₁.heap ->
   s₁.heap.get? fa=some o->o.data = .func (docDef d.name d.params d.body d.scope pm cd doc)->s₁.heap.CodeRec cd d.name->mg d.name=some (.ref fa) ->
   s₁.heap.get? a=some { cls:=.type "list",data:=.seq vs.toArray }->IntsAre vs ns->ns.length≤n->s₁.gens = #[] ->
   codeAny (model l.prog w) callerA (.call (.ref fa) ⟨[.ref a],[]⟩) (fun r s'=>r = .ok (.ret (.bool true))∧OldK s₁.heap s'.heap∧s'.os=s₁.os∧AllBare s'.gens) s₁) :
  WalkO q loose XP YP l.row.toRowW d [] (fun f vs=>PySem.call f vs):=by
 intro w s₀ s₁ mg mb G Y fa o pm cd doc dV kV ho hd hcd hD hmg hg args vals as hpre hlay hrd hwl hlo;obtain rfl:dV = .none:=Dflts.none hD hdf;obtain rfl:kV = .none:=Dflts.noKw hD;obtain⟨a,vs,ns,rfl,rfl,hobj,hints,hlen⟩:=qB hn hpre hwl;refine enter_call (codeAny_mono (call w s₀ s₁ mg mb fa o pm cd doc a vs ns G Y ho (fd_plain hd) hcd hmg hobj hints hlen hg) fun r s' hq=>?_);obtain⟨rfl,h2,h3,h4⟩:=hq;exact⟨.inl ⟨.bool true,.bool true,[],rfl,fun _=>rfl,.bool true,qC l _,fun _=>⟨List.Pairwise.nil,fun _ hm=>(nomatch hm)⟩⟩,h2,h3,h4⟩
section
variable {prog:Program} {w:World} {A:Around} {E:Value->Shared->Prop} {s:Shared} {K:Frag}
end
end Att
namespace L2
open PySem PySem.Spec PyProof.Rows
theorem ka:∀{vs:List Value} {ns:List Int},IntsAre vs ns->aT (ns.map V.int) vs
 | _,_,.nil=>.nil
 | _,_,.cons n t h=>.cons ⟨t,rfl⟩ (ka h)
end L2
namespace L2
open PySem PySem.Spec PyProof.Rows
end L2
namespace L2
open PySem PySem.Spec PyProof.Rows
def br(s:Stmt):Arguments:=match s with
 | .FunctionDef _ a _ _ _ _ _ _ _ _=>a
 | _=>{ posonlyargs:=[],args:=[],vararg:=none,kwonlyargs:=[],kw_defaults:=[],kwarg:=none,defaults:=[] }
def aL(s:Stmt):List Stmt:=match s with
 | .FunctionDef _ _ b _ _ _ _ _ _ _=>b
 | _=>[]
def ap(s:Stmt):Scope:=match s with
 | .FunctionDef _ _ _ _ _ _ sc _ _ _=>sc
 | _=>{ kind:=.function,names:=[],isGenerator:=false,isCoroutine:=false }
abbrev CX0:CXT:=fun _ _ _ _ _ _=>False
abbrev E0:XK:=fun _ _ _=>False
theorem vM{X:Cx}:gh CX0 X E0:=fun _ _ _ _ _ _ _ h=>h.elim
section
variable {P:Program} {w:World} {K:W.Frag} {mg:Str->Option Value} {base:Heap}
end
theorem eD{A:Around}{k:Nat}(hr:y7 k A):A.units+1<cLine:=Nat.lt_of_le_of_lt (Nat.add_le_add_left (by decide:1≤64) _) hr.units
theorem bC{n:Nat}(h:n≤1000):n<sizeLine:=Nat.lt_of_le_of_lt h (by decide)
section
variable {X:Cx}
theorem pv(i:Nat){x:Str}{pos:Pos}(hN:X.N[i]? = some x:=by rfl)(hv:Vis X.env.scope x:=by first|exact Or.inl rfl|exact Or.inr (Or.inl rfl)|exact Or.inr (Or.inr rfl))(hd:(x == ("__debug__" : Str))=false:=by decide)
  (hcd:(x == ("__classdict__" : Str))=false:=by decide):PE X (.Name x pos) (DQ i):=sJ hN hv hd hcd
end
theorem ig{A B:Prop}(h:B):if false=true then A else B:=by
 rw[if_neg Bool.false_ne_true];exact h
theorem jV{A B:Prop}(h:A):if true=true then A else B:=by
 rw[if_pos rfl];exact h
def Same(H H':Hp):Prop:=∀b o,H b=some o->H' b=some o
theorem Same.refl(H:Hp):Same H H:=fun _ _ h=>h
theorem Same.trans{H H1 H2:Hp}(a:Same H H1)(b:Same H1 H2):Same H H2:=fun c o h=>b c o (a c o h)
theorem Same.free{H H':Hp}(e:Same H H'){l:Addr}(h:H' l=Option.none):H l=Option.none:=by
 cases q:H l with
 | none=>rfl
 | some o =>
  rw[e l o q]at h;cases h
theorem Same.seq{K:W.Frag}{H H':Hp}{a:Addr}{xs:List V}(e:Same H H')(h:SqL K H a xs):SqL K H' a xs:=by
 rcases h with(h|⟨o,h⟩)|h
 ·exact .inl (.inl (e _ _ h))
 ·exact .inl (.inr ⟨o,e _ _ h⟩)
 ·exact .inr h
end L2
end
section
set_option Elab.async false
set_option linter.all false
set_option maxRecDepth 100000
set_option maxHeartbeats 4000000
namespace Mth
theorem mV{a b:Int}(ha:0≤a)(hb:0<b):Int.gcd b (a % b)=Int.gcd a b:=by
 obtain⟨m,rfl⟩:=Int.eq_ofNat_of_zero_le ha;obtain⟨n,rfl⟩:=Int.eq_ofNat_of_zero_le (Int.le_of_lt hb);rw[<- Int.natCast_emod];show Nat.gcd (n:Int).natAbs ((m % n:Nat):Int).natAbs=Nat.gcd (m:Int).natAbs (n:Int).natAbs;simp only[Int.natAbs_natCast];rw[Nat.gcd_comm m n,Nat.gcd_comm n (m % n)];exact(Nat.gcd_rec n m).symm
theorem pY(a b:Int):Int.gcd (if a<0 then -a else a) b=Int.gcd a b:=by
 split
 ·exact Int.neg_gcd
 ·rfl
theorem tI(a b:Int):Int.gcd a (if b<0 then -b else b)=Int.gcd a b:=by
 rw[Int.gcd_comm,pY,Int.gcd_comm]
theorem gcd_zero{a:Int}(ha:0≤a):(Int.gcd a 0:Int)=a:=by
 rw[Int.gcd_zero];omega
structure CC(t b:Int):Prop where
 pos:1≤b
 one:Int.gcd t b=1
theorem gN{a b:Int}(h:b≠0):0<(Int.gcd a b:Int):=by
 have:=Int.gcd_pos_of_ne_zero_right a h;omega
theorem wU(a b:Int):a=a / (Int.gcd a b:Int)*(Int.gcd a b:Int):=(Int.ediv_mul_cancel (Int.gcd_dvd_left a b)).symm
theorem qd(a b:Int):b=b / (Int.gcd a b:Int)*(Int.gcd a b:Int):=(Int.ediv_mul_cancel (Int.gcd_dvd_right a b)).symm
theorem vj{a b:Int}(hb:0<b):CC (a / (Int.gcd a b:Int)) (b / (Int.gcd a b:Int)):=by
 have hg:=gN (a:=a) (b:=b) (by omega);refine⟨?_,?_⟩
 ·have h1:=qd a b
  have h2:0<b / (Int.gcd a b:Int):=Int.ediv_pos_of_pos_of_dvd hb (by omega) (Int.gcd_dvd_right a b);omega
 ·rw[Int.gcd_ediv (Int.gcd_dvd_left a b) (Int.gcd_dvd_right a b)]
  simp only[Int.natAbs_natCast];exact Nat.div_self (by omega)
theorem pT{t b t' b':Int}(h:CC t b)(e:t*b'=t'*b):b∣b':=by
 have h1:b.natAbs∣t.natAbs*b'.natAbs:=by
  rw[<- Int.natAbs_mul,e,Int.natAbs_mul];exact Nat.dvd_mul_left _ _
 have h2:Nat.Coprime b.natAbs t.natAbs:=by
  have:=h.one;unfold Nat.Coprime;rw[Nat.gcd_comm];exact this
 exact Int.natAbs_dvd_natAbs.mp (h2.dvd_of_dvd_mul_left h1)
theorem eR{t b t' b':Int}(h:CC t b)(h':CC t' b')(e:t*b'=t'*b):t=t'∧b=b':=by
 have d1:=pT h e;have d2:=pT h' e.symm;have p1:=h.pos;have p2:=h'.pos;have eb:b=b':=Int.le_antisymm (Int.le_of_dvd (by omega) d1) (Int.le_of_dvd (by omega) d2);subst eb;exact⟨Int.eq_of_mul_eq_mul_right (by omega) e,rfl⟩
structure AR(top bottom t b:Int):Prop where
 low:CC t b
 eq:top*b=t*bottom
theorem gO{a b:Int}(hb:0<b):AR a b (a / (Int.gcd a b:Int)) (b / (Int.gcd a b:Int)):=by
 refine⟨vj hb,?_⟩;have h1:=wU a b;have h2:=qd a b;generalize a / (Int.gcd a b:Int)=x at *;generalize b / (Int.gcd a b:Int)=y at *;generalize (Int.gcd a b:Int)=g at *;subst h1 h2
 grind
theorem kI{a b:Int}(hb:b≠0)(d:Int)(hd:d=if b<0 then -(Int.gcd a b:Int) else (Int.gcd a b:Int)):AR a b (a.fdiv d) (b.fdiv d):=by
 have hg:=gN (a:=a) (b:=b) hb
 by_cases h:b<0
 ·rw[if_pos h]at hd
  have f:=gO (a:=-a) (b:=-b) (by omega);rw[Int.gcd_neg,Int.neg_gcd]at f;subst hd;have e1:a.fdiv (-(Int.gcd a b:Int)) = -a / (Int.gcd a b:Int):=by
   rw[<- Int.neg_fdiv_neg,Int.neg_neg];exact Int.fdiv_eq_ediv_of_nonneg _ (by omega)
  have e2:b.fdiv (-(Int.gcd a b:Int)) = -b / (Int.gcd a b:Int):=by
   rw[<- Int.neg_fdiv_neg,Int.neg_neg];exact Int.fdiv_eq_ediv_of_nonneg _ (by omega)
  rw[e1,e2];exact⟨f.low,by have:=f.eq;grind⟩
 ·rw[if_neg h]at hd
  subst hd;rw[Int.fdiv_eq_ediv_of_nonneg _ (by omega),Int.fdiv_eq_ediv_of_nonneg _ (by omega)];exact gO (by omega)
theorem mX{a b t u t' u':Int}(hb:b≠0)(h:AR a b t u)(h':AR a b t' u'):t=t'∧u=u':=by
 refine eR h.low h'.low ?_;have e1:=h.eq;have e2:=h'.eq;have:b*(t*u')=b*(t'*u):=by grind
 exact Int.eq_of_mul_eq_mul_left hb this
end Mth
namespace L2
open PySem PySem.Spec PyProof.Rows
abbrev bits(i:Int):Nat:=Builtin.Int.intBits i
theorem cL{i:Int}{n:Nat}(h:i.natAbs<2^n):bits i≤n:=intBits_le h
theorem cM{i:Int}{n:Nat}(h:bits i≤n):i.natAbs<2^n:=by
 unfold bits Builtin.Int.intBits at h
 by_cases h0:i=0
 ·subst h0
  exact Nat.pos_of_ne_zero (by simp)
 ·rw[if_neg (by simpa using h0)]at h
  have h1:i.natAbs≠0:=by omega
  exact(Nat.log2_lt h1).mp (by omega)
theorem eE{i j:Int}{n:Nat}(h:i.natAbs≤j.natAbs)(hj:bits j≤n):bits i≤n:=cL (Nat.lt_of_le_of_lt h (cM hj))
theorem bits_mul{i j:Int}{m n:Nat}(hi:bits i≤m)(hj:bits j≤n):bits (i*j)≤m+n:=by
 refine cL ?_;rw[Int.natAbs_mul,Nat.pow_add];exact Nat.mul_lt_mul'' (cM hi) (cM hj)
theorem a7{i j:Int}{n:Nat}(hi:bits i≤n)(hj:bits j≤n):bits (i+j)≤n+1:=by
 refine cL ?_;have h1:=cM hi;have h2:=cM hj;have h3:(2:Nat)^(n+1)=2*2^n:=by rw[Nat.pow_succ,Nat.mul_comm]
 omega
theorem aK{i j:Int}{n:Nat}(hi:bits i≤n)(hj:bits j≤n):bits (i - j)≤n+1:=by
 refine cL ?_;have h1:=cM hi;have h2:=cM hj;have h3:(2:Nat)^(n+1)=2*2^n:=by rw[Nat.pow_succ,Nat.mul_comm]
 omega
theorem bits_neg{i:Int}{n:Nat}(hi:bits i≤n):bits (-i)≤n:=eE (by omega) hi
theorem bits_abs{i:Int}{n:Nat}(hi:bits i≤n):bits (if i<0 then -i else i)≤n:=eE (by split <;> omega) hi
theorem ix{i j:Int}{n:Nat}(hj:0<j)(hi:bits i≤n):bits (i / j)≤n:=by
 refine eE ?_ hi;exact Int.natAbs_ediv_le_natAbs i j
theorem fM{i j:Int}{n:Nat}(hi:bits i≤n):bits (i.fdiv j)≤n:=PySem.intBits_fdiv_le hi
theorem bQ{i b:Int}{n:Nat}(h0:0≤i)(h1:i≤b)(hb:bits b≤n):bits i≤n:=eE (by omega) hb
theorem aw{i:Int}{m n:Nat}(h:bits i≤m)(hm:m≤n):bits i≤n:=Nat.le_trans h hm
section
variable {X:Cx} {pos:Pos}
def CM(i j:Int):Prop:=IntMulOk i j
theorem CM.b{i j:Int}{m n:Nat}(hi:bits i≤m)(hj:bits j≤n)(hm:m≤2^20)(hn:n≤2^20):CM i j:=IntMulOk.of_bits (Nat.le_trans hi hm) (Nat.le_trans hj hn)
theorem CM.l{i j:Int}(h:-(2^64)<i∧i<2^64):CM i j:=vD.ok (.inl h)
theorem CM.r{i j:Int}(h:-(2^64)<j∧j<2^64):CM i j:=vD.ok (.inr h)
theorem ay:OpR X (binaryOp .Mult) (rI CM fun i j=>.int (i*j)):=opI fun _ _ _ _ _ _ _ hc q=>mul_int q hc
def CD(_ j:Int):Prop:=0<j∧bits j≤8000
theorem gJ{j:Int}{n:Nat}(hj:j≠0)(h:bits j≤n)(hn:n≤9000):j.natAbs.log2<9000:=by
 have h1:j.natAbs≠0:=by omega
 have h2:=(Nat.log2_lt h1).mpr (cM h);omega
theorem cj:OpR X (binaryOp .FloorDiv) (rI CD fun i j=>.int (i / j)):=opI fun i j _ _ _ _ _ hc q=>by
 have h1:(0:Int)<j:=hc.1;exact floordiv_int (by omega) (by rw[Int.fdiv_eq_ediv_of_nonneg i (by omega)];exact q) (.inl (PyProof.noPylong_of_log2 (gJ (by omega) hc.2 (by decide))))
def CDZ(_ j:Int):Prop:=j≠0∧bits j≤8000
theorem mE:OpR X (binaryOp .FloorDiv) (rI CDZ fun i j=>.int (i.fdiv j)):=opI fun i j _ _ _ _ _ hc q =>
 floordiv_int hc.1 q (.inl (PyProof.noPylong_of_log2 (gJ hc.1 hc.2 (by decide))))
theorem qO:MtR X "int.bit_length" (fun x xs H Q=>∃i,x = .int i∧xs = []∧Q (.int ((bits i:Nat):Int)) H):=by
 intro pins s σ H x xs v us Q I rx rs h;obtain⟨i,rfl,rfl,q⟩:=h;obtain⟨t,rfl⟩:=rx;cases rs;exact call_int_bit_length ⟨.int _,H,I.tok _,⟨_,rfl⟩,q⟩
end
theorem oR:bootBuiltins "int" = some (.type "int"):=by decide +kernel
theorem ql:bootBuiltins "bool" = some (.type "bool"):=by decide +kernel
theorem w5:bootBuiltins "str" = some (.type "str"):=by decide +kernel
theorem g7:bootBuiltins "tuple" = some (.type "tuple"):=by decide +kernel
theorem g8:bootBuiltins "list" = some (.type "list"):=by decide +kernel
theorem a9:bootBuiltins "isinstance" = some (.builtin "isinstance"):=by decide +kernel
theorem jM:bootBuiltins "abs" = some (.builtin "abs"):=by decide +kernel
theorem bD:bootBuiltins "len" = some (.builtin "len"):=by decide +kernel
theorem fF:bootBuiltins "min" = some (.builtin "min"):=by decide +kernel
theorem lU:bootBuiltins "max" = some (.builtin "max"):=by decide +kernel
theorem fQ{X:Cx}{x:Str}{T:String}{pos:Pos}(hm:X.mg x=none)(hv:bootBuiltins x=some (.type T))(hg:Gl X x:=by rfl)(hn:x≠"__name__":=by decide)(hd:(x == ("__debug__" : Str))=false:=by decide) :
  PE X (.Name x pos) (tC (.ty T)):=uM hg hm hv rfl hn hd
inductive Kn (H:Hp):V->String->Prop where
 | non:Kn H .non "NoneType"
 | bl (b:Bool):Kn H (.bl b) "bool"
 | int (i:Int):Kn H (.int i) "int"
 | str (x:Str):Kn H (.str x) "str"
 | lst {a:Addr} {xs:List V} (e:H a=some (.lst xs)):Kn H (.ref a) "list"
 | tup {a:Addr} {xs:List V} (e:H a=some (.tup xs)):Kn H (.ref a) "tuple"
 | dict {a:Addr} {kvs:List (Key×V)} (e:H a=some (.dK kvs)):Kn H (.ref a) "dict"
theorem Kn.ty{K:W.Frag}{H:Hp}{x:V}{t:String}(k:Kn H x t):B6 K H x (.type t):=by
 cases k with
 | non=>exact .non
 | bl b=>exact .bl b
 | int i=>exact .int i
 | str x=>exact .str x
 | lst e=>exact .lst e
 | tup e=>exact .tup e
 | dict e=>exact .dK e
def iH(t T:String):Bool:=t == T || (t == "bool" && T == "int")
def oS(T:String):Prop:=T = "int"∨T = "bool"∨T = "tuple"∨T = "list"∨T = "str"
theorem wG(K:W.Frag){H:Hp}{x:V}{t T:String}(k:Kn H x t)(n:oS T):W.kitOne K (.type t) (.type T)=some (iH t T):=by
 rcases n with rfl|rfl|rfl|rfl|rfl <;> cases k <;> kernel_rfl
inductive EU (xs:List V) (H:Hp) (Q:VK):Prop
 | mk (x:V) (t T:String) (e:xs = [x,.ty T]) (k:Kn H x t) (n:oS T) (q:Q (.bl (iH t T)) H):EU xs H Q
theorem bO{X:Cx}:eJ X (.builtin "isinstance") EU:=by
 intro pins s σ H xs us Q I rs h;obtain⟨x,t,T,rfl,k,n,q⟩:=h;obtain⟨u,v,rfl,ru,rv⟩:=rO rs;cases (show v=Value.type T from rv);exact qV I ru k.ty (wG X.K k n) fun tk=>⟨.bl _,H,I.tok _,rfl,q⟩
structure Fn(P:Program)(w:World)(K:W.Frag)(mg:Str->Option Value)(base:Heap)(x:Str)(ps:List Str)(k:Nat)(sp:Sp):Prop where
 ex:∃(f:Addr) (fd:FuncData) (o:Obj),mg x=some (.ref f)∧W.keepIn K (.ref f)=true∧(∀us:List Value,us.length=ps.length->bindArgs fd ⟨us,[]⟩=pure (ps.zip us))∧(K.lookup f=some o∧o.data = .func fd)∧Bf P w K mg base CX0 k f fd ps sp
theorem aA{X:Cx}{x:Str}{ps:List Str}{k:Nat}{sp:Sp}{p pos:Pos}{e:Expr}{es:List Expr}{t:TA}(F:Fn X.prog X.w X.K X.mg X.base x ps k sp)(hr:y7 k X.A)(hg:Gl X x)(ha:PA X (e::es) t)
  (hdb:(x == ("__debug__" : Str))=false:=by decide) (he:starEach (e::es) X.env=(false,eval e X.env)::starEach es X.env:=by rfl) (hpl:(backTo pos (starEach es X.env)).any (·.1)=false:=by rfl) :
  PE X (.Call (.Name x p) (e::es) [] pos) (o5 sp [] E0 t):=by
 obtain⟨f,fd,o,hm,hk,hb,_,G⟩:=F.ex;exact lc G hr hg hm hk (.all hb) .nil vM ha hdb he hpl
structure Df(K:W.Frag)(mg:Str->Option Value)(x:Str)(st:Stmt):Prop where
 ex:∃(f:Addr) (oc:Value) (od:Option Addr) (kV doc pm:Value) (an:Option Addr) (cdv ct:Value) (osl:Array (Option Value)),
  mg x=some (.ref f)∧K.lookup f=some ⟨oc,od,.func (W.fnOf x x (br st) (aL st) (ap st) .none kV doc pm an cdv ct),osl⟩∧W.codeIn K cdv x=true∧W.keepIn K (.ref f)=true
theorem ye{K:W.Frag}{mg:Str->Option Value}{h:Heap}{x:Str}{st:Stmt}{f:Addr}{oc:Value}{od an:Option Addr}{osl:Array (Option Value)}{kV doc pm cdv ct:Value}(X:K.In h)(G:h.Ns mainGlobals mg)
  (a:W.nsIn K mainGlobals x=some (some (.ref f))) (l:K.lookup f=some ⟨oc,od,.func (W.fnOf x x (br st) (aL st) (ap st) .none kV doc pm an cdv ct),osl⟩) (c:W.codeIn K cdv x=true) (k:W.keepIn K (.ref f)=true) :
  Df K mg x st:=⟨⟨f,oc,od,kV,doc,pm,an,cdv,ct,osl,W.mg_of X G a,l,c,k⟩⟩
theorem Df.fn{P:Program}{w:World}{K:W.Frag}{mg:Str->Option Value}{base:Heap}{x:Str}{st:Stmt}{N ps:List Str}{k:Nat}{sp:Sp}(D:Df K mg x st)(S:yG N ps (ap st))
  (hbind:∀(kV doc pm:Value) (an:Option Addr) (cdv ct:Value) (us:List Value),us.length=ps.length->bindArgs (W.fnOf x x (br st) (aL st) (ap st) .none kV doc pm an cdv ct) ⟨us,[]⟩=pure (ps.zip us))
  (len:∀vs H Q E,sp vs H Q E->vs.length=ps.length)
  (hbody:∀(f:Addr) (cdv:Value) (A:Around) (outer:List Env) (s:Shared) (H:Hp) (vs:List V) (Q:VK) (E:XK),y7 k (A.deeper (envOfC x (ap st) s.heap.objs.size f cdv))->sp vs H Q E ->
   ∃t,PSs (bw CX0 P w K mg base N x (ap st) f cdv A outer s H E).nox (aL st) t∧t { nx:=fun _ H'=>Q .non H',rt:=Q } (eS N vs) H):Fn P w K mg base x ps (k+1) sp:=by
 obtain⟨f,oc,od,kV,doc,pm,an,cdv,ct,osl,hm,lk,hcd,hk⟩:=D.ex;refine⟨⟨f,_,_,hm,hk,hbind kV doc pm an cdv ct,⟨lk,rfl⟩,m7 lk hcd S len fun A outer s H vs Q E hr hsp=>?_⟩⟩;obtain⟨t,h,q⟩:=hbody f cdv A outer s H vs Q E hr hsp;exact⟨t,h.nox,q⟩
theorem wF{P:Program}{w:World}{K:W.Frag}{mg:Str->Option Value}{fa:Addr}{k:Nat}{sp:Sp}(h:Heap)(hfa:mg "law" = some (.ref fa))(F:∀base:Heap,Fn P w K mg base "law" ["script"] k sp) :
  ∃fd:FuncData,(∀(s:Shared) (v:Value),BindsTo s fd ⟨[v],[]⟩ [("script",v)])∧∀base:Heap,K.In base->base.Ns mainGlobals mg->Bf P w K mg base CX0 k fa fd ["script"] sp:=by
 obtain⟨f,fd,o,hm,_,hb,⟨hl,hd⟩,_⟩:=(F h).ex;rw[hfa]at hm;cases hm;refine⟨fd,fun s v=>.of_eq (hb [v] rfl),fun base _ _=>?_⟩;obtain⟨f',fd',o',hm',_,_,⟨hl',hd'⟩,G⟩:=(F base).ex;rw[hfa]at hm';cases hm';rw[hl]at hl';cases hl';rw[hd]at hd';cases hd';exact G
theorem Same.new{H:Hp}{p:Addr}{o:HO}(h:H p=none):Same H (upd H p o):=fun b o' e=>by
 rw[aN (aS e h)];exact e
theorem aY{c:Bool}{A B:Prop}(h1:c=true->A)(h2:c=false->B):if c=true then A else B:=by
 cases c with
 | true=>exact jV (h1 rfl)
 | false=>exact ig (h2 rfl)
theorem aR{b:Bool}{A B:Prop}(hb:b=false)(h:B):if b=true then A else B:=by
 subst hb;exact ig h
theorem ce{b:Bool}{A B:Prop}(hb:b=true)(h:A):if b=true then A else B:=by
 subst hb;exact jV h
def lB:V->Bool
 | .int _=>true
 | _=>false
end L2
namespace Sp1
open PySem PySem.Spec L2 Mth
inductive Cm (vs:List V) (H:Hp) (Q:VK) (x_3:XK):Prop
 | mk:∀x t,(vs = [x])->(Kn H x t)->(Q (.bl (lB x)) H)->Cm vs H Q x_3
inductive DD (vs:List V) (H:Hp) (Q:VK) (x_3:XK):Prop
 | mk:∀a b:Int,(vs = [.int a,.int b])->(Q (.int (Int.gcd a b:Int)) H)->DD vs H Q x_3
def lowB(a b:Int):Bool:=decide (1≤b) && decide (Int.gcd a b=1)
def jU:List V->Bool
 | [.int a,.int b]=>lowB a b
 | _=>false
def iI(H:Hp):V->Bool
 | .ref p=>match H p with
  | some (.tup xs)=>jU xs
  | _=>false
 | _=>false
structure Dd(H:Hp)(x:V):Prop where
 kn:∃t,Kn H x t
 parts:∀p xs,x = .ref p->H p=some (.tup xs)->∀y∈xs,∃t,Kn H y t
inductive D2 (vs:List V) (H:Hp) (Q:VK) (x_3:XK):Prop
 | mk:∀x,(vs = [x])->(Dd H x)->(Q (.bl (iI H x)) H)->D2 vs H Q x_3
theorem j9{H:Hp}{x:V}{t:String}(k:Kn H x t):(iH t "int" = true->(!iH t "bool")=lB x)∧(iH t "int" = false->lB x=false):=by
 cases k with
 | non=>exact⟨fun h=>absurd h (by decide),fun _=>rfl⟩
 | bl b=>exact⟨fun _=>(show(!iH "bool" "bool")=false by decide),fun h=>absurd h (by decide)⟩
 | int i=>exact⟨fun _=>(show(!iH "int" "bool")=true by decide),fun h=>absurd h (by decide)⟩
 | str x=>exact⟨fun h=>absurd h (by decide),fun _=>rfl⟩
 | lst e=>exact⟨fun h=>absurd h (by decide),fun _=>rfl⟩
 | tup e=>exact⟨fun h=>absurd h (by decide),fun _=>rfl⟩
 | dict e=>exact⟨fun h=>absurd h (by decide),fun _=>rfl⟩
theorem jO(a:Int):0≤(if a<0 then -a else a):=by split <;> omega
theorem Kn.cases_int{H:Hp}{y:V}{t:String}(k:Kn H y t):(∃a,y = .int a∧t = "int")∨((∀a,y≠.int a)∧lB y=false):=by
 cases k with
 | int a=>exact .inl ⟨a,rfl,rfl⟩
 | non=>exact .inr ⟨fun a e=>(nomatch e),rfl⟩
 | bl b=>exact .inr ⟨fun a e=>(nomatch e),rfl⟩
 | str x=>exact .inr ⟨fun a e=>(nomatch e),rfl⟩
 | lst e=>exact .inr ⟨fun a e=>(nomatch e),rfl⟩
 | tup e=>exact .inr ⟨fun a e=>(nomatch e),rfl⟩
 | dict e=>exact .inr ⟨fun a e=>(nomatch e),rfl⟩
theorem Kn.cases_tup{H:Hp}{y:V}{t:String}(k:Kn H y t):(∃p xs,y = .ref p∧H p=some (.tup xs)∧t = "tuple")∨(iI H y=false∧iH t "tuple" = false):=by
 cases k with
 | tup e=>exact .inl ⟨_,_,rfl,e,rfl⟩
 | non=>exact .inr ⟨rfl,by decide⟩
 | bl b=>exact .inr ⟨rfl,by decide⟩
 | str x=>exact .inr ⟨rfl,by decide⟩
 | int a=>exact .inr ⟨rfl,by decide⟩
 | lst e=>exact .inr ⟨by simp only[iI,e],by decide⟩
 | dict e=>exact .inr ⟨by simp only[iI,e],by decide⟩
theorem sZ{H:Hp}{p:Addr}{xs:List V}(e:H p=some (.tup xs)):iI H (.ref p)=jU xs:=by simp only[iI,e]
theorem tp{xs:List V}(h:xs.length≠2):jU xs=false:=by
 unfold jU
 split
 ·exact absurd rfl h
 ·rfl
theorem tq{y z:V}(h:∀a,y≠.int a):jU [y,z]=false:=by
 unfold jU
 split
 ·rename_i a b e
  cases e;exact absurd rfl (h a)
 ·rfl
theorem tm{y z:V}(h:∀a,z≠.int a):jU [y,z]=false:=by
 unfold jU
 split
 ·rename_i a b e
  cases e;exact absurd rfl (h b)
 ·rfl
theorem sz{n:Nat}(h:n≤1000):n≤sizeLine:=Nat.le_of_lt (bC h)
theorem grow{H:Hp}{p:Addr}{o:HO}(h:H p=none):∃H1,upd H p o=H1∧Same H H1∧H1 p=some o:=⟨_,rfl,Same.new h,upd_same⟩
theorem vy{α:Type}{xs:List α}{k:Int}(h0:0≤k)(h1:k<(xs.length:Int)):∃v,atI xs k=some v∧v∈xs:=by
 have hk:k.toNat<xs.length:=by omega
 have ek:k=((k.toNat:Nat):Int):=by omega
 have q:=d6 (xs:=xs) (j:=k.toNat) (List.getElem?_eq_getElem hk);rw[<- ek]at q;exact⟨xs[k.toNat],q,List.getElem_mem hk⟩
theorem th_tup{H:Hp}{p:Addr}{xs:List V}(e:H p=some (.tup xs))(h:∀y∈xs,∃t,Kn H y t):Dd H (.ref p):=⟨⟨_,.tup e⟩,fun p' ys e1 e2=>by
 cases e1;rw[e]at e2;cases e2;exact h⟩
theorem kG{a b:Int}{n:Nat}(hb:b≠0)(h:bits b≤n):bits (Int.gcd a b:Int)≤n:=by
 refine eE ?_ h;have h1:(Int.gcd a b)∣b.natAbs:=Int.gcd_dvd_natAbs_right a b;have h2:=Nat.le_of_dvd (by omega) h1;omega
end Sp1
namespace L2
open PySem PySem.Spec PyProof.Rows
theorem nR(ns ms:List Int):((List.range (min ns.length ms.length)).all (fun j=>decide (ns[j]? = ms[j]?)) && ns.length == ms.length)=decide (ns=ms):=by
 rw[Bool.eq_iff_iff];simp only[Bool.and_eq_true,List.all_eq_true,List.mem_range,decide_eq_true_eq,beq_iff_eq];constructor
 ·rintro⟨h1,h2⟩
  refine List.ext_getElem? fun j=>?_
  by_cases hj:j<ns.length
  ·exact h1 j (by omega)
  ·rw[List.getElem?_eq_none (by omega),List.getElem?_eq_none (by omega)]
 ·rintro rfl
  exact⟨fun _ _=>rfl,rfl⟩
theorem rP{ns:List Int}{us:List Value}{j:Nat}(r:aT (ns.map V.int) us)(h:j<us.length):∃a,ns[j]? = some a∧aW (.int a) us[j]:=by
 have hl:=r.length;rw[List.length_map]at hl;have hj:j<ns.length:=by omega
 obtain⟨u,e,q⟩:=r.get (i:=j) (x:=.int ns[j]) (by rw[List.getElem?_map,List.getElem?_eq_getElem hj];rfl);rw[List.getElem?_eq_getElem h]at e;cases e;exact⟨ns[j],List.getElem?_eq_getElem hj,q⟩
section
variable {X:Cx}
inductive Ep (K:W.Frag) (neg:Bool) (x:V) (y:V) (H:Hp) (Q:VK):Prop
 | mk:∀(p q:Addr) (ns ms:List Int),(x = .ref p)->(y = .ref q)->(SqT K H p (ns.map V.int))->(SqT K H q (ms.map V.int))->(Q (.bl (if neg then !decide (ns=ms) else decide (ns=ms))) H)->Ep K neg x y H Q
theorem mS{A:Around}{s:Shared}{ns ms:List Int}{us vs:List Value}(r:aT (ns.map V.int) us)(r':aT (ms.map V.int) vs)(j:Nat)(h1:j<us.toArray.size)(h2:j<vs.toArray.size) :
  SeqAt.EqAt A s us.toArray[j] vs.toArray[j] (decide (ns[j]? = ms[j]?)):=by
 rw[List.size_toArray]at h1 h2;obtain⟨a,ea,ra⟩:=rP r h1;obtain⟨b,eb,rb⟩:=rP r' h2;have q:=wS (A:=A) (s:=s) ra rb rfl rfl;have e:eqV (.int a) (.int b)=decide (ns[j]? = ms[j]?):=by
  rw[ea,eb];show(a == b)=decide (some a=some b);rw[Bool.eq_iff_iff];simp
 rw[e]at q;exact q
theorem lj(hu:X.A.units<cLine):OpR X (compareOp .Eq) (Ep X.K false):=by
 intro pins s σ H x y v u Q I rx ry h;obtain⟨p,q,ns,ms,rfl,rfl,hp,hq,k⟩:=h;cases rx;cases ry;obtain⟨its,r,pl,_⟩:=I.tuple hp;obtain⟨jts,r',pl',_⟩:=I.tuple hq;refine SeqAt.eq_tupleAt pl pl' hu (mS r r') ⟨.bl _,H,I,rfl,?_⟩;have e1:=r.length;have e2:=r'.length;rw[List.length_map]at e1 e2;rw[List.size_toArray,List.size_toArray,<- e1,<- e2,nR];exact k
theorem ld(hu:X.A.units<cLine):OpR X (compareOp .NotEq) (Ep X.K true):=by
 intro pins s σ H x y v u Q I rx ry h;obtain⟨p,q,ns,ms,rfl,rfl,hp,hq,k⟩:=h;cases rx;cases ry;obtain⟨its,r,pl,_⟩:=I.tuple hp;obtain⟨jts,r',pl',_⟩:=I.tuple hq;refine SeqAt.RcNeAt.tuples pl pl' hu (mS r r') _ _ _ _ ⟨.bl _,H,I,rfl,?_⟩;have e1:=r.length;have e2:=r'.length;rw[List.length_map]at e1 e2;rw[List.size_toArray,List.size_toArray,<- e1,<- e2,nR];exact k
end
end L2
namespace L2
open PySem PySem.Spec PyProof.Rows
section
variable {prog:Program} {w:World} {A:Around} {E:Value->Shared->Prop}
end
end L2
namespace L2
open PySem PySem.Spec PyProof.Rows
theorem bK.has{P:Program}{w:World}{H:Hp}{h:Heap}{a:Addr}{o:HO}(x:bK P w H h a o):∃ob,h.get? a=some ob:=by
 cases o with
 | lst xs=>obtain⟨_,_,_,_,e⟩:=x;exact⟨_,e⟩
 | tup xs=>obtain⟨_,_,_,ob,e,_⟩:=x;exact⟨_,e⟩
 | dK kvs=>obtain⟨_,_,_,_,ob,_,_,e,_⟩:=x;exact⟨_,e⟩
 | dT kvs=>obtain⟨_,_,_,_,ob,_,_,e,_⟩:=x;exact⟨_,e⟩
 | set S n=>obtain⟨ob,_,_,_,e,_⟩:=x;exact⟨_,e⟩
 | ins C dx fs=>obtain⟨_,_,_,e,_⟩:=x;exact⟨_,e⟩
 | own y=>obtain⟨ob,e⟩:=x;exact⟨_,e⟩
 | xd fs=>obtain⟨_,⟨od,_,_,e,_⟩,_⟩:=x;exact⟨_,e⟩
 | rng lo hi=>obtain⟨_,_,_,e⟩:=x;exact⟨_,e⟩
 | frz ob u=>obtain⟨e,_⟩:=x;exact⟨_,e⟩
 | tbl ps=>exact⟨_,(show h.get? a=some _ from x)⟩
 | met f y=>exact⟨_,(show h.get? a=some _ from x)⟩
 | ext φ=>obtain⟨_,⟨ob,e⟩,_⟩:=x;exact⟨_,e⟩
structure E5(B:Heap)(fs:List Addr)(H':Hp)(h:Heap):Prop where
 tr:∀b o,H' b=some o->∃ob,B.get? b=some ob
 old:∀b o,h.get? b=some o->b∉fs->∃ob,B.get? b=some ob
section
variable {P:Program} {w:World} {fs fs':List Addr} {H H1 H':Hp} {h h1 h2 B:Heap}
theorem Un.fly(un:Un fs [] H H' h h1)(big:E5 B fs H' h)(st1:B.StaysIn h1)(st2:B.StaysIn h2)(sl:h1.UpToSlots h2)
  (fr:∀b∈fs,H b=none∧∀o,h1.get? b=some o->∀vs,o.data≠.fields vs):Un fs [] H H' h h2 where
 keep:=fun b o e n hb hx=>by
  have e1:=un.keep b o e n hb hx;obtain⟨ob,eb⟩:=big.old b o e hb;have e2:=st1 b ob eb;rw[e1]at e2;cases e2;exact st2 b _ eb
 slot:=fun b o e n hb hx=>by
  obtain⟨s1,e1⟩:=un.slot b o e n hb hx;obtain⟨s2,e2⟩:=sl b _ e1 ((fr b hb).2 _ e1);exact⟨s2,e2⟩
 free:=un.free
 there:=fun b o e hx=>by
  by_cases hb:b∈fs
  ·obtain⟨s1,e1⟩:=un.slot b o e (fr b hb).1 hb hx
   obtain⟨s2,e2⟩:=sl b _ e1 ((fr b hb).2 _ e1);exact⟨_,e2⟩
  ·obtain⟨ob,eb⟩:=big.old b o e hb
   exact⟨_,st2 b ob eb⟩
 tups:=un.tups
 frzs:=un.frzs
 tbls:=un.tbls
theorem HOk.fly(hok:HOk P w H' h1)(big:E5 B fs H' h)(st1:B.StaysIn h1)(st2:B.StaysIn h2):HOk P w H' h2:=fun a o e=>by
 refine(hok a o e).stay (fun b u hb q=>?_) (fun _ q=>q) fun _ _ q=>q;have hb':∃ob,B.get? b=some ob:=by
  rcases hb with z|z
  ·rw[z]
   exact big.tr a o e
  ·exact big.tr b _ z
 obtain⟨ob,eb⟩:=hb';have e2:=st1 b ob eb;rw[q]at e2;cases e2;exact st2 b _ eb
theorem Un.shed(a:Un fs [] H H1 h h1)(b:Un fs' [] H1 H' h1 h2)(sub:∀x∈fs,x∈fs')(out:∀x o,h.get? x=some o->x∈fs'->x∈fs):Un fs [] H H' h h2 where
 keep:=fun x o e n hx hn=>b.keep x o (a.keep x o e n hx hn) (a.free x o e n hn) (fun z=>hx (out x o e z)) hn
 slot:=fun x o e n hx hn=>by
  obtain⟨s1,e1⟩:=a.slot x o e n hx hn;obtain⟨s2,e2⟩:=b.slot x _ e1 (a.free x o e n hn) (sub x hx) hn;exact⟨s2,e2⟩
 free:=fun x o e n hn=>by
  obtain⟨o1,e1⟩:=a.there x o e hn;exact b.free x o1 e1 (a.free x o e n hn) hn
 there:=fun x o e hn=>by
  obtain⟨o1,e1⟩:=a.there x o e hn;exact b.there x o1 e1 hn
 tups:=fun x xs e=>b.tups x xs (a.tups x xs e)
 frzs:=fun x o xs e=>b.frzs x o xs (a.frzs x o xs e)
 tbls:=fun x ps e=>by
  obtain⟨m1,e1⟩:=a.tbls x ps e;obtain⟨m2,e2⟩:=b.tbls x _ e1;exact⟨m1++m2,by rw[e2,Array.append_assoc]⟩
end
def CXE(P:Program)(w:World):CXT:=fun outer H s E e s'=>∃(ea t:Addr) (cls:Value) (H':Hp) (B:Heap),
 e = .ref ea∧s'.os=s.os∧AllBare s'.gens∧Un (frs outer) [] H H' s.heap s'.heap∧HOk P w H' s'.heap∧Heap.FlyingW B outer ea cls (.ref t) s'.heap∧E5 B (frs outer) H' s.heap∧E cls none H'
section
variable {P:Program} {w:World} {K:W.Frag} {mg:Str->Option Value} {base:Heap} {N:List Str} {qual:Str} {scope:Scope} {f:Addr} {cdv:Value} {A:Around} {outer:List Env} {s₀:Shared} {H₀:Hp} {E:XK}
theorem tK{env:Env}{L:Addr}(hf:env.frame=some L)(l:List Env):frs (env::l)=L::frs l:=by
 unfold frs;rw[List.filterMap_cons,hf]
theorem we{pins:List (Addr×Obj)}{σ:St}{H:Hp}{s:Shared}{h':Heap}{e:Addr}{cls:Value}{vs:List Value}(I:yI (bw (CXE P w) P w K mg base N qual scope f cdv A outer s₀ H₀ E) pins σ H s)
  (hx:Heap.MadeExcOf s.heap h' e cls vs) (q:E cls none H):(bw (CXE P w) P w K mg base N qual scope f cdv A outer s₀ H₀ E).xe (.ref e) { s with heap:=h' }:=by
 have hin:∀env∈(bw (CXE P w) P w K mg base N qual scope f cdv A outer s₀ H₀ E).stack,∀a,env.frame=some a->a∈frs (bw (CXE P w) P w K mg base N qual scope f cdv A outer s₀ H₀ E).stack :=
  fun env he a ha=>List.mem_filterMap.mpr ⟨env,he,ha⟩
 have neL:∀b o,s₀.heap.get? b=some o->b∉frs outer->b∉frs (bw (CXE P w) P w K mg base N qual scope f cdv A outer s₀ H₀ E).stack:=fun b o eb hb hm=>by
  rcases List.mem_cons.mp (I.stkSub b hm) with z|z
  ·exact absurd z (Nat.ne_of_lt (Nat.lt_of_lt_of_le (Heap.lt_size eb) I.ok.above))
  ·exact hb z
 refine wpAny_leaves_madeW (base:=W.hideAll s.heap (frs (bw (CXE P w) P w K mg base N qual scope f cdv A outer s₀ H₀ E).stack)) (h:=s.heap) (L:=s₀.heap.objs.size) I.ok.frames rfl (fun b o z=>W.of_hideAll _ z) (W.funFrames_hide I.stack hin) hx fun h'' t fl _ _ up=>?_;have big:E5 (W.hideAll s.heap (frs (bw (CXE P w) P w K mg base N qual scope f cdv A outer s₀ H₀ E).stack)) (frs outer) H s₀.heap:=by
  refine⟨fun b o eb=>?_,fun b o eb hb=>?_⟩
  ·obtain⟨ob,z⟩:=(I.hok b o eb).has
   refine⟨ob,W.hideAll_get _ z fun hm=>?_⟩;rw[I.stkFree b hm]at eb;cases eb
  ·obtain⟨ob,z⟩:=I.base.there b o eb (by intro z;cases z)
   exact⟨ob,W.hideAll_get _ z (neL b o eb hb)⟩
 have st1:(W.hideAll s.heap (frs (bw (CXE P w) P w K mg base N qual scope f cdv A outer s₀ H₀ E).stack)).StaysIn s.heap:=fun b o z=>W.of_hideAll _ z;have sl:s.heap.UpToSlots h'':=(Heap.UpToSlots.of_keeps hx.keeps).trans up;exact⟨e,t,cls,H,_,rfl,I.os,I.bare,Un.fly I.base big st1 fl.1 sl fun b hb=>⟨I.ok.frf b hb,fun o eo=>by
   obtain⟨_,o',eo',nf⟩:=I.funs.mem hb;rw[eo]at eo';cases eo';exact nf⟩,HOk.fly I.hok big st1 fl.1,fl,big,q⟩
theorem uN{E1:XK}(hE:∀c o H',E1 c o H'->E c o H'):gh (CXE P w) (bw (CXE P w) P w K mg base N qual scope f cdv A outer s₀ H₀ E) E1:=by
 intro pins σ H s e s' I h;obtain⟨ea,t,cls,H',B,rfl,os,bare,un,hok,fl,big,q⟩:=h;refine wpAny_leaves_onW (L:=s₀.heap.objs.size) I.ok.frames rfl fl fun h'' fl' up=>?_;have out:∀x o,s₀.heap.get? x=some o->x∈frs (bw (CXE P w) P w K mg base N qual scope f cdv A outer s₀ H₀ E).stack->x∈frs outer:=fun x o ex hm=>by
  rcases List.mem_cons.mp (I.stkSub x hm) with z|z
  ·exact absurd z (Nat.ne_of_lt (Nat.lt_of_lt_of_le (Heap.lt_size ex) I.ok.above))
  ·exact z
 have sub:∀x∈frs outer,x∈frs (bw (CXE P w) P w K mg base N qual scope f cdv A outer s₀ H₀ E).stack:=fun x hx=>by
  show x∈frs (_::outer);rw[tK (L:=s₀.heap.objs.size) rfl];exact List.mem_cons_of_mem _ hx
 have un1:Un (frs outer) [] H₀ H' s₀.heap s'.heap:=Un.shed I.base un sub out;have big1:E5 B (frs outer) H' s₀.heap:=by
  refine⟨big.tr,fun b o eb hb=>?_⟩;obtain⟨ob,z⟩:=I.base.there b o eb (by intro z;cases z);exact big.old b ob z fun hm=>hb (out b o eb hm)
 refine⟨ea,t,cls,H',B,rfl,os.trans I.os,bare,Un.fly un1 big1 fl.1 fl'.1 up fun b hb=>⟨I.ok.frf b hb,fun o eo=>?_⟩,HOk.fly hok big1 fl.1 fl'.1,fl',big1,hE _ _ _ q⟩;obtain⟨_,o',eo',nf⟩:=fl'.2.2.1.mem hb;obtain⟨_,o2,eo2,nf2⟩:=fl.2.2.1.mem (sub b hb);rw[eo]at eo2;cases eo2;exact nf2
end
structure CG(K:W.Frag)(mg:Str->Option Value)(x:Str)(C:Addr):Prop where
 bound:mg x=some (.ref C)
 obj:∀h:Heap,K.In h->∃bm N nm qn bs hd sn sub ab col dd k0 k1 k2 k3 k5 mN,h.get? C=some (excClassObj nm qn C N bs bm hd sn sub ab col dd k0 k1 k2 k3 k5 "ValueError.__new__")∧h.Ns N mN∧mN "__init__" = none ∧
  OwnTail h [.type "ValueError",.type "Exception",.type "BaseException",.type "object"] bm
theorem vh{K:W.Frag}{h:Heap}{C:Addr}{bmB:List Value}{newId:String}(X:K.In h)(q:W.excIn K C bmB newId=true) :
  ∃bm N nm qn bs hd sn sub ab col dd k0 k1 k2 k3 k5 mN,h.get? C=some (excClassObj nm qn C N bs bm hd sn sub ab col dd k0 k1 k2 k3 k5 newId)∧h.Ns N mN∧mN "__init__" = none∧OwnTail h bmB bm:=by
 unfold W.excIn at q
 split at q
 next dct cl sls look =>
  split at q
  next C2 bms a0 a1 a2 a3 nid a5 hmro hsls =>
   simp only[Bool.not_eq_true',beq_iff_eq,Bool.and_eq_true]at q;obtain⟨⟨⟨⟨⟨q1,q2⟩,q3⟩,q4⟩,q5⟩,q6⟩:=q;subst q1 q2;obtain⟨c1,c2,c3,c4,c5,c6,c7,c8,c9,c10,c11⟩:=cl;dsimp only at hmro q3 q5 q6;subst hmro q3;obtain⟨lst⟩:=sls;simp only at hsls;subst hsls;exact⟨bms,c4,c1,c5,c2,c6,c7,c8,c9,c10,dct,a0,a1,a2,a3,a5,_,X _ _ look,.of_isNs (W.isNs_of_in X q5),W.nsMap_none_of_in X q5 q6,W.tail_of_in X q4⟩
  next=>cases q
 next=>cases q
theorem wR{K:W.Frag}{mg:Str->Option Value}{h:Heap}{x:Str}{C:Addr}(X:K.In h)(G:h.Ns mainGlobals mg)(a:W.nsIn K mainGlobals x=some (some (.ref C)))
  (q:W.excIn K C [.type "ValueError",.type "Exception",.type "BaseException",.type "object"] "ValueError.__new__" = true):CG K mg x C:=⟨W.mg_of X G a,fun _ Y=>vh Y q⟩
section
variable {P:Program} {w:World} {K:W.Frag} {mg:Str->Option Value} {base:Heap} {N:List Str} {qual:Str} {scope:Scope} {f:Addr} {cdv:Value} {A:Around} {outer:List Env} {s₀:Shared} {H₀:Hp} {E:XK}
theorem gu{x:Str}{C:Addr}{np cpos pos:Pos}(O:CG K mg x C)(hg:Gl (bw (CXE P w) P w K mg base N qual scope f cdv A outer s₀ H₀ E) x)(hdb:(x == ("__debug__" : Str))=false:=by decide) :
  PS (bw (CXE P w) P w K mg base N qual scope f cdv A outer s₀ H₀ E) (.Raise (some (.Call (.Name x np) [] [] cpos)) none pos) (fun _ _ H=>E (.ref C) none H):=by
 intro pins s σ H D I h;obtain⟨bm,N',nm,qn,bs,hd,sn,sub,ab,col,dd,k0,k1,k2,k3,k5,mN,hC,hN,hni,T⟩:=O.obj s.heap I.kIn;refine wpAny_Raise_call_subT (C:=C) (nm:=nm) (q:=qn) (N:=N') (bs:=bs) (bm:=bm) (hdct:=hd) (sn:=sn) (sub:=sub) (ab:=ab) (col:=col) (dd:=dd) (k0:=k0) (k1:=k1) (k2:=k2) (k3:=k3) (k5:=k5) PySem.F.excBase_ValueError (mN:=mN) (T.hasType (by decide +kernel)) (I.ok.hd rfl) rfl hni (gM I hg O.bound ⟨rfl,?_⟩ hdb);exact evalArgs_empty ⟨rfl,Nat.zero_le _,hC,hN,T,fun h' e hx=>we I hx h⟩
end
section
variable {X:Cx}
end
structure Fx(P:Program)(w:World)(K:W.Frag)(mg:Str->Option Value)(base:Heap)(x:Str)(ps:List Str)(k:Nat)(ds:List V)(sp:Sp):Prop where
 ex:∃(f:Addr) (fd:FuncData) (its:List Value),mg x=some (.ref f)∧W.keepIn K (.ref f)=true∧eW K fd ps []∧eW K fd ps its∧aT ds its∧Bf P w K mg base (CXE P w) k f fd ps sp
structure ER(K:W.Frag)(mg:Str->Option Value)(x:Str)(st:Stmt)(ds:List V):Prop where
 ex:∃(f T:Addr) (oT:Obj) (n:Nat) (its:List Value) (oc:Value) (od:Option Addr) (kV doc pm:Value) (an:Option Addr) (cdv ct:Value) (osl:Array (Option Value)),
  mg x=some (.ref f)∧K.lookup f=some ⟨oc,od,.func (W.fnOf x x (br st) (aL st) (ap st) (.ref T) kV doc pm an cdv ct),osl⟩∧W.codeIn K cdv x=true∧W.keepIn K (.ref f)=true∧K.lookup T=some oT∧oT.data = .seq its.toArray n∧aT ds its
theorem wW{K:W.Frag}{mg:Str->Option Value}{h:Heap}{x:Str}{st:Stmt}{ds:List V}{its:List Value}{f T:Addr}{oT:Obj}{n:Nat}{oc:Value}{od an:Option Addr}{osl:Array (Option Value)}{kV doc pm cdv ct:Value}(X:K.In h)(G:h.Ns mainGlobals mg)
  (a:W.nsIn K mainGlobals x=some (some (.ref f))) (l:K.lookup f=some ⟨oc,od,.func (W.fnOf x x (br st) (aL st) (ap st) (.ref T) kV doc pm an cdv ct),osl⟩) (c:W.codeIn K cdv x=true) (k:W.keepIn K (.ref f)=true)
  (t:K.lookup T=some oT) (d:oT.data = .seq its.toArray n) (v:aT ds its):ER K mg x st ds:=⟨⟨f,T,oT,n,its,oc,od,kV,doc,pm,an,cdv,ct,osl,W.mg_of X G a,l,c,k,t,d,v⟩⟩
theorem ER.fx{P:Program}{w:World}{K:W.Frag}{mg:Str->Option Value}{base:Heap}{x:Str}{st:Stmt}{ds:List V}{N ps:List Str}{k:Nat}{sp:Sp}(D:ER K mg x st ds)(S:yG N ps (ap st))
  (hb:∀(T:Addr) (kV doc pm:Value) (an:Option Addr) (cdv ct:Value) (us its:List Value) (oT:Obj) (n:Nat) (s:Shared),aT ds its->us.length=ps.length->s.heap.get? T=some oT->oT.data = .seq its.toArray n ->
   BindsTo s (W.fnOf x x (br st) (aL st) (ap st) (.ref T) kV doc pm an cdv ct) ⟨us,[]⟩ (ps.zip us))
  (hd:∀(T:Addr) (kV doc pm:Value) (an:Option Addr) (cdv ct:Value) (us its:List Value) (oT:Obj) (n:Nat) (s:Shared),aT ds its->(us++its).length=ps.length->s.heap.get? T=some oT->oT.data = .seq its.toArray n ->
   BindsTo s (W.fnOf x x (br st) (aL st) (ap st) (.ref T) kV doc pm an cdv ct) ⟨us,[]⟩ (ps.zip (us++its)))
  (len:∀vs H Q E,sp vs H Q E->vs.length=ps.length)
  (hbody:∀(f:Addr) (cdv:Value) (A:Around) (outer:List Env) (s:Shared) (H:Hp) (vs:List V) (Q:VK) (E:XK),y7 k (A.deeper (envOfC x (ap st) s.heap.objs.size f cdv))->sp vs H Q E ->
   ∃t,PSs (bw (CXE P w) P w K mg base N x (ap st) f cdv A outer s H E) (aL st) t∧t { nx:=fun _ H'=>Q .non H',rt:=Q } (eS N vs) H):Fx P w K mg base x ps (k+1) ds sp:=by
 obtain⟨f,T,oT,n,its,oc,od,kV,doc,pm,an,cdv,ct,osl,hm,lk,hcd,hk,hT,hs,hv⟩:=D.ex;refine⟨⟨f,_,its,hm,hk,fun s us KX hl=>?_,fun s us KX hl=>hd T kV doc pm an cdv ct us its oT n s hv hl (KX _ _ hT) hs,hv,m7 lk hcd S len fun A outer s H vs Q E hr hsp=>hbody f cdv A outer s H vs Q E hr hsp⟩⟩;rw[List.append_nil]at hl ⊢;exact hb T kV doc pm an cdv ct us its oT n s hv hl (KX _ _ hT) hs
theorem Df.fx{P:Program}{w:World}{K:W.Frag}{mg:Str->Option Value}{base:Heap}{x:Str}{st:Stmt}{N ps:List Str}{k:Nat}{sp:Sp}(D:Df K mg x st)(S:yG N ps (ap st))
  (hbind:∀(kV doc pm:Value) (an:Option Addr) (cdv ct:Value) (us:List Value),us.length=ps.length->bindArgs (W.fnOf x x (br st) (aL st) (ap st) .none kV doc pm an cdv ct) ⟨us,[]⟩=pure (ps.zip us))
  (len:∀vs H Q E,sp vs H Q E->vs.length=ps.length)
  (hbody:∀(f:Addr) (cdv:Value) (A:Around) (outer:List Env) (s:Shared) (H:Hp) (vs:List V) (Q:VK) (E:XK),y7 k (A.deeper (envOfC x (ap st) s.heap.objs.size f cdv))->sp vs H Q E ->
   ∃t,PSs (bw (CXE P w) P w K mg base N x (ap st) f cdv A outer s H E) (aL st) t∧t { nx:=fun _ H'=>Q .non H',rt:=Q } (eS N vs) H):Fx P w K mg base x ps (k+1) [] sp:=by
 obtain⟨f,oc,od,kV,doc,pm,an,cdv,ct,osl,hm,lk,hcd,hk⟩:=D.ex;have hb:eW K (W.fnOf x x (br st) (aL st) (ap st) .none kV doc pm an cdv ct) ps []:=.all (hbind kV doc pm an cdv ct);exact⟨⟨f,_,[],hm,hk,hb,hb,.nil,m7 lk hcd S len fun A outer s H vs Q E hr hsp=>hbody f cdv A outer s H vs Q E hr hsp⟩⟩
theorem sK{P:Program}{w:World}{K:W.Frag}{mg:Str->Option Value}{base:Heap}{N:List Str}{qual:Str}{scope:Scope}{f:Addr}{cdv:Value}{A:Around}{outer:List Env}{s₀:Shared}{H₀:Hp}{E:XK}
  {x:Str} {ps:List Str} {k:Nat} {ds:List V} {sp:Sp} {p pos:Pos} {e:Expr} {es:List Expr} {t:TA} (F:Fx P w K mg base x ps k ds sp) (hr:y7 k (bw (CXE P w) P w K mg base N qual scope f cdv A outer s₀ H₀ E).A) (hg:Gl (bw (CXE P w) P w K mg base N qual scope f cdv A outer s₀ H₀ E) x)
  (ha:PA (bw (CXE P w) P w K mg base N qual scope f cdv A outer s₀ H₀ E) (e::es) t)
  (hdb:(x == ("__debug__" : Str))=false:=by decide) (he:starEach (e::es) (bw (CXE P w) P w K mg base N qual scope f cdv A outer s₀ H₀ E).env=(false,eval e (bw (CXE P w) P w K mg base N qual scope f cdv A outer s₀ H₀ E).env)::starEach es (bw (CXE P w) P w K mg base N qual scope f cdv A outer s₀ H₀ E).env:=by rfl)
  (hpl:(backTo pos (starEach es (bw (CXE P w) P w K mg base N qual scope f cdv A outer s₀ H₀ E).env)).any (·.1)=false:=by rfl) :
  PE (bw (CXE P w) P w K mg base N qual scope f cdv A outer s₀ H₀ E) (.Call (.Name x p) (e::es) [] pos) (o5 sp [] E t):=by
 obtain⟨g,fd,its,hm,hk,hb,_,_,G⟩:=F.ex;exact lc G hr hg hm hk hb .nil (uN fun _ _ _ z=>z) ha hdb he hpl
theorem km{P:Program}{w:World}{X:Cx}:gh (CXE P w) X E0:=fun _ _ _ _ _ _ _ h=>by
 obtain⟨_,_,_,_,_,_,_,_,_,_,_,_,q⟩:=h;exact q.elim
theorem jq{X:Cx}{x:Str}{ps:List Str}{k:Nat}{ds:List V}{sp:Sp}{p pos:Pos}{e:Expr}{es:List Expr}{t:TA}(F:Fx X.prog X.w X.K X.mg X.base x ps k ds sp)(hr:y7 k X.A)(hg:Gl X x)(ha:PA X (e::es) t)
  (hdb:(x == ("__debug__" : Str))=false:=by decide) (he:starEach (e::es) X.env=(false,eval e X.env)::starEach es X.env:=by rfl) (hpl:(backTo pos (starEach es X.env)).any (·.1)=false:=by rfl) :
  PE X (.Call (.Name x p) (e::es) [] pos) (o5 sp [] E0 t):=by
 obtain⟨g,fd,its,hm,hk,hb,_,_,G⟩:=F.ex;exact lc G hr hg hm hk hb .nil km ha hdb he hpl
section
variable {X:Cx}
variable {x fn:Str} {i:Nat} {ps:List Str} {k:Nat} {ds:List V} {sp:Sp} {e:Expr} {es:List Expr} {ta:TA} {px pf cpos pos:Pos}
end
end L2
namespace Sp2
open PySem PySem.Spec L2 Mth Sp1
theorem tj{H:Hp}{x:V}(h:iI H x=true):∃p a b,x = .ref p∧H p=some (.tup [.int a,.int b])∧CC a b:=by
 unfold iI at h
 split at h
 ·split at h
  ·rename_i p _ xs e
   unfold jU at h
   split at h
   ·rename_i a b
    unfold lowB at h;rw[Bool.and_eq_true,decide_eq_true_eq,decide_eq_true_eq]at h;exact⟨p,a,b,rfl,e,h.1,h.2⟩
   ·cases h
  ·cases h
 ·cases h
theorem sY{H:Hp}{p:Addr}{a b:Int}(e:H p=some (.tup [.int a,.int b])):iI H (.ref p)=lowB a b:=by
 simp only[iI,e,jU]
theorem sW{a b:Int}(h:CC a b):lowB a b=true:=by
 unfold lowB;rw[decide_eq_true h.pos,decide_eq_true h.one];rfl
inductive CY (vs:List V) (H:Hp) (Q:VK) (x_3:XK):Prop
 | mk:∀(p:Addr) (xs:List V),(vs = [.ref p])->(H p=some (.lst xs))->(Q (.int ((xs.length:Int) - 1)) H)->CY vs H Q x_3
theorem sU{n:Int}(h0:-1000≤n)(h1:n≤1000):-(2^64)<n∧n<2^64:=by
 have e:(2:Int)^64=18446744073709551616:=by decide
 rw[e];omega
theorem xf{ns:List Int}{k:Int}(j:Nat)(e:k=(j:Int))(h:j<ns.length):atI (ns.map V.int) k=some (.int ns[j]):=by
 subst e;exact d6 (by rw[List.getElem?_map,List.getElem?_eq_getElem h];rfl)
theorem aV{n:Int}(h0:-1000≤n)(h1:n≤1000):bits n≤10:=by
 refine cL (n:=10) ?_;show _<1024;omega
end Sp2
namespace L2
open PySem PySem.Spec PyProof.Rows
end L2
namespace L2
open PySem PySem.Spec PyProof.Rows
abbrev Cx.blk(X:Cx)(N':List Str)(scope:Scope)(cl:List (Str×Addr))(fp:List Addr)(s₀:Shared)(H₀:Hp):Cx :=
 { X with N:=N',s₀:=s₀,H₀:=H₀,env:=compEnvC scope cl s₀.heap.objs.size X.env,outer:=X.stack,ex:=fp,fn:=fun _=>false,pn:=[],xe:=fun _ _=>False }
theorem cB{α:Type}{y:Str}{c:α}:∀{l:List (Str×α)},l.lookup y=some c->(y,c)∈l
 | [],h=>by simp at h
 | (n,d)::r,h=>by
  rw[List.lookup_cons]at h;cases e:y == n with
  | true =>
   rw[e]at h;cases h;rw[beq_iff_eq.mp e];exact List.mem_cons_self
  | false =>
   rw[e]at h;exact List.mem_cons_of_mem _ (cB h)
structure Bx(X:Cx)(scope:Scope)(cl:List (Str×Addr))(x:Str)(fv:List (Str×Nat)):Prop where
 clos:closureFor scope X.env=pure cl
 kind:scope.kind = .function
 cell:∀y∈scope.names,y.2≠.cell
 names:∀y∈scope.names,y.2 = .local->scope.names.lookup y.1=some .local
 own:scope.names.lookup x=some .local
 cells:∀p∈cl,X.env.cells.lookup p.1=some p.2
 has:((relabel scope X.env).names.all fun q=>!(q.2 == .cell || q.2 == .free) || (cl.lookup q.1).isSome)=true
 nd:(x::fv.map (·.1)).Nodup
 slot:∀p∈fv,X.N[p.2]? = some p.1∧X.env.kindOf p.1=some .cell∧Vis X.env.scope p.1∧(cl.lookup p.1).isSome=true∧((relabel scope X.env).names.lookup p.1=some .cell)
 stk:X.stack=X.env::X.outer∧X.env.frame=some X.env.locals
 noex:X.ex = []
def fvs(fv:List (Str×Nat))(σ:St):St:=fv.map fun p=>(σ[p.2]?).join
def vH(wi:TI)(fv:List (Str×Nat))(te:TE):TE:=fun σ H Q=>wi σ H fun J H1=>∀p,H1 p=none->∃W:Nat->Nat->List V->Hp->Prop,(∃m,W 0 m [] (upd H1 p (.lst [])))∧∀i m acc H2,W i m acc H2 ->
 H2 p=some (.lst acc)∧acc.length<sizeLine∧((J.stop i H2∧Q (.ref p) H2)∨(J.go i H2∧∀x H3,J.yld i H2 x H3->te (some x::fvs fv σ) H3 fun y H4=>H4 p=some (.lst acc)∧∃m',m'<m∧W (i+1) m' (acc++[y]) (upd H4 p (.lst (acc++[y])))))
section
variable {X:Cx} {scope:Scope} {cl:List (Str×Addr)} {x:Str} {fv:List (Str×Nat)} {elt iter:Expr} {px pos:Pos} {te:TE}
theorem xb{pins:List (Addr×Obj)}{σ:St}{H:Hp}{s:Shared}{fp:List Addr}(C:Bx X scope cl x fv)(I:yI X pins σ H s)(hf:∀b∈fp,eZ X pins H b)(ho:∀b∈fp,b<s.heap.objs.size):(X.blk (x::fv.map (·.1)) scope cl fp s H).Ok:=by
 have hcl:∀y c,cl.lookup y=some c->X.env.cells.lookup y=some c:=fun y c h=>C.cells _ (cB h);have old:∀b∈fp,X.s₀.heap.objs.size≤b:=fun b hb=>by
  rcases(hf b hb).2.2.2.1 with z|z
  ·rw[C.noex]at z
   cases z
  ·exact z
 refine⟨I.ok.mod,by show(relabel scope X.env).kind=_;exact C.kind,I.ok.glob,I.ok.blt,Nat.le_refl _,fun y z c h1 h2=>I.ok.inj y z c (hcl y c h1) (hcl z c h2),fun y hy=>?_,(fun y c h=>by cases h),I.ok.hd,I.ok.frames,.inl rfl,fun b hb=>?_,fun b o e=>I.bs b o e,Nat.le_trans I.ok.bsz I.sz,fun b o e hb=>?_,fun b hb hm=>?_,I.stack,I.stkFree⟩
 ·have q:=C.has
  rw[List.all_eq_true]at q;have hm:∃k,(y,k)∈(relabel scope X.env).names∧(k = .cell∨k = .free):=by
   rcases hy with hy|hy
   ·exact⟨_,cB hy,.inl rfl⟩
   ·exact⟨_,cB hy,.inr rfl⟩
  obtain⟨k,hk,hk2⟩:=hm;have q2:=q _ hk;have q3:(cl.lookup y).isSome=true:=by
   rcases hk2 with rfl|rfl
   ·simpa using q2
   ·simpa using q2
  exact Option.isSome_iff_exists.mp q3
 ·obtain⟨f0,f1,f2,f3,f4,f5⟩:=hf b hb
  refine⟨?_,fun y c h=>f4 y c (hcl y c h)⟩;exact Nat.ne_of_lt (ho b hb)
 ·have z:=Heap.lt_size e
  have z2:=old b hb;exact absurd (Nat.lt_of_lt_of_le z (Nat.le_trans I.ok.bsz z2)) (Nat.lt_irrefl _)
 ·obtain⟨f0,f1,f2,f3,f4,f5⟩:=hf b hb
  rcases List.mem_cons.mp (I.stkSub b hm) with z|z
  ·exact f1 z
  ·exact f2 z
theorem vt{pins:List (Addr×Obj)}{σ:St}{H:Hp}{s s4:Shared}{fp:List Addr}(C:Bx X scope cl x fv)(I:yI X pins σ H s)(hf:∀b∈fp,eZ X pins H b)(ho:∀b∈fp,b<s.heap.objs.size)
  (hs:s4.os=s.os∧s4.gens=s.gens) (ns:s4.heap.Ns s.heap.objs.size fun _=>none) (kp:∀b o,s.heap.get? b=some o->s4.heap.get? b=some o) :
  yI (X.blk (x::fv.map (·.1)) scope cl fp s H) [] (none::fvs fv σ) H s4:=by
 have hcl:∀y c,cl.lookup y=some c->X.env.cells.lookup y=some c:=fun y c h=>C.cells _ (cB h);refine⟨xb C I hf ho,hs.1,by rw[hs.2];exact I.bare,Un.kept kp,⟨_,ns,fun i y v e1 e2 e3=>?_⟩,fun y c h=>?_,I.hok.fresh (Nat.le_refl _),fun y c h=>I.freeC y c (hcl y c h),fun p hp=>by simp at hp,I.hok.kept kp,by simp[fvs]⟩
 ·cases i with
  | zero=>simp at e2
  | succ j =>
   have e1':(fv.map (·.1))[j]? = some y:=by simpa using e1
   have e2':(fvs fv σ)[j]? = some (some v):=by simpa using e2
   rw[List.getElem?_map]at e1';unfold fvs at e2';rw[List.getElem?_map]at e2';cases hq:fv[j]? with
   | none =>
    rw[hq]at e1';cases e1'
   | some q =>
    rw[hq]at e1' e2';have ey:q.1=y:=Option.some.inj e1';have ev:(σ[q.2]?).join=some v:=Option.some.inj e2';have hm:q∈fv:=List.mem_of_getElem? hq;obtain⟨s1,s2,s3,s4',s5⟩:=C.slot q hm;have ev2:σ[q.2]? = some (some v):=by
     cases hz:σ[q.2]? with
     | none =>
      rw[hz]at ev;cases ev
     | some z =>
      rw[hz]at ev;have ev':z=some v:=ev;rw[ev']
    obtain⟨m,hn,hl⟩:=I.loc;obtain⟨u,r,lk⟩:=hl q.2 q.1 v s1 ev2 s3;obtain⟨c,hc⟩:=Option.isSome_iff_exists.mp s4';refine⟨u,r,.inr ⟨.inl (by rw[<- ey];exact s5),c,by rw[<- ey];exact hc,?_⟩⟩;rcases lk with⟨k,_⟩|⟨_,c',hc',z⟩
    ·rw[s2]at k
     cases k
    ·rw[hcl _ _ hc]at hc'
     cases hc';obtain⟨o,ho',hd⟩:=z;exact⟨o,kp _ _ ho',hd⟩
 ·obtain⟨v,o,ho',hd⟩:=I.cell y c (hcl y c h)
  exact⟨v,o,kp _ _ ho',hd⟩
theorem qm{pins:List (Addr×Obj)}{σ:St}{H2:Hp}{s2:Shared}{it:Addr}{fp:List Addr}{tn:Nat->Heap->Prop}{J:It}{RR:Value->Addr->Result->Shared->Prop}{E:Value->Shared->Prop}{Qf:V->Hp->Prop}
  (hcalm:X.calm=true) (C:Bx X scope cl x fv) (I2:yI X pins σ H2 s2) (T:C3 X.prog X.w X.K (.Name x px) J fp it tn) (st:tn 0 s2.heap) (f2:∀b∈fp,eZ X pins H2 b)
  (rd:∀p,H2 p=none->∃W:Nat->Nat->List V->Hp->Prop,(∃m,W 0 m [] (upd H2 p (.lst [])))∧∀i m acc H2,W i m acc H2 ->
   H2 p=some (.lst acc)∧acc.length<sizeLine∧((J.stop i H2∧Qf (.ref p) H2)∨(J.go i H2∧∀x H3,J.yld i H2 x H3->te (some x::fvs fv σ) H3 fun y H4=>H4 p=some (.lst acc)∧∃m',m'<m∧W (i+1) m' (acc++[y]) (upd H4 p (.lst (acc++[y]))))))
  (he:∀(s₀:Shared) (H₀:Hp),PE (X.blk (x::fv.map (·.1)) scope cl fp s₀ H₀) elt te)
  (hRR:∀(p C:Addr) (H':Hp) (s':Shared),(∃m,s'.heap.Ns C m)->C≠X.env.locals->H' C=none->X.s₀.heap.objs.size≤C->(∀y c,X.env.cells.lookup y=some c->c≠C)->(∀q∈X.pn++pins,q.1≠C)->yI X pins σ H' s'->Qf (.ref p) H'->RR (.ref p) C (.ok .next) s') :
  wpAny (model X.prog X.w) X.A (newList []) (fun acc s₃=>wpAny (model X.prog X.w) X.A (newFunctionEnv scope X.env.globals cl [] X.env.qual none .none (some X.env)) (fun cenv s₄ =>
   codeAny (model X.prog X.w) X.A (.compStart (.ListComp elt [⟨.Name x px,iter,[],0⟩] scope pos) 0 (.ref it) acc { cenv with scope:=relabel scope X.env }) (RR acc cenv.locals) s₄) E s₃) E s2:=by
 refine wpAny_newObj_type ?_;have hfresh:=I2.fresh;have I3:yI X pins σ (upd H2 s2.heap.objs.size (.lst [])) { s2 with heap:=s2.heap.push { cls:=.type "list",data:=.seq ([]:List Value).toArray } } :=
  I2.laid (t':=s2.toks) (fun b u q=>Heap.get?_push_of_some _ q) (Nat.le_refl _) ⟨Nat.zero_le _,[],0,.nil,Heap.get?_push_size _ rfl⟩
 generalize hs3:({ s2 with heap:=s2.heap.push { cls:=.type "list",data:=.seq ([]:List Value).toArray } }:Shared)=s3 at I3 ⊢;have hp3:s2.heap.objs.size<s3.heap.objs.size:=by rw[<- hs3];exact Nat.lt_of_lt_of_le (Nat.lt_succ_self _) (Nat.le_of_eq (Heap.size_push _ _).symm)
 have k23:∀b o,s2.heap.get? b=some o->s3.heap.get? b=some o:=fun b o e=>by rw[<- hs3];exact Heap.get?_push_of_some _ e
 have fpo:∀b∈fp,b<s2.heap.objs.size:=fun b hb=>by
  obtain⟨o,e,_⟩:=T.obj 0 _ st b hb;exact Heap.lt_size e
 have f3:∀b∈fp,eZ X pins (upd H2 s2.heap.objs.size (.lst [])) b:=fun b hb=>⟨by rw[aN (Nat.ne_of_lt (fpo b hb))];exact(f2 b hb).1,(f2 b hb).2⟩;refine wpAny_newFunctionEnv C.cell (by intro y hy;simp at hy) (fun h1 hns1 hsb1=>?_) C.kind;have kp:∀b o,s3.heap.get? b=some o->h1.get? b=some o:=fun b o e=>(hsb1.2 b (Nat.ne_of_lt (Heap.lt_size e))).trans (Heap.get?_push_of_some _ e);have I4:=vt (s4:={ s3 with heap:=h1,toks:=s3.toks+([]:List (Str×Value)).length }) C I3 f3 (fun b hb=>Nat.lt_trans (fpo b hb) hp3) ⟨rfl,rfl⟩ hns1 kp;have st4:tn 0 h1:=T.keep 0 _ _ st fun b _ o e=>kp b o (k23 b o e);obtain⟨W,⟨m0,w0⟩,step⟩:=rd _ hfresh;have loop:codeAny (model X.prog X.w) X.A (.compLoop (.ListComp elt [⟨.Name x px,iter,[],0⟩] scope pos) 0 (.ref it) (.ref s2.heap.objs.size) (compEnvC scope cl s3.heap.objs.size X.env)) (RR (.ref s2.heap.objs.size) s3.heap.objs.size)
   { s3 with heap:=h1,toks:=s3.toks+([]:List (Str×Value)).length }:=by
  refine codeAny_compLoop_list (fun n s=>∃i acc σv H',yI (X.blk (x::fv.map (·.1)) scope cl fp s3 (upd H2 s2.heap.objs.size (.lst []))) [] (σv::fvs fv σ) H' s∧tn i s.heap∧(∀b∈fp,H' b=none)∧W i n acc H') ?_ m0 ⟨0,[],none,_,I4,st4,fun b hb=>(f3 b hb).1,w0⟩;rintro n s ⟨i,acc,σv,H',I',st',fr',w'⟩;obtain⟨hp,hlen,alt⟩:=step i n acc H' w';have fpk:∀{H5:Hp},(∀b∈fp,H5 b=none)->∀b∈fp,eZ (X.blk (x::fv.map (·.1)) scope cl fp s3 (upd H2 s2.heap.objs.size (.lst []))) [] H5 b:=fun h5 b hb =>
   ⟨h5 b hb,(I'.ok.exf b hb).1,I'.ok.exfs b hb,.inl hb,fun y c e=>(I'.ok.exf b hb).2 y c e,fun q hq=>by simp at hq⟩
  rcases alt with⟨stop,qf⟩|⟨go,turn⟩
  ·refine wpAny_mono (T.done (X.blk (x::fv.map (·.1)) scope cl fp s3 (upd H2 s2.heap.objs.size (.lst []))) rfl rfl rfl hcalm i [] s _ H' (fun _ _=>False) I' (fpk fr') st' stop) (fun r s5 ⟨hr,I5⟩=>?_) fun _ _ z=>False.elim z
   subst hr;refine hRR _ _ H' s5 (let ⟨m,hn,_⟩:=I5.loc;⟨m,hn⟩) (Nat.ne_of_gt I3.lt) I5.free I3.sz (fun y c e=>?_) (fun q hq=>?_) ?_ qf
   ·obtain⟨v,z⟩:=I3.cell y c e
    exact Nat.ne_of_lt z.lt
   ·exact Nat.ne_of_lt (Heap.lt_size (I3.pin q hq).1)
   ·exact I3.call' (s':=s5) (ch:=fp) I5.os I5.base I5.hok I5.bare fun b hb=>⟨(f2 b hb).2.2.2.1,(f2 b hb).2.1,(f2 b hb).2.2.2.2.1,(f2 b hb).2.2.2.2.2⟩
  ·refine wpAny_mono (T.item (X.blk (x::fv.map (·.1)) scope cl fp s3 (upd H2 s2.heap.objs.size (.lst []))) rfl rfl rfl hcalm i [] s _ H' (fun _ _=>False) I' (fpk fr') st' go) (fun r s5 ⟨u,hr,h5⟩=>?_) fun _ _ z=>False.elim z
   subst hr;have e5:assign (.Name x px) (compEnvC scope cl s3.heap.objs.size X.env) u=(letOwnedTupleGo (.Name x px) (.ref it) u >>= fun _=>assign (.Name x px) (compEnvC scope cl s3.heap.objs.size X.env) u):=by
    rw[show letOwnedTupleGo (.Name x px) (.ref it) u=pure () from rfl];rfl
   show wpAny _ _ (assign (.Name x px) (compEnvC scope cl s3.heap.objs.size X.env) u) _ _ _;rw[e5];refine wpAny_bind (wpAny_mono h5 (fun _ s6 ⟨y,H6,I6,r6,y6,st6,fr6⟩=>?_) fun _ _ z=>False.elim z);have I6':=I6.pinned (fpk fr6) (T.obj _ _ st6);have lx:(relabel scope X.env).names.lookup x=some .local:=lookup_relabel_local C.own;refine wpAny_mono (aU (X:=X.blk (x::fv.map (·.1)) scope cl fp s3 (upd H2 s2.heap.objs.size (.lst []))) (i:=0) C.nd rfl (.inl lx) (.inr lx) _ s6 _ H6 y u (fun σ7 H7=>σ7=some y::fvs fv σ∧H7=H6) I6' r6 ⟨rfl,rfl⟩) (fun _ s7 ⟨σ7,H7,I7,e7,e7'⟩=>?_) fun _ _ z=>False.elim z;subst e7 e7';refine wpAny_mono (he s3 _ _ s7 _ _ _ I7 (turn y _ y6)) (fun v8 s8 ⟨y8,H8,I8,r8,q8,m',hm',w8⟩=>?_) fun _ _ z=>False.elim z;refine wpAny_mono (ia (X:=X.blk (x::fv.map (·.1)) scope cl fp s3 (upd H2 s2.heap.objs.size (.lst []))) _ s8 _ H8 (.ref s2.heap.objs.size) [y8] (.ref s2.heap.objs.size) [v8] (fun _ H9=>H9=upd H8 s2.heap.objs.size (.lst (acc++[y8]))) I8 rfl (.cons r8 .nil) ⟨_,acc,y8,rfl,rfl,q8,hlen,rfl⟩) (fun _ s9 ⟨_,H9,I9,_,e9⟩=>?_) fun _ _ z=>False.elim z;subst e9;refine⟨m',hm',i+1,acc++[y8],some y,_,I9.unpinned,T.keep _ _ _ st6 fun b hb o e=>(I9.pin (b,o) (List.mem_append_right _ (List.mem_append_right _ (dy hb e)))).1,fun b hb=>?_,w8⟩;obtain⟨o,e,d⟩:=T.obj _ _ st6 b hb;exact(I9.pin (b,o) (List.mem_append_right _ (List.mem_append_right _ (dy hb e)))).2.1
 exact codeAny_compStart_list loop (T.self _ 0 _ _ _ st4 loop)
theorem uL{wi:TI}(hcalm:X.calm=true)(C:Bx X scope cl x fv)(hi:PI X (.Name x px) iter wi)(he:∀(fp:List Addr) (s₀:Shared) (H₀:Hp),PE (X.blk (x::fv.map (·.1)) scope cl fp s₀ H₀) elt te)
  (hs:∀v,foldedSetIterable iter X.env v=pure v:=by intro _;rfl):PE X (.ListComp elt [⟨.Name x px,iter,[],0⟩] scope pos) (vH wi fv te):=by
 intro pins s σ H Q I h;rw[eval_ListComp];refine wpAny_comprehension_free (use:=none) rfl hs C.clos C.kind C.names (wpAny_mono (hi pins s σ H _ I h) (fun v s1 h1=>wpAny_mono h1 (fun itv s2 h2=>?_) fun _ _ z=>z) fun _ _ z=>z);obtain⟨it,fp,tn,J,H2,rfl,I2,T,st2,f2,rd⟩:=h2;refine qm (Qf:=Q) hcalm C I2 T st2 f2 rd (he fp) fun p D H' s' ns nL nH n0 nC nP I8 q=>?_;obtain⟨m,hn⟩:=ns;exact⟨m,hn,fun h'' sb=>⟨.ref p,H',I8.turned (t':=s'.toks) (fun b o hb e=>(sb.2 b hb).trans e) nH nL (.inr n0) nC nP,rfl,q⟩⟩
theorem oj{wi:TI}{y:Str}{j:Nat}{py spos:Pos}(hcalm:X.calm=true)(C:Bx X scope cl x fv)(hN:X.N.Nodup)(hj:X.N[j]? = some y)(hy:X.env.scope.names.lookup y=some .local)(hi:PI X (.Name x px) iter wi)(he:∀(fp:List Addr) (s₀:Shared) (H₀:Hp),PE (X.blk (x::fv.map (·.1)) scope cl fp s₀ H₀) elt te)
  (hsw:swapsWith (.ListComp elt [⟨.Name x px,iter,[],0⟩] scope pos) (some (.Name y py)) spos.line X.env=pure true:=by rfl)
  (hs:∀v,foldedSetIterable iter X.env v=pure v:=by intro _;rfl):PS X (.Assign [.Name y py] (.ListComp elt [⟨.Name x px,iter,[],0⟩] scope pos) spos) (se (vH wi fv te) (jA j)):=by
 intro pins s σ H D I h;rw[exec_Assign_Name_used _ _ _ _ hsw];refine wpAny_bind (wpAny_standAt (wpAny_bind ?_));show wpAny _ _ (do let _ <- comprehension (.ListComp elt [⟨.Name x px,iter,[],0⟩] scope pos) scope X.env _ (newList []) false (eval iter X.env) (some (assign (.Name y py) X.env))) _ _ s
 refine wpAny_bind (wpAny_mono (wpAny_comprehension_free (use:=some (assign (.Name y py) X.env)) (Q:=fun _ s'=>SP X pins D .next s') rfl hs C.clos C.kind C.names
  (wpAny_mono (hi pins s σ H _ I h) (fun v s1 h1=>wpAny_mono h1 (fun itv s2 h2=>?_) fun _ _ z=>z) fun _ _ z=>z)) (fun _ s' hq=>wpAny_pure (wpAny_pure hq)) fun _ _ z=>z)
 obtain⟨it,fp,tn,J,H2,rfl,I2,T,st2,f2,rd⟩:=h2;refine qm (Qf:=fun v H'=>jA j v σ H' D.nx) hcalm C I2 T st2 f2 rd (he fp) fun p D' H' s' ns nL nH n0 nC nP I8 q=>?_;obtain⟨m,hn⟩:=ns;show wpAny _ _ (assign (.Name y py) X.env (.ref p)) _ _ _;refine wpAny_assign_Name (hV I8 hN hj (.inl hy) (v:=.ref p) rfl (fun s9 I9 ⟨a,sb,ha⟩=>?_) (.inr hy));have aD:D'≠a:=by
  rintro rfl;rcases ha with z|z
  ·exact nL z
  ·exact nC y _ z rfl
 exact⟨m,hn.sameBut sb aD,fun h'' sb2=>⟨_,H',I9.turned (t':=s9.toks) (fun b o hb e=>(sb2.2 b hb).trans e) nH nL (.inr n0) nC nP,q⟩⟩
end
end L2
namespace L2
open PySem PySem.Spec PyProof.Rows
def me(s:Stmt):Scope:=match s with
 | .Assign _ (.ListComp _ _ sc _) _=>sc
 | _=>{ kind:=.function,names:=[],isGenerator:=false,isCoroutine:=false }
end L2
namespace L2
open PySem PySem.Spec PyProof.Rows
theorem cC{X:Cx}{K:W.Frag}(h:X.K=K):IxR X (EL K):=h▸ai
end L2
namespace L2
open PySem PySem.Spec PyProof.Rows
theorem rD{K:W.Frag}{a:Addr}{xs:List V}{fv:List (Str×Nat)}{te:TE}{σ:St}{H1:Hp}{Qp:Hp->Prop}{l:Addr}(Pv:Nat->List V->Hp->Prop)(h0:Pv 0 [] (upd H1 l (.lst [])))(hp:∀i acc H2,i≤xs.length->Pv i acc H2->SqL K H2 a xs∧H2 l=some (.lst acc)∧acc.length<sizeLine)
  (hs:∀i x acc H2 (Kc:VK),xs[i]? = some x->Pv i acc H2->(∀y H4,H4 l=some (.lst acc)->Pv (i+1) (acc++[y]) (upd H4 l (.lst (acc++[y])))->Kc y H4)->te (some x::fvs fv σ) H2 Kc) (hd:∀acc H2,Pv xs.length acc H2->Qp H2) :
  ∃W:Nat->Nat->List V->Hp->Prop,(∃m,W 0 m [] (upd H1 l (.lst [])))∧∀i m acc H2,W i m acc H2 ->
   H2 l=some (.lst acc)∧acc.length<sizeLine∧(((Itl K a).stop i H2∧Qp H2)∨((Itl K a).go i H2∧∀x H3,(Itl K a).yld i H2 x H3->te (some x::fvs fv σ) H3 fun y H4=>H4 l=some (.lst acc)∧∃m',m'<m∧W (i+1) m' (acc++[y]) (upd H4 l (.lst (acc++[y]))))):=by
 refine⟨fun i m acc H2=>m=xs.length - i∧i≤xs.length∧Pv i acc H2,⟨xs.length,by simp,Nat.zero_le _,h0⟩,?_⟩;rintro i m acc H2 ⟨rfl,hi,p⟩;obtain⟨q1,q2,q3⟩:=hp i acc H2 hi p;refine⟨q2,q3,?_⟩
 by_cases hlt:i<xs.length
 ·refine .inr ⟨⟨xs,xs[i],q1,List.getElem?_eq_getElem hlt⟩,fun x H3 y=>?_⟩
  obtain⟨e1,e2⟩:=y;subst e1;exact hs i x acc _ _ (e2 xs q1) p fun y H4 z1 z2=>⟨z1,xs.length - (i+1),by omega,rfl,hlt,z2⟩
 ·have e:i=xs.length:=by omega
  subst e;exact .inl ⟨⟨xs,q1,Nat.le_refl _⟩,hd acc H2 p⟩
end L2
namespace L2
open PySem PySem.Spec PyProof.Rows
theorem oX{xs:List V}{us:List Value}{j:Nat}(r:aT xs us)(h:j<us.length):∃a,xs[j]? = some a∧aW a us[j]:=by
 have hl:=r.length;have hj:j<xs.length:=by omega
 obtain⟨u,e,q⟩:=r.get (i:=j) (x:=xs[j]) (List.getElem?_eq_getElem hj);rw[List.getElem?_eq_getElem h]at e;cases e;exact⟨xs[j],List.getElem?_eq_getElem hj,q⟩
section
variable {X:Cx} {pins:List (Addr×Obj)} {σ:St} {H:Hp} {s:Shared}
end
end L2
namespace L2
open PySem
theorem y7.units10{k:Nat}{A:Around}(r:y7 k A):A.units+10<cLine:=by have:=r.un;omega
end L2
namespace L2
open PySem PySem.Spec PyProof.Rows
end L2
namespace Sp3
open PySem PySem.Spec L2 Mth Sp1 Sp2
end Sp3
namespace Sp3
open PySem PySem.Spec L2 Mth Sp1 Sp2
abbrev Crn:=List (Addr×Int×Int)
end Sp3
namespace PySem
open Sem (wp)
section
variable {prog:Program} {w:World} {A:Around} {E:Value->Shared->Prop} {h:Heap} {g:Array GenState} {d:Drawn} {t:Nat} {os:OsState} {a:Addr} {o:Obj}
 {nm q:Str} {C N:Addr} {bs bm:List Value} {hdct:Bool} {sn:List Str} {sub:List Value} {ab:Bool} {col:Option Bool} {dd:Option Addr} {k0 k1 k2 k3 k5:Option Value} {newId:String}
end
end PySem
namespace L2
open PySem PySem.Spec PyProof.Rows
section
variable {X:Cx}
end
section
variable {X:Cx} {pins:List (Addr×Obj)} {σ:St} {H:Hp} {s:Shared}
theorem yI.track{a:Addr}{o:HO}(I:yI X pins σ H s)(hn:H a=none)(h0:X.s₀.heap.get? a=none)(hl:a≠X.env.locals)(hc:∀x c,X.env.cells.lookup x=some c->c≠a)(hp:∀p∈X.pn++pins,p.1≠a)
  (ho:bK X.prog X.w (upd H a o) s.heap a o):yI X pins σ (upd H a o) s where
 ok:=I.ok
 os:=I.os
 bare:=I.bare
 base:={
  keep:=I.base.keep
  slot:=I.base.slot
  free:=fun b ob e n hx=>by
   rw[aN (fun z=>by subst z;rw[h0]at e;cases e)];exact I.base.free b ob e n hx
  there:=I.base.there
  tups:=fun b xs q=>by
   have z:=I.base.tups b xs q;rw[aN (aS z hn)];exact z
  frzs:=fun b ob u q=>by
   have z:=I.base.frzs b ob u q;rw[aN (aS z hn)];exact z
  tbls:=fun b ps q=>by
   obtain⟨m,z⟩:=I.base.tbls b ps q;exact⟨m,by rw[aN (aS z hn)];exact z⟩ }
 loc:=I.loc
 cell:=I.cell
 free:=by rw[aN (Ne.symm hl)];exact I.free
 freeC:=fun x c e=>by rw[aN (hc x c e)];exact I.freeC x c e
 pin:=fun p m=>by
  obtain⟨p1,p2,p3⟩:=I.pin p m;exact⟨p1,by rw[aN (hp p m)];exact p2,p3⟩
 hok:=fun b u q=>by
  by_cases hb:b=a
  ·subst hb
   rw[upd_same]at q;cases q;exact ho
  ·rw[aN hb]at q
   exact(I.hok b u q).stay (fun _ _ _ r=>r) (fun c r=>by rw[aN (aS r hn)];exact r) fun c xs r=>by rw[aN (aS r hn)];exact r
 len:=I.len
end
section
variable {X:Cx}
end
end L2
namespace Sp8
open PySem PySem.Spec L2 Mth Sp1 Sp2 Sp3
end Sp8
namespace L2
open PySem PySem.Spec PyProof.Rows
theorem SqT.mod{K:W.Frag}{H:Hp}{a:Addr}{oc:Value}{od:Option Addr}{its:Array Value}{n:Nat}{sl:Array (Option Value)}{xs:List V}(hk:K.lookup a=some ⟨oc,od,.seq its n,sl⟩)(hc:oc = .type "tuple")(hz:its.size≤100)(r:aT xs its.toList):SqT K H a xs :=
 .inr ⟨_,its,n,hk,hc,rfl,Nat.le_of_lt (bC (by omega)),r⟩
end L2
namespace Sp24
open PySem PySem.Spec L2 Mth Sp1 Sp2 Sp3 Sp8
def sg(n:Int):Int:=if n>0 then 1 else if n<0 then -1 else 0
def ssq(n:Int):Int:=n*(if n<0 then -n else n)
def swr(w p u:Int):Int:=sg (ssq w+ssq p*u)
def cr(w p u s b:Int):Int:=if sg w*sg (ssq p*u+ssq s*b)≥0 then sg (sg w+sg (ssq p*u+ssq s*b)) else sg w*swr (w*w - p*p*u - s*s*b) (-2*p*s) (u*b)
def ro(a0 a1 a2 a3 b0 b1 b2 b3:Int):Int:=cr (a0*b3 - b0*a3) (a1*b3) a2 (-b1*a3) b2
theorem jm(n:Int):-1≤sg n∧sg n≤1:=by
 unfold sg
 split
 ·omega
 ·split <;> omega
theorem iT(n:Int):bits (sg n)≤10:=aV (by have:=jm n;omega) (by have:=jm n;omega)
theorem ji{n:Int}{k:Nat}(h:bits n≤k):bits (ssq n)≤k+k:=bits_mul h (bits_abs h)
inductive BH (vs:List V) (H:Hp) (Q:VK) (x_3:XK):Prop
 | mk:∀n:Int,(vs = [.int n])->(Q (.int (sg n)) H)->BH vs H Q x_3
inductive Dx (vs:List V) (H:Hp) (Q:VK) (x_3:XK):Prop
 | mk:∀n:Int,(vs = [.int n])->(bits n≤20000)->(Q (.int (ssq n)) H)->Dx vs H Q x_3
inductive DR (vs:List V) (H:Hp) (Q:VK) (x_3:XK):Prop
 | mk:∀w p u:Int,(vs = [.int w,.int p,.int u])->((bits w≤8000∧bits p≤8000∧bits u≤8000))->(Q (.int (swr w p u)) H)->DR vs H Q x_3
inductive Dj (vs:List V) (H:Hp) (Q:VK) (x_3:XK):Prop
 | mk:∀w p u s b:Int,(vs = [.int w,.int p,.int u,.int s,.int b])->((bits w≤1000∧bits p≤1000∧bits u≤1000∧bits s≤1000∧bits b≤1000))->(Q (.int (cr w p u s b)) H)->Dj vs H Q x_3
structure Rt(K:W.Frag)(H:Hp)(p:Addr)(a0 a1 a2 a3:Int):Prop where
 at_:SqT K H p [.int a0,.int a1,.int a2,.int a3]
 b0:bits a0≤450
 b1:bits a1≤450
 b2:bits a2≤1000
 b3:bits a3≤450
inductive DV (K:W.Frag) (vs:List V) (H:Hp) (Q:VK) (x_3:XK):Prop
 | mk:∀(p q:Addr) (a0 a1 a2 a3 b0 b1 b2 b3:Int),(vs = [.ref p,.ref q])->(Rt K H p a0 a1 a2 a3)->(Rt K H q b0 b1 b2 b3)->(Q (.int (ro a0 a1 a2 a3 b0 b1 b2 b3)) H)->DV K vs H Q x_3
structure Cn(H:Hp)(p:Addr)(x y:Int):Prop where
 at_:H p=some (.tup [.int x,.int y])
 bx:bits x≤50
 by_:bits y≤50
theorem Cn.mono{H H':Hp}{p:Addr}{x y:Int}(c:Cn H p x y)(s:Same H H'):Cn H' p x y:=⟨s _ _ c.at_,c.bx,c.by_⟩
structure Sq(H:Hp)(p:Addr)(a b:Int):Prop where
 at_:H p=some (.tup [.int a,.int b])
 ba:bits a≤230
 bb:bits b≤130
theorem Sq.mono{H H':Hp}{p:Addr}{x y:Int}(c:Sq H p x y)(s:Same H H'):Sq H' p x y:=⟨s _ _ c.at_,c.ba,c.bb⟩
def lo(x y x' y' a b:Int):Int:=sg (a - ((x' - x)*(x' - x)+(y' - y)*(y' - y))*b)
inductive Em (vs:List V) (H:Hp) (Q:VK) (x_3:XK):Prop
 | mk:∀(p q r:Addr) (x y x' y' a b:Int),(vs = [.ref p,.ref q,.ref r])->(Cn H p x y)->(Cn H q x' y')->(Sq H r a b)->(Q (.int (lo x y x' y' a b)) H)->Em vs H Q x_3
def a8(bx by_ ex ey:Int):Int:=(ex - bx)*(ex - bx)+(ey - by_)*(ey - by_)
def rAl(cx cy bx by_ ex ey:Int):Int:=(cx - bx)*(ex - bx)+(cy - by_)*(ey - by_)
def rBe(cx cy bx by_ ex ey:Int):Int:=(cx - bx)*(ey - by_) - (cy - by_)*(ex - bx)
def rUn(cx cy bx by_ ex ey a b:Int):Int:=b*(a*a8 bx by_ ex ey - b*rBe cx cy bx by_ ex ey*rBe cx cy bx by_ ex ey)
inductive CU (vs:List V) (H:Hp) (Q:VK) (x_3:XK):Prop
 | mk:∀(pc pb pe ps:Addr) (cx cy bx by_ ex ey a b:Int),(vs = [.ref pc,.ref pb,.ref pe,.ref ps])->(Cn H pc cx cy)->(Cn H pb bx by_)->(Cn H pe ex ey)->(Sq H ps a b)->(∀r H',Same H H'->H' r=some (.tup [.int (rAl cx cy bx by_ ex ey*b),.int (rUn cx cy bx by_ ex ey a b),.int (a8 bx by_ ex ey*b)])->Q (.ref r) H')->CU vs H Q x_3
def pwN(cx cy bx by_ ex ey a b room:Int):Bool :=
 if [bx,by_] = [ex,ey] then !decide (lo cx cy bx by_ a b≥room)
 else decide (sg (rUn cx cy bx by_ ex ey a b)<room) || (decide (ro 1 0 0 1 (rAl cx cy bx by_ ex ey*b) (-1) (rUn cx cy bx by_ ex ey a b) (a8 bx by_ ex ey*b)<room) ||
  decide (ro (rAl cx cy bx by_ ex ey*b) 1 (rUn cx cy bx by_ ex ey a b) (a8 bx by_ ex ey*b) 0 0 0 1<room))
def sqV(H:Hp):V->Bool
 | .ref p=>match H p with
  | some (.tup [.int a,.int b])=>lowB a b && !decide (a<0)
  | _=>false
 | _=>false
inductive CW (C:Addr) (vs:List V) (H:Hp) (Q:VK) (E:XK):Prop
 | mk:∀x,(vs = [x])->(Dd H x)->((sqV H x=false->E (.ref C) none H))->((sqV H x=true->Q .non H))->CW C vs H Q E
theorem uA{H:Hp}{x:V}(h:iI H x=false):sqV H x=false:=by
 unfold sqV
 split
 ·split
  ·rename_i p _ a b e
   rw[sY e]at h;rw[h,Bool.false_and]
  ·rfl
 ·rfl
theorem uz{H:Hp}{p:Addr}{a b:Int}(e:H p=some (.tup [.int a,.int b])):sqV H (.ref p)=(lowB a b && !decide (a<0)):=by
 simp only[sqV,e]
end Sp24
namespace L2
open PySem PySem.Spec PyProof.Rows
theorem w9:bootBuiltins "all" = some (.builtin "all"):=by decide +kernel
theorem vW{bs:List Bool}{us:List Value}{i:Nat}{v:Value}(r:aT (bs.map V.bl) us)(h:us[i]? = some v):∃b,bs[i]? = some b∧v = .bool b:=by
 have hl:=r.length;rw[List.length_map]at hl;have hi:i<us.length:=(List.getElem?_eq_some_iff.mp h).1;have hj:i<bs.length:=by omega
 obtain⟨u,e,q⟩:=r.get (i:=i) (x:=.bl bs[i]) (by rw[List.getElem?_map,List.getElem?_eq_getElem hj];rfl);rw[h]at e;cases e;exact⟨bs[i],List.getElem?_eq_getElem hj,q⟩
theorem rM(bs:List Bool):((List.range bs.length).all fun i=>(bs[i]?).getD true)=bs.all id:=by
 rw[Bool.eq_iff_iff];simp only[List.all_eq_true,List.mem_range,id];constructor
 ·intro h b hb
  obtain⟨i,hi,rfl⟩:=List.mem_iff_getElem.mp hb;have z:=h i hi;rw[List.getElem?_eq_getElem hi]at z;exact z
 ·intro h i hi
  rw[List.getElem?_eq_getElem hi];exact h _ (List.getElem_mem hi)
theorem ua{X:Cx}(hc:X.calm=true):eJ X (.builtin "all") (fun xs H Q=>∃(p:Addr) (bs:List Bool),xs = [.ref p]∧SqL X.K H p (bs.map V.bl)∧Q (.bl (bs.all id)) H):=by
 intro pins s σ H xs us Q I r h;obtain⟨p,bs,rfl,hq,q⟩:=h;obtain⟨u,rfl,rx⟩:=fc r;cases rx;obtain⟨its,rv,pl,_⟩:=I.list hq;have hl:=pl.isList;have lt:p<s.heap.objs.size:=by
  obtain⟨_,e,_⟩:=hl;exact Heap.lt_size e
 refine call_all_walk (wpAny_pyIter_list hl ?_);refine⟨s.heap.objs.size,[s.heap.objs.size,p],[s.heap.objs.size],its.toArray.size,_,_,fun i=>(bs[i]?).getD true,rfl,Walks.list (A:=X.A.in1) (I.ok.hd hc) _ p (Nat.ne_of_lt lt) its.toArray,?_⟩;refine⟨⟨⟨_,Heap.get?_push_size _ rfl,rfl,rfl⟩,hl.push _⟩,fun i v s' Q' E' hP hQ=>?_,fun h' tk hk=>?_⟩
 ·obtain⟨b,e,rfl⟩:=vW rv (by simpa using hP)
  simp only[e,Option.getD_some]at hQ;exact wpAny_truthy_bool hQ
 ·have el:its.toArray.size=bs.length:=by
   have:=rv.length;rw[List.length_map]at this;rw[List.size_toArray];omega
  rw[el,rM];refine⟨.bl _,H,I.kept (t':=tk) fun b o e=>?_,rfl,q⟩;exact hk b o (fun hm=>by rw[List.mem_singleton.mp hm]at e;exact Nat.lt_irrefl _ (Heap.lt_size e)) (Heap.get?_push_of_some _ e)
end L2
namespace Sp7
open PySem PySem.Spec L2 Mth Sp1 Sp2 Sp3
def xK:Int:=999999999999
def Sm(x:Int):Prop:=-xK≤x∧x≤xK
structure LineM(H:Hp)(l:Addr)(qs:Crn):Prop where
 lst:H l=some (.lst (qs.map fun q=>V.ref q.1))
 crn:∀q∈qs,H q.1=some (.tup [.int q.2.1,.int q.2.2])∧Sm q.2.1∧Sm q.2.2
theorem LineM.mono{H H':Hp}{l:Addr}{qs:Crn}(L:LineM H l qs)(s:Same H H'):LineM H' l qs:=⟨s _ _ L.lst,fun q h=>⟨s _ _ (L.crn q h).1,(L.crn q h).2⟩⟩
def retScope(s:Stmt):Scope:=match s with
 | .Return (some (.Call _ [.ListComp _ _ sc _] _ _)) _=>sc
 | .Return (some (.ListComp _ _ sc _)) _=>sc
 | _=>{ kind:=.function,names:=[],isGenerator:=false,isCoroutine:=false }
end Sp7
namespace L2
open PySem PySem.Spec PyProof.Rows
theorem Same.at{H H':Hp}{b:Addr}{o:HO}(s:Same H H')(e:H b=some o):H' b=some o:=s b o e
theorem Same.rfl'{H:Hp}:Same H H:=fun _ _ e=>e
theorem alloc{H:Hp}{o:HO}{Q:Addr->Hp->Prop}(h:∀p H1,Same H H1->H1 p=some o->Q p H1):∀p,H p=none->Q p (upd H p o):=fun p hp=>h p _ (Same.new hp) upd_same
theorem bits_add2{i j:Int}{m n:Nat}(hi:bits i≤m)(hj:bits j≤n):bits (i+j)≤max m n+1:=a7 (aw hi (Nat.le_max_left _ _)) (aw hj (Nat.le_max_right _ _))
theorem cV{p:Prop}[Decidable p](h:decide p=true):p:=of_decide_eq_true h
theorem du{p:Prop}[Decidable p](h:decide p=false):¬p:=of_decide_eq_false h
theorem CM.of{i j:Int}{m n:Nat}(hi:bits i≤m)(hj:bits j≤n)(h:m≤1000000∧n≤1000000):CM i j:=CM.b hi hj (by have:(2:Nat)^20=1048576:=(by decide);omega) (by have:(2:Nat)^20=1048576:=(by decide);omega)
theorem bits_of_le{i:Int}{m n:Nat}(h:bits i≤m)(hm:m≤n):bits i≤n:=Nat.le_trans h hm
end L2
namespace L2
open PySem PySem.Spec PyProof.Rows
def SameT(H H':Hp):Prop:=∀b xs,H b=some (.tup xs)->H' b=some (.tup xs)
theorem Same.t{H H':Hp}(s:Same H H'):SameT H H':=fun b xs e=>s b _ e
theorem SameT.refl{H:Hp}:SameT H H:=fun _ _ e=>e
theorem SameT.trans{H H1 H2:Hp}(a:SameT H H1)(b:SameT H1 H2):SameT H H2:=fun c xs e=>b c xs (a c xs e)
theorem SameT.upd{H:Hp}{l:Addr}{xs ys:List V}(hl:H l=some (.lst xs)):SameT H (upd H l (.lst ys)):=fun b zs e=>by
 rw[aN (pR e hl (by intro z;cases z))];exact e
theorem Same.upd{H0 H:Hp}{l:Addr}{o:HO}(s:Same H0 H)(hl:H0 l=none):Same H0 (upd H l o):=fun b u e=>by
 rw[aN (aS e hl)];exact s b u e
def oW(J:It)(fv:List (Str×Nat))(te:TE)(σ:St)(H1:Hp)(Q:VK):Prop:=∀p,H1 p=none->∃W:Nat->Nat->List V->Hp->Prop,(∃m,W 0 m [] (upd H1 p (.lst [])))∧∀i m acc H2,W i m acc H2 ->
 H2 p=some (.lst acc)∧acc.length<sizeLine∧((J.stop i H2∧Q (.ref p) H2)∨(J.go i H2∧∀x H3,J.yld i H2 x H3->te (some x::fvs fv σ) H3 fun y H4=>H4 p=some (.lst acc)∧∃m',m'<m∧W (i+1) m' (acc++[y]) (upd H4 p (.lst (acc++[y])))))
def rZ(wi:TI)(fv:List (Str×Nat))(te:TE):TE:=fun σ H Q=>wi σ H fun J H1=>oW J fv te σ H1 Q
section
variable {X:Cx} {scope:Scope} {cl:List (Str×Addr)} {x:Str} {fv:List (Str×Nat)} {elt iter:Expr} {px pos:Pos} {te:TE}
theorem gD{wi:TI}(hcalm:X.calm=true)(C:Bx X scope cl x fv)(hi:PI X (.Name x px) iter wi)(he:∀(fp:List Addr) (s₀:Shared) (H₀:Hp),PE (X.blk (x::fv.map (·.1)) scope cl fp s₀ H₀) elt te)
  (hs:∀v,foldedSetIterable iter X.env v=pure v:=by intro _;rfl):PE X (.ListComp elt [⟨.Name x px,iter,[],0⟩] scope pos) (rZ wi fv te):=uL hcalm C hi he hs
theorem mn{wi:TI}{y:Str}{j:Nat}{py spos:Pos}(hcalm:X.calm=true)(C:Bx X scope cl x fv)(hN:X.N.Nodup)(hj:X.N[j]? = some y)(hy:X.env.scope.names.lookup y=some .local)(hi:PI X (.Name x px) iter wi)(he:∀(fp:List Addr) (s₀:Shared) (H₀:Hp),PE (X.blk (x::fv.map (·.1)) scope cl fp s₀ H₀) elt te)
  (hsw:swapsWith (.ListComp elt [⟨.Name x px,iter,[],0⟩] scope pos) (some (.Name y py)) spos.line X.env=pure true:=by rfl)
  (hs:∀v,foldedSetIterable iter X.env v=pure v:=by intro _;rfl):PS X (.Assign [.Name y py] (.ListComp elt [⟨.Name x px,iter,[],0⟩] scope pos) spos) (se (rZ wi fv te) (jA j)):=oj hcalm C hN hj hy hi he hsw hs
end
theorem lQ{K:W.Frag}{a:Addr}{xs:List V}{fv:List (Str×Nat)}{te:TE}{σ:St}{H1:Hp}{Q:VK}(hL:SqL K H1 a xs)(hlen:xs.length<1000)(R:Nat->V->Hp->Prop)(hR:∀i v H H',SameT H H'->R i v H->R i v H')
  (hs:∀i x H2 (Kc:VK),xs[i]? = some x->Same H1 H2->(∀y H4,Same H2 H4->R i y H4->Kc y H4)->te (some x::fvs fv σ) H2 Kc)
  (hd:∀l ys H',H1 l=none->Same H1 H'->H' l=some (.lst ys)->ys.length=xs.length->(∀i y,ys[i]? = some y->R i y H')->Q (.ref l) H') :
  oW (Itl K a) fv te σ H1 Q:=by
 intro l hl;refine rD (K:=K) (a:=a) (xs:=xs) (l:=l) (fv:=fv) (Qp:=fun H2=>Q (.ref l) H2) (fun i acc H2=>acc.length=i∧Same H1 H2∧H2 l=some (.lst acc)∧∀j y,acc[j]? = some y->R j y H2)
  ⟨rfl,Same.new hl,upd_same,fun j y h=>by simp at h⟩ ?_ ?_ ?_
 ·rintro i acc H2 hi ⟨e1,sm,e3,_⟩
  exact⟨sm.seq hL,e3,bC (by omega)⟩
 ·rintro i x acc H2 Kc hx ⟨e1,sm,e3,hr⟩ kk
  refine hs i x H2 Kc hx sm fun y H4 s4 ry=>kk y H4 (s4 _ _ e3) ⟨by simp[e1],(sm.trans s4).upd hl,upd_same,fun j z hz=>?_⟩;have t4:=SameT.upd (ys:=acc++[y]) (s4 _ _ e3);rcases Nat.lt_trichotomy j acc.length with h|h|h
  ·rw[List.getElem?_append_left h]at hz
   exact hR _ _ _ _ (s4.t.trans t4) (hr j z hz)
  ·subst h
   rw[List.getElem?_append_right (Nat.le_refl _),Nat.sub_self]at hz;cases hz;rw[e1];exact hR _ _ _ _ t4 ry
  ·rw[List.getElem?_eq_none (by simp;omega)]at hz
   cases hz
 ·rintro acc H2 ⟨e1,sm,e3,hr⟩
  exact hd l acc H2 hl sm e3 e1 hr
theorem nice_int:oS "int":=.inl rfl
theorem nice_bool:oS "bool":=.inr (.inl rfl)
theorem nice_tuple:oS "tuple":=.inr (.inr (.inl rfl))
theorem nice_list:oS "list":=.inr (.inr (.inr (.inl rfl)))
theorem nice_str:oS "str":=.inr (.inr (.inr (.inr rfl)))
end L2
namespace L2
open PySem PySem.Spec PyProof.Rows
section
variable {X:Cx} {pos:Pos} {es:List Expr} {ta:TA}
inductive EM (f:List V->HO) (xs:List V) (H1:Hp) (Q:VK):Prop
 | mk (z:xs.length≤sizeLine) (q:∀p H2,Same H1 H2->H2 p=some (f xs)->H1 p=none->Q (.ref p) H2):EM f xs H1 Q
def xi(t:TA):TE:=fun σ H Q=>t σ H fun xs H1=>EM .tup xs H1 Q
def xp(t:TA):TE:=fun σ H Q=>t σ H fun xs H1=>EM .lst xs H1 Q
theorem aB{x1}(h:PA X es ta):PE X (.Tuple es x1 pos) (xi ta):=by
 intro pins s σ H Q I hq;refine wpAny_Tuple_spliced (thn (h pos pins s σ H _ I hq) fun us s1 ⟨xs,H1,I1,r,z,q⟩=>⟨by rw[<- r.length];exact z,?_⟩);have hf:H1 s1.heap.objs.size=none:=I1.hok.fresh (Nat.le_refl _);refine⟨.ref s1.heap.objs.size,upd H1 s1.heap.objs.size (.tup xs),I1.laid (t':=s1.toks) (fun b u e=>Heap.get?_push_of_some _ e) (Nat.le_refl _) ?_,rfl,q _ _ (Same.new hf) upd_same hf⟩;exact⟨z,us,r,⟨_,Heap.get?_push_size _ rfl,rfl,_,rfl⟩⟩
theorem bH(h:PA X es ta):PE X (.List es pos) (xp ta):=by
 intro pins s σ H Q I hq;refine wpAny_List_spliced (thn (h pos pins s σ H _ I hq) fun us s1 ⟨xs,H1,I1,r,z,q⟩=>⟨by rw[<- r.length];exact z,?_⟩);have hf:H1 s1.heap.objs.size=none:=I1.hok.fresh (Nat.le_refl _);refine⟨.ref s1.heap.objs.size,upd H1 s1.heap.objs.size (.lst xs),I1.laid (t':=s1.toks) (fun b u e=>Heap.get?_push_of_some _ e) (Nat.le_refl _) ?_,rfl,q _ _ (Same.new hf) upd_same hf⟩;exact⟨z,us,0,r,Heap.get?_push_size _ rfl⟩
inductive Ev (K:W.Frag) (x:V) (lo:Option Int) (hi:Option Int) (H:Hp) (Q:VK):Prop
 | mk:∀a xs,(x = .ref a)->(SqL K H a xs)->(∀p H2,Same H H2->H2 p=some (.lst (fP xs lo hi))->H p=none->Q (.ref p) H2)->Ev K x lo hi H Q
theorem gq:SlR X (Ev X.K):=fun pins s σ H x v vl vu lo hi sl Q I rx hs pl pu ⟨a,xs,e,hx,q⟩ =>
 uC pins s σ H x v vl vu lo hi sl Q I rx hs pl pu ⟨a,xs,e,hx,fun p hp=>q p _ (Same.new hp) upd_same hp⟩
inductive Ey (x:V) (y:V) (H:Hp) (Q:VK):Prop
 | mk:∀l b xs zs,(x = .ref l)->(y = .ref b)->(H l=some (.lst xs))->(H b=some (.lst zs))->(xs.length+zs.length≤sizeLine)->(∀p H2,Same H H2->H2 p=some (.lst (xs++zs))->H p=none->Q (.ref p) H2)->Ey x y H Q
theorem gH:OpR X (binaryOp .Add) Ey:=fun pins s σ H x y v u Q I rx ry ⟨l,b,xs,zs,e1,e2,h1,h2,hz,q⟩ =>
 wx pins s σ H x y v u Q I rx ry ⟨l,b,xs,zs,e1,e2,h1,h2,hz,fun p hp=>q p _ (Same.new hp) upd_same hp⟩
theorem dD:eJ X (.type "list") (fun xs H Q=>∃p ys,xs = [.ref p]∧(SqL X.K H p ys∨SqT X.K H p ys)∧∀l H2,Same H H2->H2 l=some (.lst ys)->H l=none->Q (.ref l) H2):=fun pins s σ H xs us Q I r ⟨p,ys,e,hq,q⟩ =>
 lS pins s σ H xs us Q I r ⟨p,ys,e,hq,fun l hl=>q l _ (Same.new hl) upd_same hl⟩
structure Dc(H H':Hp)(l:Addr)(xs ys:List V):Prop where
 was:H l=some (.lst xs)
 now:H' l=some (.lst ys)
 oth:∀b,b≠l->H' b=H b
theorem Dc.mk'{H:Hp}{l:Addr}{xs ys:List V}(h:H l=some (.lst xs)):Dc H (L2.upd H l (.lst ys)) l xs ys:=⟨h,upd_same,fun _ n=>aN n⟩
theorem Dc.t{H H':Hp}{l:Addr}{xs ys:List V}(u:Dc H H' l xs ys):SameT H H':=fun b zs e=>by
 rw[u.oth b (pR e u.was (by intro z;cases z))];exact e
theorem Dc.same{H0 H H':Hp}{l:Addr}{xs ys:List V}(u:Dc H H' l xs ys)(s:Same H0 H)(h:H0 l=none):Same H0 H':=fun b o e=>by
 rw[u.oth b (aS e h)];exact s b o e
theorem Dc.at{H H':Hp}{l b:Addr}{xs ys:List V}{o:HO}(u:Dc H H' l xs ys)(n:b≠l)(e:H b=some o):H' b=some o:=by
 rw[u.oth b n];exact e
inductive Db (x:V) (vs:List V) (H:Hp) (Q:VK):Prop
 | mk:∀l xs y,(x = .ref l)->(vs = [y])->(H l=some (.lst xs))->(xs.length<sizeLine)->(∀H',Dc H H' l xs (xs++[y])->Q .non H')->Db x vs H Q
theorem bP:MtM X "list.append" Db:=fun pins s σ H x xs v us Q I rx rs ⟨l,ys,y,e1,e2,h,hz,q⟩ =>
 ia pins s σ H x xs v us Q I rx rs ⟨l,ys,y,e1,e2,h,hz,q _ (.mk' h)⟩
inductive Eg (o:V) (i:V) (v:V) (H:Hp) (Q:(Hp->Prop)):Prop
 | mk:∀p xs k j,(o = .ref p)->(i = .int k)->(H p=some (.lst xs))->(ixN xs.length k=some j)->(∀H',Dc H H' p xs (xs.set j v)->Q H')->Eg o i v H Q
theorem qA:xh X Eg:=fun pins s σ H o i v uo ui uv Q I ro ri rv ⟨p,xs,k,j,e1,e2,h,hj,q⟩ =>
 sA pins s σ H o i v uo ui uv Q I ro ri rv ⟨p,xs,k,j,e1,e2,h,hj,q _ (.mk' h)⟩
inductive CJ (x:V) (vs:List V) (H:Hp) (Q:VK):Prop
 | mk:∀l xs,(x = .ref l)->(vs = [])->(H l=some (.lst xs))->(∀H',Dc H H' l xs xs.reverse->Q .non H')->CJ x vs H Q
theorem mJ:MtM X "list.reverse" CJ:=fun pins s σ H x xs v us Q I rx rs ⟨l,ys,e1,e2,h,q⟩ =>
 oA pins s σ H x xs v us Q I rx rs ⟨l,ys,e1,e2,h,q _ (.mk' h)⟩
end
end L2
namespace L2
open PySem PySem.Spec PyProof.Rows
theorem gL{α:Type}{xs:List α}(h:xs.length=3):∃a b c,xs = [a,b,c]:=match xs,h with | [a,b,c],_=>⟨a,b,c,rfl⟩
theorem dF{α:Type}{xs:List α}(h:xs.length=2):∃a b,xs = [a,b]:=match xs,h with | [a,b],_=>⟨a,b,rfl⟩
theorem qR{α:Type}{xs:List α}(h:xs.length=4):∃a b c d,xs = [a,b,c,d]:=match xs,h with | [a,b,c,d],_=>⟨a,b,c,d,rfl⟩
theorem wE{α:Type}{xs:List α}(h:xs.length=5):∃a b c d e,xs = [a,b,c,d,e]:=match xs,h with | [a,b,c,d,e],_=>⟨a,b,c,d,e,rfl⟩
theorem len6{α:Type}{xs:List α}(h:xs.length=6):∃a b c d e f,xs = [a,b,c,d,e,f]:=match xs,h with | [a,b,c,d,e,f],_=>⟨a,b,c,d,e,f,rfl⟩
end L2
namespace L2
open PySem PySem.Spec PyProof.Rows
section
variable {X:Cx} {pins:List (Addr×Obj)} {σ:St} {H:Hp} {s:Shared}
theorem yI.turnedL{h':Heap}{t':Nat}{ch:List Addr}(I:yI X pins σ H s)(k:∀b o,b∉ch->s.heap.get? b=some o->h'.get? b=some o)(hf:∀b∈ch,eZ X pins H b):yI X pins σ H { s with heap:=h',toks:=t' }:=by
 have nit:∀b u,H b=some u->b∉ch:=fun b u e z=>by
  have n:=(hf b z).1;rw[n]at e;cases e
 refine I.step (g':=s.gens) (d':=s.drawn) (ch:=ch) (fun b hb=>?_) (fun b o _ _ hc e _=>k b o hc e) (fun b o _ _ hc e _=>⟨o.slots,k b o hc e⟩) (fun _ _ _ _ n=>n)
  (fun b o hc e=>⟨o,k b o hc e⟩) (fun _ _ e=>e) (fun _ _ _ e=>e) (fun b ps e=>⟨#[],by rw[e];simp⟩) (fun m hm=>?_) (fun b u e=>?_) I.bare
 ·obtain⟨f0,f1,f2,f3,f4,f5⟩:=hf b hb
  exact⟨f3,f1,f4,f5⟩
 ·obtain⟨o,es,ep,ho,r⟩:=hm
  exact⟨o,es,ep,k _ o (fun z=>(hf _ z).2.1 rfl) ho,r⟩
 ·refine(I.hok b u e).stay (fun c v hc q=>k c v ?_ q) (fun _ q=>q) fun _ _ q=>q
  rcases hc with z|z
  ·rw[z];exact nit b u e
  ·exact nit c _ z
theorem qt{E:Value->Shared->Prop}{elts:List Expr}{kt:Nat}{pos:Pos}{i n:Nat}{z:Addr}{fpw wr:List Addr}{Pt:Nat->Array Value->Prop}{Stt:Nat->Heap->Prop}{Mid:Nat->Addr->Heap->Prop}{R:Value->Shared->Prop}
  (W:WalksT X.prog X.w X.A z fpw wr n Pt Stt Mid) (I:yI X pins σ H s) (hwr:∀b∈wr,eZ X pins H b) (hi:i<n) (st:Stt i s.heap)
  (k:∀T vals s2,Pt i vals->s.heap.objs.size≤T->s2.heap.IsTuple T vals->Stt (i+1) s2.heap->yI X pins σ H s2->(∀b o,b∉wr->s.heap.get? b=some o->s2.heap.get? b=some o)->R (.ref T) s2) :
  wpAny (model X.prog X.w) X.A (pyNext (.ref z)) (fun r s1=>∃u,r=some u∧wpAny (model X.prog X.w) X.A (letOwnedTupleGo (.Tuple elts kt pos) (.ref z) u) (fun _ s2=>R u s2) E s1) E s:=by
 refine W.item i s _ E hi st fun T vals h' tk hp hT tup mid kk=>⟨.ref T,rfl,?_⟩;refine W.go elts kt pos i T _ _ E mid fun h2 st2 k2=>?_;have kall:∀b o,b∉wr->s.heap.get? b=some o->h2.get? b=some o:=fun b o hb e=>k2 b o hb (kk b o hb e);obtain⟨o,eo,ro⟩:=tup;exact k T vals _ hp hT ⟨o,k2 T o (W.apart i T _ mid) eo,ro⟩ st2 (I.turnedL (t':=tk) kall hwr) kall
theorem qw{T:Addr}{s2:Shared}{xs:List V}{us:List Value}(I:yI X pins σ H s)(J:yI X pins σ H s2)(hT:s.heap.objs.size≤T)(ht:s2.heap.IsTuple T us.toArray)(r:aT xs us)(hz:xs.length≤sizeLine):yI X pins σ (upd H T (.tup xs)) s2∧H T=none:=by
 have hn:H T=none:=I.hok.fresh hT;obtain⟨f0,f1,f2,f3,f4,f5⟩:=I.fpOk hT hn;refine⟨J.track hn ?_ f1 f4 f5 ⟨hz,us,r,ht⟩,hn⟩;cases e:X.s₀.heap.get? T with
 | none=>rfl
 | some o =>
  have h1:=Heap.lt_size e;have h2:=I.sz;exact absurd (Nat.lt_of_lt_of_le h1 (Nat.le_trans h2 hT)) (Nat.lt_irrefl _)
end
def Ite(K:W.Frag)(l:Addr):It :=
  ⟨fun i H=>∃xs x,SqL K H l xs∧xs[i]? = some x,
   fun i H v H'=>∃p x,v = .ref p∧H p=none∧H'=upd H p (.tup [.int (i:Int),x])∧∀xs,SqL K H l xs->xs[i]? = some x,
   fun i H=>∃xs,SqL K H l xs∧i=xs.length⟩
theorem qu{P:Program}{w:World}{K:W.Frag}{elts:List Expr}{kt:Nat}{pos:Pos}(e it l:Addr)(hei:e≠it)(hle:l≠e)(hli:l≠it) :
  C3 P w K (.Tuple elts kt pos) (Ite K l) [e,it] e (fun i h=>(∃old,IsEnum h e it i old)∧h.IsListIter it l i) where
 mem:=by simp
 obj:=fun i h st b hb=>by
  obtain⟨⟨old,he⟩,⟨o1,e1,c1,d1⟩⟩:=st;simp only[List.mem_cons,List.not_mem_nil,or_false]at hb;rcases hb with rfl|rfl
  ·exact⟨_,he,fun v y=>by cases y⟩
  ·exact⟨o1,e1,fun v y=>by rw[d1]at y;cases y⟩
 keep:=fun i h h' st k=>by
  obtain⟨⟨old,he⟩,h1⟩:=st;exact⟨⟨old,k e (by simp) _ he⟩,h1.at fun o x=>k it (by simp) o x⟩
 item:=by
  intro X hP hw hK hc i pins s σ H E I hf st hg;subst hP hw hK;obtain⟨xs,x,q1,hx⟩:=hg;obtain⟨its,r1,p1,_⟩:=I.list q1;obtain⟨u1,hu1,ru1⟩:=r1.get hx;have W:=WalksT.enumerate (prog:=X.prog) (w:=X.w) (I.ok.hd hc) e it l hei hle hli its.toArray;have hn:i<its.toArray.size:=by
   have g1:=(List.getElem?_eq_some_iff.mp hu1).1;simp only[List.size_toArray];omega
  obtain⟨he,h1⟩:=st;refine qt W I (fun b hb=>hf b (by simpa using hb)) hn ⟨he,h1,p1.isList⟩ fun T vals s2 hp hT tup st2 J2 kall=>?_;obtain⟨tk,v1,e1,rfl⟩:=hp;have e1':its[i]? = some v1:=by simpa using e1
  rw[hu1]at e1';cases e1';obtain⟨J3,nT⟩:=qw (xs:=[.int (i:Int),x]) (us:=[.int i tk,u1]) I J2 hT tup (.cons ⟨_,rfl⟩ (.cons ru1 .nil)) (Sp1.sz (by simp));obtain⟨he2,h12,_⟩:=st2;refine⟨.ref T,upd H T (.tup [.int (i:Int),x]),J3,rfl,⟨T,x,rfl,nT,rfl,fun as qa=>?_⟩,⟨he2,h12⟩,fun b hb=>?_⟩
  ·rw[I.list_inj qa q1]
   exact hx
  ·have hb':∃o,s.heap.get? b=some o:=by
    obtain⟨old,he⟩:=he;obtain⟨o1,e1,_⟩:=h1;simp only[List.mem_cons,List.not_mem_nil,or_false]at hb;rcases hb with rfl|rfl
    ·exact⟨_,he⟩
    ·exact⟨_,e1⟩
   obtain⟨o,eo⟩:=hb';rw[aN (Nat.ne_of_lt (Nat.lt_of_lt_of_le (Heap.lt_size eo) hT))];exact(hf b hb).1
 done:=by
  intro X hP hw hK hc i pins s σ H E I hf st hg;subst hP hw hK;obtain⟨xs,q1,rfl⟩:=hg;obtain⟨its,r1,p1,_⟩:=I.list q1;have W:=WalksT.enumerate (prog:=X.prog) (w:=X.w) (I.ok.hd hc) e it l hei hle hli its.toArray;obtain⟨he,h1⟩:=st;refine W.done s _ E ?_ fun h' tk kk=>⟨rfl,I.turnedL (t':=tk) kk fun b hb=>hf b (by simpa using hb)⟩;rw[List.size_toArray,<- r1.length];exact⟨he,h1,p1.isList⟩
 self:=fun _ _ _ _ _ st h=>by
  obtain⟨⟨old,he⟩,_⟩:=st;exact wpAny_pyIter_enum he h
section
variable {X:Cx} {elts:List Expr} {kt:Nat} {tpos:Pos}
def xR(K:W.Frag)(ta:TA):TI:=fun σ H R=>ta σ H fun vs H1=>∃a,vs = [.ref a]∧(∃xs,SqL K H1 a xs)∧R (Ite K a) H1
theorem lV:bootBuiltins "enumerate" = some (.type "enumerate"):=by decide +kernel
theorem iW{a:Expr}{ta:TA}{p pos:Pos}(hg:Gl X "enumerate")(hm:X.mg "enumerate" = none)(ha:PA X [a] ta)(hs:starEach [a] X.env = [(false,eval a X.env)]:=by rfl) :
  PI X (.Tuple elts kt tpos) (.Call (.Name "enumerate" p) [a] [] pos) (xR X.K ta):=by
 intro pins s σ H R I h;refine Call_ (fT I hg hm lV (PyProof.Rows.callWith_type1 (thn (ha pos pins s σ H _ I h) fun us s1 ⟨vs,H1,I1,r1,q1⟩=>?_) hs rfl));obtain⟨l,e,⟨xs,hx⟩,q⟩:=q1;subst e;cases r1 with
 | cons r rr =>
  cases rr;cases r;obtain⟨its,_,p1,_⟩:=I1.list hx;refine call_enumerate_list p1.isList fun h' he hi hsz hk=>?_;refine wpAny_pyIter_enum he ?_;have a1:l<s1.heap.objs.size:=by obtain⟨_,e,_⟩:=p1.isList;exact Heap.lt_size e
  refine⟨s1.heap.objs.size+1,[s1.heap.objs.size+1,s1.heap.objs.size],_,_,H1,rfl,I1.kept (t':=s1.toks) hk,qu _ _ l (Nat.succ_ne_self _) (Nat.ne_of_lt (Nat.lt_succ_of_lt a1)) (Nat.ne_of_lt a1),⟨⟨_,he⟩,hi⟩,fun b hb=>?_,q⟩;have hb':s1.heap.objs.size≤b:=by
   simp only[List.mem_cons,List.not_mem_nil,or_false]at hb;rcases hb with rfl|rfl <;> omega
  exact I1.fpOk hb' (I1.hok.fresh hb')
end
theorem gP{K:W.Frag}{a:Addr}{xs:List V}{g:TG}{tb:TS}{D:CI}{σ:St}{H:Hp}(Pv:Nat->St->Hp->Prop)(h0:Pv 0 σ H)(hl:∀i σ H,i≤xs.length->Pv i σ H->SqL K H a xs)
  (hs:∀i x p σ H H1,xs[i]? = some x->Pv i σ H->Same H H1->H1 p=some (.tup [.int (i:Int),x])->g (.ref p) σ H1 fun σ2 H2=>tb { D with nx:=Pv (i+1),ct:=Pv (i+1),bk:=D.nx } σ2 H2) (hd:∀σ H,Pv xs.length σ H->D.nx σ H) :
  ∃W:Nat->Nat->St->Hp->Prop,(∃m,W 0 m σ H)∧∀i m σ H,W i m σ H ->
   ((Ite K a).stop i H∧D.nx σ H)∨((Ite K a).go i H∧∃N:St->Hp->Prop,(∀σ' H',N σ' H'->∃m',m'<m∧W (i+1) m' σ' H')∧∀x H',(Ite K a).yld i H x H'->g x σ H' fun σ2 H2=>tb { D with nx:=N,ct:=N,bk:=D.nx } σ2 H2):=by
 refine⟨fun i m σ H=>m=xs.length - i∧i≤xs.length∧Pv i σ H,⟨_,rfl,Nat.zero_le _,h0⟩,?_⟩;rintro i m σ H ⟨rfl,hi,p⟩;have q1:=hl i σ H hi p
 by_cases hlt:i<xs.length
 ·refine .inr ⟨⟨xs,xs[i],q1,by simp[hlt]⟩,Pv (i+1),fun σ' H' p'=>⟨_,by omega,rfl,hlt,p'⟩,fun v H' y=>?_⟩
  obtain⟨t,x,rfl,nt,rfl,e⟩:=y;exact hs i x t σ H _ (e xs q1) p (Same.new nt) upd_same
 ·have e:i=xs.length:=by omega
  subst e;exact .inl ⟨⟨xs,q1,rfl⟩,hd σ H p⟩
end L2
namespace L2
open PySem PySem.Spec PyProof.Rows
inductive D where
 | non|bl (b:Bool)|int (i:Int)|str (x:Str)|tup (ds:List D)|lst (ds:List D)
inductive Rp (H:Hp):Nat->V->D->Prop where
 | non {n:Nat}:Rp H n .non .non
 | bl {n:Nat} {b:Bool}:Rp H n (.bl b) (.bl b)
 | int {n:Nat} {i:Int}:Rp H n (.int i) (.int i)
 | str {n:Nat} {x:Str}:Rp H n (.str x) (.str x)
 | tup {n:Nat} {p:Addr} {xs:List V} {ds:List D} (e:H p=some (.tup xs)) (hl:xs.length=ds.length) (h:∀(j:Nat) x d,xs[j]? = some x->ds[j]? = some d->Rp H n x d):Rp H (n+1) (.ref p) (.tup ds)
 | lst {n:Nat} {p:Addr} {xs:List V} {ds:List D} (e:H p=some (.lst xs)) (hl:xs.length=ds.length) (h:∀(j:Nat) x d,xs[j]? = some x->ds[j]? = some d->Rp H n x d):Rp H (n+1) (.ref p) (.lst ds)
mutual
def deq:D->D->Bool
 | .non,.non=>true
 | .bl a,.bl b=>a == b
 | .bl a,.int b=>(if a then 1 else 0) == b
 | .int a,.bl b=>a == (if b then 1 else 0)
 | .int a,.int b=>a == b
 | .str a,.str b=>a == b
 | .tup xs,.tup ys=>gX xs ys
 | .lst xs,.lst ys=>gX xs ys
 | _,_=>false
def gX:List D->List D->Bool
 | [],[]=>true
 | x::xs,y::ys=>deq x y && gX xs ys
 | _,_=>false
end
theorem fC:∀(ds es:List D),((List.range (min ds.length es.length)).all (fun j=>deq (ds.getD j .non) (es.getD j .non)) && ds.length == es.length)=gX ds es
 | [],[]=>by simp[gX]
 | [],e::es=>by simp[gX]
 | d::ds,[]=>by simp[gX]
 | d::ds,e::es=>by
  have ih:=fC ds es;have hm:min (d::ds).length (e::es).length=min ds.length es.length+1:=by simp only[List.length_cons];omega
  rw[hm,List.range_succ_eq_map,List.all_cons,List.all_map];simp only[gX,List.getD_cons_zero,List.length_cons];rw[<- ih,Bool.and_assoc]
  congr 1
  simp[Function.comp_def]
theorem nG{ds es:List D}(h:ds.length≠es.length):gX ds es=false:=by
 rw[<- fC];simp[h]
theorem iw{ds es:List D}(h:ds.length=es.length):(List.range ds.length).all (fun j=>deq (ds.getD j .non) (es.getD j .non))=gX ds es:=by
 rw[<- fC,h];simp
theorem qg{ds es:List D}(hl:ds.length=es.length)(h:∀(j:Nat) d e,ds[j]? = some d->es[j]? = some e->deq d e=true):gX ds es=true:=by
 rw[<- iw hl,List.all_eq_true];intro j hj;have hj':j<ds.length:=List.mem_range.mp hj;have hj2:j<es.length:=by omega
 have e1:ds[j]? = some ds[j]:=List.getElem?_eq_getElem hj';have e2:es[j]? = some es[j]:=List.getElem?_eq_getElem hj2;rw[List.getD_eq_getElem?_getD,List.getD_eq_getElem?_getD,e1,e2];exact h j _ _ e1 e2
theorem jz{α β:Type}{xs:List α}{ds:List β}{j:Nat}{d:β}(hl:xs.length=ds.length)(h:ds[j]? = some d):∃x,xs[j]? = some x:=by
 have:=(List.getElem?_eq_some_iff.mp h).1;exact⟨xs[j],List.getElem?_eq_getElem (by omega)⟩
theorem Rp.self{H:Hp}{n m:Nat}{v:V}{d e:D}(r:Rp H n v d)(q:Rp H m v e):deq d e=true:=by
 induction r generalizing m e with
 | non=>cases q;rfl
 | bl=>cases q;simp[deq]
 | int=>cases q;simp[deq]
 | str=>cases q;simp[deq]
 | tup e1 hl h ih =>
  cases q with
  | tup e2 hl2 h2 =>
   rw[e1]at e2;cases e2;refine qg (by omega) fun j a b ea eb=>?_;obtain⟨x,hx⟩:=jz hl ea;exact ih j x a hx ea (h2 j x b hx eb)
  | lst e2 hl2 h2=>rw[e1]at e2;cases e2
 | lst e1 hl h ih =>
  cases q with
  | tup e2 hl2 h2=>rw[e1]at e2;cases e2
  | lst e2 hl2 h2 =>
   rw[e1]at e2;cases e2;refine qg (by omega) fun j a b ea eb=>?_;obtain⟨x,hx⟩:=jz hl ea;exact ih j x a hx ea (h2 j x b hx eb)
section
variable {X:Cx} {pins:List (Addr×Obj)} {σ:St} {H:Hp} {s:Shared}
theorem jb{A:Around}{xs ys:List V}{us ws:List Value}{ds es:List D}(r:aT xs us)(r':aT ys ws)(hl:xs.length=ds.length)(hl':ys.length=es.length)
  (h:∀(j:Nat) x y d e u w,xs[j]? = some x->ys[j]? = some y->ds[j]? = some d->es[j]? = some e->aW x u->aW y w->SeqAt.EqAt A s u w (deq d e))
  (j:Nat) (h1:j<us.toArray.size) (h2:j<ws.toArray.size):SeqAt.EqAt A s us.toArray[j] ws.toArray[j] (deq (ds.getD j .non) (es.getD j .non)):=by
 rw[List.size_toArray]at h1 h2;obtain⟨a,ea,ra⟩:=oX r h1;obtain⟨c,ec,rc⟩:=oX r' h2;have g1:=(List.getElem?_eq_some_iff.mp ea).1;have g2:=(List.getElem?_eq_some_iff.mp ec).1;have e1:ds[j]? = some ds[j]:=List.getElem?_eq_getElem (by omega);have e2:es[j]? = some es[j]:=List.getElem?_eq_getElem (by omega);rw[List.getD_eq_getElem?_getD,List.getD_eq_getElem?_getD,e1,e2];exact h j a c _ _ _ _ ea ec e1 e2 ra rc
theorem Rp.eqAt{n:Nat}{x:V}{d:D}(r:Rp H n x d):∀{m:Nat} {y:V} {e:D} {A:Around} {u v:Value},Rp H m y e->yI X pins σ H s->aW x u->aW y v->A.units+n<cLine->SeqAt.EqAt A s u v (deq d e):=by
 induction r with
 | non =>
  intro m y e A u v q I ru rv hu;cases ru;cases q with
  | non=>cases rv;exact SeqAt.EqAt.same _
  | bl=>cases rv;exact SeqAt.EqAt.none_bool _
  | int=>obtain⟨_,rfl⟩:=rv;exact SeqAt.EqAt.none_int _ _
  | str=>obtain⟨_,rfl⟩:=rv;exact SeqAt.EqAt.none_str _ _
  | tup e1 hl h=>cases rv;obtain⟨its,_,pl,_⟩:=I.tuple (SqT.of e1);exact SeqAt.EqAt.none_tuple pl (by omega)
  | lst e1 hl h=>cases rv;obtain⟨its,_,pl,_⟩:=I.list (SqL.of e1);exact SeqAt.EqAt.none_list pl.isList (by omega)
 | bl =>
  intro m y e A u v q I ru rv hu;cases ru;cases q with
  | non=>cases rv;exact SeqAt.EqAt.bool_none _
  | bl=>cases rv;exact SeqAt.EqAt.bool_bool _ _
  | int=>obtain⟨_,rfl⟩:=rv;exact SeqAt.EqAt.bool_int _ _ _
  | str=>obtain⟨_,rfl⟩:=rv;exact SeqAt.EqAt.bool_str _ _ _
  | tup e1 hl h=>cases rv;obtain⟨its,_,pl,_⟩:=I.tuple (SqT.of e1);exact SeqAt.EqAt.bool_tuple _ pl (by omega)
  | lst e1 hl h=>cases rv;obtain⟨its,_,pl,_⟩:=I.list (SqL.of e1);exact SeqAt.EqAt.bool_list _ pl.isList (by omega)
 | int =>
  intro m y e A u v q I ru rv hu;obtain⟨_,rfl⟩:=ru;cases q with
  | non=>cases rv;exact SeqAt.EqAt.int_none _ _
  | bl=>cases rv;exact SeqAt.EqAt.int_bool _ _ _
  | int=>obtain⟨_,rfl⟩:=rv;exact SeqAt.EqAt.int_int _ _ _ _
  | str=>obtain⟨_,rfl⟩:=rv;exact SeqAt.EqAt.int_str _ _ _ _
  | tup e1 hl h=>cases rv;obtain⟨its,_,pl,_⟩:=I.tuple (SqT.of e1);exact SeqAt.EqAt.int_tuple _ _ pl (by omega)
  | lst e1 hl h=>cases rv;obtain⟨its,_,pl,_⟩:=I.list (SqL.of e1);exact SeqAt.EqAt.int_list _ _ pl.isList (by omega)
 | str =>
  intro m y e A u v q I ru rv hu;obtain⟨_,rfl⟩:=ru;cases q with
  | non=>cases rv;exact SeqAt.EqAt.str_none _ _
  | bl=>cases rv;exact SeqAt.EqAt.str_bool _ _ _
  | int=>obtain⟨_,rfl⟩:=rv;exact SeqAt.EqAt.str_int _ _ _ _
  | str=>obtain⟨_,rfl⟩:=rv;exact SeqAt.EqAt.str_str _ _ _ _
  | tup e1 hl h=>cases rv;obtain⟨its,_,pl,_⟩:=I.tuple (SqT.of e1);exact SeqAt.EqAt.str_tuple _ _ pl (by omega)
  | lst e1 hl h=>cases rv;obtain⟨its,_,pl,_⟩:=I.list (SqL.of e1);exact SeqAt.EqAt.str_list _ _ pl.isList (by omega)
 | @tup n p xs ds e0 hl h ih =>
  intro m y e A u v q I ru rv hu;cases ru;obtain⟨its,r1,pl,_⟩:=I.tuple (SqT.of e0);cases q with
  | non=>cases rv;exact SeqAt.EqAt.tuple_none pl (by omega)
  | bl=>cases rv;exact SeqAt.EqAt.tuple_bool _ pl (by omega)
  | int=>obtain⟨_,rfl⟩:=rv;exact SeqAt.EqAt.tuple_int _ _ pl (by omega)
  | str=>obtain⟨_,rfl⟩:=rv;exact SeqAt.EqAt.tuple_str _ _ pl (by omega)
  | lst e1 hl1 h1=>cases rv;obtain⟨jts,_,pl',_⟩:=I.list (SqL.of e1);exact SeqAt.EqAt.tuple_list pl pl'.isList (by omega)
  | @tup m p' ys es e1 hl1 h1 =>
   cases rv
   by_cases hne:p=p'
   ·subst hne
    have z:deq (.tup ds) (.tup es)=true:=Rp.self (Rp.tup e0 hl h) (Rp.tup e1 hl1 h1);rw[z];exact SeqAt.EqAt.same _
   ·obtain⟨jts,r2,pl',_⟩:=I.tuple (SqT.of e1)
    have y:=SeqAt.RcAt.tuples (A:=A) (e:=fun j=>deq (ds.getD j .non) (es.getD j .non)) pl pl' (by omega) (jb r1 r2 hl hl1 fun j x y d e u w a b c k ra rb=>ih j x d a c (h1 j y e b k) I ra rb (by show A.units+1+n<cLine;omega));rw[List.size_toArray,List.size_toArray,<- r1.length,<- r2.length,hl,hl1,fC]at y;exact SeqAt.EqAt.of_refs hne y
 | @lst n p xs ds e0 hl h ih =>
  intro m y e A u v q I ru rv hu;cases ru;obtain⟨its,r1,pl,_⟩:=I.list (SqL.of e0);cases q with
  | non=>cases rv;exact SeqAt.EqAt.list_none pl.isList (by omega)
  | bl=>cases rv;exact SeqAt.EqAt.list_bool _ pl.isList (by omega)
  | int=>obtain⟨_,rfl⟩:=rv;exact SeqAt.EqAt.list_int _ _ pl.isList (by omega)
  | str=>obtain⟨_,rfl⟩:=rv;exact SeqAt.EqAt.list_str _ _ pl.isList (by omega)
  | tup e1 hl1 h1=>cases rv;obtain⟨jts,_,pl',_⟩:=I.tuple (SqT.of e1);exact SeqAt.EqAt.list_tuple pl.isList pl' (by omega)
  | @lst m p' ys es e1 hl1 h1 =>
   cases rv
   by_cases hne:p=p'
   ·subst hne
    have z:deq (.lst ds) (.lst es)=true:=Rp.self (Rp.lst e0 hl h) (Rp.lst e1 hl1 h1);rw[z];exact SeqAt.EqAt.same _
   ·obtain⟨jts,r2,pl',_⟩:=I.list (SqL.of e1)
    have g1:=r1.length;have g2:=r2.length
    by_cases hz:ds.length=es.length
    ·have y:=SeqAt.RcAt.lists (A:=A) (e:=fun j=>deq (ds.getD j .non) (es.getD j .non)) pl.isList pl'.isList (by rw[List.size_toArray,List.size_toArray];omega) (by omega) (jb r1 r2 hl hl1 fun j x y d e u w a b c k ra rb=>ih j x d a c (h1 j y e b k) I ra rb (by show A.units+1+n<cLine;omega))
     rw[List.size_toArray,<- r1.length,hl,iw hz]at y;exact SeqAt.EqAt.of_refs hne y
    ·rw[show deq (.lst ds) (.lst es)=false from nG hz]
     exact SeqAt.EqAt.of_refs hne (SeqAt.RcAt.lists_lengths pl.isList pl'.isList (by rw[List.size_toArray,List.size_toArray];simp;omega) (by omega))
end
end L2
namespace L2
open PySem PySem.Spec PyProof.Rows
section
variable {X:Cx} {pins:List (Addr×Obj)} {σ:St} {H:Hp} {s:Shared}
theorem Rp.rcNeAt{A:Around}{n m:Nat}{x y:V}{d e:D}{u v:Value}(r:Rp H n x d)(q:Rp H m y e)(I:yI X pins σ H s)(ru:aW x u)(rv:aW y v)(hu:A.units+n+1<cLine):SeqAt.RcNeAt A s u v (!(deq d e)):=by
 cases r with
 | non =>
  cases q with
  | non =>
   cases ru;cases rv;exact SeqAt.RcNeAt.none_none
  | bl =>
   cases ru;cases rv;exact SeqAt.RcNeAt.none_bool _
  | int =>
   cases ru;obtain⟨_,rfl⟩:=rv;exact SeqAt.RcNeAt.none_int _ _
  | str =>
   cases ru;obtain⟨_,rfl⟩:=rv;exact SeqAt.RcNeAt.none_str _ _
  | @tup m p' ys es e1 hl1 h1 =>
   cases ru;cases rv;obtain⟨jts,r2,pl',_⟩:=I.tuple (SqT.of e1);exact SeqAt.RcNeAt.none_tuple pl' (by omega)
  | @lst m p' ys es e1 hl1 h1 =>
   cases ru;cases rv;obtain⟨jts,r2,pl',_⟩:=I.list (SqL.of e1);exact SeqAt.RcNeAt.none_list pl'.isList (by omega)
 | bl =>
  cases q with
  | non =>
   cases ru;cases rv;exact SeqAt.RcNeAt.bool_none _
  | bl =>
   cases ru;cases rv;exact SeqAt.RcNeAt.bool_bool _ _
  | int =>
   cases ru;obtain⟨_,rfl⟩:=rv;exact SeqAt.RcNeAt.bool_int _ _ _
  | str =>
   cases ru;obtain⟨_,rfl⟩:=rv;exact SeqAt.RcNeAt.bool_str _ _ _
  | @tup m p' ys es e1 hl1 h1 =>
   cases ru;cases rv;obtain⟨jts,r2,pl',_⟩:=I.tuple (SqT.of e1);exact SeqAt.RcNeAt.bool_tuple _ pl' (by omega)
  | @lst m p' ys es e1 hl1 h1 =>
   cases ru;cases rv;obtain⟨jts,r2,pl',_⟩:=I.list (SqL.of e1);exact SeqAt.RcNeAt.bool_list _ pl'.isList (by omega)
 | int =>
  cases q with
  | non =>
   obtain⟨_,rfl⟩:=ru;cases rv;exact SeqAt.RcNeAt.int_none _ _
  | bl =>
   obtain⟨_,rfl⟩:=ru;cases rv;exact SeqAt.RcNeAt.int_bool _ _ _
  | int =>
   obtain⟨_,rfl⟩:=ru;obtain⟨_,rfl⟩:=rv;exact SeqAt.RcNeAt.int_int _ _ _ _
  | str =>
   obtain⟨_,rfl⟩:=ru;obtain⟨_,rfl⟩:=rv;exact SeqAt.RcNeAt.int_str _ _ _ _
  | @tup m p' ys es e1 hl1 h1 =>
   obtain⟨_,rfl⟩:=ru;cases rv;obtain⟨jts,r2,pl',_⟩:=I.tuple (SqT.of e1);exact SeqAt.RcNeAt.int_tuple _ _ pl' (by omega)
  | @lst m p' ys es e1 hl1 h1 =>
   obtain⟨_,rfl⟩:=ru;cases rv;obtain⟨jts,r2,pl',_⟩:=I.list (SqL.of e1);exact SeqAt.RcNeAt.int_list _ _ pl'.isList (by omega)
 | str =>
  cases q with
  | non =>
   obtain⟨_,rfl⟩:=ru;cases rv;exact SeqAt.RcNeAt.str_none _ _
  | bl =>
   obtain⟨_,rfl⟩:=ru;cases rv;exact SeqAt.RcNeAt.str_bool _ _ _
  | int =>
   obtain⟨_,rfl⟩:=ru;obtain⟨_,rfl⟩:=rv;exact SeqAt.RcNeAt.str_int _ _ _ _
  | str =>
   obtain⟨_,rfl⟩:=ru;obtain⟨_,rfl⟩:=rv;exact SeqAt.RcNeAt.str_str _ _ _ _
  | @tup m p' ys es e1 hl1 h1 =>
   obtain⟨_,rfl⟩:=ru;cases rv;obtain⟨jts,r2,pl',_⟩:=I.tuple (SqT.of e1);exact SeqAt.RcNeAt.str_tuple _ _ pl' (by omega)
  | @lst m p' ys es e1 hl1 h1 =>
   obtain⟨_,rfl⟩:=ru;cases rv;obtain⟨jts,r2,pl',_⟩:=I.list (SqL.of e1);exact SeqAt.RcNeAt.str_list _ _ pl'.isList (by omega)
 | @tup n p xs ds e0 hl h =>
  cases q with
  | non =>
   cases ru;cases rv;obtain⟨its,r1,pl,_⟩:=I.tuple (SqT.of e0);exact SeqAt.RcNeAt.tuple_none pl (by omega)
  | bl =>
   cases ru;cases rv;obtain⟨its,r1,pl,_⟩:=I.tuple (SqT.of e0);exact SeqAt.RcNeAt.tuple_bool _ pl (by omega)
  | int =>
   cases ru;obtain⟨_,rfl⟩:=rv;obtain⟨its,r1,pl,_⟩:=I.tuple (SqT.of e0);exact SeqAt.RcNeAt.tuple_int _ _ pl (by omega)
  | str =>
   cases ru;obtain⟨_,rfl⟩:=rv;obtain⟨its,r1,pl,_⟩:=I.tuple (SqT.of e0);exact SeqAt.RcNeAt.tuple_str _ _ pl (by omega)
  | @tup m p' ys es e1 hl1 h1 =>
   cases ru;cases rv;obtain⟨its,r1,pl,_⟩:=I.tuple (SqT.of e0);obtain⟨jts,r2,pl',_⟩:=I.tuple (SqT.of e1);have y:=SeqAt.RcNeAt.tuples (A:=A) (e:=fun j=>deq (ds.getD j .non) (es.getD j .non)) pl pl' (by omega) (jb r1 r2 hl hl1 fun j x y d e u w a b c k ra rb=>(h j x d a c).eqAt (h1 j y e b k) I ra rb (by show A.units+1+_<cLine;omega));rw[List.size_toArray,List.size_toArray,<- r1.length,<- r2.length,hl,hl1,fC]at y;exact y
  | @lst m p' ys es e1 hl1 h1 =>
   cases ru;cases rv;obtain⟨its,r1,pl,_⟩:=I.tuple (SqT.of e0);obtain⟨jts,r2,pl',_⟩:=I.list (SqL.of e1);exact SeqAt.RcNeAt.tuple_list pl pl'.isList (by omega)
 | @lst n p xs ds e0 hl h =>
  cases q with
  | non =>
   cases ru;cases rv;obtain⟨its,r1,pl,_⟩:=I.list (SqL.of e0);exact SeqAt.RcNeAt.list_none pl.isList (by omega)
  | bl =>
   cases ru;cases rv;obtain⟨its,r1,pl,_⟩:=I.list (SqL.of e0);exact SeqAt.RcNeAt.list_bool _ pl.isList (by omega)
  | int =>
   cases ru;obtain⟨_,rfl⟩:=rv;obtain⟨its,r1,pl,_⟩:=I.list (SqL.of e0);exact SeqAt.RcNeAt.list_int _ _ pl.isList (by omega)
  | str =>
   cases ru;obtain⟨_,rfl⟩:=rv;obtain⟨its,r1,pl,_⟩:=I.list (SqL.of e0);exact SeqAt.RcNeAt.list_str _ _ pl.isList (by omega)
  | @tup m p' ys es e1 hl1 h1 =>
   cases ru;cases rv;obtain⟨its,r1,pl,_⟩:=I.list (SqL.of e0);obtain⟨jts,r2,pl',_⟩:=I.tuple (SqT.of e1);exact SeqAt.RcNeAt.list_tuple pl.isList pl' (by omega)
  | @lst m p' ys es e1 hl1 h1 =>
   cases ru;cases rv;obtain⟨its,r1,pl,_⟩:=I.list (SqL.of e0);obtain⟨jts,r2,pl',_⟩:=I.list (SqL.of e1);have g1:=r1.length;have g2:=r2.length
   by_cases hz:ds.length=es.length
   ·have y:=SeqAt.RcNeAt.lists (A:=A) (e:=fun j=>deq (ds.getD j .non) (es.getD j .non)) pl.isList pl'.isList (by rw[List.size_toArray,List.size_toArray];omega) (by omega) (jb r1 r2 hl hl1 fun j x y d e u w a b c k ra rb=>(h j x d a c).eqAt (h1 j y e b k) I ra rb (by show A.units+1+_<cLine;omega))
    rw[List.size_toArray,<- r1.length,hl,iw hz]at y;exact y
   ·rw[show deq (.lst ds) (.lst es)=false from nG hz]
    exact SeqAt.RcNeAt.lists_lengths pl.isList pl'.isList (by rw[List.size_toArray,List.size_toArray];simp;omega) (by omega)
end
section
variable {X:Cx}
inductive EV (neg:Bool) (x:V) (y:V) (H:Hp) (Q:VK):Prop
 | mk:∀d e,(Rp H 9 x d)->(Rp H 9 y e)->(Q (.bl (if neg then !(deq d e) else deq d e)) H)->EV neg x y H Q
theorem lg(hu:X.A.units+10<cLine):OpR X (compareOp .NotEq) (EV true):=by
 intro pins s σ H x y v u Q I rx ry h;obtain⟨d,e,rd,re,k⟩:=h;exact rd.rcNeAt re I rx ry (by omega) _ _ _ _ ⟨.bl _,H,I,rfl,k⟩
end
section
variable {H:Hp} {n:Nat} {p:Addr} {x y z w:V} {a b c d:D}
theorem Rp.t2(e:H p=some (.tup [x,y]))(ha:Rp H n x a)(hb:Rp H n y b):Rp H (n+1) (.ref p) (.tup [a,b]):=.tup e rfl fun j x d h k=>by
 match j with
 | 0=>cases h;cases k;exact ha
 | 1=>cases h;cases k;exact hb
 | j+2=>simp at h
theorem Rp.l0(e:H p=some (.lst [])):Rp H (n+1) (.ref p) (.lst []):=.lst e rfl fun j x d h=>by simp at h
theorem Rp.l1(e:H p=some (.lst [x]))(ha:Rp H n x a):Rp H (n+1) (.ref p) (.lst [a]):=.lst e rfl fun j x d h k=>by
 match j with
 | 0=>cases h;cases k;exact ha
 | j+1=>simp at h
theorem Rp.l2(e:H p=some (.lst [x,y]))(ha:Rp H n x a)(hb:Rp H n y b):Rp H (n+1) (.ref p) (.lst [a,b]):=.lst e rfl fun j x d h k=>by
 match j with
 | 0=>cases h;cases k;exact ha
 | 1=>cases h;cases k;exact hb
 | j+2=>simp at h
mutual
theorem gY:∀d:D,deq d d=true
 | .non=>rfl
 | .bl b=>by simp[deq]
 | .int i=>by simp[deq]
 | .str x=>by simp[deq]
 | .tup ds=>by simp only[deq];exact ir ds
 | .lst ds=>by simp only[deq];exact ir ds
theorem ir:∀ds:List D,gX ds ds=true
 | []=>by simp[gX]
 | d::ds=>by simp only[gX,Bool.and_eq_true];exact⟨gY d,ir ds⟩
end
end
end L2
namespace L2
open PySem PySem.Spec PyProof.Rows
structure BE(X:Cx)(scope:Scope)(cl:List (Str×Addr))(xs:List Str)(fv:List (Str×Nat)):Prop where
 clos:closureFor scope X.env=pure cl
 kind:scope.kind = .function
 cell:∀y∈scope.names,y.2≠.cell
 names:∀y∈scope.names,y.2 = .local->scope.names.lookup y.1=some .local
 own:∀x∈xs,scope.names.lookup x=some .local
 cells:∀p∈cl,X.env.cells.lookup p.1=some p.2
 has:((relabel scope X.env).names.all fun q=>!(q.2 == .cell || q.2 == .free) || (cl.lookup q.1).isSome)=true
 nd:(xs++fv.map (·.1)).Nodup
 slot:∀p∈fv,X.N[p.2]? = some p.1∧X.env.kindOf p.1=some .cell∧Vis X.env.scope p.1∧(cl.lookup p.1).isSome=true∧((relabel scope X.env).names.lookup p.1=some .cell)
 stk:X.stack=X.env::X.outer∧X.env.frame=some X.env.locals
 noex:X.ex = []
def PTs(X:Cx)(ifs:List Expr)(tc:TT):Prop :=
 ∀(pins:List (Addr×Obj)) (s:Shared) (σ:St) (H:Hp) (Q:Bool->Hp->Prop),yI X pins σ H s->tc σ H Q ->
  wpAny (model X.prog X.w) X.A (forIn ifs true fun c r=>if r=true then do let ok <- isTrue c X.env (eval c X.env);pure (ForInStep.yield ok) else pure (ForInStep.yield r)) (fun b s'=>∃H',yI X pins σ H' s'∧Q b H') X.xe s
def v4:TT:=fun _ H Q=>Q true H
theorem pF{X:Cx}:PTs X [] v4:=fun pins s σ H Q I h=>wpAny_tests_nil ⟨H,I,h⟩
theorem kX{X:Cx}{c:Expr}{tc:TT}(h:PT X c tc):PTs X [c] tc:=fun pins s σ H Q I q=>wpAny_tests_one (h pins s σ H Q I q)
theorem nJ{prog:Program}{w:World}{A:Around}{R:Result->Shared->Prop}{s:Shared}{elt target iter:Expr}{ifs:List Expr}{scope:Scope}{pos:Pos}{it acc:Value}{env:Env}(I:Nat->Shared->Prop)
  (turn:∀n s,I n s->wpAny (model prog w) A (pyNext it) (fun r s₁=>match r with
   | none=>R (.ok .next) s₁
   | some v=>wpAny (model prog w) A (letOwnedTupleGo target it v) (fun _ s₀=>wpAny (model prog w) A (assign target env v) (fun _ s₂ =>
     wpAny (model prog w) A (forIn ifs true fun c r=>if r=true then do let ok <- isTrue c env (eval c env);pure (ForInStep.yield ok) else pure (ForInStep.yield r)) (fun ok s₃ =>
      if ok=true then wpAny (model prog w) A (eval elt env) (fun x s₄ =>
       wpAny (model prog w) A (call (.builtin "list.append") [acc,x]) (fun _ s₅=>∃m,m<n∧I m s₅) (notedBy (model prog w) A env fun e s'=>R (.error e) s') s₄) (notedBy (model prog w) A env fun e s'=>R (.error e) s') s₃
      else ∃m,m<n∧I m s₃) (notedBy (model prog w) A env fun e s'=>R (.error e) s') s₂) (notedBy (model prog w) A env fun e s'=>R (.error e) s') s₀) (notedBy (model prog w) A env fun e s'=>R (.error e) s') s₁) (notedBy (model prog w) A env fun e s'=>R (.error e) s') s)
  (n:Nat) (h:I n s):codeAny (model prog w) A (.compLoop (.ListComp elt [⟨target,iter,ifs,0⟩] scope pos) 0 it acc env) R s:=by
 refine codeAny_loop rfl I (fun n s hI=>?_) n h;show wpAny _ A ((compTurn (.ListComp elt [⟨target,iter,ifs,0⟩] scope pos) 0 it acc env).onRaise (fun x=>do noteFrame x env;theTreesLotGoes x)) _ _ s
 refine wpAny_noted ?_;rw[compTurn_list];refine wpAny_bind (wpAny_standAt (wpAny_bind (wpAny_mono (turn n s hI) (fun r s₁ h₁=>?_) fun _ _ h'=>h')));cases r with
 | none=>exact wpAny_pure h₁
 | some v =>
  refine wpAny_bind (wpAny_mono h₁ (fun _ s₀ h₀=>?_) fun _ _ h'=>h');refine wpAny_bind (wpAny_mono h₀ (fun _ s₂ h₂=>wpAny_bind (wpAny_mono h₂ (fun ok s₃ h₃=>?_) fun _ _ h'=>h')) fun _ _ h'=>h');cases ok with
  | false=>exact wpAny_pure ⟨rfl,h₃⟩
  | true=>exact wpAny_bind (wpAny_bind (wpAny_mono h₃ (fun x s₄ h₄=>wpAny_bind (wpAny_mono h₄ (fun _ s₅ h₅=>wpAny_pure (wpAny_pure ⟨rfl,h₅⟩)) fun _ _ h'=>h')) fun _ _ h'=>h'))
def fN(J:It)(n:Nat)(fv:List (Str×Nat))(g:TG)(tc:TT)(te:TE)(σ:St)(H1:Hp)(Q:VK):Prop:=∀p,H1 p=none->∃W:Nat->Nat->List V->Hp->Prop,(∃m,W 0 m [] (upd H1 p (.lst [])))∧∀i m acc H2,W i m acc H2 ->
 H2 p=some (.lst acc)∧acc.length<sizeLine∧((J.stop i H2∧Q (.ref p) H2)∨(J.go i H2∧∀x H3,J.yld i H2 x H3->∀τ:St,τ.length=n->g x (τ++fvs fv σ) H3 fun σ2 H4=>(∃τ':St,τ'.length=n∧σ2=τ'++fvs fv σ) ∧
  tc σ2 H4 fun b H5=>if b=true then te σ2 H5 (fun y H6=>H6 p=some (.lst acc)∧∃m',m'<m∧W (i+1) m' (acc++[y]) (upd H6 p (.lst (acc++[y])))) else ∃m',m'<m∧W (i+1) m' acc H5))
def rY(wi:TI)(n:Nat)(fv:List (Str×Nat))(g:TG)(tc:TT)(te:TE):TE:=fun σ H Q=>wi σ H fun J H1=>fN J n fv g tc te σ H1 Q
section
variable {X:Cx} {scope:Scope} {cl:List (Str×Addr)} {xs:List Str} {fv:List (Str×Nat)} {elt iter tg:Expr} {ifs:List Expr} {pos:Pos} {te:TE} {tc:TT} {g:TG}
theorem vq{pins:List (Addr×Obj)}{σ:St}{H:Hp}{s:Shared}{fp:List Addr}(C:BE X scope cl xs fv)(I:yI X pins σ H s)(hf:∀b∈fp,eZ X pins H b)(ho:∀b∈fp,b<s.heap.objs.size):(X.blk (xs++fv.map (·.1)) scope cl fp s H).Ok:=by
 have hcl:∀y c,cl.lookup y=some c->X.env.cells.lookup y=some c:=fun y c h=>C.cells _ (cB h);have old:∀b∈fp,X.s₀.heap.objs.size≤b:=fun b hb=>by
  rcases(hf b hb).2.2.2.1 with z|z
  ·rw[C.noex]at z
   cases z
  ·exact z
 refine⟨I.ok.mod,by show(relabel scope X.env).kind=_;exact C.kind,I.ok.glob,I.ok.blt,Nat.le_refl _,fun y z c h1 h2=>I.ok.inj y z c (hcl y c h1) (hcl z c h2),fun y hy=>?_,(fun y c h=>by cases h),I.ok.hd,I.ok.frames,.inl rfl,fun b hb=>?_,fun b o e=>I.bs b o e,Nat.le_trans I.ok.bsz I.sz,fun b o e hb=>?_,fun b hb hm=>?_,I.stack,I.stkFree⟩
 ·have q:=C.has
  rw[List.all_eq_true]at q;have hm:∃k,(y,k)∈(relabel scope X.env).names∧(k = .cell∨k = .free):=by
   rcases hy with hy|hy
   ·exact⟨_,cB hy,.inl rfl⟩
   ·exact⟨_,cB hy,.inr rfl⟩
  obtain⟨k,hk,hk2⟩:=hm;have q2:=q _ hk;have q3:(cl.lookup y).isSome=true:=by
   rcases hk2 with rfl|rfl
   ·simpa using q2
   ·simpa using q2
  exact Option.isSome_iff_exists.mp q3
 ·obtain⟨f0,f1,f2,f3,f4,f5⟩:=hf b hb
  refine⟨?_,fun y c h=>f4 y c (hcl y c h)⟩;exact Nat.ne_of_lt (ho b hb)
 ·have z:=Heap.lt_size e
  have z2:=old b hb;exact absurd (Nat.lt_of_lt_of_le z (Nat.le_trans I.ok.bsz z2)) (Nat.lt_irrefl _)
 ·obtain⟨f0,f1,f2,f3,f4,f5⟩:=hf b hb
  rcases List.mem_cons.mp (I.stkSub b hm) with z|z
  ·exact f1 z
  ·exact f2 z
theorem ue{pins:List (Addr×Obj)}{σ:St}{H:Hp}{s s4:Shared}{fp:List Addr}(C:BE X scope cl xs fv)(I:yI X pins σ H s)(hf:∀b∈fp,eZ X pins H b)(ho:∀b∈fp,b<s.heap.objs.size)
  (hs:s4.os=s.os∧s4.gens=s.gens) (ns:s4.heap.Ns s.heap.objs.size fun _=>none) (kp:∀b o,s.heap.get? b=some o->s4.heap.get? b=some o) :
  yI (X.blk (xs++fv.map (·.1)) scope cl fp s H) [] (List.replicate xs.length none++fvs fv σ) H s4:=by
 have hcl:∀y c,cl.lookup y=some c->X.env.cells.lookup y=some c:=fun y c h=>C.cells _ (cB h);refine⟨vq C I hf ho,hs.1,by rw[hs.2];exact I.bare,Un.kept kp,⟨_,ns,fun i y v e1 e2 e3=>?_⟩,fun y c h=>?_,I.hok.fresh (Nat.le_refl _),fun y c h=>I.freeC y c (hcl y c h),fun p hp=>by simp at hp,I.hok.kept kp,by simp[fvs]⟩
 ·by_cases hi:i<xs.length
  ·rw[List.getElem?_append_left (by rw[List.length_replicate];exact hi),List.getElem?_replicate]at e2
   simp[hi]at e2
  ·obtain⟨j,rfl⟩:∃j,i=xs.length+j:=⟨i - xs.length,by omega⟩
   have e1':(fv.map (·.1))[j]? = some y:=by
    have z:(xs++fv.map (·.1))[xs.length+j]? = some y:=e1;rw[List.getElem?_append_right (by omega)]at z;simpa using z
   have e2':(fvs fv σ)[j]? = some (some v):=by
    rw[List.getElem?_append_right (by rw[List.length_replicate];omega),List.length_replicate]at e2;simpa using e2
   rw[List.getElem?_map]at e1';unfold fvs at e2';rw[List.getElem?_map]at e2';cases hq:fv[j]? with
   | none =>
    rw[hq]at e1';cases e1'
   | some q =>
    rw[hq]at e1' e2';have ey:q.1=y:=Option.some.inj e1';have ev:(σ[q.2]?).join=some v:=Option.some.inj e2';have hm:q∈fv:=List.mem_of_getElem? hq;obtain⟨s1,s2,s3,s4',s5⟩:=C.slot q hm;have ev2:σ[q.2]? = some (some v):=by
     cases hz:σ[q.2]? with
     | none =>
      rw[hz]at ev;cases ev
     | some z =>
      rw[hz]at ev;have ev':z=some v:=ev;rw[ev']
    obtain⟨m,hn,hl⟩:=I.loc;obtain⟨u,r,lk⟩:=hl q.2 q.1 v s1 ev2 s3;obtain⟨c,hc⟩:=Option.isSome_iff_exists.mp s4';refine⟨u,r,.inr ⟨.inl (by rw[<- ey];exact s5),c,by rw[<- ey];exact hc,?_⟩⟩;rcases lk with⟨k,_⟩|⟨_,c',hc',z⟩
    ·rw[s2]at k
     cases k
    ·rw[hcl _ _ hc]at hc'
     cases hc';obtain⟨o,ho',hd⟩:=z;exact⟨o,kp _ _ ho',hd⟩
 ·obtain⟨v,o,ho',hd⟩:=I.cell y c (hcl y c h)
  exact⟨v,o,kp _ _ ho',hd⟩
theorem nN{pins:List (Addr×Obj)}{σ:St}{H2:Hp}{s2:Shared}{it:Addr}{fp:List Addr}{tn:Nat->Heap->Prop}{J:It}{RR:Value->Addr->Result->Shared->Prop}{E:Value->Shared->Prop}{Qf:V->Hp->Prop}
  (hcalm:X.calm=true) (C:BE X scope cl xs fv) (I2:yI X pins σ H2 s2) (T:C3 X.prog X.w X.K tg J fp it tn) (st:tn 0 s2.heap) (f2:∀b∈fp,eZ X pins H2 b)
  (rd:fN J xs.length fv g tc te σ H2 Qf)
  (hg:∀(s₀:Shared) (H₀:Hp),PG (X.blk (xs++fv.map (·.1)) scope cl fp s₀ H₀) tg g) (ht:∀(s₀:Shared) (H₀:Hp),PTs (X.blk (xs++fv.map (·.1)) scope cl fp s₀ H₀) ifs tc)
  (he:∀(s₀:Shared) (H₀:Hp),PE (X.blk (xs++fv.map (·.1)) scope cl fp s₀ H₀) elt te)
  (hRR:∀(p C:Addr) (H':Hp) (s':Shared),(∃m,s'.heap.Ns C m)->C≠X.env.locals->H' C=none->X.s₀.heap.objs.size≤C->(∀y c,X.env.cells.lookup y=some c->c≠C)->(∀q∈X.pn++pins,q.1≠C)->yI X pins σ H' s'->Qf (.ref p) H'->RR (.ref p) C (.ok .next) s') :
  wpAny (model X.prog X.w) X.A (newList []) (fun acc s₃=>wpAny (model X.prog X.w) X.A (newFunctionEnv scope X.env.globals cl [] X.env.qual none .none (some X.env)) (fun cenv s₄ =>
   codeAny (model X.prog X.w) X.A (.compStart (.ListComp elt [⟨tg,iter,ifs,0⟩] scope pos) 0 (.ref it) acc { cenv with scope:=relabel scope X.env }) (RR acc cenv.locals) s₄) E s₃) E s2:=by
 refine wpAny_newObj_type ?_;have hfresh:=I2.fresh;have I3:yI X pins σ (upd H2 s2.heap.objs.size (.lst [])) { s2 with heap:=s2.heap.push { cls:=.type "list",data:=.seq ([]:List Value).toArray } } :=
  I2.laid (t':=s2.toks) (fun b u q=>Heap.get?_push_of_some _ q) (Nat.le_refl _) ⟨Nat.zero_le _,[],0,.nil,Heap.get?_push_size _ rfl⟩
 generalize hs3:({ s2 with heap:=s2.heap.push { cls:=.type "list",data:=.seq ([]:List Value).toArray } }:Shared)=s3 at I3 ⊢;have hp3:s2.heap.objs.size<s3.heap.objs.size:=by rw[<- hs3];exact Nat.lt_of_lt_of_le (Nat.lt_succ_self _) (Nat.le_of_eq (Heap.size_push _ _).symm)
 have k23:∀b o,s2.heap.get? b=some o->s3.heap.get? b=some o:=fun b o e=>by rw[<- hs3];exact Heap.get?_push_of_some _ e
 have fpo:∀b∈fp,b<s2.heap.objs.size:=fun b hb=>by
  obtain⟨o,e,_⟩:=T.obj 0 _ st b hb;exact Heap.lt_size e
 have f3:∀b∈fp,eZ X pins (upd H2 s2.heap.objs.size (.lst [])) b:=fun b hb=>⟨by rw[aN (Nat.ne_of_lt (fpo b hb))];exact(f2 b hb).1,(f2 b hb).2⟩;refine wpAny_newFunctionEnv C.cell (by intro y hy;simp at hy) (fun h1 hns1 hsb1=>?_) C.kind;have kp:∀b o,s3.heap.get? b=some o->h1.get? b=some o:=fun b o e=>(hsb1.2 b (Nat.ne_of_lt (Heap.lt_size e))).trans (Heap.get?_push_of_some _ e);have I4:=ue (s4:={ s3 with heap:=h1,toks:=s3.toks+([]:List (Str×Value)).length }) C I3 f3 (fun b hb=>Nat.lt_trans (fpo b hb) hp3) ⟨rfl,rfl⟩ hns1 kp;have st4:tn 0 h1:=T.keep 0 _ _ st fun b _ o e=>kp b o (k23 b o e);obtain⟨W,⟨m0,w0⟩,step⟩:=rd _ hfresh;have loop:codeAny (model X.prog X.w) X.A (.compLoop (.ListComp elt [⟨tg,iter,ifs,0⟩] scope pos) 0 (.ref it) (.ref s2.heap.objs.size) (compEnvC scope cl s3.heap.objs.size X.env)) (RR (.ref s2.heap.objs.size) s3.heap.objs.size)
   { s3 with heap:=h1,toks:=s3.toks+([]:List (Str×Value)).length }:=by
  refine nJ (fun n s=>∃i acc τ H',τ.length=xs.length∧yI (X.blk (xs++fv.map (·.1)) scope cl fp s3 (upd H2 s2.heap.objs.size (.lst []))) [] (τ++fvs fv σ) H' s∧tn i s.heap∧(∀b∈fp,H' b=none)∧W i n acc H') ?_ m0 ⟨0,[],List.replicate xs.length none,_,List.length_replicate,I4,st4,fun b hb=>(f3 b hb).1,w0⟩;rintro n s ⟨i,acc,τ,H',hτ,I',st',fr',w'⟩;obtain⟨hp,hlen,alt⟩:=step i n acc H' w';have fpk:∀{H5:Hp},(∀b∈fp,H5 b=none)->∀b∈fp,eZ (X.blk (xs++fv.map (·.1)) scope cl fp s3 (upd H2 s2.heap.objs.size (.lst []))) [] H5 b:=fun h5 b hb =>
   ⟨h5 b hb,(I'.ok.exf b hb).1,I'.ok.exfs b hb,.inl hb,fun y c e=>(I'.ok.exf b hb).2 y c e,fun q hq=>by simp at hq⟩
  rcases alt with⟨stop,qf⟩|⟨go,turn⟩
  ·refine wpAny_mono (T.done (X.blk (xs++fv.map (·.1)) scope cl fp s3 (upd H2 s2.heap.objs.size (.lst []))) rfl rfl rfl hcalm i [] s _ H' (fun _ _=>False) I' (fpk fr') st' stop) (fun r s5 ⟨hr,I5⟩=>?_) fun _ _ z=>False.elim z
   subst hr;refine hRR _ _ H' s5 (let ⟨m,hn,_⟩:=I5.loc;⟨m,hn⟩) (Nat.ne_of_gt I3.lt) I5.free I3.sz (fun y c e=>?_) (fun q hq=>?_) ?_ qf
   ·obtain⟨v,z⟩:=I3.cell y c e
    exact Nat.ne_of_lt z.lt
   ·exact Nat.ne_of_lt (Heap.lt_size (I3.pin q hq).1)
   ·exact I3.call' (s':=s5) (ch:=fp) I5.os I5.base I5.hok I5.bare fun b hb=>⟨(f2 b hb).2.2.2.1,(f2 b hb).2.1,(f2 b hb).2.2.2.2.1,(f2 b hb).2.2.2.2.2⟩
  ·refine wpAny_mono (T.item (X.blk (xs++fv.map (·.1)) scope cl fp s3 (upd H2 s2.heap.objs.size (.lst []))) rfl rfl rfl hcalm i [] s _ H' (fun _ _=>False) I' (fpk fr') st' go) (fun r s5 ⟨u,hr,h5⟩=>?_) fun _ _ z=>False.elim z
   subst hr;refine wpAny_mono h5 (fun _ s6 ⟨y,H6,I6,r6,y6,st6,fr6⟩=>?_) fun _ _ z=>False.elim z;have I6':=I6.pinned (fpk fr6) (T.obj _ _ st6);have rt:=turn y _ y6 τ hτ;refine wpAny_mono (hg s3 _ _ s6 _ H6 y u _ I6' r6 rt) (fun _ s7 ⟨σ7,H7,I7,⟨τ',hτ',e7⟩,q7⟩=>?_) fun _ _ z=>False.elim z;subst e7;refine wpAny_mono (ht s3 _ _ s7 _ _ _ I7 q7) (fun b s7b ⟨H7b,I7b,q7b⟩=>?_) fun _ _ z=>False.elim z;have kp6:∀{σ9:St} {H9:Hp} {s9:Shared},yI (X.blk (xs++fv.map (·.1)) scope cl fp s3 (upd H2 s2.heap.objs.size (.lst []))) ([]++jp fp s6.heap) σ9 H9 s9->tn (i+1) s9.heap∧∀b∈fp,H9 b=none:=fun {σ9 H9 s9} I9=>by
    refine⟨T.keep _ _ _ st6 fun b hb o e=>(I9.pin (b,o) (List.mem_append_right _ (List.mem_append_right _ (dy hb e)))).1,fun b hb=>?_⟩;obtain⟨o,e,d⟩:=T.obj _ _ st6 b hb;exact(I9.pin (b,o) (List.mem_append_right _ (List.mem_append_right _ (dy hb e)))).2.1
   cases b with
   | false =>
    obtain⟨m',hm',w8⟩:=q7b;exact⟨m',hm',i+1,acc,τ',_,hτ',I7b.unpinned,(kp6 I7b).1,(kp6 I7b).2,w8⟩
   | true =>
    refine wpAny_mono (he s3 _ _ s7b _ _ _ I7b q7b) (fun v8 s8 ⟨y8,H8,I8,r8,q8,m',hm',w8⟩=>?_) fun _ _ z=>False.elim z;refine wpAny_mono (ia (X:=X.blk (xs++fv.map (·.1)) scope cl fp s3 (upd H2 s2.heap.objs.size (.lst []))) _ s8 _ H8 (.ref s2.heap.objs.size) [y8] (.ref s2.heap.objs.size) [v8] (fun _ H9=>H9=upd H8 s2.heap.objs.size (.lst (acc++[y8]))) I8 rfl (.cons r8 .nil) ⟨_,acc,y8,rfl,rfl,q8,hlen,rfl⟩) (fun _ s9 ⟨_,H9,I9,_,e9⟩=>?_) fun _ _ z=>False.elim z;subst e9;exact⟨m',hm',i+1,acc++[y8],τ',_,hτ',I9.unpinned,(kp6 I9).1,(kp6 I9).2,w8⟩
 exact codeAny_compStart_list loop (T.self _ 0 _ _ _ st4 loop)
theorem js{wi:TI}(hcalm:X.calm=true)(C:BE X scope cl xs fv)(hi:PI X tg iter wi)(hg:∀(fp:List Addr) (s₀:Shared) (H₀:Hp),PG (X.blk (xs++fv.map (·.1)) scope cl fp s₀ H₀) tg g)(ht:∀(fp:List Addr) (s₀:Shared) (H₀:Hp),PTs (X.blk (xs++fv.map (·.1)) scope cl fp s₀ H₀) ifs tc)(he:∀(fp:List Addr) (s₀:Shared) (H₀:Hp),PE (X.blk (xs++fv.map (·.1)) scope cl fp s₀ H₀) elt te)
  (hs:∀v,foldedSetIterable iter X.env v=pure v:=by intro _;rfl):PE X (.ListComp elt [⟨tg,iter,ifs,0⟩] scope pos) (rY wi xs.length fv g tc te):=by
 intro pins s σ H Q I h;rw[eval_ListComp];refine wpAny_comprehension_free (use:=none) rfl hs C.clos C.kind C.names (wpAny_mono (hi pins s σ H _ I h) (fun v s1 h1=>wpAny_mono h1 (fun itv s2 h2=>?_) fun _ _ z=>z) fun _ _ z=>z);obtain⟨it,fp,tn,J,H2,rfl,I2,T,st2,f2,rd⟩:=h2;refine nN (Qf:=Q) hcalm C I2 T st2 f2 rd (hg fp) (ht fp) (he fp) fun p D H' s' ns nL nH n0 nC nP I8 q=>?_;obtain⟨m,hn⟩:=ns;exact⟨m,hn,fun h'' sb=>⟨.ref p,H',I8.turned (t':=s'.toks) (fun b o hb e=>(sb.2 b hb).trans e) nH nL (.inr n0) nC nP,rfl,q⟩⟩
theorem iA{wi:TI}{y:Str}{j:Nat}{py spos:Pos}(hcalm:X.calm=true)(C:BE X scope cl xs fv)(hN:X.N.Nodup)(hj:X.N[j]? = some y)(hy:X.env.scope.names.lookup y=some .local)(hi:PI X tg iter wi)(hg:∀(fp:List Addr) (s₀:Shared) (H₀:Hp),PG (X.blk (xs++fv.map (·.1)) scope cl fp s₀ H₀) tg g)(ht:∀(fp:List Addr) (s₀:Shared) (H₀:Hp),PTs (X.blk (xs++fv.map (·.1)) scope cl fp s₀ H₀) ifs tc)(he:∀(fp:List Addr) (s₀:Shared) (H₀:Hp),PE (X.blk (xs++fv.map (·.1)) scope cl fp s₀ H₀) elt te)
  (hsw:swapsWith (.ListComp elt [⟨tg,iter,ifs,0⟩] scope pos) (some (.Name y py)) spos.line X.env=pure true:=by rfl)
  (hs:∀v,foldedSetIterable iter X.env v=pure v:=by intro _;rfl):PS X (.Assign [.Name y py] (.ListComp elt [⟨tg,iter,ifs,0⟩] scope pos) spos) (se (rY wi xs.length fv g tc te) (jA j)):=by
 intro pins s σ H D I h;rw[exec_Assign_Name_used _ _ _ _ hsw];refine wpAny_bind (wpAny_standAt (wpAny_bind ?_));show wpAny _ _ (do let _ <- comprehension (.ListComp elt [⟨tg,iter,ifs,0⟩] scope pos) scope X.env _ (newList []) false (eval iter X.env) (some (assign (.Name y py) X.env))) _ _ s
 refine wpAny_bind (wpAny_mono (wpAny_comprehension_free (use:=some (assign (.Name y py) X.env)) (Q:=fun _ s'=>SP X pins D .next s') rfl hs C.clos C.kind C.names
  (wpAny_mono (hi pins s σ H _ I h) (fun v s1 h1=>wpAny_mono h1 (fun itv s2 h2=>?_) fun _ _ z=>z) fun _ _ z=>z)) (fun _ s' hq=>wpAny_pure (wpAny_pure hq)) fun _ _ z=>z)
 obtain⟨it,fp,tn,J,H2,rfl,I2,T,st2,f2,rd⟩:=h2;refine nN (Qf:=fun v H'=>jA j v σ H' D.nx) hcalm C I2 T st2 f2 rd (hg fp) (ht fp) (he fp) fun p D' H' s' ns nL nH n0 nC nP I8 q=>?_;obtain⟨m,hn⟩:=ns;show wpAny _ _ (assign (.Name y py) X.env (.ref p)) _ _ _;refine wpAny_assign_Name (hV I8 hN hj (.inl hy) (v:=.ref p) rfl (fun s9 I9 ⟨a,sb,ha⟩=>?_) (.inr hy));have aD:D'≠a:=by
  rintro rfl;rcases ha with z|z
  ·exact nL z
  ·exact nC y _ z rfl
 exact⟨m,hn.sameBut sb aD,fun h'' sb2=>⟨_,H',I9.turned (t':=s9.toks) (fun b o hb e=>(sb2.2 b hb).trans e) nH nL (.inr n0) nC nP,q⟩⟩
end
theorem vn{J:It}{n k:Nat}{fv:List (Str×Nat)}{g:TG}{te:TE}{σ:St}{H1:Hp}{Q:VK}(hlen:n<1000)(R:Nat->V->Hp->Prop)(hR:∀i v H H',SameT H H'->R i v H->R i v H')
  (hst:∀H2,Same H1 H2->J.stop n H2) (hgo:∀i H2,i<n->Same H1 H2->J.go i H2)
  (hs:∀i x H2 H3 (τ:St) (Kc:VK),i<n->Same H1 H2->J.yld i H2 x H3->τ.length=k->(∀y H4,Same H2 H4->R i y H4->Kc y H4)->g x (τ++fvs fv σ) H3 fun σ2 H4=>(∃τ':St,τ'.length=k∧σ2=τ'++fvs fv σ)∧te σ2 H4 Kc)
  (hd:∀l ys H',H1 l=none->Same H1 H'->H' l=some (.lst ys)->ys.length=n->(∀i y,ys[i]? = some y->R i y H')->Q (.ref l) H') :
  fN J k fv g v4 te σ H1 Q:=by
 intro l hl;refine⟨fun i m acc H2=>m=n - i∧i≤n∧acc.length=i∧Same H1 H2∧H2 l=some (.lst acc)∧∀j y,acc[j]? = some y->R j y H2,⟨n,rfl,Nat.zero_le _,rfl,Same.new hl,upd_same,fun j y h=>by simp at h⟩,?_⟩;rintro i m acc H2 ⟨rfl,hi,e1,sm,e3,hr⟩;refine⟨e3,bC (by omega),?_⟩
 by_cases hlt:i<n
 ·refine .inr ⟨hgo i H2 hlt sm,fun x H3 y τ hτ=>?_⟩
  refine hs i x H2 H3 τ _ hlt sm y hτ fun y H4 s4 ry=>⟨s4 _ _ e3,n - (i+1),by omega,rfl,hlt,by simp[e1],(sm.trans s4).upd hl,upd_same,fun j z hz=>?_⟩;have t4:=SameT.upd (ys:=acc++[y]) (s4 _ _ e3);rcases Nat.lt_trichotomy j acc.length with h|h|h
  ·rw[List.getElem?_append_left h]at hz
   exact hR _ _ _ _ (s4.t.trans t4) (hr j z hz)
  ·subst h
   rw[List.getElem?_append_right (Nat.le_refl _),Nat.sub_self]at hz;cases hz;rw[e1];exact hR _ _ _ _ t4 ry
  ·rw[List.getElem?_eq_none (by simp;omega)]at hz
   cases hz
 ·have e:i=n:=by omega
  subst e;exact .inl ⟨hst H2 sm,hd l acc H2 hl sm e3 e1 hr⟩
theorem jL{K:W.Frag}{a:Addr}{xs:List V}{fv:List (Str×Nat)}{te:TE}{σ:St}{H1:Hp}{Q:VK}{g:TG}{k:Nat}(q1:SqL K H1 a xs)(hlen:xs.length<1000)(R:Nat->V->Hp->Prop)(hR:∀i v H H',SameT H H'->R i v H->R i v H')
  (hs:∀i x H2 (τ:St) (Kc:VK),xs[i]? = some x->Same H1 H2->τ.length=k->(∀y H4,Same H2 H4->R i y H4->Kc y H4)->g x (τ++fvs fv σ) H2 fun σ2 H4=>(∃τ':St,τ'.length=k∧σ2=τ'++fvs fv σ)∧te σ2 H4 Kc)
  (hd:∀l zs H',H1 l=none->Same H1 H'->H' l=some (.lst zs)->zs.length=xs.length->(∀i y,zs[i]? = some y->R i y H')->Q (.ref l) H') :
  fN (Itl K a) k fv g v4 te σ H1 Q:=by
 refine vn (n:=xs.length) hlen R hR (fun H2 s2=>⟨xs,s2.seq q1,Nat.le_refl _⟩) (fun i H2 hi s2=>⟨xs,xs[i],s2.seq q1,by simp[hi]⟩) ?_ hd;intro i x H2 H3 τ Kc hi s2 y hτ kk;obtain⟨rfl,e⟩:=y;exact hs i x _ τ Kc (e xs (s2.seq q1)) s2 hτ kk
end L2
namespace L2
open PySem PySem.Spec PyProof.Rows
section
variable {κ:Type} [DecidableEq κ]
def dm(kvs:List (κ×V))(k:κ):Option V:=(kvs.find? fun kv=>decide (kv.1=k)).map (·.2)
def eY(kvs:List (κ×V))(k:κ)(v:V):List (κ×V) :=
 if (kvs.any fun kv=>decide (kv.1=k))=true then kvs.map (fun kv=>if kv.1=k then (kv.1,v) else kv) else kvs++[(k,v)]
theorem cf{p:κ×V}{r:List (κ×V)}{k:κ}(e:p.1=k):dm (p::r) k=some p.2:=by simp[dm,List.find?_cons,e]
theorem bS{p:κ×V}{r:List (κ×V)}{k:κ}(e:¬p.1=k):dm (p::r) k=dm r k:=by simp[dm,List.find?_cons,e]
theorem fe(k:κ):∀kvs:List (κ×V),(kvs.any fun kv=>decide (kv.1=k))=(dm kvs k).isSome
 | []=>rfl
 | p::r=>by
  rw[List.any_cons]
  by_cases e:p.1=k
  ·simp only[cf e,decide_eq_true e,Bool.true_or,Option.isSome_some]
  ·rw[bS e,decide_eq_false e,Bool.false_or];exact fe k r
theorem l6(k j:κ)(y:V):∀kvs:List (κ×V),dm (kvs.map fun kv=>if kv.1=k then (kv.1,y) else kv) j=(dm kvs j).map fun x=>if j=k then y else x
 | []=>rfl
 | p::r=>by
  have ih:=l6 k j y r;rw[List.map_cons]
  by_cases h:p.1=k
  ·rw[if_pos h]
   by_cases e:p.1=j
   ·rw[cf (p:=(p.1,y)) e,cf e,Option.map_some,if_pos (e.symm.trans h)]
   ·rw[bS (p:=(p.1,y)) e,bS e,ih]
  ·rw[if_neg h]
   by_cases e:p.1=j
   ·rw[cf (p:=p) e,cf e,Option.map_some,if_neg (fun z=>h (e.trans z))]
   ·rw[bS (p:=p) e,bS e,ih]
theorem kb(k j:κ)(y:V):∀kvs:List (κ×V),dm kvs k=none->dm (kvs++[(k,y)]) j=if j=k then some y else dm kvs j
 | [],_=>by
  by_cases e:k=j
  ·rw[if_pos e.symm];exact cf (p:=(k,y)) e
  ·rw[if_neg (fun z=>e z.symm)];exact bS (p:=(k,y)) e
 | p::r,hn=>by
  rw[List.cons_append];have hk:¬p.1=k:=fun z=>by rw[cf z]at hn;cases hn
  rw[bS hk]at hn;have ih:=kb k j y r hn
  by_cases e:p.1=j
  ·rw[cf e,cf e,if_neg (fun z=>hk (e.trans z))]
  ·rw[bS e,bS e,ih]
theorem l5(kvs:List (κ×V))(k j:κ)(y:V):dm (eY kvs k y) j=if j=k then some y else dm kvs j:=by
 unfold eY
 by_cases a:(kvs.any fun kv=>decide (kv.1=k))=true
 ·rw[if_pos a,l6]
  rw[fe]at a
  by_cases e:j=k
  ·obtain⟨x,hx⟩:=Option.isSome_iff_exists.mp a
   rw[if_pos e,e,hx,Option.map_some,if_pos rfl]
  ·rw[if_neg e]
   cases dm kvs j with
   | none=>rfl
   | some x=>rw[Option.map_some,if_neg e]
 ·rw[if_neg a]
  refine kb k j y kvs ?_;rw[fe]at a;cases q:dm kvs k with
  | none=>rfl
  | some x=>rw[q]at a;exact(a rfl).elim
theorem iF(kvs:List (κ×V))(k:κ)(v:V):(eY kvs k v).length≤kvs.length+1:=by
 unfold eY
 split
 ·rw[List.length_map];omega
 ·rw[List.length_append,List.length_cons,List.length_nil];omega
theorem jn{kvs:List (κ×V)}{k:κ}(v:V)(h:dm kvs k=none):eY kvs k v=kvs++[(k,v)]:=by
 unfold eY;rw[fe,h];exact if_neg (by decide)
theorem iy.isSome_eq{o:Option V}{u:Option Value}(r:iy o u):o.isSome=u.isSome:=by
 cases o with
 | none=>cases u with
  | none=>rfl
  | some _=>exact(show False from r).elim
 | some _=>cases u with
  | none=>exact(show False from r).elim
  | some _=>rfl
theorem KV.val{kvs:List (κ×V)}{vs:List (κ×Value)}(r:KV kvs vs)(k:κ):iy (dm kvs k) (valueAt vs k):=by
 unfold KV at r
 induction r with
 | nil=>exact True.intro
 | @cons p q ps qs h t ih =>
  obtain⟨h1,h2⟩:=h
  by_cases e:p.1=k
  ·have e':q.1=k:=h1.symm.trans e
   have b:valueAt (q::qs) k=some q.2:=by simp[valueAt,List.find?_cons,e']
   rw[cf e,b];exact h2
  ·have e':¬q.1=k:=fun z=>e (h1.trans z)
   have b:valueAt (q::qs) k=valueAt qs k:=by simp[valueAt,List.find?_cons,e']
   rw[bS e,b];exact ih
theorem KV.any{kvs:List (κ×V)}{vs:List (κ×Value)}(r:KV kvs vs)(k:κ):(kvs.any fun kv=>decide (kv.1=k))=vs.any fun kv=>decide (kv.1=k):=by
 unfold KV at r
 induction r with
 | nil=>rfl
 | cons h t ih=>rw[List.any_cons,List.any_cons,ih,h.1]
theorem KV.repl{kvs:List (κ×V)}{vs:List (κ×Value)}(r:KV kvs vs)(k:κ){y:V}{u:Value}(ry:aW y u) :
  KV (kvs.map fun kv=>if kv.1=k then (kv.1,y) else kv) (vs.map fun kv=>if kv.1=k then (kv.1,u) else kv):=by
 unfold KV at r ⊢
 induction r with
 | nil=>exact .nil
 | @cons p q ps qs h t ih =>
  rw[List.map_cons,List.map_cons];refine .cons ?_ ih;obtain⟨h1,h2⟩:=h
  by_cases e:p.1=k
  ·rw[if_pos e,if_pos (h1.symm.trans e)];exact⟨h1,ry⟩
  ·rw[if_neg e,if_neg (fun z=>e (h1.trans z))];exact⟨h1,h2⟩
theorem KV.put{kvs:List (κ×V)}{vs:List (κ×Value)}(r:KV kvs vs)(k:κ){y:V}{u:Value}(ry:aW y u):KV (eY kvs k y) (stored vs k u):=by
 unfold eY stored;rw[r.any k]
 by_cases e:(vs.any fun kv=>decide (kv.1=k))=true
 ·rw[if_pos e,if_pos e];exact r.repl k ry
 ·rw[if_neg e,if_neg e];exact Paired.snoc r ⟨rfl,ry⟩
theorem KV.length{kvs:List (κ×V)}{vs:List (κ×Value)}(r:KV kvs vs):kvs.length=vs.length:=Paired.length r
end
theorem mR{P:Program}{w:World}{k:Key}{u:Value}(r:aW (kV k) u):(cw P w).is k u=true:=by
 cases k with
 | inl i=>obtain⟨t,e⟩:=(show ∃t,u=Value.int i t from r);subst e;exact mL P w i t
 | inr x=>obtain⟨t,e⟩:=(show ∃t,u=Value.str x t from r);subst e;exact mK P w x t
theorem kE{P:Program}{w:World}:∀{ks:List Key} {us:List Value},aT (ks.map kV) us->ItemsAre (cw P w) ks us
 | [],_,r=>by rw[List.map_nil]at r;cases r;exact .nil
 | k::ks,_,r=>by
  rw[List.map_cons]at r;cases r with
  | cons h t=>exact .cons (mR h) (kE t)
abbrev KT(H:Hp):List (List Key×V)->List (List Key×Addr×Value)->Prop:=Paired fun p q=>p.1=q.1∧H q.2.1=some (.tup (p.1.map kV))∧aW p.2 q.2.2
theorem KT.val{H:Hp}{kvs:List (List Key×V)}{xs:List (List Key×Addr×Value)}(r:KT H kvs xs)(k:List Key):iy (dm kvs k) ((atKey xs k).map (·.2)):=by
 induction r with
 | nil=>exact True.intro
 | @cons p q ps qs h t ih =>
  obtain⟨h1,_,h2⟩:=h
  by_cases e:p.1=k
  ·have e':q.1=k:=h1.symm.trans e
   have b:atKey (q::qs) k=some q.2:=by simp[atKey,List.find?_cons,e']
   rw[cf e,b];exact h2
  ·have e':¬q.1=k:=fun z=>e (h1.trans z)
   have b:atKey (q::qs) k=atKey qs k:=by simp[atKey,List.find?_cons,e']
   rw[bS e,b];exact ih
theorem KT.repl{H:Hp}{kvs:List (List Key×V)}{xs:List (List Key×Addr×Value)}(r:KT H kvs xs)(k:List Key){y:V}{u:Value}(ry:aW y u) :
  KT H (kvs.map fun kv=>if kv.1=k then (kv.1,y) else kv) (xs.map (putAt k u)):=by
 induction r with
 | nil=>exact .nil
 | @cons p q ps qs h t ih =>
  rw[List.map_cons,List.map_cons];refine .cons ?_ ih;obtain⟨h1,h2,h3⟩:=h;unfold putAt
  by_cases e:p.1=k
  ·rw[if_pos e,if_pos (h1.symm.trans e)];exact⟨h1,h2,ry⟩
  ·rw[if_neg e,if_neg (fun z=>e (h1.trans z))];exact⟨h1,h2,h3⟩
theorem KT.put{H:Hp}{kvs:List (List Key×V)}{xs:List (List Key×Addr×Value)}(r:KT H kvs xs)(k:List Key){b:Addr}{y:V}{u:Value}(hb:H b=some (.tup (k.map kV)))(ry:aW y u) :
  KT H (eY kvs k y) (storedH xs k b u):=by
 have e:(kvs.any fun kv=>decide (kv.1=k))=(atKey xs k).isSome:=by
  rw[fe,(r.val k).isSome_eq,Option.isSome_map]
 unfold eY storedH;rw[e]
 by_cases q:(atKey xs k).isSome=true
 ·rw[if_pos q,if_pos q];exact r.repl k ry
 ·rw[if_neg q,if_neg q];exact Paired.snoc r ⟨rfl,hb,ry⟩
theorem KT.keeps{H H':Hp}{kvs:List (List Key×V)}{xs:List (List Key×Addr×Value)}(r:KT H kvs xs)(ht:∀b ys,H b=some (.tup ys)->H' b=some (.tup ys)):KT H' kvs xs :=
 Paired.mapP r fun _ _ z=>⟨z.1,ht _ _ z.2.1,z.2.2⟩
section
variable {P:Program} {w:World} {H:Hp} {h:Heap} {a:Addr}
theorem vK{u:HO}(ok:HOk P w H h)(e:Rd H a u):bK P w H h a u:=e.ok ok
theorem nE{kvs:List (Key×V)}(ok:HOk P w H h)(e:Rd H a (.dK kvs)):kvs.length≤sizeLine∧(a == sysModules)=false∧∃vs,KV kvs vs∧h.DictOf (cw P w) a vs :=
 show bK P w H h a (.dK kvs) from vK ok e
theorem yd{kvs:List (Key×V)}(ok:HOk P w H h)(e:H a=some (.dK kvs)):kvs.length≤sizeLine∧(a == sysModules)=false∧∃vs,KV kvs vs∧h.DictOf (cw P w) a vs:=nE ok (.inl e)
theorem jy{ks:List Key}(ok:HOk P w H h)(e:H a=some (.tup (ks.map kV))):(tupleKind (cw P w)).is h ks a:=by
 obtain⟨_,its,r,o,h1,h2,n,h3⟩:=(show bK P w H h a (.tup (ks.map kV)) from ok a _ e);exact⟨o,its.toArray,n,h1,h2,h3,by simpa using kE r⟩
theorem nD{kvs:List (List Key×V)}(ok:HOk P w H h)(e:Rd H a (.dT kvs)):kvs.length≤sizeLine∧(a == sysModules)=false ∧
  ∃xs,KT H kvs xs∧h.DictOfH (tupleKind (cw P w)) a xs:=by
 obtain⟨z,y,xs,r,o,es,ep,h1,h2,h3,h4,h5⟩:=(show bK P w H h a (.dT kvs) from vK ok e);refine⟨z,y,xs,r,o,es,ep,h1,h2,h3,h4,fun x hx=>?_,h5⟩;have all:∀{l:List (List Key×V)} {m:List (List Key×Addr×Value)},KT H l m->∀x∈m,(tupleKind (cw P w)).is h x.1 x.2.1:=by
  intro l m q
  induction q with
  | nil=>intro x hx;exact nomatch hx
  | @cons p q ps qs hq t ih =>
   intro x hx;rcases List.mem_cons.mp hx with e|hx
   ·subst e
    exact jy ok (by rw[<- hq.1];exact hq.2.1)
   ·exact ih x hx
 exact all r x hx
theorem x9{kvs:List (List Key×V)}(ok:HOk P w H h)(e:H a=some (.dT kvs)):kvs.length≤sizeLine∧(a == sysModules)=false ∧
  ∃xs,KT H kvs xs∧h.DictOfH (tupleKind (cw P w)) a xs:=nD ok (.inl e)
end
def gi(H:Hp)(a:Addr)(y:V)(r:Option V):Prop :=
 (∃kvs k,Rd H a (.dK kvs)∧y=kV k∧r=dm kvs k)∨∃kvs k b,Rd H a (.dT kvs)∧y = .ref b∧H b=some (.tup (k.map kV))∧r=dm kvs k
def l3(H:Hp)(a:Addr)(y v:V)(H':Hp):Prop :=
 (∃kvs k,H a=some (.dK kvs)∧y=kV k∧kvs.length<sizeLine∧H'=upd H a (.dK (eY kvs k v))) ∨
 ∃kvs k b,H a=some (.dT kvs)∧y = .ref b∧H b=some (.tup (k.map kV))∧kvs.length<sizeLine∧H'=upd H a (.dT (eY kvs k v))
theorem gi.t{H:Hp}{a b:Addr}{kvs:List (List Key×V)}{k:List Key}(e:H a=some (.dT kvs))(eb:H b=some (.tup (k.map kV))):gi H a (.ref b) (dm kvs k):=.inr ⟨kvs,k,b,.inl e,rfl,eb,rfl⟩
theorem l3.t{H:Hp}{a b:Addr}{kvs:List (List Key×V)}{k:List Key}{v:V}(e:H a=some (.dT kvs))(eb:H b=some (.tup (k.map kV)))(hl:kvs.length<sizeLine) :
  l3 H a (.ref b) v (upd H a (.dT (eY kvs k v))):=.inr ⟨kvs,k,b,e,rfl,eb,hl,rfl⟩
section
variable {X:Cx} {pins:List (Addr×Obj)} {σ:St} {H:Hp} {s:Shared} {a:Addr} {y v:V} {u r:Value} {o:Option V} {A:Around} {E:Value->Shared->Prop}
theorem yI.big(I:yI X pins σ H s):sysModules<s.heap.objs.size:=by
 have h:mainGlobals<s.heap.objs.size:=(I.mod.glob.keeps I.bk).lt;exact Nat.lt_trans (by decide) h
theorem rC{Q:Value->Shared->Prop}(hu:A.units+1<cLine)(I:yI X pins σ H s)(g:gi H a y (some v))(ry:aW y u)(h:∀w' s',yI X pins σ H s'->aW v w'->Q w' s') :
  wpAny (model X.prog X.w) A (getItem (.ref a) u) Q E s:=by
 rcases g with⟨kvs,k,e,ey,l⟩|⟨kvs,k,b,e,ey,eb,l⟩
 ·subst ey
  obtain⟨z,hd,vs,rel,dd⟩:=nE I.hok e;obtain⟨w',hw,rw'⟩:=iy.some_of (v:=v) (o:=valueAt vs k) (by rw[l];exact rel.val k);exact wpAny_getItem_of (mR ry) dd.mapOf hw (h w' _ (I.tok _) rw')
 ·subst ey
  cases (show u=Value.ref b from ry);obtain⟨z,hd,xs,rel,dd⟩:=nD I.hok e;obtain⟨w',hw,rw'⟩:=iy.some_of (v:=v) (o:=(atKey xs k).map (·.2)) (by rw[l];exact rel.val k);obtain⟨p,hp,hp2⟩:=Option.map_eq_some_iff.mp hw;refine wpAny_getItem_heap (tupleKind_room_in1 hu) (jy I.hok eb) dd hp ?_;rw[hp2];exact h w' _ (I.tok _) rw'
theorem yC{Q:Value->Shared->Prop}(hu:A.units+1<cLine)(I:yI X pins σ H s)(g:gi H a y o)(ry:aW y u)(h:∀s',yI X pins σ H s'->Q (.bool o.isSome) s') :
  wpAny (model X.prog X.w) A (compareOp .In u (.ref a)) Q E s:=by
 rcases g with⟨kvs,k,e,ey,l⟩|⟨kvs,k,b,e,ey,eb,l⟩
 ·subst ey
  obtain⟨z,hd,vs,rel,dd⟩:=nE I.hok e;refine wpAny_in_of (mR ry) hd dd.mapOf ?_;rw[<- (rel.val k).isSome_eq,<- l];exact h _ (I.tok _)
 ·subst ey
  cases (show u=Value.ref b from ry);obtain⟨z,hd,xs,rel,dd⟩:=nD I.hok e;refine wpAny_in_heap (tupleKind_room_in1 hu) (jy I.hok eb) hd dd ?_;have q:=(rel.val k).isSome_eq;rw[Option.isSome_map]at q;rw[<- q,<- l];exact h _ (I.tok _)
theorem vk{Q:Value->Shared->Prop}(hu:A.units+1<cLine)(I:yI X pins σ H s)(g:gi H a y o)(ry:aW y u)(h:∀s',yI X pins σ H s'->Q (.bool (!o.isSome)) s') :
  wpAny (model X.prog X.w) A (compareOp .NotIn u (.ref a)) Q E s:=by
 rcases g with⟨kvs,k,e,ey,l⟩|⟨kvs,k,b,e,ey,eb,l⟩
 ·subst ey
  obtain⟨z,hd,vs,rel,dd⟩:=nE I.hok e;refine wpAny_notIn_of (mR ry) hd dd.mapOf ?_;rw[<- (rel.val k).isSome_eq,<- l];exact h _ (I.tok _)
 ·subst ey
  cases (show u=Value.ref b from ry);obtain⟨z,hd,xs,rel,dd⟩:=nD I.hok e;refine wpAny_notIn_heap (tupleKind_room_in1 hu) (jy I.hok eb) hd dd ?_;have q:=(rel.val k).isSome_eq;rw[Option.isSome_map]at q;rw[<- q,<- l];exact h _ (I.tok _)
theorem qk{h':Heap}{t':Nat}{ob:HO}(I:yI X pins σ H s)(mu:Mut (H a))(hs:Heap.SameBut a s.heap h')(he:∃q,h'.get? a=some q)(new:bK X.prog X.w (upd H a ob) h' a ob) :
  yI X pins σ (upd H a ob) { s with heap:=h',toks:=t' } :=
 I.write (x:=a) (e:=a) mu (.inl rfl) (fun b q hb z=>(hs.2 b hb).trans z) he new
theorem wT{P:Program}{w:World}{H':Hp}{h':Heap}{kvs:List (Key×V)}{vs:List (Key×Value)}(z:kvs.length≤sizeLine)(hd:(a == sysModules)=false)(rel:KV kvs vs)(dd:h'.DictOf (cw P w) a vs) :
  bK P w H' h' a (.dK kvs):=⟨z,hd,vs,rel,dd⟩
theorem rB{H':Hp}{Q:Unit->Shared->Prop}(hu:A.units+1<cLine)(I:yI X pins σ H s)(g:l3 H a y v H')(ry:aW y u)(rv:aW v r)(h:∀s',yI X pins σ H' s'->Q () s') :
  wpAny (model X.prog X.w) A (setItem (.ref a) u r) Q E s:=by
 rcases g with⟨kvs,k,e,ey,l,eH⟩|⟨kvs,k,b,e,ey,eb,l,eH⟩
 ·subst ey eH
  obtain⟨z,hd,vs,rel,dd⟩:=yd I.hok e;have hz:vs.length≤sizeLine:=by rw[<- rel.length];exact z
  have hl:(eY kvs k v).length≤sizeLine:=by have:=iF kvs k v;omega
  refine wpAny_setItem_pairs (hsz:=hz) (mR ry) dd fun h' dd' hs=>h _ ?_;have he:∃q,h'.get? a=some q:=let ⟨q,_,_,hq,_⟩:=dd';⟨q,hq⟩;exact qk I (by rw[e];exact True.intro) hs he (wT hl hd (rel.put k rv) dd')
 ·subst ey eH
  cases (show u=Value.ref b from ry);obtain⟨z,hd,xs,rel,dd⟩:=x9 I.hok e;have hz:xs.length≤sizeLine:=by rw[<- Paired.length rel];exact z
  have hl:(eY kvs k v).length≤sizeLine:=by have:=iF kvs k v;omega
  refine wpAny_setItem_heap (hsz:=hz) (tupleKind_room_in1 hu) (jy I.hok eb) dd fun h' dd' hs=>h _ ?_;obtain⟨q,es,ep,hq,h2,h3,h4,_,h5⟩:=dd';refine qk I (by rw[e];exact True.intro) hs ⟨q,hq⟩ ⟨hl,hd,_,(rel.put k eb rv).keeps fun c ys ec=>?_,q,es,ep,hq,h2,h3,h4,h5⟩;rw[aN (pR ec e (fun z=>nomatch z))]
  exact ec
end
section
variable {X:Cx} {pins:List (Addr×Obj)} {σ:St} {H:Hp} {s:Shared} {a:Addr} {kvs:List (Key×V)} {k:Key} {u:Value} {A:Around} {E:Value->Shared->Prop}
end
def yg(i:Expr):Prop:=∀ov iv,subscripted i false ov iv=operate [ov,iv] (getItem ov iv)
theorem uw{prog:Program}{w:World}{A:Around}{E:Value->Shared->Prop}{s:Shared}{env:Env}{value slice:Expr}{pos:Pos}{T id:String}{Q:Value->Shared->Prop}
  (hl:typeLookup (.type T) "__getitem__" = pure (some (.builtin id))) (hs:yg slice)
  (h:wpAny (model prog w) A (eval value env) (fun o s₁=>wpAny (model prog w) A (eval slice env) (fun i s₂=>s₂.TypeIs o T∧wpAny (model prog w) A (getItem o i) Q E s₂) E s₁) E s) :
  wpAny (model prog w) A (eval (.Subscript value slice pos) env) Q E s:=by
 refine Subscript_ (wpAny_mono h (fun o s₁ h₁=>wpAny_mono h₁ (fun i s₂ h₂=>?_) fun _ _ x=>x) fun _ _ x=>x);obtain⟨hT,h₂⟩:=h₂;unfold subscriptTail;refine wpAny_bind ?_;rw[getitemInPython_of_ne hT.not_modules];refine wpAny_bind (wpAny_specialOf hT hl ?_);have fin:wpAny (model prog w) A (subscripted slice false o i) (fun r s₃=>wpAny (model prog w) A (letTemporaryGo value o r >>= fun _=>pure r) Q E s₃) E s₂:=by
  rw[hs o i];exact wpAny_operating (wpAny_mono h₂ (fun r s₃ h₃=>wpAny_bind (wpAny_letTemporaryGo (wpAny_pure h₃))) fun _ _ x=>x)
 first
  | exact wpAny_pure (wpAny_bind fin)
  | exact wpAny_bind (wpAny_pure (wpAny_bind fin))
  | exact wpAny_bind fin
theorem nF{X:Cx}{pins:List (Addr×Obj)}{σ:St}{H:Hp}{s:Shared}{a:Addr}{y:V}{o:Option V}(I:yI X pins σ H s)(g:gi H a y o):s.TypeIs (.ref a) "dict":=by
 rcases g with⟨kvs,k,e,_,_⟩|⟨kvs,k,b,e,_,_,_⟩
 ·obtain⟨_,_,vs,_,dd⟩:=nE I.hok e
  exact dd.typeIs
 ·obtain⟨_,_,xs,_,dd⟩:=nD I.hok e
  exact dd.typeIs
def xt(td ty:TE):TE:=fun σ H Q=>td σ H fun x H1=>ty σ H1 fun y H2=>∃a v,x = .ref a∧gi H2 a y (some v)∧Q v H2
def yp(ty td:TE):TE:=fun σ H Q=>ty σ H fun y H1=>td σ H1 fun x H2=>∃a o,x = .ref a∧gi H2 a y o∧Q (.bl o.isSome) H2
def ut(ty td:TE):TE:=fun σ H Q=>ty σ H fun y H1=>td σ H1 fun x H2=>∃a o,x = .ref a∧gi H2 a y o∧Q (.bl (!o.isSome)) H2
def xD(td ty tv:TE):TS:=fun D σ H=>tv σ H fun v H1=>td σ H1 fun x H2=>ty σ H2 fun y H3=>∃a H4,x = .ref a∧l3 H3 a y v H4∧D.nx σ H4
section
variable {X:Cx} {o i e value:Expr} {pos pos' tpos:Pos} {td ty tv:TE}
theorem iX(hu:X.A.units+1<cLine)(ho:PE X o td)(hi:PE X i ty)(hs:yg i):PE X (.Subscript o i pos) (xt td ty):=by
 intro pins s σ H Q I h;refine uw PySem.F.slot_dict_getitem.lookup hs (thn (ho pins s σ H _ I h) fun u s1 ⟨x,H1,I1,rx,q1⟩=>thn (hi pins s1 σ H1 _ I1 q1) fun iv s2 ⟨y,H2,I2,ry,a,v,ex,g,q2⟩=>?_);subst ex;obtain rfl:u=Value.ref a:=rx;exact⟨nF I2 g,rC hu I2 g ry fun w' s3 I3 rw'=>⟨v,H2,I3,rw',q2⟩⟩
theorem ow(hu:X.A.units+1<cLine)(hi:PE X i ty)(ho:PE X o td):PC X .In i o (yp ty td):=by
 intro pins s σ H Q I h;refine thn (hi pins s σ H _ I h) fun iv s1 ⟨y,H1,I1,ry,q1⟩=>thn (ho pins s1 σ H1 _ I1 q1) fun u s2 ⟨x,H2,I2,rx,a,ov,ex,g,q2⟩=>?_;subst ex;obtain rfl:u=Value.ref a:=rx;exact yC hu I2 g ry fun s3 I3=>⟨.bl ov.isSome,H2,I3,rfl,q2⟩
theorem qE(hu:X.A.units+1<cLine)(hi:PE X i ty)(ho:PE X o td):PC X .NotIn i o (ut ty td):=by
 intro pins s σ H Q I h;refine thn (hi pins s σ H _ I h) fun iv s1 ⟨y,H1,I1,ry,q1⟩=>thn (ho pins s1 σ H1 _ I1 q1) fun u s2 ⟨x,H2,I2,rx,a,ov,ex,g,q2⟩=>?_;subst ex;obtain rfl:u=Value.ref a:=rx;exact vk hu I2 g ry fun s3 I3=>⟨.bl (!ov.isSome),H2,I3,rfl,q2⟩
theorem gx(hu:X.A.units+1<cLine)(ho:PE X o td)(hi:PE X i ty)(hv:PE X value tv)(hs:swapsWith value (some (.Subscript o i pos')) pos.line X.env=pure false) :
  PS X (.Assign [.Subscript o i pos'] value pos) (xD td ty tv):=by
 intro pins s σ H D I h;refine wpAny_Assign_Subscript (thn (hv pins s σ H _ I h) fun r s1 ⟨v,H1,I1,rv,q1⟩=>thn (ho pins s1 σ H1 _ I1 q1) fun u s2 ⟨x,H2,I2,rx,q2⟩=>thn (hi pins s2 σ H2 _ I2 q2) fun iv s3 ⟨y,H3,I3,ry,a,H4,ex,g,q3⟩=>?_) hs;subst ex;obtain rfl:u=Value.ref a:=rx;exact rB hu I3 g ry rv fun s4 I4=>⟨σ,H4,I4,q3⟩
end
theorem tS{P:Program}{w:World}{H:Hp}(h:Heap)(hb:sysModules<h.objs.size):bK P w H (h.push { cls:=.type "dict",data:=.dict #[] }) h.objs.size (.dT []) :=
 ⟨Nat.zero_le _,beq_eq_false_iff_ne.mpr (Ne.symm (Nat.ne_of_lt hb)),[],.nil,_,#[],0,Heap.get?_push_size _ rfl,⟨rfl,rfl,rfl⟩,rfl,rfl,List.nodup_nil⟩
def v6:TE:=fun _ H Q=>∀p,H p=none->Q (.ref p) (upd H p (.dT []))
section
variable {X:Cx} {pos:Pos}
theorem jr:PE X (.Dict [] [] pos) v6:=fun pins s σ H Q I h =>
 wpAny_Dict_empty ⟨.ref s.heap.objs.size,_,I.laid (a:=s.heap.objs.size) (o:=.dT []) (t':=s.toks) (fun _ _ q=>Heap.get?_push_of_some _ q) (Nat.le_refl _) (tS s.heap I.big),rfl,h _ (I.hok.fresh (Nat.le_refl _))⟩
end
section
variable {X:Cx} {pins:List (Addr×Obj)} {σ:St} {H:Hp} {s:Shared} {a:Addr} {y d:V} {u r:Value} {o:Option V} {A:Around} {E:Value->Shared->Prop}
end
section
variable {X:Cx} {o e f:Expr} {apos cpos:Pos} {td ty tx:TE}
end
section
variable {X:Cx} {pins:List (Addr×Obj)} {σ:St} {H:Hp} {s:Shared} {a:Addr} {kvs:List (Key×V)} {A:Around} {E:Value->Shared->Prop}
end
section
variable {X:Cx} {pins:List (Addr×Obj)} {σ:St} {H:Hp} {s:Shared} {a:Addr} {y:V} {u:Value} {A:Around} {E:Value->Shared->Prop}
end
end L2
namespace L2
open PySem PySem.Spec PyProof.Rows
section
variable {prog:Program} {w:World} {A:Around} {E:Value->Shared->Prop} {s:Shared} {it d:Addr} {i ep:Nat} {es:Array DictEntry} {od:Obj}
theorem sF{Q:Value->Shared->Prop}(hd:(d == sysModules)=false)(ho:s.heap.get? d=some od)(hc:od.cls = .type "dict")(hdat:od.data = .dict es ep)
  (hQ:Q (.ref s.heap.objs.size) { s with heap:=s.heap.push { cls:=.type "dict_keyiterator",data:=.fields #[.ref d,.int 0 0,.int es.size 0,.int ep 0] } }):wpAny (model prog w) A (pyIter (.ref d)) Q E s:=by
 have hT:s.TypeIs (.ref d) "dict":=⟨od,ho,hc⟩;refine wpAny_pyIter_slot hT F.slot_dict_iter (wpAny_call_entry F.slot_dict_iter hT F.entry_dict_iter ?_ (F.args_dict_iter_1 _));unfold Builtin.«dict.__iter__»;refine wpAny_bind ?_;unfold Builtin.Dict.dictSlotNone;refine wpAny_bind (wpAny_notOrdered_dict hT ?_);show wpAny _ _ (pure (Value.ref d)) _ _ s;refine wpAny_pure ?_;show wpAny _ _ (Builtin.Dict.showsAll d >>= _) _ _ s;unfold Builtin.Dict.showsAll;rw[if_neg (by rw[hd];exact Bool.false_ne_true)];refine wpAny_bind (wpAny_pure (wpAny_bind (wpAny_dictEntries ho hdat (wpAny_bind (wpAny_dictEpoch ho hdat ?_)))));exact wpAny_bind (wpAny_newObj_type (wpAny_pure ⟨_,rfl,"dict_keyiterator",_,⟨_,Heap.get?_push_size _ rfl,rfl⟩,F.slot_dict_keyiterator_next.lookup,hQ⟩))
theorem sG{Q:Option Value->Shared->Prop}(hit:s.heap.IsKeyIter it d i es.size ep)(hod:s.heap.get? d=some od)(hdd:od.data = .dict es ep)(hi:i<es.size)
  (hQ:∀h',h'.IsKeyIter it d (i+1) es.size ep->Heap.SameBut it s.heap h'->Q (some es[i].key) { s with heap:=h' }):wpAny (model prog w) A (pyNext (.ref it)) Q E s:=by
 obtain⟨o,ho,hc,hd⟩:=id hit;unfold pyNext;refine wpAny_bind (wpAny_attempt (wpAny_callSpecial?_slot (name:=Str.ofString "__next__") hit.typeIs F.slot_dict_keyiterator_next (wpAny_call_entry F.slot_dict_keyiterator_next hit.typeIs F.entry_dict_keyiterator_next ?_ (F.args_dict_keyiterator_next_1 _))));refine wpAny_bind (wpAny_pure (wpAny_bind (wpAny_bind ?_)))
 first|refine wpAny_bind (wpAny_typeNameOfWhole_keyiter hit.typeIs (wpAny_pure (wpAny_bind (wpAny_fieldsOf ho hd ?_))))|refine wpAny_bind (wpAny_typeNameOf_keyiter hit.typeIs (wpAny_pure (wpAny_bind (wpAny_fieldsOf ho hd ?_))))
 simp only[show Builtin.Dict_items.ownsTuple "dict_keyiterator" = false by decide,Bool.false_eq_true,if_false];show wpAny _ _ (if (Value.ref d == Value.none)=true then _ else _) _ _ s
 rw[if_neg (show ¬((Value.ref d == Value.none)=true) from Bool.false_ne_true)];refine wpAny_bind (wpAny_pure (wpAny_bind (wpAny_dictEntries hod hdd ?_)));rw[if_neg (by simp)];refine wpAny_bind (wpAny_pure (wpAny_bind (wpAny_dictEpoch hod hdd ?_)));rw[if_neg (by simp)];refine wpAny_pure ?_;simp only[show ¬((i:Int)<0) from by omega,if_false,Int.toNat_natCast,Array.getElem?_eq_getElem hi];refine wpAny_bind ?_
 first|refine wpAny_bind (wpAny_typeNameOfWhole_keyiter hit.typeIs (wpAny_pure (wpAny_bind (wpAny_isOneOf_keyiter hit.typeIs ?_))))|refine wpAny_bind (wpAny_typeNameOf_keyiter hit.typeIs (wpAny_pure (wpAny_bind (wpAny_isOneOf_keyiter hit.typeIs ?_))))
 show wpAny _ _ (setField (.ref it) 1 (rawInt ((i:Int)+1)) >>= _) _ _ s;refine wpAny_bind (wpAny_setField ho hd (by simp) ?_);have hit':(s.heap.update it (Obj.mapFields (·.setIfInBounds 1 (rawInt ((i:Int)+1))))).IsKeyIter it d (i+1) es.size ep:=⟨_,Heap.get?_update_self _ ho (Obj.isFreed_of_fields (Obj.data_mapFields hd _)),(Obj.cls_mapFields ..).trans hc,by rw[Obj.data_mapFields hd];simp[rawInt]⟩;refine wpAny_bind (wpAny_holding (wpAny_bind (wpAny_isOneOf_keyiter (s:={ s with heap:=s.heap.update it (Obj.mapFields (·.setIfInBounds 1 (rawInt ((i:Int)+1)))) }) hit'.typeIs ?_)));show wpAny _ _ (pure es[i].key) _ _ _;exact wpAny_pure (wpAny_pure ⟨_,rfl,wpAny_pure (hQ _ hit' (Heap.SameBut.update ..))⟩)
theorem uH{Q:Option Value->Shared->Prop}(hh:A.handled=none)(hit:s.heap.IsKeyIter it d i es.size ep)(hod:s.heap.get? d=some od)(hdd:od.data = .dict es ep)(hge:es.size≤i)
  (hQ:∀h',Heap.ExtBut it s.heap h'->Q none { s with heap:=h' }):wpAny (model prog w) A (pyNext (.ref it)) Q E s:=by
 obtain⟨o,ho,hc,hd⟩:=id hit;unfold pyNext;refine wpAny_bind (wpAny_attempt (wpAny_callSpecial?_slot (name:=Str.ofString "__next__") hit.typeIs F.slot_dict_keyiterator_next (wpAny_call_entry F.slot_dict_keyiterator_next hit.typeIs F.entry_dict_keyiterator_next ?_ (F.args_dict_keyiterator_next_1 _))));refine wpAny_bind (wpAny_pure (wpAny_bind (wpAny_bind ?_)))
 first|refine wpAny_bind (wpAny_typeNameOfWhole_keyiter hit.typeIs (wpAny_pure (wpAny_bind (wpAny_fieldsOf ho hd ?_))))|refine wpAny_bind (wpAny_typeNameOf_keyiter hit.typeIs (wpAny_pure (wpAny_bind (wpAny_fieldsOf ho hd ?_))))
 simp only[show Builtin.Dict_items.ownsTuple "dict_keyiterator" = false by decide,Bool.false_eq_true,if_false];show wpAny _ _ (if (Value.ref d == Value.none)=true then _ else _) _ _ s
 rw[if_neg (show ¬((Value.ref d == Value.none)=true) from Bool.false_ne_true)];refine wpAny_bind (wpAny_pure (wpAny_bind (wpAny_dictEntries hod hdd ?_)));rw[if_neg (by simp)];refine wpAny_bind (wpAny_pure (wpAny_bind (wpAny_dictEpoch hod hdd ?_)));rw[if_neg (by simp)];refine wpAny_pure ?_;simp only[show ¬((i:Int)<0) from by omega,if_false,Int.toNat_natCast,Array.getElem?_eq_none hge];refine wpAny_bind ?_
 first|refine wpAny_bind (wpAny_typeNameOfWhole_keyiter hit.typeIs (wpAny_pure ?_));show wpAny _ _ (setField (.ref it) 0 .none >>= _) _ _ s|refine wpAny_bind (wpAny_typeNameOf_keyiter hit.typeIs (wpAny_pure ?_));show wpAny _ _ (setField (.ref it) 0 .none >>= _) _ _ s
 refine wpAny_bind (wpAny_setField ho hd (by simp) ?_);show wpAny _ _ (newExc (.type "StopIteration") [] >>= _) _ _ _;refine wpAny_bind ?_;simp only[newExc,newTuple];refine wpAny_bind (wpAny_newObj_type ?_ (by size_fits));refine wpAny_bind (m:=firstArgMember _ _) (wpAny_of_eq (a:=Value.none) (by first|rfl|(simp only[firstArgMember];rfl)) ?_)
 refine wpAny_newObj_type ?_ (by size_fits);simp only[raiseNew];refine wpAny_bind (wpAny_handled ?_);rw[show A.in1.handled=none from hh];refine wpAny_bind (wpAny_pure (wpAny_throw ?_));exact wpAny_bind (wpAny_isInstance (T:="StopIteration") (b:=true) ⟨_,Heap.get?_push_size _ rfl,rfl⟩ isSubtype_stop (wpAny_pure (hQ _ (((Heap.SameBut.update ..).extBut.push _).push _))))
end
def Itd(a:Addr)(o:Obj)(kvs:List (List Key×V)):It :=
 ⟨fun i H=>H a=some (.frz o (.dT kvs))∧i<kvs.length,fun i H x H'=>H'=H∧∃k v b,kvs[i]? = some (k,v)∧x = .ref b∧H b=some (.tup (k.map kV)),fun i H=>H a=some (.frz o (.dT kvs))∧kvs.length≤i⟩
theorem jB{P:Program}{w:World}{H:Hp}{h:Heap}{a:Addr}{o:Obj}{kvs:List (List Key×V)}{es:Array DictEntry}{ep:Nat}(k:HOk P w H h)(e:H a=some (.frz o (.dT kvs)))(d:o.data = .dict es ep) :
  h.get? a=some o∧o.cls = .type "dict"∧(a == sysModules)=false∧es.size=kvs.length∧∀(i:Nat) (hi:i<es.size),∃q v b,kvs[i]? = some (q,v)∧es[i].key = .ref b∧H b=some (.tup (q.map kV)):=by
 obtain⟨g,_,sm,xs,pr,o',es',ep',g',ex,d',el,_⟩:=(show h.get? a=some o∧bK P w H h a (.dT kvs) from k a _ e);rw[g]at g';cases g';rw[d]at d';cases d';have len:es.size=kvs.length:=by
  have:=congrArg List.length el;rw[List.length_map]at this;rw[<- Array.length_toList,this];exact(Paired.length pr).symm
 refine⟨g,ex.1,sm,len,fun i hi=>?_⟩;have hx:i<xs.length:=by rw[<- Paired.length pr,<- len];exact hi
 have get:∀{kvs:List (List Key×V)} {xs:List (List Key×Addr×Value)},Paired (fun (p:List Key×V) (q:List Key×Addr×Value)=>p.1=q.1∧H q.2.1=some (.tup (p.1.map kV))∧aW p.2 q.2.2) kvs xs->∀(i:Nat) (q:List Key×Addr×Value),xs[i]? = some q->∃v,kvs[i]? = some (q.1,v)∧H q.2.1=some (.tup (q.1.map kV)):=by
  intro kvs xs pr
  induction pr with
  | nil=>intro i q e;simp at e
  | cons a r ih =>
   intro i q e;cases i with
   | zero =>
    simp at e;subst e;exact⟨_,by rw[<- a.1];rfl,by rw[<- a.1];exact a.2.1⟩
   | succ j=>exact ih j q (by simpa using e)
 obtain⟨q,hq⟩:∃q,xs[i]? = some q:=⟨xs[i],by simp[hx]⟩;obtain⟨v,e1,e2⟩:=get pr i q hq;have e3:es.toList[i]? = some (entryOfKey (tupleKind (cw P w)) q):=by rw[el,List.getElem?_map,hq];rfl
 have e4:es[i]=entryOfKey (tupleKind (cw P w)) q:=by
  have:es.toList[i]? = some es[i]:=by simp[hi]
  rw[this]at e3;exact Option.some.inj e3
 exact⟨q.1,v,q.2.1,e1,by rw[e4];rfl,e2⟩
theorem qv{P:Program}{w:World}{K:W.Frag}{tg:Expr}{kvs:List (List Key×V)}{es:Array DictEntry}{ep:Nat}{o:Obj}(a it:Addr)(hd:o.data = .dict es ep):C3 P w K tg (Itd a o kvs) [it] it (fun i h=>h.IsKeyIter it a i es.size ep) where
 mem:=by simp
 obj:=fun i h st b hb=>by
  have e:b=it:=by simpa using hb
  subst e;obtain⟨o,e,c,d⟩:=st;exact⟨o,e,fun v z=>by rw[d]at z;cases z⟩
 keep:=fun i h h' st k=>st.at fun o e=>k it (by simp) o e
 item:=by
  intro X hP hw hK hc i pins s σ H E I hf st hg;subst hP hw hK;obtain⟨e,hi⟩:=hg;obtain⟨g,gc,_,len,at'⟩:=jB I.hok e hd;obtain⟨q,v,b,e1,e2,e3⟩:=at' i (by omega);obtain⟨f0,f1,f2,f3,f4,f5⟩:=hf it (by simp);refine sG st g hd (by omega) fun h' st' sb=>?_;have I1:yI X pins σ H { s with heap:=h' }:=I.turned (t':=s.toks) (fun b o hb e=>(sb.2 b hb).trans e) f0 f1 f3 f4 f5;obtain⟨oi,ei,ci,di⟩:=id st';exact⟨_,rfl,mU (s:={ s with heap:=h' }) ei ci di (by decide) ⟨.ref b,H,I1,e2,⟨rfl,q,v,b,e1,rfl,e3⟩,st',fun b hb=>(hf b hb).1⟩⟩
 done:=by
  intro X hP hw hK hc i pins s σ H E I hf st hg;subst hP hw hK;obtain⟨e,hi⟩:=hg;obtain⟨g,gc,_,len,_⟩:=jB I.hok e hd;obtain⟨f0,f1,f2,f3,f4,f5⟩:=hf it (by simp);exact uH (I.ok.hd hc) st g hd (by omega) fun h' eb=>⟨rfl,I.turned (t':=s.toks) (fun b o hb e=>eb b o hb e) f0 f1 f3 f4 f5⟩
 self:=fun _ _ _ _ _ st h=>wpAny_pyIter_keyiter st h
section
variable {X:Cx} {tg:Expr}
def xS(tl:TE):TI:=fun σ H R=>tl σ H fun x H1=>∃a o kvs,x = .ref a∧H1 a=some (.frz o (.dT kvs))∧R (Itd a o kvs) H1
theorem uJ{l:Expr}{tl:TE}(hl:PE X l tl):PI X tg l (xS tl):=by
 intro pins s σ H R I h;refine thn (hl pins s σ H _ I h) fun v s1 ⟨x,H1,I1,r1,q1⟩=>?_;obtain⟨a,o,kvs,rfl,e,q⟩:=q1;obtain rfl:v=Value.ref a:=r1;obtain⟨es,ep,d⟩:∃es ep,o.data = .dict es ep:=by
  obtain⟨g,_,_,xs,pr,o',es',ep',g',ex,d',_⟩:=(show s1.heap.get? a=some o∧bK X.prog X.w H1 s1.heap a (.dT kvs) from I1.hok a _ e);rw[g]at g';cases g';exact⟨_,_,d'⟩
 obtain⟨g,gc,sm,len,_⟩:=jB I1.hok e d;refine sF sm g gc d ?_;refine⟨s1.heap.objs.size,[s1.heap.objs.size],_,_,H1,rfl,I1.kept (t':=s1.toks) fun b o e=>Heap.get?_push_of_some _ e,qv a _ d,⟨_,Heap.get?_push_size _ rfl,rfl,rfl⟩,fun b hb=>?_,q⟩;have e:b=s1.heap.objs.size:=by simpa using hb
 subst e;exact I1.fpOk (Nat.le_refl _) (I1.hok.fresh (Nat.le_refl _))
def yn(te:TE):TE:=fun σ H Q=>te σ H fun x H1=>∃a kvs,x = .ref a∧H1 a=some (.dT kvs)∧∀o,Q (.ref a) (upd H1 a (.frz o (.dT kvs)))
theorem wt{e:Expr}{te:TE}(h:PE X e te):PE X e (yn te):=by
 intro pins s σ H Q I hq;refine thn (h pins s σ H _ I hq) fun v s1 ⟨x,H1,I1,r1,a,kvs,ex,ea,k⟩=>?_;subst ex;have ok:=I1.hok a _ ea;obtain⟨_,_,_,_,o,_,_,g,_⟩:=(show bK X.prog X.w H1 s1.heap a (.dT kvs) from ok);have tup:∀b xs,H1 b=some (.tup xs)->upd H1 a (.frz o (.dT kvs)) b=some (.tup xs):=fun b xs q=>by
  rw[aN (fun z=>by rw[z,ea]at q;cases q)];exact q
 have J:yI X pins σ (upd H1 a (.frz o (.dT kvs))) { s1 with heap:=s1.heap,toks:=s1.toks }:=I1.write (x:=a) (e:=a) (by rw[ea];trivial) (.inl rfl) (fun _ _ _ q=>q) ⟨o,g⟩
  ⟨g,ok.stay (fun _ _ _ q=>q) (fun b q=>by rw[aN (fun z=>by rw[z,ea]at q;cases q)];exact q) tup⟩
 exact⟨.ref a,_,J,r1,k o⟩
end
end L2
namespace L2
open PySem PySem.Spec PyProof.Rows PySem.W
abbrev KnO(o:Obj):HO:=.frz o (.ext fun _=>True)
theorem mQ{P:Program}{w:World}{H:Hp}{h:Heap}{a:Addr}{o:Obj}(e:h.get? a=some o):bK P w H h a (KnO o):=⟨e,trivial,⟨o,e⟩,fun _ _ _ _=>trivial⟩
theorem fU{P:Program}{w:World}{H:Hp}{h:Heap}{a:Addr}{o:Obj}(k:HOk P w H h)(e:H a=some (KnO o)):h.get? a=some o:=(show h.get? a=some o∧_ from k a _ e).1
def cU(H:Hp)(c:Addr)(v:V):Prop:=∃o u,H c=some (KnO o)∧o.data = .cell (some u)∧aW v u
def fR(H:Hp)(c:Addr)(q:Str):Prop:=∃o vs t,H c=some (KnO o)∧o.data = .fields vs∧vs[1]? = some (.str q t)
theorem fR.rec_{P:Program}{w:World}{H:Hp}{h:Heap}{c:Addr}{q:Str}(x:fR H c q)(k:HOk P w H h):h.CodeRec (.ref c) q:=by
 obtain⟨o,vs,t,e,d,g⟩:=x;exact⟨c,o,vs,t,rfl,fU k e,d,g⟩
def cW(p:Addr)(H H':Hp):Prop:=∀b o,b≠p->H b=some o->H' b=some o
def jR(K:Frag)(c p:Addr):Prop :=
 ∃o vs file tf flags tg inF text tt,K.lookup c=some o∧o.cls = .type "code"∧o.data = .fields vs∧vs[11]? = some (.ref p)∧vs.getD 11 .none = .ref p∧vs.getD 18 .none = .str file tf ∧
  vs.getD 7 .none = .int flags tg∧vs.getD 9 .none = .bool inF∧vs.getD 10 .none = .int text tt∧c≠p
theorem jR.hd{K:Frag}{c p:Addr}{h:Heap}(x:jR K c p)(X:K.In h):CodeHd h c p:=by
 obtain⟨o,vs,file,tf,flags,tg,inF,text,tt,e,r⟩:=x;exact⟨o,vs,file,tf,flags,tg,inF,text,tt,X _ _ e,r⟩
def uj(K:Frag)(mg:Str->Option Value):Prop :=
 ∃bm o,mg "__builtins__" = some (.ref bm)∧bm≠builtinsNs∧bm≠mainGlobals∧K.lookup bm=some o∧o.cls = .type "module"∧o.dict=some builtinsNs∧o.data = .plain
def Tab(H:Hp)(p:Addr)(ls:List (Pos×Str)):Prop :=
 ∃ps,H p=some (.tbl ps)∧TriplesOk ps.toList∧∀l∈ls,codeAmong l.1 ps.toList=none∨∃c,codeAmong l.1 ps.toList=some (.ref c)∧fR H c l.2
theorem Tab.same{H H':Hp}{p:Addr}{ls:List (Pos×Str)}(t:Tab H p ls)(s:Same H H'):Tab H' p ls:=by
 obtain⟨ps,e,k,a⟩:=t;refine⟨ps,s _ _ e,k,fun l hl=>(a l hl).imp_right ?_⟩;rintro⟨c,e2,o,vs,t,e3,r⟩;exact⟨c,e2,o,vs,t,s _ _ e3,r⟩
theorem Tab.other{H H':Hp}{p q:Addr}{ls:List (Pos×Str)}{ps:Array Value}(t:Tab H p ls)(hq:H q=some (.tbl ps))(ne:p≠q)(s:cW q H H'):Tab H' p ls:=by
 obtain⟨ps',e,k,a⟩:=t;refine⟨ps',s _ _ ne e,k,fun l hl=>(a l hl).imp_right ?_⟩;rintro⟨c,e2,o,vs,t,e3,r⟩;refine⟨c,e2,o,vs,t,s _ _ (fun z=>?_) e3,r⟩;rw[z,hq]at e3;cases e3
def kQ(H:Hp)(f:Addr)(q:Str)(params:Arguments)(body:Expr)(scope:Scope)(clos:List (Str×Addr)):Prop :=
 ∃pm c ctv,H f=some (KnO (kla_obj "<lambda>" q params body scope clos pm c ctv))∧fR H c q
theorem kQ.same{H H':Hp}{f:Addr}{q:Str}{params:Arguments}{body:Expr}{scope:Scope}{clos:List (Str×Addr)}(t:kQ H f q params body scope clos)(s:∀b o,H b=some (KnO o)->H' b=some (KnO o)):kQ H' f q params body scope clos:=by
 obtain⟨pm,c,ctv,e,o,vs,t,e3,r⟩:=t;exact⟨pm,c,ctv,s _ _ e,o,vs,t,s _ _ e3,r⟩
theorem j8{pos pos':Pos}{c:Value}(l:List Value)(h:TriplesOk l)(ne:¬(pos'.line=pos.line∧pos'.col=pos.col)):codeAmong pos' (l++[rawInt pos.line,rawInt pos.col,c])=codeAmong pos' l:=by
 fun_induction TriplesOk l with
 | case1 =>
  show codeAmong pos' [rawInt pos.line,rawInt pos.col,c]=codeAmong pos' [];simp only[rawInt,codeAmong];rw[if_neg];intro z;rw[Bool.and_eq_true]at z;have z1:=eq_of_beq z.1;have z2:=eq_of_beq z.2;exact ne ⟨by omega,by omega⟩
 | case2 a ta b tb c' rest ih =>
  show codeAmong pos' (.int a ta::.int b tb::c'::(rest++[rawInt pos.line,rawInt pos.col,c]))=codeAmong pos' (.int a ta::.int b tb::c'::rest);unfold codeAmong;rw[ih h]
 | case3 l h1 h2=>exact h.elim
def yl(p:Addr)(ls:List (Pos×Str))(q:Str)(params:Arguments)(body:Expr)(scope:Scope)(clos:List (Str×Addr)):TE:=fun _ H Q =>
 Tab H p ls∧∀f H',cW p H H'->Tab H' p ls->kQ H' f q params body scope clos->H f=none->Q (.ref f) H'
section
variable {X:Cx} {params:Arguments} {body:Expr} {scope:Scope} {pos:Pos} {clos:List (Str×Addr)} {c p:Addr} {ls:List (Pos×Str)} {q:Str}
theorem k9(hcl:closureFor scope X.env=pure clos)(hcode:X.env.code = .ref c)(C:jR X.K c p)(B:uj X.K X.mg)(hdef:defaultsOf params X.env=([],[]))(hq:q=X.env.qual++"<lambda>")(hm:(pos,q)∈ls)
  (hd:∀l∈ls,l≠(pos,q)->¬(l.1.line=pos.line∧l.1.col=pos.col)):PE X (.Lambda params body scope pos) (yl p ls q params body scope clos):=by
 intro pins s σ H Q I h;obtain⟨⟨ps,hp,tk,ok⟩,k⟩:=h;subst hq;have hP:s.heap.get? p=some (tabObj ps):=I.hok p _ hp;have hg:s.heap.Ns mainGlobals X.mg:=I.mod.glob.keeps I.bk;have hgP:mainGlobals≠p:=fun z=>by
  obtain⟨o,es,ep,e,d,_⟩:=hg;rw[z,hP]at e;cases e;cases d
 obtain⟨bm,ob,b1,b2,b3,b4,b5,b6,b7⟩:=B;have hbm:=I.kIn _ _ b4;have hbP:bm≠p:=fun z=>by
  rw[z,hP]at hbm;cases hbm;cases b7
 have BA:s.heap.BuiltinsAt X.mg p:=⟨bm,ob,b1,b2,b3,hbP,hbm,b5,b6,b7⟩;have CH:=C.hd I.kIn;refine kla_eval hdef ?_;rcases ok _ hm with hn|⟨c',hc',ck⟩
 ·refine kla_makeFunction (mg:=X.mg) hcl I.ok.glob hg hcode CH hP tk hn hgP BA fun c' ctv h' t' hx hge hlt hrec htb=>?_
  obtain⟨c₂,oc,vs,t,e2,hoc,hd2,hv⟩:=hrec;cases e2;have hfo:h'.objs.size≠c':=Nat.ne_of_gt hlt;have hpo:p<s.heap.objs.size:=Heap.lt_size hP;have pc:p≠c':=Nat.ne_of_lt (Nat.lt_of_lt_of_le hpo hge);have pf:p≠h'.objs.size:=Nat.ne_of_lt (Nat.lt_trans (Nat.lt_of_lt_of_le hpo hge) hlt);have nc:H c'=none:=I.hok.fresh hge;have nf:H h'.objs.size=none:=I.hok.fresh (Nat.le_of_lt (Nat.lt_of_le_of_lt hge hlt));generalize hps:ps++#[rawInt pos.line,rawInt pos.col,.ref c']=ps' at htb;generalize hfob:kla_obj "<lambda>" (X.env.qual++"<lambda>") params body scope clos ((X.mg "__name__").getD .none) c' ctv=fo at *;have nfr:fo.isFreed=false:=by rw[<- hfob];rfl
  have ext:∀b o,b≠p->s.heap.get? b=some o->(h'.push fo).get? b=some o:=fun b o ne e=>Heap.get?_push_of_some _ (hx b o ne e)
  let H':Hp:=upd (upd (upd H p (.tbl ps')) c' (KnO oc)) h'.objs.size (KnO fo)
  have Hf:H' h'.objs.size=some (KnO fo):=upd_same;have Hc:H' c'=some (KnO oc):=(aN hfo.symm).trans upd_same;have Hp':H' p=some (.tbl ps'):=(aN pf).trans ((aN pc).trans upd_same);have Hb:∀b,b≠p->b≠c'->b≠h'.objs.size->H' b=H b:=fun b z1 z2 z3=>(aN z3).trans ((aN z2).trans (aN z1));have Hs:cW p H H':=fun b o ne e=>by
   rw[Hb b ne (fun z=>by rw[z,nc]at e;cases e) (fun z=>by rw[z,nf]at e;cases e)];exact e
  have old:∀b o,s.heap.get? b=some o->b≠c'∧b≠h'.objs.size:=fun b o e=>⟨Nat.ne_of_lt (Nat.lt_of_lt_of_le (Heap.lt_size e) hge),Nat.ne_of_lt (Nat.lt_trans (Nat.lt_of_lt_of_le (Heap.lt_size e) hge) hlt)⟩;have npn:∀b,H b=none->b≠p:=fun b n z=>by rw[z,hp]at n;cases n
  have un:Un X.fs [] H H' s.heap (h'.push fo):=by
   refine⟨fun b o e n _ _=>ext b o (npn b n) e,fun b o e n _ _=>⟨o.slots,ext b o (npn b n) e⟩,fun b o e n _=>?_,fun b o e _=>?_,fun b xs e=>Hs b _ (fun z=>by rw[z,hp]at e;cases e) e,fun b o u e=>Hs b _ (fun z=>by rw[z,hp]at e;cases e) e,fun b ps2 e=>?_⟩
   ·rw[Hb b (npn b n) (old b o e).1 (old b o e).2];exact n
   ·by_cases z:b=p
    ·subst z;exact⟨_,Heap.get?_push_of_some _ htb⟩
    ·exact⟨o,ext b o z e⟩
   ·by_cases z:b=p
    ·subst z
     rw[hp]at e;cases e;exact⟨_,by rw[Hp',<- hps]⟩
    ·exact⟨#[],by rw[Hs b _ z e];simp⟩
  have hok:HOk X.prog X.w H' (h'.push fo):=fun b u e=>by
   by_cases z3:b=h'.objs.size
   ·subst z3
    rw[Hf]at e;cases e;exact mQ (Heap.get?_push_size _ nfr)
   ·by_cases z2:b=c'
    ·subst z2
     rw[Hc]at e;cases e;exact mQ (Heap.get?_push_of_some _ hoc)
    ·by_cases z1:b=p
     ·subst z1
      rw[Hp']at e;cases e;exact Heap.get?_push_of_some _ htb
     ·rw[Hb b z1 z2 z3]at e
      refine(I.hok b u e).stay (fun d v hd' q=>ext d v ?_ q) (fun d q=>Hs d _ (fun z=>by rw[z,hp]at q;cases q) q) fun d xs q=>Hs d _ (fun z=>by rw[z,hp]at q;cases q) q;rcases hd' with rfl|hd'
      ·exact z1
      ·intro z
       rw[z,hp]at hd';cases hd'
  have CK:fR H' c' (X.env.qual++"<lambda>"):=⟨oc,vs,t,Hc,hd2,hv⟩;have e0:ps'.toList=ps.toList++[rawInt pos.line,rawInt pos.col,.ref c']:=by rw[<- hps];simp
  refine⟨.ref h'.objs.size,H',I.un (t':=t') un hok,rfl,k _ H' Hs ⟨ps',Hp',?_,fun l hl=>?_⟩ ⟨_,c',ctv,by rw[Hf,<- hfob],CK⟩ nf⟩
  ·rw[e0]
   exact TriplesOk_snoc _ _ _ _ tk
  ·by_cases z:l=(pos,X.env.qual++"<lambda>")
   ·subst z
    refine .inr ⟨c',?_,CK⟩;rw[e0];exact codeAmong_snoc _ tk hn
   ·rw[e0,j8 _ tk (hd l hl z)]
    refine(ok l hl).imp_right ?_;rintro⟨c3,e3,o3,vs3,t3,e4,r4⟩;exact⟨c3,e3,o3,vs3,t3,Hs _ _ (fun z=>by rw[z,hp]at e4;cases e4) e4,r4⟩
 ·refine kla_makeFunctionHit (mg:=X.mg) hcl I.ok.glob hg hcode CH hP tk hc' BA fun ctv h' t' hx hsz=>?_
  have nf:H h'.objs.size=none:=I.hok.fresh hsz;have J:=I.laid (a:=h'.objs.size) (o:=KnO (kla_obj "<lambda>" (X.env.qual++"<lambda>") params body scope clos ((X.mg "__name__").getD .none) c' ctv)) (t':=t') (h':=h'.push (kla_obj "<lambda>" (X.env.qual++"<lambda>") params body scope clos ((X.mg "__name__").getD .none) c' ctv))
   (fun b o e=>Heap.get?_push_of_some _ (hx b o e)) hsz (mQ (Heap.get?_push_size _ rfl))
  have S:Same H (upd H h'.objs.size (KnO (kla_obj "<lambda>" (X.env.qual++"<lambda>") params body scope clos ((X.mg "__name__").getD .none) c' ctv))):=fun b o e=>by
   rw[aN (fun z=>by rw[z,nf]at e;cases e)];exact e
  obtain⟨o,vs,t,e3,r⟩:=ck;exact⟨.ref h'.objs.size,_,J,rfl,k _ _ (fun b o _ e=>S b o e) (Tab.same ⟨ps,hp,tk,ok⟩ S) ⟨_,c',ctv,upd_same,o,vs,t,S _ _ e3,r⟩ nf⟩
end
abbrev cut(C:List Addr)(H:Hp):Hp:=fun b=>if b∈C then none else H b
abbrev mj(C:List Addr)(H H1:Hp):Hp:=fun b=>if b∈C then H b else H1 b
theorem jK{C:List Addr}{H:Hp}{b:Addr}(h:b∈C):cut C H b=none:=if_pos h
theorem cJ{C:List Addr}{H:Hp}{b:Addr}(h:b∉C):cut C H b=H b:=if_neg h
theorem kW{C:List Addr}{H H1:Hp}{b:Addr}(h:b∈C):mj C H H1 b=H b:=if_pos h
theorem da{C:List Addr}{H H1:Hp}{b:Addr}(h:b∉C):mj C H H1 b=H1 b:=if_neg h
theorem fI{C:List Addr}{H H1:Hp}(s:Same (cut C H) H1):Same H (mj C H H1):=fun b o e=>by
 by_cases h:b∈C
 ·rw[kW h];exact e
 ·rw[da h];exact s b o ((cJ h).trans e)
theorem wX{P:Program}{w:World}{H:Hp}{h:Heap}{C:List Addr}(hok:HOk P w H h)(hC:∀c∈C,∃o,H c=some (KnO o)):HOk P w (cut C H) h:=fun b u e=>by
 have hb:b∉C:=fun z=>by rw[jK z]at e;cases e
 rw[cJ hb]at e;have ne:∀d o,H d=some o->(∀z,o≠KnO z)->d∉C:=fun d o e n z=>by
  obtain⟨o',e'⟩:=hC d z;rw[e]at e';exact n o' (Option.some.inj e')
 refine(hok b u e).stay (fun _ _ _ q=>q) (fun d q=>?_) fun d xs q=>?_
 ·rw[cJ (ne d _ q fun z q=>by cases q)];exact q
 ·rw[cJ (ne d _ q fun z q=>by cases q)];exact q
def tV(P:Program)(w:World)(K:W.Frag)(mg:Str->Option Value)(base:Heap)(N:List Str)(qual:Str)(scope:Scope)(f:Addr)(cd:Value)(cl:List (Str×Addr))(A:Around)(outer:List Env)(s:Shared)(H:Hp):Cx where
 prog:=P
 w:=w
 K:=K
 mg:=mg
 base:=base
 A:=A.deeper (envX qual scope s.heap.objs.size f cd cl)
 N:=N
 s₀:=s
 H₀:=H
 env:=envX qual scope s.heap.objs.size f cd cl
 outer:=outer
 stack:=envX qual scope s.heap.objs.size f cd cl::outer
 ex:=[]
 calm:=true
 fn:=fun _=>false
 pn:=[]
 xe:=fun _ _=>False
structure DO(x:Str)(scope:Scope)(cl:List (Str×Addr)):Prop where
 kind:scope.kind = .function
 co:scope.isCoroutine=false
 gen:scope.isGenerator=false
 cell:∀y∈scope.names,y.2≠.cell
 own:scope.names.lookup x=some .local
 has:(scope.names.all fun q=>!(q.2 == .free) || (cl.lookup q.1).isSome)=true
 nd:(x::cl.map (·.1)).Nodup
 fr:∀p∈cl,scope.names.lookup p.1=some .free
 inj:∀p∈cl,∀q∈cl,p.2=q.2->p.1=q.1
theorem rE{cl:List (Str×Addr)}:∀(_:(cl.map (·.1)).Nodup) {j:Nat} {y:Str} {c:Addr},cl[j]? = some (y,c)->cl.lookup y=some c:=by
 induction cl with
 | nil=>intro _ j y c e;simp at e
 | cons a r ih =>
  intro nd j y c e;rw[List.map_cons,List.nodup_cons]at nd;rw[List.lookup_cons];cases j with
  | zero =>
   simp at e;subst e;simp
  | succ j =>
   have e':r[j]? = some (y,c):=by simpa using e
   have:y≠a.1:=fun z=>nd.1 (List.mem_map.mpr ⟨(y,c),List.mem_of_getElem? e',z⟩);rw[beq_eq_false_iff_ne.mpr this];exact ih nd.2 e'
section
variable {P:Program} {w:World} {K:W.Frag} {mg:Str->Option Value} {base:Heap}
theorem uU{x q:Str}{scope:Scope}{cl:List (Str×Addr)}{f c:Addr}{A:Around}{outer:List Env}{s:Shared}{h₁:Heap}{tk:Nat}{H:Hp}{v:V}{u:Value}{ws:List V}(L:DO x scope cl)(hd:A.handled=none)(e0:C8 P w K mg base A outer s H)
  (cs:Paired (fun (p:Str×Addr) z=>cU H p.2 z) cl ws) (rv:aW v u) (hns:h₁.Ns s.heap.objs.size (fun y=>[(x,u)].reverse.lookup y)) (hk:∀b o,s.heap.get? b=some o->h₁.get? b=some o) :
  yI (tV P w K mg base (x::cl.map (·.1)) q scope f (.ref c) cl A outer s (cut (cl.map (·.2)) H)) [] (some v::ws.map some) (cut (cl.map (·.2)) H) { s with heap:=h₁,toks:=tk }:=by
 have get:∀{j:Nat} {p:Str×Addr},cl[j]? = some p->∃z,ws[j]? = some z∧cU H p.2 z:=by
  clear L hns
  induction cs with
  | nil=>intro j p e;simp at e
  | cons a r ih =>
   intro j p e;cases j with
   | zero=>simp at e;subst e;exact⟨_,rfl,a⟩
   | succ j=>exact ih (by simpa using e)
 have len:cl.length=ws.length:=Paired.length cs;have hC:∀d∈cl.map (·.2),∃o,H d=some (KnO o):=fun d hd'=>by
  obtain⟨p,hp,rfl⟩:=List.mem_map.mp hd';obtain⟨j,hj⟩:=List.getElem?_of_mem hp;obtain⟨z,_,o,_,e,_⟩:=get hj;exact⟨o,e⟩
 have isC:∀y d,cl.lookup y=some d->d∈cl.map (·.2)∧∃z,s.heap.IsCell d z:=fun y d e=>by
  have hm:=PySem.mem_of_lookup e;obtain⟨j,hj⟩:=List.getElem?_of_mem hm;obtain⟨z,_,o,u',e',d',_⟩:=get hj;exact⟨List.mem_map.mpr ⟨_,hm,rfl⟩,some u',o,fU e0.hok e',d'⟩
 have noA:∀b:Addr,b∉(tV P w K mg base (x::cl.map (·.1)) q scope f (.ref c) cl A outer s (cut (cl.map (·.2)) H)).ex:=fun b z=>absurd (show b∈([]:List Addr) from z) (by simp);have hcut:=wX (C:=cl.map (·.2)) e0.hok hC;have cn:∀b,H b=none->cut (cl.map (·.2)) H b=none:=fun b n=>by
  by_cases z:b∈cl.map (·.2)
  ·exact jK z
  ·rw[cJ z];exact n
 have inv:∀h':Heap,(∀b o,s.heap.get? b=some o->h'.get? b=some o)->Un (frs outer) [] (cut (cl.map (·.2)) H) (cut (cl.map (·.2)) H) s.heap h':=fun h' k=>Un.kept k;refine⟨⟨e0.mod,L.kind,rfl,rfl,Nat.le_refl _,fun y z d h1 h2=>?_,fun y hy=>?_,fun y d z=>(by cases z),fun _=>hd,Around.frames_deeper e0.frames,.inr ⟨rfl,rfl⟩,fun b z=>absurd z (noA b),fun b o e=>⟨(e0.bs b o e).1,cn b (e0.bs b o e).2⟩,e0.bsz,fun b _ _=>noA b,fun b z=>absurd z (noA b),e0.funs,fun b hb=>cn b (e0.frf b hb)⟩,
  rfl,e0.bare,inv h₁ hk,⟨_,hns,fun i y v' h1 h2 h3=>?_⟩,fun y d h=>?_,?_,fun y d h=>?_,fun p hp=>absurd (show p∈([]:List (Addr×Obj)) from hp) (by simp),hcut.kept hk,?_⟩
 ·exact L.inj _ (PySem.mem_of_lookup h1) _ (PySem.mem_of_lookup h2) rfl
 ·have hy:scope.names.lookup y=some .cell∨scope.names.lookup y=some .free:=hy
  rcases hy with hy|hy
  ·exact absurd rfl (L.cell _ (PySem.mem_of_lookup hy))
  ·have q:=List.all_eq_true.mp L.has _ (PySem.mem_of_lookup hy)
   have q:(cl.lookup y).isSome=true:=by simpa only[beq_self_eq_true,Bool.not_true,Bool.false_or]using q
   exact Option.isSome_iff_exists.mp q
 ·have h1:(x::cl.map (·.1))[i]? = some y:=h1
  cases i with
  | zero =>
   have e1:x=y:=by simpa using h1
   have e2:v=v':=by simpa using h2
   subst e1 e2;exact⟨u,rv,.inl ⟨L.own,by simp⟩⟩
  | succ j =>
   have e1:(cl.map (·.1))[j]? = some y:=by simpa using h1
   rw[List.getElem?_map]at e1;cases hj:cl[j]? with
   | none=>rw[hj]at e1;cases e1
   | some p =>
    rw[hj]at e1;have e1:p.1=y:=by simpa using e1
    obtain⟨z,hz,o,u',e',d',r'⟩:=get hj;have e2:z=v':=by
     have:(ws.map some)[j]? = some (some v'):=by simpa using h2
     rw[List.getElem?_map,hz]at this;simpa using this
    subst e1 e2;refine⟨u',r',.inr ⟨.inr (L.fr p (List.mem_of_getElem? hj)),p.2,rE (List.nodup_cons.mp L.nd).2 (c:=p.2) (y:=p.1) hj,o,hk _ _ (fU e0.hok e'),d'⟩⟩
 ·obtain⟨z,o,e,d'⟩:=(isC y d h).2
  exact⟨z,o,hk _ _ e,d'⟩
 ·exact cn _ (e0.hok.fresh (Nat.le_refl _))
 ·exact jK (isC y d h).1
 ·show(some v::ws.map some).length=(x::cl.map (·.1)).length
  simp[len]
def xx(f:Addr)(q:Str)(params:Arguments)(body:Expr)(scope:Scope)(cl:List (Str×Addr))(pm:Value)(c:Addr)(ctv:Value)(te:TE):Sp:=fun vs H Q _ =>
 ∃v ws,vs = [v]∧H f=some (KnO (kla_obj "<lambda>" q params body scope cl pm c ctv))∧fR H c q∧Paired (fun (p:Str×Addr) z=>cU H p.2 z) cl ws ∧
  te (some v::ws.map some) (cut (cl.map (·.2)) H) fun r H1=>(∀c∈cl.map (·.2),H1 c=none)->Q r (mj (cl.map (·.2)) H H1)
theorem lz{x q:Str}{params:Arguments}{body:Expr}{scope:Scope}{cl:List (Str×Addr)}{pm ctv:Value}{f c:Addr}{te:TE}{k:Nat}(L:DO x scope cl)
  (hbody:∀(A:Around) (outer:List Env) (s:Shared) (H:Hp),y7 k (A.deeper (envX q scope s.heap.objs.size f (.ref c) cl))->PE (tV P w K mg base (x::cl.map (·.1)) q scope f (.ref c) cl A outer s H) body te) :
  Bf P w K mg base CX0 (k+1) f (kla_fn "<lambda>" q params body scope cl pm (.ref c) ctv) [x] (xx f q params body scope cl pm c ctv te):=by
 refine⟨fun vs H Q E h=>?_,fun A outer s H args us vs Q E hr e0 hb r hsp=>?_⟩
 ·obtain⟨v,ws,rfl,_⟩:=h
  rfl
 ·obtain⟨v,ws,rfl,ef,ck,cs,h⟩:=hsp
  cases r with
  | cons rv r =>
   cases r;rename_i u;have lim:s.heap.NoLimit:=e0.mod.nolimit.keeps fun b o e=>(e0.bs b o e).1;refine kla_callFunE hr.depth (fU e0.hok ef) rfl L.co L.gen rfl (ck.rec_ e0.hok) (hb _ _ _ _ ?_);refine wpAny_newFunctionEnv L.cell (fun y hy=>?_) (fun h₁ hns hsb=>⟨lim.fresh _ hsb,?_⟩) L.kind
   ·obtain rfl:y=(x,u):=by simpa using hy
    exact L.own
   ·show codeAny _ _ (.expr body (envX q scope s.heap.objs.size f (.ref c) cl)) _ _
    have hk₁:∀b o,s.heap.get? b=some o->h₁.get? b=some o:=fun b o e=>hsb.extBut b o (Nat.ne_of_lt (Heap.lt_size e)) (Heap.get?_push_of_some _ e);have I:=uU (q:=q) (f:=f) (c:=c) (tk:=s.toks+([x].zip [u]).length) L hr.hd e0 cs rv hns hk₁;refine kla_codeExpr (wpAny_mono (hbody A outer s _ (hr.deeper _) _ _ _ _ _ I h) (fun u' s' hq=>?_) fun _ _ z=>False.elim z);obtain⟨v',H1,J,r',q'⟩:=hq;have hC:∀d∈cl.map (·.2),∃o,H d=some (KnO o)∧s.heap.get? d=some o:=fun d hd'=>by
     obtain⟨p,hp,rfl⟩:=List.mem_map.mp hd';have:∀{l:List (Str×Addr)} {ws:List V},Paired (fun (p:Str×Addr) z=>cU H p.2 z) l ws->p∈l->∃z,cU H p.2 z:=by
      intro l ws cs
      induction cs with
      | nil=>intro z;cases z
      | cons a r ih =>
       intro z;rcases List.mem_cons.mp z with rfl|z
       ·exact⟨_,a⟩
       ·exact ih z
     obtain⟨z,o,_,e,_⟩:=this cs hp;exact⟨o,e,fU e0.hok e⟩
    have B:Un (frs outer) [] (cut (cl.map (·.2)) H) H1 s.heap s'.heap:=J.base;have nin:∀b,(∀o,H b≠some (KnO o))->b∉cl.map (·.2):=fun b n z=>by
     obtain⟨o,e,_⟩:=hC b z;exact n o e
    have out:∀b,H b=none->b∉cl.map (·.2):=fun b n=>nin b fun o e=>by rw[n]at e;cases e
    have h1n:∀d∈cl.map (·.2),H1 d=none:=fun d hd'=>by
     obtain⟨o,_,e⟩:=hC d hd';exact B.free d o e (jK hd') (by simp)
    have sC:∀d∈cl.map (·.2),∀o,s.heap.get? d=some o->s'.heap.get? d=some o:=fun d hd' o e=>by
     refine B.keep d o e (jK hd') (fun z=>?_) (by simp);obtain⟨o',e',_⟩:=hC d hd';rw[e0.frf d z]at e';cases e'
    refine⟨v',mj (cl.map (·.2)) H H1,J.os,J.bare,⟨fun b o e n hb hx=>?_,fun b o e n hb hx=>?_,fun b o e n hx=>?_,fun b o e hx=>B.there b o e hx,fun b xs e=>?_,fun b o u e=>?_,fun b ps e=>?_⟩,fun b u e=>?_,r',q' h1n⟩
    ·exact B.keep b o e ((cJ (out b n)).trans n) hb hx
    ·exact B.slot b o e ((cJ (out b n)).trans n) hb hx
    ·rw[da (out b n)]
     exact B.free b o e ((cJ (out b n)).trans n) hx
    ·have z:b∉cl.map (·.2):=nin b fun o' e'=>by rw[e]at e';cases e'
     rw[da z];exact B.tups b xs ((cJ z).trans e)
    ·by_cases z:b∈cl.map (·.2)
     ·rw[kW z];exact e
     ·rw[da z]
      exact B.frzs b o u ((cJ z).trans e)
    ·have z:b∉cl.map (·.2):=nin b fun o' e'=>by rw[e]at e';cases e'
     obtain⟨more,q⟩:=B.tbls b ps ((cJ z).trans e);exact⟨more,by rw[da z];exact q⟩
    ·by_cases z:b∈cl.map (·.2)
     ·rw[kW z]at e
      obtain⟨o,e',g⟩:=hC b z;rw[e]at e';cases e';exact mQ (sC b z o g)
     ·rw[da z]at e
      refine(J.hok b u e).stay (fun _ _ _ q=>q) (fun d q=>?_) fun d xs q=>?_
      ·rw[da fun z=>by rw[h1n d z]at q;cases q];exact q
      ·rw[da fun z=>by rw[h1n d z]at q;cases q];exact q
end
def v9(cs:List (Addr×Nat))(sp:Sp)(t:TA):TE:=fun σ H Q=>t σ H fun vs H1=>∀H2,Same H1 H2->(∀p∈cs,∀v,σ[p.2]? = some (some v)->cU H2 p.1 v) ->
 sp vs H2 (fun r H3=>∀H4,(∀b o,H3 b=some o->(∀z,o=KnO z->∀u,z.data≠.cell u)->H4 b=some o)->(∀b o,H1 b=some o->H3 b=some o->H4 b=some o)->Q r H4) E0
section
variable {X:Cx} {x:Str} {ps:List Str} {k:Nat} {sp:Sp} {p pos:Pos} {e:Expr} {es:List Expr} {t:TA} {cs:List (Addr×Nat)}
open Classical in
theorem uF{pins:List (Addr×Obj)}{σ:St}{H:Hp}{s:Shared}{Q:VK}{us:List Value}{vs:List V}{f:Addr}{fd:FuncData}(F:Bf X.prog X.w X.K X.mg X.base CX0 k f fd ps sp)(hr:y7 k X.A)(hb:eW X.K fd ps [])(hfn:∀x,X.fn x=true)
  (hcs:∀p∈cs,∃y,X.env.cells.lookup y=some p.1∧X.N[p.2]? = some y∧X.env.kindOf y=some .cell∧Vis X.env.scope y) (I:yI X pins σ H s) (r:aT vs us)
  (h:∀H2,Same H H2->(∀p∈cs,∀v,σ[p.2]? = some (some v)->cU H2 p.1 v) ->
   sp vs H2 (fun r H3=>∀H4,(∀b o,H3 b=some o->(∀z,o=KnO z->∀u,z.data≠.cell u)->H4 b=some o)->(∀b o,H b=some o->H3 b=some o->H4 b=some o)->Q r H4) E0) :
  wpAny (model X.prog X.w) X.A (call (.ref f) us) (EP X pins σ Q) X.xe s:=by
 let isC:Addr->Prop:=fun b=>∃y,X.env.cells.lookup y=some b
 let H2:Hp:=fun b=>if isC b then (s.heap.get? b).map KnO else H b
 have in2:∀b,isC b->H2 b=(s.heap.get? b).map KnO:=fun b z=>if_pos z;have out2:∀b,¬isC b->H2 b=H b:=fun b z=>if_neg z;have cN:∀b,isC b->H b=none:=fun b ⟨y,e⟩=>I.freeC y b e;have cG:∀b,isC b->∃o z,s.heap.get? b=some o∧o.data = .cell z:=fun b ⟨y,e⟩=>by
  obtain⟨z,o,e1,e2⟩:=I.cell y b e;exact⟨o,z,e1,e2⟩
 have cK:∀b o,isC b->s.heap.get? b=some o->H2 b=some (KnO o):=fun b o z e=>by rw[in2 b z,e];rfl
 have cA:∀b,isC b->X.s₀.heap.objs.size≤b:=fun b ⟨y,e⟩=>I.ok.cab y b (hfn y) e;have same:Same H H2:=fun b o e=>by
  rw[out2 b fun z=>by rw[cN b z]at e;cases e];exact e
 have frn:∀b∈frs X.stack,¬isC b:=fun b hb ⟨y,e⟩=>by
  rcases List.mem_cons.mp (I.stkSub b hb) with z|z
  ·exact I.cne y b e z
  ·obtain⟨_,o,ho,_⟩:=I.ok.funs.mem z
   exact absurd (Nat.lt_of_lt_of_le (Heap.lt_size ho) (cA b ⟨y,e⟩)) (Nat.lt_irrefl _)
 have hok2:HOk X.prog X.w H2 s.heap:=fun b u e=>by
  by_cases z:isC b
  ·obtain⟨o,z',e1,_⟩:=cG b z
   rw[cK b o z e1]at e;cases e;exact mQ e1
  ·rw[out2 b z]at e
   exact(I.hok b u e).stay (fun _ _ _ q=>q) (fun d q=>same d _ q) fun d xs q=>same d _ q
 have e0:=I.env0;have e2:C8 X.prog X.w X.K X.mg X.base X.A X.stack s H2:=by
  refine⟨e0.frames,e0.mod,fun b o e=>⟨(e0.bs b o e).1,?_⟩,e0.bsz,e0.funs,fun b hb=>?_,hok2,e0.bare⟩
  ·rw[out2 b fun z=>absurd (Nat.lt_of_lt_of_le (Heap.lt_size e) (Nat.le_trans I.ok.bsz (cA b z))) (Nat.lt_irrefl _)]
   exact(e0.bs b o e).2
  ·rw[out2 b (frn b hb)]
   exact e0.frf b hb
 have cells:∀p∈cs,∀v,σ[p.2]? = some (some v)->cU H2 p.1 v:=fun p hp v hv=>by
  obtain⟨y,h1,h2,h3,h4⟩:=hcs p hp;obtain⟨m,hn,hl⟩:=I.loc;obtain⟨u,ru,l⟩:=hl p.2 y v h2 hv h4;rcases l with⟨kk,_⟩|⟨_,c,hc,o,ho,hd⟩
  ·rw[h3]at kk;cases kk
  ·rw[h1]at hc
   cases hc;exact⟨o,u,cK _ o ⟨y,h1⟩ ho,hd,ru⟩
 have hq:=h H2 same cells;have hl:(us++[]).length=ps.length:=by rw[List.append_nil,<- r.length];exact F.len _ _ _ _ hq
 have hbb:=hb s us I.kIn hl;rw[List.append_nil]at hbb;refine wpAny_call (codeAny_mono (F.run X.A X.stack s H2 ⟨us,[]⟩ us vs _ E0 hr e2 hbb r hq) fun r s' hq=>?_);cases r with
 | error e=>exact False.elim hq
 | ok fl =>
  cases fl with
  | next=>exact False.elim hq
  | brk=>exact False.elim hq
  | cont=>exact False.elim hq
  | ret u =>
   obtain⟨v,H3,os,bare,un,hok,rv,q⟩:=hq
   let H4:Hp:=fun b=>if isC b then none else H3 b
   have in4:∀b,isC b->H4 b=none:=fun b z=>if_pos z;have out4:∀b,¬isC b->H4 b=H3 b:=fun b z=>if_neg z;have c3:∀b,isC b->∃o,H3 b=some (KnO o)∧s.heap.get? b=some o∧s'.heap.get? b=some o:=fun b z=>by
    obtain⟨o,z',e1,_⟩:=cG b z;have e3:=un.frzs b o _ (cK b o z e1);exact⟨o,e3,e1,fU hok e3⟩
   refine I.after ⟨v,H4,os,bare,⟨fun b o e n hb hx=>?_,fun b o e n hb hx=>?_,fun b o e n hx=>?_,fun b o e hx=>un.there b o e hx,fun b xs e=>?_,fun b o u e=>?_,fun b ps e=>?_⟩,fun b u e=>?_,rv,q H4 (fun b o e n=>?_) fun b o e e3=>?_⟩
   ·by_cases z:isC b
    ·obtain⟨o',_,e1,e2⟩:=c3 b z
     rw[e]at e1;cases e1;exact e2
    ·exact un.keep b o e ((out2 b z).trans n) hb hx
   ·exact un.slot b o e ((out2 b (frn b hb)).trans n) hb hx
   ·by_cases z:isC b
    ·exact in4 b z
    ·rw[out4 b z]
     exact un.free b o e ((out2 b z).trans n) hx
   ·have z:¬isC b:=fun z=>by rw[cN b z]at e;cases e
    rw[out4 b z];exact un.tups b xs ((out2 b z).trans e)
   ·have z:¬isC b:=fun z=>by rw[cN b z]at e;cases e
    rw[out4 b z];exact un.frzs b o u ((out2 b z).trans e)
   ·have z:¬isC b:=fun z=>by rw[cN b z]at e;cases e
    rw[out4 b z];exact un.tbls b ps ((out2 b z).trans e)
   ·have z:¬isC b:=fun z=>by rw[in4 b z]at e;cases e
    rw[out4 b z]at e;refine(hok b u e).stay (fun _ _ _ q=>q) (fun d q=>?_) fun d xs q=>?_
    ·rw[out4 d fun z=>by obtain⟨o,e3,_⟩:=c3 d z;rw[e3]at q;cases q];exact q
    ·rw[out4 d fun z=>by obtain⟨o,e3,_⟩:=c3 d z;rw[e3]at q;cases q];exact q
   ·rw[out4 b fun z=>by
     obtain⟨o',e3,e1,_⟩:=c3 b z;obtain⟨o2,z',e4,d⟩:=cG b z;rw[e1]at e4;cases e4;rw[e3]at e;exact n o' (Option.some.inj e).symm _ d]
    exact e
   ·rw[out4 b fun z=>by rw[cN b z]at e;cases e]
    exact e3
theorem pV{H H1:Hp}(h:∀b o,H b=some o->(∀z,o=KnO z->∀u,z.data≠.cell u)->H1 b=some o):∀b o,H b=some o->(∀z,o≠KnO z)->H1 b=some o:=fun b o e n=>h b o e fun z q=>absurd q (n z)
theorem sL(F:Fn X.prog X.w X.K X.mg X.base x ps k sp)(hr:y7 k X.A)(hg:Gl X x)(hfn:∀x,X.fn x=true)(hcs:∀p∈cs,∃y,X.env.cells.lookup y=some p.1∧X.N[p.2]? = some y∧X.env.kindOf y=some .cell∧Vis X.env.scope y)(ha:PA X (e::es) t)
  (hdb:(x == ("__debug__" : Str))=false:=by decide) (he:starEach (e::es) X.env=(false,eval e X.env)::starEach es X.env:=by rfl) (hpl:(backTo pos (starEach es X.env)).any (·.1)=false:=by rfl) :
  PE X (.Call (.Name x p) (e::es) [] pos) (v9 cs sp t):=by
 obtain⟨f,fd,o,hm,hk,hb,_,G⟩:=F.ex;intro pins s σ H Q I h;refine wpAny_Call_Name_kw (gM I hg hm ?_ hdb);refine W.callWith_K (h₀:=X.base) I.ok.mod.kin hk (thn (ha pos pins s σ H _ I h) fun us s1 ⟨vs,H1,I1,r,q⟩=>⟨I1.kIn,?_⟩) he hpl;exact uF G hr (.all hb) hfn hcs I1 r q
def rN(P:Program)(w:World)(K:W.Frag)(mg:Str->Option Value)(base:Heap)(k:Nat)(f:Addr)(sp:Sp):Prop:=∃(fd:FuncData) (ps:List Str),Bf P w K mg base CX0 k f fd ps sp∧eW K fd ps []
def oV(H:Hp)(f:Addr):Prop:=∃o fd,H f=some (KnO o)∧o.data = .func fd
def v7(P:Program)(w:World)(K:W.Frag)(mg:Str->Option Value)(base:Heap)(k i:Nat)(t:TA):TE:=fun σ H Q =>
 ∃f sp,σ[i]? = some (some (.ref f))∧rN P w K mg base k f sp∧oV H f∧t σ H fun vs H1=>oV H1 f∧sp vs H1 Q E0
theorem mB{i:Nat}(hr:y7 k X.A)(hN:X.N[i]? = some x)(hv:Vis X.env.scope x)(ha:PA X (e::es) t)
  (hdb:(x == ("__debug__" : Str))=false:=by decide) (hcd:(x == ("__classdict__" : Str))=false:=by decide) (he:starEach (e::es) X.env=(false,eval e X.env)::starEach es X.env:=by rfl) (hpl:(backTo pos (starEach es X.env)).any (·.1)=false:=by rfl) :
  PE X (.Call (.Name x p) (e::es) [] pos) (v7 X.prog X.w X.K X.mg X.base k i t):=by
 intro pins s σ H Q I h;obtain⟨f,sp,hs,⟨fd',ps',G',hb⟩,⟨o,fd,eo,ed⟩,h⟩:=h;refine wpAny_Call_Name_kw (thn (sJ (i:=i) hN hv hdb hcd pins s σ H (fun v H'=>v = .ref f∧H'=H) I ⟨_,hs,rfl,rfl⟩) fun u s1 ⟨v,H1,I1,rv,ev,eH⟩=>?_);subst ev eH;obtain rfl:u=Value.ref f:=rv;have at':∀{s:Shared} {H:Hp} {o:Obj} {fd:FuncData},HOk X.prog X.w H s.heap->H f=some (KnO o)->o.data = .func fd->FnAt f s.heap:=fun {s H o fd} k e d=>by
  have g:=fU k e;obtain⟨oc,od,dt,sl⟩:=o;cases d;exact⟨oc,od,fd,sl,g⟩
 refine callWith_F (at' I1.hok eo ed) (thn (ha pos pins s1 σ H1 _ I1 h) fun us s2 ⟨vs,H2,I2,r,⟨o2,fd2,eo2,ed2⟩,q⟩=>⟨at' I2.hok eo2 ed2,?_⟩) he hpl;exact sE (ds:=[]) (dvs:=[]) G' hr hb .nil vM I2 r (by rw[List.append_nil];exact q)
theorem kQ.obj{H:Hp}{f:Addr}{q:Str}{params:Arguments}{body:Expr}{scope:Scope}{clos:List (Str×Addr)}(t:kQ H f q params body scope clos):oV H f:=by
 obtain⟨pm,c,ctv,e,_⟩:=t;exact⟨_,_,e,rfl⟩
end
structure EQ(K:W.Frag)(mg:Str->Option Value)(x:Str)(st:Stmt)(p:Addr):Prop where
 ex:∃(f:Addr) (oc:Value) (od:Option Addr) (kV doc pm:Value) (an:Option Addr) (c:Addr) (ct:Value) (osl:Array (Option Value)),
  mg x=some (.ref f)∧K.lookup f=some ⟨oc,od,.func (W.fnOf x x (br st) (aL st) (ap st) .none kV doc pm an (.ref c) ct),osl⟩∧W.codeIn K (.ref c) x=true∧W.keepIn K (.ref f)=true∧jR K c p
theorem EQ.fn{P:Program}{w:World}{K:W.Frag}{mg:Str->Option Value}{base:Heap}{x:Str}{st:Stmt}{p:Addr}{N ps:List Str}{k:Nat}{sp:Sp}(D:EQ K mg x st p)(S:yG N ps (ap st))
  (hbind:∀(kV doc pm:Value) (an:Option Addr) (cdv ct:Value) (us:List Value),us.length=ps.length->bindArgs (W.fnOf x x (br st) (aL st) (ap st) .none kV doc pm an cdv ct) ⟨us,[]⟩=pure (ps.zip us))
  (len:∀vs H Q E,sp vs H Q E->vs.length=ps.length)
  (hbody:∀(f:Addr) (cdv:Value) (A:Around) (outer:List Env) (s:Shared) (H:Hp) (vs:List V) (Q:VK) (E:XK),(∃c,cdv = .ref c∧jR K c p)->y7 k (A.deeper (envOfC x (ap st) s.heap.objs.size f cdv))->sp vs H Q E ->
   ∃t,PSs (bw CX0 P w K mg base N x (ap st) f cdv A outer s H E).nox (aL st) t∧t { nx:=fun _ H'=>Q .non H',rt:=Q } (eS N vs) H):Fn P w K mg base x ps (k+1) sp:=by
 obtain⟨f,oc,od,kV,doc,pm,an,c,ct,osl,hm,lk,hcd,hk,hc⟩:=D.ex;refine⟨⟨f,_,_,hm,hk,hbind kV doc pm an (.ref c) ct,⟨lk,rfl⟩,m7 lk hcd S len fun A outer s H vs Q E hr hsp=>?_⟩⟩;obtain⟨t,h,q⟩:=hbody f (.ref c) A outer s H vs Q E ⟨c,rfl,hc⟩ hr hsp;exact⟨t,h.nox,q⟩
def jc(s:Stmt)(i:Nat):Expr:=match s with
 | .Assign _ (.Call _ as _ _) _=>as.getD i (.Name "" ⟨0,0,0,0⟩)
 | _=>.Name "" ⟨0,0,0,0⟩
def cD(e:Expr):Scope:=match e with
 | .Lambda _ _ sc _=>sc
 | _=>{ kind:=.function,names:=[],isGenerator:=false,isCoroutine:=false }
def i8(e:Expr):Arguments:=match e with
 | .Lambda a _ _ _=>a
 | _=>{ posonlyargs:=[],args:=[],vararg:=none,kwonlyargs:=[],kw_defaults:=[],kwarg:=none,defaults:=[] }
def i0(e:Expr):Expr:=match e with
 | .Lambda _ b _ _=>b
 | _=>.Name "" ⟨0,0,0,0⟩
def cp(e:Expr):Pos:=match e with
 | .Lambda _ _ _ p=>p
 | _=>⟨0,0,0,0⟩
theorem dj{C:List Addr}{H:Hp}{b:Addr}{o:HO}(hC:∀c∈C,∃o,H c=some (KnO o))(e:H b=some o)(n:∀z,o≠KnO z):cut C H b=some o:=by
 rw[cJ fun z=>?_]
 ·exact e
 ·obtain⟨o',e'⟩:=hC b z
  rw[e]at e';exact n o' (Option.some.inj e')
theorem gt{C:List Addr}{H H1:Hp}{b:Addr}{o:HO}(hC:∀c∈C,H1 c=none)(e:H1 b=some o):mj C H H1 b=some o:=by
 rw[da fun z=>by rw[hC b z]at e;cases e];exact e
theorem cW.keep{p:Addr}{H H':Hp}{b:Addr}{o:HO}{ls:List (Pos×Str)}(s:cW p H H')(t:Tab H p ls)(e:H b=some o)(n:∀ps,o≠.tbl ps):H' b=some o:=by
 obtain⟨ps,e1,_⟩:=t;refine s b o (fun z=>?_) e;rw[z,e1]at e;exact n ps (Option.some.inj e).symm
theorem cW.trans{p:Addr}{H H1 H2:Hp}(a:cW p H H1)(b:cW p H1 H2):cW p H H2:=fun c o n e=>b c o n (a c o n e)
theorem Same.p{p:Addr}{H H':Hp}(s:Same H H'):cW p H H':=fun b o _ e=>s b o e
theorem g6{H:Hp}{cl:List (Str×Addr)}{ws:List V}(cs:Paired (fun (p:Str×Addr) z=>cU H p.2 z) cl ws):∀c∈cl.map (·.2),∃o,H c=some (KnO o):=by
 induction cs with
 | nil=>intro c h;cases h
 | cons a r ih =>
  intro c h;rcases List.mem_cons.mp h with rfl|h
  ·obtain⟨o,u,e,_⟩:=a
   exact⟨o,e⟩
  ·exact ih c h
theorem cU.mono{H H':Hp}{c:Addr}{v:V}(x:cU H c v)(s:Same H H'):cU H' c v:=let ⟨o,u,e,r⟩:=x;⟨o,u,s _ _ e,r⟩
end L2
namespace L2
open PySem PySem.Spec PyProof.Rows
theorem oQ{a:Addr}{o:Obj}{kvs:List (List Key×V)}{fv:List (Str×Nat)}{g:TG}{tc:TT}{te:TE}{σ:St}{H1:Hp}{Q:VK}{k:Nat}(hD:H1 a=some (.frz o (.dT kvs)))(hlen:kvs.length<1000)(sel:List Key×V->Bool)(R:List Key×V->V->Hp->Prop)(hR:∀e v H H',SameT H H'->R e v H->R e v H')
  (hs:∀(i:Nat) e b H2 (τ:St) (Kc:VK) (Kn:Hp->Prop),kvs[i]? = some e->H2 b=some (.tup (e.1.map kV))->Same H1 H2->τ.length=k->(sel e=true->∀y H4,Same H2 H4->R e y H4->Kc y H4)->(sel e=false->∀H4,Same H2 H4->Kn H4) ->
   g (.ref b) (τ++fvs fv σ) H2 fun σ2 H4=>(∃τ':St,τ'.length=k∧σ2=τ'++fvs fv σ)∧tc σ2 H4 fun b H5=>if b=true then te σ2 H5 Kc else Kn H5)
  (hd:∀l ys H',H1 l=none->Same H1 H'->H' l=some (.lst ys)->Paired (fun e y=>R e y H') (kvs.filter sel) ys->Q (.ref l) H'):fN (Itd a o kvs) k fv g tc te σ H1 Q:=by
 intro l hl;refine⟨fun i m acc H2=>m=kvs.length - i∧i≤kvs.length∧acc.length≤i∧Same H1 H2∧H2 l=some (.lst acc)∧Paired (fun e y=>R e y H2) ((kvs.take i).filter sel) acc,⟨_,rfl,Nat.zero_le _,Nat.le_refl _,Same.new hl,upd_same,.nil⟩,?_⟩;rintro i m acc H2 ⟨rfl,hi,e1,sm,e3,hr⟩;refine⟨e3,bC (by omega),?_⟩
 by_cases hlt:i<kvs.length
 ·refine .inr ⟨⟨sm _ _ hD,hlt⟩,fun x H3 y τ hτ=>?_⟩
  obtain⟨rfl,q,v,b,hq,rfl,hb⟩:=y;have tk:kvs.take (i+1)=kvs.take i++[(q,v)]:=by rw[List.take_add_one,hq];rfl
  refine hs i (q,v) b H3 τ _ _ hq hb sm hτ (fun hsel y H4 s4 ry=>⟨s4 _ _ e3,kvs.length - (i+1),by omega,rfl,hlt,by simp;exact e1,(sm.trans s4).upd hl,upd_same,?_⟩) fun hsel H4 s4=>⟨kvs.length - (i+1),by omega,rfl,hlt,by omega,sm.trans s4,s4 _ _ e3,?_⟩
  ·have t4:=SameT.upd (ys:=acc++[y]) (s4 _ _ e3)
   rw[tk,List.filter_append];have:[(q,v)].filter sel = [(q,v)]:=by simp[hsel]
   rw[this];exact Paired.snoc (Paired.mapP hr fun e z r=>hR _ _ _ _ (s4.t.trans t4) r) (hR _ _ _ _ t4 ry)
  ·rw[tk,List.filter_append]
   have:[(q,v)].filter sel = []:=by simp[hsel]
   rw[this,List.append_nil];exact Paired.mapP hr fun e z r=>hR _ _ _ _ s4.t r
 ·have e:i=kvs.length:=by omega
  subst e;rw[List.take_length]at hr;exact .inl ⟨⟨sm _ _ hD,Nat.le_refl _⟩,hd l acc H2 hl sm e3 hr⟩
end L2
namespace Sk
open PySem PySem.Spec L2
abbrev aJ:=List Key
def bJ(H:Hp)(v:V)(k:aJ):Prop:=∃p,v = .ref p∧H p=some (.tup (k.map kV))
theorem bJ.mono{H H':Hp}{v:V}{k:aJ}(x:bJ H v k)(s:SameT H H'):bJ H' v k:=let ⟨p,e,h⟩:=x;⟨p,e,s _ _ h⟩
inductive Lb
 | no
 | key (d:aJ)
 | bend (d e:aJ) (l m:Int×Int×Int×Int)
def n4(l:Int×Int×Int×Int):List V:=[.int l.1,.int l.2.1,.int l.2.2.1,.int l.2.2.2]
def TpK(K:W.Frag)(H:Hp)(a:Addr)(xs:List V):Prop:=H a=some (.tup xs)∨∃(o:Obj) (its:Array Value) (n:Nat),K.lookup a=some o∧o.cls = .type "tuple"∧o.data = .seq its n∧its.size≤sizeLine∧aT xs its.toList
theorem TpK.mono{K:W.Frag}{H H':Hp}{a:Addr}{xs:List V}(x:TpK K H a xs)(s:SameT H H'):TpK K H' a xs:=x.imp (fun e=>s _ _ e) id
def iR(K:W.Frag)(H:Hp)(v:V):Lb->Prop
 | .no=>v = .non
 | .key d=>bJ H v d
 | .bend d e l m=>∃t p q g a b,v = .ref t∧H t=some (.tup [.ref p,.ref q,.ref g])∧H p=some (.tup (d.map kV))∧H q=some (.tup (e.map kV))∧H g=some (.tup [.ref a,.ref b])∧TpK K H a (n4 l)∧TpK K H b (n4 m)
theorem iR.mono{K:W.Frag}{H H':Hp}{v:V}{x:Lb}(h:iR K H v x)(s:SameT H H'):iR K H' v x:=by
 cases x with
 | no=>exact h
 | key d=>exact bJ.mono h s
 | bend d e l m =>
  obtain⟨t,p,q,g,a,b,h1,h2,h3,h4,h5,h6,h7⟩:=h;exact⟨t,p,q,g,a,b,h1,s _ _ h2,s _ _ h3,s _ _ h4,s _ _ h5,h6.mono s,h7.mono s⟩
section
variable {K:W.Frag}
abbrev En:=aJ×Option Nat×Lb
def Ent(K:W.Frag)(H:Hp)(es:List En)(e:En)(kv:aJ×V):Prop:=kv.1=e.1∧∃t pv hv,kv.2 = .ref t∧H t=some (.tup [pv,hv])∧iR K H hv e.2.2∧(e.2.1=none->pv = .non)∧∀j,e.2.1=some j->∃e',es[j]? = some e'∧bJ H pv e'.1
structure EY(es:List En):Prop where
 nd:(es.map (·.1)).Nodup
 up:∀(i:Nat) (e:En) (j:Nat),es[i]? = some e->e.2.1=some j->j<i
def iz(K:W.Frag)(H:Hp)(d:Addr)(es:List En):Prop:=∃kvs,H d=some (.dT kvs)∧Paired (Ent K H es) es kvs
theorem Ent.mono{H H':Hp}{es es':List En}{e:En}{kv:aJ×V}(x:Ent K H es e kv)(s:SameT H H')(h:∀(j:Nat) e,es[j]? = some e->es'[j]? = some e):Ent K H' es' e kv:=by
 obtain⟨a,t,pv,hv,b,c,lb,d,f⟩:=x;refine⟨a,t,pv,hv,b,s _ _ c,lb.mono s,d,fun j hj=>?_⟩;obtain⟨e',h1,h2⟩:=f j hj;exact⟨e',h j e' h1,h2.mono s⟩
theorem eQ{α β:Type}{F:α->β->Prop}:∀{l:List α} {m:List β},Paired F l m->∀(i:Nat) (a:α),l[i]? = some a->∃b,m[i]? = some b∧F a b:=by
 intro l m p
 induction p with
 | nil=>intro i a e;simp at e
 | cons h r ih =>
  intro i a e;cases i with
  | zero=>simp at e;subst e;exact⟨_,rfl,h⟩
  | succ j=>exact ih j a (by simpa using e)
theorem aX{α β:Type}{F:α->β->Prop}:∀{l:List α} {m:List β},Paired F l m->∀(i:Nat) (b:β),m[i]? = some b->∃a,l[i]? = some a∧F a b:=by
 intro l m p
 induction p with
 | nil=>intro i a e;simp at e
 | cons h r ih =>
  intro i a e;cases i with
  | zero=>simp at e;subst e;exact⟨_,rfl,h⟩
  | succ j=>exact ih j a (by simpa using e)
theorem qM{α:Type}{l:List α}(nd:l.Nodup){i j:Nat}{a:α}(hi:l[i]? = some a)(hj:l[j]? = some a):i=j:=by
 obtain⟨h1,e1⟩:=List.getElem?_eq_some_iff.mp hi;obtain⟨h2,e2⟩:=List.getElem?_eq_some_iff.mp hj;have pw:=List.pairwise_iff_getElem.mp nd;rcases Nat.lt_trichotomy i j with z|z|z
 ·exact absurd (e1.trans e2.symm) (pw i j h1 h2 z)
 ·exact z
 ·exact absurd (e2.trans e1.symm) (pw j i h2 h1 z)
theorem ox{α β:Type}{F:α->β->Prop}:∀{l:List α} {m:List β},Paired F l m->Paired F l.reverse m.reverse:=by
 intro l m p
 induction p with
 | nil=>exact .nil
 | cons h r ih =>
  rw[List.reverse_cons,List.reverse_cons];exact Paired.snoc ih h
theorem lA{H:Hp}{es':List En}:∀{es:List En} {kvs:List (aJ×V)},Paired (Ent K H es') es kvs->kvs.map (·.1)=es.map (·.1):=by
 intro es kvs p
 induction p with
 | nil=>rfl
 | cons h r ih=>rw[List.map_cons,List.map_cons,ih,h.1]
theorem uk:∀{kvs:List (aJ×V)} {i:Nat} {kv:aJ×V},(kvs.map (·.1)).Nodup->kvs[i]? = some kv->dm kvs kv.1=some kv.2:=by
 intro kvs
 induction kvs with
 | nil=>intro i kv _ e;simp at e
 | cons a r ih =>
  intro i kv nd e;rw[List.map_cons,List.nodup_cons]at nd;cases i with
  | zero=>simp at e;subst e;exact cf rfl
  | succ j =>
   have e:r[j]? = some kv:=by simpa using e
   rw[bS (fun z=>nd.1 (by rw[z];exact List.mem_map.mpr ⟨kv,List.mem_of_getElem? e,rfl⟩))];exact ih nd.2 e
theorem gj:∀{kvs:List (aJ×V)} {k:aJ},k∉kvs.map (·.1)->dm kvs k=none:=by
 intro kvs
 induction kvs with
 | nil=>intro k _;rfl
 | cons a r ih =>
  intro k h;rw[List.map_cons,List.mem_cons,not_or]at h;rw[bS (fun z=>h.1 z.symm)];exact ih h.2
theorem oY{kvs:List (aJ×V)}{k:aJ}(h:k∈kvs.map (·.1)):(dm kvs k).isSome=true:=by
 induction kvs with
 | nil=>simp at h
 | cons a r ih =>
  by_cases z:a.1=k
  ·rw[cf z];rfl
  ·rw[bS z]
   rw[List.map_cons,List.mem_cons]at h;exact ih (h.resolve_left fun q=>z q.symm)
theorem iz.mono{H H':Hp}{d:Addr}{es:List En}(c:iz K H d es)(s:Same H H'):iz K H' d es:=by
 obtain⟨kvs,e1,e2⟩:=c;exact⟨kvs,s _ _ e1,Paired.mapP e2 fun a b x=>x.mono s.t fun _ _ h=>h⟩
theorem iz.look{H:Hp}{d:Addr}{es:List En}(c:iz K H d es){s:aJ}{b:Addr}(hb:H b=some (.tup (s.map kV))):∃o,gi H d (.ref b) o∧(o.isSome=true↔s∈es.map (·.1)):=by
 obtain⟨kvs,e1,e2⟩:=c;refine⟨_,gi.t e1 hb,?_⟩;rw[<- lA e2];constructor
 ·intro h
  by_cases z:s∈kvs.map (·.1)
  ·exact z
  ·rw[gj z]at h;cases h
 ·exact oY
theorem iz.add{H:Hp}{d:Addr}{es:List En}(c:iz K H d es){s:aJ}{b t:Addr}{pv hv:V}{h:Lb}{pj:Option Nat}(hb:H b=some (.tup (s.map kV)))(ht:H t=some (.tup [pv,hv]))(lb:iR K H hv h)(hs:s∉es.map (·.1))(h0:pj=none->pv = .non)(h1:∀j,pj=some j->∃e',es[j]? = some e'∧bJ H pv e'.1)(hl:es.length<1000) :
  ∃H',l3 H d (.ref b) (.ref t) H'∧iz K H' d (es++[(s,pj,h)])∧SameT H H'∧∀x,x≠d->H' x=H x:=by
 obtain⟨kvs,e1,e2⟩:=c;have len:=Paired.length e2;have new:eY kvs s (.ref t)=kvs++[(s,.ref t)]:=jn _ (gj (by rw[lA e2];exact hs));have st:SameT H (upd H d (.dT (eY kvs s (.ref t)))):=fun x xs e=>by
  rw[aN (fun z=>by rw[z,e1]at e;cases e)];exact e
 refine⟨_,l3.t (k:=s) (v:=.ref t) e1 hb (by have:=bC (n:=kvs.length) (by omega);exact this),⟨_,upd_same,?_⟩,st,fun x hx=>aN hx⟩;have keep:∀(j:Nat) (e:En),es[j]? = some e->(es++[(s,pj,h)])[j]? = some e:=fun j e he=>by
  rw[List.getElem?_append_left (List.getElem?_eq_some_iff.mp he).1];exact he
 have last:Ent K (upd H d (.dT (eY kvs s (.ref t)))) (es++[(s,pj,h)]) (s,pj,h) (s,.ref t):=⟨rfl,t,pv,hv,rfl,st _ _ ht,lb.mono st,h0,fun j hj=>by
  obtain⟨e',g1,g2⟩:=h1 j hj;exact⟨e',keep _ _ g1,g2.mono st⟩⟩
 have all:=Paired.snoc (Paired.mapP e2 fun a b x=>x.mono st keep) last;rw[<- new]at all;exact all
inductive Cu (es:List En):Nat->List (aJ×Lb)->Prop
 | root {i:Nat} {s:aJ} {h:Lb}:es[i]? = some (s,none,h)->Cu es i [(s,h)]
 | step {i j:Nat} {s:aJ} {h:Lb} {l:List (aJ×Lb)}:es[i]? = some (s,some j,h)->Cu es j l->Cu es i (l++[(s,h)])
def ge(K:W.Frag)(H:Hp)(r:Addr)(l:List (aJ×Lb)):Prop:=∃vs,H r=some (.lst vs)∧Paired (fun (e:aJ×Lb) v=>∃t sv hv,v = .ref t∧H t=some (.tup [sv,hv])∧bJ H sv e.1∧iR K H hv e.2) l vs
def lX(K:W.Frag)(H:Hp)(r:Addr)(l:List (aJ×Lb)):Prop:=ge K H r l
def oU(es:List En)(cur:Option Nat)(i:Nat)(done:List (aJ×Lb)):Prop:=∀l,(match cur with|some j=>Cu es j l|none=>l = [])->Cu es i (l++done.reverse)
theorem oU.begin{es:List En}{i:Nat}:oU es (some i) i []:=fun l h=>by simpa using h
theorem oU.up{es:List En}{i j:Nat}{done:List (aJ×Lb)}{s:aJ}{pj:Option Nat}{h:Lb}(x:oU es (some j) i done)(e:es[j]? = some (s,pj,h)):oU es pj i (done++[(s,h)]):=by
 intro l hl;rw[List.reverse_append];show Cu es i (l++([(s,h)]++done.reverse));rw[<- List.append_assoc];refine x _ ?_;cases pj with
 | none =>
  have:l = []:=hl;subst this;exact .root e
 | some j'=>exact .step e hl
inductive CQ (K:W.Frag) (vs:List V) (H:Hp) (Q:VK) (x_3:XK):Prop
 | mk:∀(d:Addr) (sv:V) (es:List En) (i:Nat) (e:En),(vs = [.ref d,sv])->(iz K H d es)->(EY es)->(es[i]? = some e)->(bJ H sv e.1)->(es.length<1000)->(∀r H' l,Same H H'->Cu es i l->l.length≤es.length->ge K H' r l->Q (.ref r) H')->CQ K vs H Q x_3
def vB(bs:List aJ)(stp:aJ->List (aJ×Lb))(fin:aJ->Bool)(l:List (aJ×Lb)):Prop :=
 (∃s r,l=(s,.no)::r∧s∈bs)∧(∀(n:Nat) a b,l[n]? = some a->l[n+1]? = some b->b∈stp a.1)∧∃a,l.getLast? = some a∧fin a.1=true
def vA(bs:List aJ)(stp:aJ->List (aJ×Lb))(fin:aJ->Bool):Prop:=∃R:List aJ,(∀s∈bs,s∈R)∧(∀s∈R,∀e∈stp s,e.1∈R)∧∀s∈R,fin s=false
structure EA(bs:List aJ)(stp:aJ->List (aJ×Lb))(es:List En):Prop where
 root:∀(i:Nat) e,es[i]? = some e->e.2.1=none->e.1∈bs∧e.2.2 = .no
 step:∀(i j:Nat) e,es[i]? = some e->e.2.1=some j->∃e',es[j]? = some e'∧(e.1,e.2.2)∈stp e'.1
theorem uG{bs:List aJ}{stp:aJ->List (aJ×Lb)}{fin:aJ->Bool}{es:List En}(g:EA bs stp es){i:Nat}{l:List (aJ×Lb)}(p:Cu es i l) :
  (∃s r,l=(s,.no)::r∧s∈bs)∧(∀(n:Nat) a b,l[n]? = some a->l[n+1]? = some b->b∈stp a.1)∧∃e,es[i]? = some e∧l.getLast? = some (e.1,e.2.2):=by
 induction p with
 | root e =>
  obtain⟨h1,h2⟩:=g.root _ _ e rfl;dsimp only at h1 h2;subst h2;exact⟨⟨_,[],rfl,h1⟩,fun n a b _ h=>by simp at h,_,e,rfl⟩
 | step e p ih =>
  obtain⟨⟨s,r,rfl,hs⟩,st,e',h1,h2⟩:=ih;refine⟨⟨s,r++_,rfl,hs⟩,fun n a b ha hb=>?_,_,e,List.getLast?_concat⟩;rcases Nat.lt_trichotomy (n+1) ((s,Lb.no)::r).length with z|z|z
  ·rw[List.getElem?_append_left (by omega)]at ha
   rw[List.getElem?_append_left z]at hb;exact st n a b ha hb
  ·rw[List.getElem?_append_left (by omega)]at ha
   rw[List.getElem?_append_right (by omega),z,Nat.sub_self]at hb;simp only[List.getElem?_cons_zero,Option.some.injEq]at hb;rw[List.getLast?_eq_getElem?]at h2;have ea:((s,Lb.no)::r).length - 1=n:=by omega
   rw[ea,ha]at h2;cases h2;obtain⟨e2,g1,g2⟩:=g.step _ _ _ e rfl;rw[h1]at g1;cases g1;rw[<- hb];exact g2
  ·rw[List.getElem?_eq_none (by simp at z ⊢;omega)]at hb
   cases hb
structure E6(P:Program)(w:World)(K:W.Frag)(mg:Str->Option Value)(base:Heap)(k:Nat)(H:Hp)(f1 f2:Addr)(U:List aJ)(stp:aJ->List (aJ×Lb))(fin:aJ->Bool):Prop where
 o1:oV H f1
 o2:oV H f2
 c1:∃sp,rN P w K mg base k f1 sp∧∀H' v s (Q:VK),Same H H'->bJ H' v s->s∈U->(∀r H'',Same H' H''->H' r=none->lX K H'' r (stp s)->Q (.ref r) H'')->sp [v] H' Q E0
 c2:∃sp,rN P w K mg base k f2 sp∧∀H' v s (Q:VK),Same H H'->bJ H' v s->s∈U->(∀H'',Same H' H''->Q (.bl (fin s)) H'')->sp [v] H' Q E0
 shut:∀s∈U,∀e∈stp s,e.1∈U
 few:∀s∈U,(stp s).length<1000
noncomputable def oP(n:Nat)(es:List En)(x:aJ×Lb):List En:=@ite _ (x.1∈es.map (·.1)) (Classical.propDecidable _) es (es++[(x.1,some n,x.2)])
noncomputable def bT(bs:List aJ)(stp:aJ->List (aJ×Lb)):Nat->List En
 | 0=>bs.map fun s=>(s,none,.no)
 | n+1=>match (bT bs stp n)[n]? with
  | some e=>(stp e.1).foldl (oP n) (bT bs stp n)
  | none=>bT bs stp n
theorem rA{n i:Nat}{es:List En}{x:aJ×Lb}{e:En}(h:es[i]? = some e):(oP n es x)[i]? = some e:=by
 unfold oP
 split
 ·exact h
 ·rw[List.getElem?_append_left (List.getElem?_eq_some_iff.mp h).1]
  exact h
theorem rk{n i:Nat}{e:En}:∀{xs:List (aJ×Lb)} {es:List En},es[i]? = some e->(xs.foldl (oP n) es)[i]? = some e:=by
 intro xs
 induction xs with
 | nil=>exact fun h=>h
 | cons a r ih=>exact fun h=>ih (rA h)
theorem jh{bs:List aJ}{stp:aJ->List (aJ×Lb)}{n i:Nat}{e:En}(h:(bT bs stp n)[i]? = some e):∀k,(bT bs stp (n+k))[i]? = some e
 | 0=>h
 | k+1=>by
  have ih:=jh h k;show(match (bT bs stp (n+k))[n+k]? with
   | some e=>(stp e.1).foldl (oP (n+k)) (bT bs stp (n+k))
   | none=>bT bs stp (n+k))[i]? = some e
  split
  ·exact rk ih
  ·exact ih
def kR(bs:List aJ)(stp:aJ->List (aJ×Lb))(fin:aJ->Bool)(l:List (aJ×Lb)):Prop :=
 ∃n e,(bT bs stp n)[n]? = some e∧fin e.1=true∧(∀i,i<n->∃e',(bT bs stp n)[i]? = some e'∧fin e'.1=false)∧Cu (bT bs stp n) n l
theorem qG{es:List En}{i:Nat}{l l':List (aJ×Lb)}(p:Cu es i l)(p':Cu es i l'):l=l':=by
 induction p generalizing l' with
 | root e =>
  cases p' with
  | root e'=>rw[e]at e';cases e';rfl
  | step e' _=>rw[e]at e';cases e'
 | step e _ ih =>
  cases p' with
  | root e'=>rw[e]at e';cases e'
  | step e' q=>rw[e]at e';cases e';rw[ih q]
theorem kR.uniq{bs:List aJ}{stp:aJ->List (aJ×Lb)}{fin:aJ->Bool}{l l':List (aJ×Lb)}(f:kR bs stp fin l)(f':kR bs stp fin l'):l=l':=by
 have one:∀{n n':Nat} {e:En},(bT bs stp n)[n]? = some e->fin e.1=true->(∀i,i<n'->∃e',(bT bs stp n')[i]? = some e'∧fin e'.1=false)->¬n<n':=fun {n n' e} h hf sn lt=>by
  obtain⟨e',h1,h2⟩:=sn n lt;have:=jh h (n' - n);rw[show n+(n' - n)=n' by omega,h1]at this;cases this;rw[h2]at hf;cases hf
 obtain⟨n,e,h1,h2,h3,h4⟩:=f;obtain⟨n',e',h1',h2',h3',h4'⟩:=f';have a:=one h1 h2 h3';have b:=one h1' h2' h3;have:n=n':=by omega
 subst this;exact qG h4 h4'
def nY(P:Program)(w:World)(K:W.Frag)(mg:Str->Option Value)(base:Heap)(k:Nat):Sp:=fun vs H Q _ =>
 ∃(b f1 f2:Addr) (bvs:List V) (bs U:List aJ) (stp:aJ->List (aJ×Lb)) (fin:aJ->Bool),vs = [.ref b,.ref f1,.ref f2]∧H b=some (.lst bvs)∧Paired (fun s v=>bJ H v s) bs bvs∧bs.Nodup∧(∀s∈bs,s∈U)∧U.length<900 ∧
  E6 P w K mg base k H f1 f2 U stp fin∧(∀H',Same H H'->vA bs stp fin->Q .non H')∧∀r H' l,Same H H'->vB bs stp fin l->kR bs stp fin l->l.length≤U.length->ge K H' r l->Q (.ref r) H'
theorem oz{α:Type}[DecidableEq α]{l U:List α}(nd:l.Nodup)(h:∀s∈l,s∈U):l.length≤U.length:=by
 induction l generalizing U with
 | nil=>exact Nat.zero_le _
 | cons a r ih =>
  rw[List.nodup_cons]at nd;have ha:=h a List.mem_cons_self;have:=ih (U:=U.erase a) nd.2 fun s hs=>by
   refine(List.mem_erase_of_ne ?_).mpr (h s (List.mem_cons_of_mem _ hs));rintro rfl;exact nd.1 hs
  rw[List.length_erase_of_mem ha]at this;have hp:0<U.length:=List.length_pos_of_mem ha;rw[List.length_cons];omega
theorem kB{l U:List aJ}(nd:l.Nodup)(h:∀s∈l,s∈U):l.length≤U.length:=by
 classical exact oz nd h
structure Aj(bs U:List aJ)(stp:aJ->List (aJ×Lb))(fin:aJ->Bool)(es:List En)(n:Nat):Prop where
 tree:EY es
 grown:EA bs stp es
 inU:∀e∈es,e.1∈U
 base:∀s∈bs,s∈es.map (·.1)
 le:n≤es.length
 seen:∀(i:Nat) e,i<n->es[i]? = some e->fin e.1=false∧∀x∈stp e.1,x.1∈es.map (·.1)
theorem Aj.len{bs U:List aJ}{stp:aJ->List (aJ×Lb)}{fin:aJ->Bool}{es:List En}{n:Nat}(g:Aj bs U stp fin es n):es.length≤U.length:=by
 have:=kB g.tree.nd (U:=U) fun s hs=>by
  obtain⟨e,he,rfl⟩:=List.mem_map.mp hs;exact g.inU e he
 rw[List.length_map]at this;exact this
theorem Aj.shut{bs U:List aJ}{stp:aJ->List (aJ×Lb)}{fin:aJ->Bool}{es:List En}{n:Nat}(g:Aj bs U stp fin es n)(h:es.length≤n):vA bs stp fin:=by
 refine⟨es.map (·.1),g.base,fun s hs x hx=>?_,fun s hs=>?_⟩
 ·obtain⟨e,he,rfl⟩:=List.mem_map.mp hs
  obtain⟨i,hi⟩:=List.getElem?_of_mem he;exact(g.seen i e (Nat.lt_of_lt_of_le (List.getElem?_eq_some_iff.mp hi).1 h) hi).2 x hx
 ·obtain⟨e,he,rfl⟩:=List.mem_map.mp hs
  obtain⟨i,hi⟩:=List.getElem?_of_mem he;exact(g.seen i e (Nat.lt_of_lt_of_le (List.getElem?_eq_some_iff.mp hi).1 h) hi).1
theorem Aj.add{bs U:List aJ}{stp:aJ->List (aJ×Lb)}{fin:aJ->Bool}{es:List En}{n j:Nat}(g:Aj bs U stp fin es n){e0:En}{s:aJ}{h:Lb}(hj:es[j]? = some e0)(hs:(s,h)∈stp e0.1)(hU:s∈U)(hn:s∉es.map (·.1)) :
  Aj bs U stp fin (es++[(s,some j,h)]) n:=by
 have old:∀(i:Nat) e,(es++[(s,some j,h)])[i]? = some e->es[i]? = some e∨(i=es.length∧e=(s,some j,h)):=fun i e he=>by
  rcases Nat.lt_trichotomy i es.length with z|z|z
  ·rw[List.getElem?_append_left z]at he;exact .inl he
  ·rw[List.getElem?_append_right (by omega),z,Nat.sub_self]at he
   simp only[List.getElem?_cons_zero,Option.some.injEq]at he;exact .inr ⟨z,he.symm⟩
  ·rw[List.getElem?_eq_none (by simp;omega)]at he;cases he
 have keep:∀(i:Nat) e,es[i]? = some e->(es++[(s,some j,h)])[i]? = some e:=fun i e he=>by
  rw[List.getElem?_append_left (List.getElem?_eq_some_iff.mp he).1];exact he
 have jl:=(List.getElem?_eq_some_iff.mp hj).1;refine⟨⟨?_,fun i e k he hk=>?_⟩,⟨fun i e he hk=>?_,fun i k e he hk=>?_⟩,fun e he=>?_,fun t ht=>?_,?_,fun i e hi he=>?_⟩
 ·rw[List.map_append,List.nodup_append]
  refine⟨g.tree.nd,by simp,fun a ha b hb=>?_⟩;have hb:b=s:=by simpa using hb
  rw[hb];rintro rfl;exact hn ha
 ·rcases old i e he with z|⟨z1,z2⟩
  ·exact g.tree.up i e k z hk
  ·subst z2
   cases hk;omega
 ·rcases old i e he with z|⟨z1,z2⟩
  ·exact g.grown.root i e z hk
  ·subst z2
   cases hk
 ·rcases old i e he with z|⟨z1,z2⟩
  ·obtain⟨e',h1,h2⟩:=g.grown.step i k e z hk
   exact⟨e',keep _ _ h1,h2⟩
  ·subst z2
   cases hk;exact⟨e0,keep _ _ hj,hs⟩
 ·rcases List.mem_append.mp he with z|z
  ·exact g.inU e z
  ·rw[List.mem_singleton.mp z];exact hU
 ·rw[List.map_append]
  exact List.mem_append_left _ (g.base t ht)
 ·rw[List.length_append]
  exact Nat.le_trans g.le (Nat.le_add_right _ _)
 ·rcases old i e he with z|⟨z1,z2⟩
  ·obtain⟨h1,h2⟩:=g.seen i e hi z
   refine⟨h1,fun x hx=>?_⟩;rw[List.map_append];exact List.mem_append_left _ (h2 x hx)
  ·have:=g.le
   omega
theorem Aj.first{bs U:List aJ}{stp:aJ->List (aJ×Lb)}{fin:aJ->Bool}(nd:bs.Nodup)(hU:∀s∈bs,s∈U):Aj bs U stp fin (bs.map fun s=>(s,none,.no)) 0:=by
 have at':∀(i:Nat) e,(bs.map fun s=>((s,none,.no):En))[i]? = some e->∃s,bs[i]? = some s∧e=(s,none,.no):=fun i e he=>by
  rw[List.getElem?_map]at he;cases h:bs[i]? with
  | none=>rw[h]at he;cases he
  | some s=>rw[h]at he;cases he;exact⟨s,rfl,rfl⟩
 have mp:(bs.map fun s=>((s,none,.no):En)).map (·.1)=bs:=by rw[List.map_map];exact List.map_id bs
 refine⟨⟨by rw[mp];exact nd,fun i e j he hj=>?_⟩,⟨fun i e he _=>?_,fun i j e he hj=>?_⟩,fun e he=>?_,fun s hs=>by rw[mp];exact hs,Nat.zero_le _,fun i e hi=>absurd hi (Nat.not_lt_zero _)⟩
 ·obtain⟨s,_,rfl⟩:=at' i e he
  cases hj
 ·obtain⟨s,hs,rfl⟩:=at' i e he
  exact⟨List.mem_of_getElem? hs,rfl⟩
 ·obtain⟨s,_,rfl⟩:=at' i e he
  cases hj
 ·obtain⟨s,hs,rfl⟩:=List.mem_map.mp he
  exact hU s hs
theorem Aj.next{bs U:List aJ}{stp:aJ->List (aJ×Lb)}{fin:aJ->Bool}{es:List En}{n:Nat}(g:Aj bs U stp fin es n){e:En}(he:es[n]? = some e)(hf:fin e.1=false)(hs:∀x∈stp e.1,x.1∈es.map (·.1)):Aj bs U stp fin es (n+1):=by
 refine⟨g.tree,g.grown,g.inU,g.base,(List.getElem?_eq_some_iff.mp he).1,fun i e' hi he'=>?_⟩
 by_cases z:i=n
 ·subst z
  rw[he]at he';cases he';exact⟨hf,hs⟩
 ·exact g.seen i e' (by omega) he'
end
end Sk
namespace Dr
open PySem PySem.Spec L2 Mth Sp1 Sp2 Sp3 Sp7
end Dr
namespace Dr
open PySem PySem.Spec L2 Mth Sp1 Sp2 Sp3 Sp7
end Dr
namespace Dr
open PySem
end Dr
namespace PySem
namespace F
end F
section
variable {prog:Program} {w:World} {A:Around} {E:Value->Shared->Prop} {s:Shared}
end
end PySem
namespace L2
open PySem PySem.Spec PyProof.Rows
section
variable {X:Cx} {e:Expr} {te:TE} {p1 p2 q1 q2:Pos}
theorem nM:bootBuiltins "reversed" = some (.type "reversed"):=by decide +kernel
end
section
variable {X:Cx}
end
end L2
namespace Wk
open PySem PySem.Spec L2 Mth Sp1 Sp2 Sp3 Sp7 Dr
structure Pr where
 p:Addr
 x:Addr
 y:Addr
 a:Int
 b:Int
 c:Int
 d:Int
structure PrAt(H:Hp)(q:Pr):Prop where
 p_:H q.p=some (.tup [.ref q.x,.ref q.y])
 x_:H q.x=some (.tup [.int q.a,.int q.b])
 y_:H q.y=some (.tup [.int q.c,.int q.d])
 lx:CC q.a q.b
 ly:CC q.c q.d
 nx:0≤q.a
 ny:0≤q.c
 ba:bits q.a≤200
 bb:bits q.b≤60
 bc:bits q.c≤200
 bd:bits q.d≤60
theorem PrAt.t{H H':Hp}{q:Pr}(h:PrAt H q)(s:SameT H H'):PrAt H' q:=⟨s _ _ h.p_,s _ _ h.x_,s _ _ h.y_,h.lx,h.ly,h.nx,h.ny,h.ba,h.bb,h.bc,h.bd⟩
def prs(ps:List Pr):List V:=ps.map fun q=>V.ref q.p
theorem de(ps:List Pr):(prs ps).length=ps.length:=List.length_map _
theorem gy{ps:List Pr}{i:Nat}{v:V}(h:(prs ps)[i]? = some v):∃q,ps[i]? = some q∧v = .ref q.p:=by
 unfold prs at h;rw[List.getElem?_map]at h;obtain⟨q,hq,rfl⟩:=Option.map_eq_some_iff.mp h;exact⟨q,hq,rfl⟩
end Wk
namespace L2
open PySem PySem.Spec PyProof.Rows
theorem pH{X:Cx}{K:W.Frag}{pos:Pos}{es:List Expr}{k:Nat}{t:TGs}{n:Nat}(hK:X.K=K)(hc:X.calm=true)(h:PGs X es t)
  (hn:(assignEach es X.env).length=n:=by rfl) (hst:(assignEach es X.env).findIdx? (·.1)=none:=by rfl):PG X (.Tuple es k pos) (EN K n t):=by
 subst hK;exact hZ hc h hn hst
end L2
namespace Fnc
open PySem PySem.Spec L2 Mth Sp1 Sp2 Sp3 Sp7 Dr Wk
theorem di(i j:Int):decide (V.int i=V.int j)=decide (i=j):=by
 rw[Bool.eq_iff_iff];simp
end Fnc
namespace Fnc
open PySem PySem.Spec L2 Mth Sp1 Sp2 Sp3 Sp7 Dr Wk
end Fnc
namespace Fnc
open PySem PySem.Spec L2 Mth Sp1 Sp2 Sp3 Sp7 Dr Wk
end Fnc
namespace Sk
open PySem PySem.Spec L2 Sp24 Wk
def ck(i j:Int):aJ:=[.inl i,.inl j]
theorem fD{i j x y:Int}(h:ck i j=ck x y):i=x∧j=y:=by
 unfold ck at h;simp only[List.cons.injEq,Sum.inl.injEq,and_true]at h;exact h
def fO(F:Int->Int->Bool)(i k:Nat):List (Int×Int):=((List.range k).filter fun (j:Nat)=>F (i:Int) (j:Int)).map fun (j:Nat)=>((i:Int),(j:Int))
def fY(F:Int->Int->Bool)(n i:Nat):List (Int×Int):=(List.range i).flatMap fun i'=>fO F i' n
def lP(m n:Nat)(F:Int->Int->Bool):List (Int×Int):=fY F (n+1) (m+1)
theorem gI{F:Int->Int->Bool}{i k:Nat}{p:Int×Int}:p∈fO F i k↔p.1=i∧0≤p.2∧p.2<k∧F p.1 p.2=true:=by
 unfold fO;simp only[List.mem_map,List.mem_filter,List.mem_range];constructor
 ·rintro⟨j,⟨h1,h2⟩,rfl⟩
  exact⟨rfl,by simp,by simpa using h1,h2⟩
 ·rintro⟨h1,h2,h3,h4⟩
  obtain⟨x,y⟩:=p;dsimp only at h1 h2 h3 h4;subst h1;refine⟨y.toNat,⟨by omega,?_⟩,?_⟩
  ·rw[show((y.toNat:Nat):Int)=y by omega];exact h4
  ·rw[show((y.toNat:Nat):Int)=y by omega]
theorem ju{F:Int->Int->Bool}{n i:Nat}{p:Int×Int}:p∈fY F n i↔0≤p.1∧p.1<i∧0≤p.2∧p.2<n∧F p.1 p.2=true:=by
 unfold fY;simp only[List.mem_flatMap,List.mem_range,gI];constructor
 ·rintro⟨i',h1,h2,h3,h4,h5⟩
  exact⟨by omega,by omega,h3,h4,h5⟩
 ·rintro⟨h1,h2,h3,h4,h5⟩
  exact⟨p.1.toNat,by omega,by omega,h3,h4,h5⟩
theorem dR{m n:Nat}{F:Int->Int->Bool}{x y:Int}:(x,y)∈lP m n F↔0≤x∧x≤m∧0≤y∧y≤n∧F x y=true:=by
 unfold lP;rw[ju];constructor
 ·rintro⟨h1,h2,h3,h4,h5⟩
  exact⟨h1,by simp at h2;omega,h3,by simp at h4;omega,h5⟩
 ·rintro⟨h1,h2,h3,h4,h5⟩
  exact⟨h1,by simp;omega,h3,by simp;omega,h5⟩
theorem hW{F:Int->Int->Bool}{i k:Nat}:fO F i (k+1)=fO F i k++(if F i k=true then [((i:Int),(k:Int))] else []):=by
 unfold fO;rw[List.range_succ,List.filter_append,List.map_append]
 congr 1
 by_cases h:F i k=true
 ·simp[h]
 ·simp[h]
theorem iq{F:Int->Int->Bool}{n i:Nat}:fY F n (i+1)=fY F n i++fO F i n:=by
 unfold fY;rw[List.range_succ,List.flatMap_append];simp
theorem mh{F:Int->Int->Bool}{i k:Nat}:(fO F i k).length≤k:=by
 unfold fO;rw[List.length_map];exact Nat.le_trans (List.length_filter_le _ _) (by simp)
theorem jJ{F:Int->Int->Bool}{n:Nat}:∀{i:Nat},(fY F n i).length≤i*n
 | 0=>by simp[fY]
 | i+1=>by
  rw[iq,List.length_append];have:=jJ (F:=F) (n:=n) (i:=i);have:=mh (F:=F) (i:=i) (k:=n);rw[Nat.succ_mul];omega
theorem og{F:Int->Int->Bool}{i k:Nat}:(fO F i k).Nodup:=by
 induction k with
 | zero=>simp[fO]
 | succ k ih =>
  rw[hW,List.nodup_append];refine⟨ih,by split <;> simp,fun a ha b hb=>?_⟩
  split at hb
  ·have hb:b=((i:Int),(k:Int)):=by simpa using hb
   rintro rfl;rw[hb]at ha;have:=(gI.mp ha).2.2.1;simp at this
  ·simp at hb
theorem oO{F:Int->Int->Bool}{n i:Nat}:(fY F n i).Nodup:=by
 induction i with
 | zero=>simp[fY]
 | succ i ih =>
  rw[iq,List.nodup_append];refine⟨ih,og,fun a ha b hb=>?_⟩;rintro rfl;have h1:=(ju.mp ha).2.1;have h2:=(gI.mp hb).1;omega
def kvF(l:List (Int×Int)):List (aJ×V):=l.map fun p=>(ck p.1 p.2,.bl true)
theorem mP{l:List (Int×Int)}{x y:Int}:ck x y∈(kvF l).map (·.1)↔(x,y)∈l:=by
 unfold kvF;rw[List.map_map];constructor
 ·intro h
  obtain⟨p,hp,e⟩:=List.mem_map.mp h;obtain⟨h1,h2⟩:=fD e;rw[<- h1,<- h2];exact hp
 ·intro h
  exact List.mem_map.mpr ⟨(x,y),h,rfl⟩
theorem uV{l:List (Int×Int)}{x y:Int}:(dm (kvF l) (ck x y)).isSome=true↔(x,y)∈l:=by
 rw[<- mP];constructor
 ·intro h
  by_cases z:ck x y∈(kvF l).map (·.1)
  ·exact z
  ·rw[gj z]at h;cases h
 ·exact oY
def lZ(H:Hp)(d:Addr)(m n:Nat)(F:Int->Int->Bool):Prop:=∃o,H d=some (.frz o (.dT (kvF (lP m n F))))
theorem lZ.mono{H H':Hp}{d:Addr}{m n:Nat}{F:Int->Int->Bool}(h:lZ H d m n F)(s:Same H H'):lZ H' d m n F:=let ⟨o,e⟩:=h;⟨o,s _ _ e⟩
theorem lZ.get{H:Hp}{d b:Addr}{m n:Nat}{F:Int->Int->Bool}(h:lZ H d m n F){x y:Int}(hb:H b=some (.tup [.int x,.int y])):∃o,gi H d (.ref b) o∧o.isSome=decide ((x,y)∈lP m n F):=by
 obtain⟨o,e⟩:=h;refine⟨_,.inr ⟨_,ck x y,b,.inr ⟨o,e⟩,rfl,hb,rfl⟩,?_⟩;rw[Bool.eq_iff_iff,uV,decide_eq_true_iff]
def U(m n:Nat):List aJ:=(List.range (m+1)).flatMap fun i=>(List.range (n+1)).map fun j=>ck (i:Nat) (j:Nat)
theorem eV{m n:Nat}{s:aJ}:s∈U m n↔∃x y:Int,s=ck x y∧0≤x∧x≤m∧0≤y∧y≤n:=by
 unfold U;simp only[List.mem_flatMap,List.mem_range,List.mem_map];constructor
 ·rintro⟨i,hi,j,hj,rfl⟩
  exact⟨_,_,rfl,by omega,by omega,by omega,by omega⟩
 ·rintro⟨x,y,rfl,h1,h2,h3,h4⟩
  refine⟨x.toNat,by omega,y.toNat,by omega,?_⟩;rw[show((x.toNat:Nat):Int)=x by omega,show((y.toNat:Nat):Int)=y by omega]
theorem ug{m n:Nat}:(U m n).length=(m+1)*(n+1):=by
 unfold U
 induction (m+1) with
 | zero=>simp
 | succ k ih =>
  rw[List.range_succ (n:=k),List.flatMap_append,List.length_append,ih,Nat.succ_mul];simp
theorem qq{m n:Nat}(hm:m≤20)(hn:n≤20):(U m n).length<900:=by
 rw[ug];have:=Nat.mul_le_mul (show m+1≤21 by omega) (show n+1≤21 by omega);omega
def prC(q:Pr)(c:Int×Int):Prop:=q.a=c.1∧q.b=1∧q.c=c.2∧q.d=1
def dec:aJ->Int×Int
 | [.inl i,.inl j]=>(i,j)
 | _=>(0,0)
theorem kT{bs U:List aJ}{stp:aJ->List (aJ×Lb)}{fin:aJ->Bool}{l:List (aJ×Lb)}(r:vB bs stp fin l)(hb:∀s∈bs,s∈U)(hs:∀s∈U,∀e∈stp s,e.1∈U):∀(n:Nat) e,l[n]? = some e->e.1∈U:=by
 obtain⟨⟨s,r',rfl,h1⟩,h2,_⟩:=r;intro n
 induction n with
 | zero=>intro e he;simp at he;subst he;exact hb s h1
 | succ k ih =>
  intro e he;have lt:=(List.getElem?_eq_some_iff.mp he).1;obtain⟨a,ha⟩:∃a,((s,Lb.no)::r')[k]? = some a:=⟨((s,Lb.no)::r')[k]'(by omega),by rw[List.getElem?_eq_getElem (by omega)]⟩;exact hs _ (ih a ha) e (h2 k a e ha he)
theorem iR.put{K:W.Frag}{C:List Addr}{H H1:Hp}{v:V}{x:Lb}(hC:∀c∈C,H1 c=none)(h:iR K H1 v x):iR K (mj C H H1) v x:=h.mono fun b xs e=>gt hC e
theorem kj{K:W.Frag}{C:List Addr}{H H1:Hp}{r:Addr}{l:List (aJ×Lb)}(hC:∀c∈C,H1 c=none)(x:ge K H1 r l):ge K (mj C H H1) r l:=by
 obtain⟨vs,e,p⟩:=x;refine⟨vs,gt hC e,Paired.mapP p fun a b ⟨t,sv,hv,x1,x2,⟨q,x3,x4⟩,x5⟩=>⟨t,sv,hv,x1,gt hC x2,⟨q,x3,gt hC x4⟩,x5.put hC⟩⟩
theorem pC{K:W.Frag}{H H1:Hp}{r:Addr}{l:List (aJ×Lb)}(h:∀b o,H b=some o->(∀z,o≠KnO z)->H1 b=some o)(x:ge K H r l):ge K H1 r l:=by
 obtain⟨vs,e,p⟩:=x;have st:SameT H H1:=fun b xs e=>h _ _ e (fun z q=>by cases q);exact⟨vs,h _ _ e (fun z q=>by cases q),Paired.mapP p fun a b ⟨t,sv,hv,x1,x2,x3,x5⟩=>⟨t,sv,hv,x1,st _ _ x2,x3.mono st,x5.mono st⟩⟩
theorem tP{m n:Nat}{F:Int->Int->Bool}(hm:m≤20)(hn:n≤20):(lP m n F).length<900:=by
 have h1:=jJ (F:=F) (n:=n+1) (i:=m+1);have:=Nat.mul_le_mul (show m+1≤21 by omega) (show n+1≤21 by omega);unfold lP;omega
end Sk
namespace Fz
def xs(r s:Nat->Nat->Bool)(i i':Nat):Nat->Bool
 | 0=>false
 | k+1=>xs r s i i' k ^^ ((r i k ^^ r i (k+1)) && s i' (k+1))
theorem dual{n m:Nat}{r s:Nat->Nat->Bool}(hn:1≤n)(hm:1≤m)(r0:r 0 0=true)(r1:r (n - 1) (m - 1)=false)
  (U:∀i j,0<i->i<n->j<m->r (i - 1) j≠r i j->s i j=s i (j+1))
  (L:∀i j,i<n->0<j->j<m->r i (j - 1)≠r i j->s i j=s (i+1) j)
  (B1:∀j,0<j->j<m->r 0 (j - 1)≠r 0 j->s 0 j=true)
  (B2:∀i,0<i->i<n->r (i - 1) (m - 1)≠r i (m - 1)->s i m=true)
  (E1:∀i,0<i->i<n->s i 0=false) (E2:∀j,0<j->j<m->s n j=false):False:=by
 have xy:∀i,i<n->∀k,k+1≤m->xs r s i i k=xs r s i (i+1) k:=fun i hi k=>by
  induction k with
  | zero=>intro _;rfl
  | succ k ih =>
   intro hk;have:=L i (k+1) hi (by omega) (by omega);rw[Nat.add_sub_cancel]at this;simp only[xs];rw[ih (by omega)];cases h1:r i k <;> cases h2:r i (k+1) <;> simp_all
 have x0:∀k,k+1≤m->xs r s 0 0 k=(r 0 0 ^^ r 0 k):=fun k=>by
  induction k with
  | zero=>intro _;simp[xs]
  | succ k ih =>
   intro hk;have:=B1 (k+1) (by omega) (by omega);rw[Nat.add_sub_cancel]at this;simp only[xs];rw[ih (by omega)];cases h1:r 0 k <;> cases h2:r 0 (k+1) <;> simp_all
 have st:∀i,0<i->i<n->∀k,k+1≤m->(xs r s i i k ^^ xs r s (i - 1) i k)=(((r (i - 1) k ^^ r i k) && s i k) ^^ ((r (i - 1) 0 ^^ r i 0) && s i 0)):=fun i h0 hi k=>by
  induction k with
  | zero=>intro _;simp[xs]
  | succ k ih =>
   intro hk;have u:=U i k h0 hi (by omega);have ih:=ih (by omega);simp only[xs];revert ih;generalize xs r s i i k=a;generalize xs r s (i - 1) i k=b;generalize ((r (i - 1) 0 ^^ r i 0) && s i 0)=c;revert u;generalize r i k=r1;generalize r i (k+1)=r2;generalize r (i - 1) k=r3;generalize r (i - 1) (k+1)=r4;generalize s i k=s1;generalize s i (k+1)=s2;revert a b c r1 r2 r3 r4 s1 s2;decide
 have y:∀i,i<n->xs r s i (i+1) (m - 1)=(r 0 0 ^^ r i (m - 1)):=fun i=>by
  induction i with
  | zero=>intro h;rw[<- xy 0 h _ (by omega),x0 _ (by omega)]
  | succ i ih =>
   intro h;have e:=st (i+1) (by omega) h (m - 1) (by omega);rw[Nat.add_sub_cancel,ih (by omega),E1 (i+1) (by omega) h]at e;rw[<- xy (i+1) h _ (by omega)];have u:=U (i+1) (m - 1) (by omega) h (by omega);have b:=B2 (i+1) (by omega) h;rw[Nat.add_sub_cancel]at u b;rw[Nat.sub_add_cancel hm]at u;revert e;generalize xs r s (i+1) (i+1) (m - 1)=a;intro e;cases h1:r i (m - 1) <;> cases h2:r (i+1) (m - 1) <;> simp_all
 have z:∀k,k+1≤m->xs r s (n - 1) n k=false:=fun k=>by
  induction k with
  | zero=>intro _;rfl
  | succ k ih =>
   intro hk;simp only[xs];rw[ih (by omega),E2 (k+1) (by omega) (by omega)];simp
 have e:=y (n - 1) (by omega);rw[Nat.sub_add_cancel hn,z _ (by omega),r0,r1]at e;cases e
end Fz
namespace L2
open PySem PySem.Spec PyProof.Rows
def ItR(K:W.Frag)(a:Addr)(n:Nat):It:=⟨fun i H=>∃xs x,SqL K H a xs∧xs.length=n∧i<n∧xs[n - 1 - i]? = some x,fun i H x H'=>H'=H∧∀xs,SqL K H a xs->xs[n - 1 - i]? = some x,fun i _=>i=n⟩
theorem rR{P:Program}{w:World}{K:W.Frag}{tg:Expr}(a it:Addr)(n:Nat):C3 P w K tg (ItR K a n) [it] it (fun i h=>h.IsRevIter it a ((n:Int) - 1 - (i:Int))) where
 mem:=by simp
 obj:=fun i h st b hb=>by
  have e:b=it:=by simpa using hb
  subst e;obtain⟨o,e,c,d⟩:=st;exact⟨o,e,fun v z=>by rw[d]at z;cases z⟩
 keep:=fun i h h' st k=>st.at fun o e=>k it (by simp) o e
 item:=by
  intro X hP hw hK hc i pins s σ H E I hf st hg;subst hP hw hK;obtain⟨xs,x,hq,hn,hi,hx⟩:=hg;obtain⟨its,rv,p,hz⟩:=I.list hq;obtain⟨u,hu,ru⟩:=rv.get hx;obtain⟨f0,f1,f2,f3,f4,f5⟩:=hf it (by simp);have e0:(n:Int) - 1 - (i:Int)=((n - 1 - i:Nat):Int):=by omega
  have st0:s.heap.IsRevIter it a ((n:Int) - 1 - (i:Int)):=st;rw[e0]at st0;refine wpAny_pyNext_rev_item st0 p.isList (x:=u) (by simpa using hu) fun h' st' sb=>?_;have I1:yI X pins σ H { s with heap:=h' }:=I.turned (t':=s.toks) (fun b o hb e=>(sb.2 b hb).trans e) f0 f1 f3 f4 f5;have e1:((n - 1 - i:Nat):Int) - 1=(n:Int) - 1 - ((i+1:Nat):Int):=by omega
  rw[e1]at st';obtain⟨o,e,c,d⟩:=id st';exact⟨u,rfl,mU (s:={ s with heap:=h' }) e c d (by decide) ⟨x,H,I1,ru,⟨rfl,fun ys hy=>by rw[I.list_inj hy hq];exact hx⟩,st',fun b hb=>(hf b hb).1⟩⟩
 done:=by
  intro X hP hw hK hc i pins s σ H E I hf st hg;subst hP hw hK;have hg:i=n:=hg;subst hg;obtain⟨f0,f1,f2,f3,f4,f5⟩:=hf it (by simp);have st0:s.heap.IsRevIter it a ((i:Int) - 1 - (i:Int)):=st;rw[show(i:Int) - 1 - (i:Int) = -1 by omega]at st0;exact wpAny_pyNext_rev_end (I.ok.hd hc) st0 fun h' eb=>⟨rfl,I.turned (t':=s.toks) (fun b o hb e=>eb b o hb e) f0 f1 f3 f4 f5⟩
 self:=fun _ _ _ _ _ st h=>wpAny_pyIter_revIter st h
def yz(K:W.Frag)(te:TE):TI:=fun σ H R=>te σ H fun x H1=>∃a xs,[x] = [.ref a]∧SqL K H1 a xs∧R (ItR K a xs.length) H1
theorem wo{X:Cx}{tg e:Expr}{te:TE}{p1 q1:Pos}(gr:Gl X "reversed")(mr:X.mg "reversed" = none)(he:PE X e te)(h2:starEach [e] X.env = [(false,eval e X.env)]:=by rfl):PI X tg (.Call (.Name "reversed" p1) [e] [] q1) (yz X.K te):=by
 intro pins s σ H R I h;have h':(o4 te v5) σ H (fun vs H1=>∃a xs,vs = [.ref a]∧SqL X.K H1 a xs∧R (ItR X.K a xs.length) H1):=h;refine wpAny_Call_Name_kw (fT I gr mr nM (PyProof.Rows.callWith_type1 (thn ((aa he af h2) q1 pins s σ H (fun vs H1=>∃a xs,vs = [.ref a]∧SqL X.K H1 a xs∧R (ItR X.K a xs.length) H1) I h') fun us s1 ⟨vs,H1,I1,r1,q⟩=>?_) h2 rfl));obtain⟨a,xs,rfl,hx,k⟩:=q;obtain⟨u,rfl,ru⟩:=fc r1;cases ru;obtain⟨its,rv,pl,hz⟩:=I1.list hx;have hl:=rv.length;refine call_reversed_list pl.isList ?_;have al:a<s1.heap.objs.size:=by obtain⟨_,e,_⟩:=pl.isList;exact Heap.lt_size e
 have kp:∀b o,s1.heap.get? b=some o->(s1.heap.push (revObj a ((its.toArray.size:Int) - 1))).get? b=some o:=fun b o e=>Heap.get?_push_of_some _ e;have it0:(s1.heap.push (revObj a ((its.toArray.size:Int) - 1))).IsRevIter s1.heap.objs.size a ((its.toArray.size:Int) - 1):=⟨_,Heap.get?_push_size _ rfl,rfl,rfl⟩;refine wpAny_pyIter_revIter (i:=(its.toArray.size:Int) - 1) it0 ?_;refine⟨_,[s1.heap.objs.size],_,_,H1,rfl,I1.kept (t':=s1.toks) kp,rR a s1.heap.objs.size xs.length,?_,fun b hb=>?_,k⟩
 ·show Heap.IsRevIter _ _ _ ((xs.length:Int) - 1 - ((0:Nat):Int))
  rw[show(xs.length:Int) - 1 - ((0:Nat):Int)=(its.toArray.size:Int) - 1 by rw[List.size_toArray];omega];exact it0
 ·have e:b=s1.heap.objs.size:=by simpa using hb
  subst e;exact I1.fpOk (Nat.le_refl _) (I1.hok.fresh (Nat.le_refl _))
theorem va{K:W.Frag}{a:Addr}{xs:List V}{g:TG}{tb:TS}{D:CI}{σ:St}{H:Hp}(Pv:Nat->St->Hp->Prop)(h0:Pv 0 σ H)(hl:∀i σ H,i≤xs.length->Pv i σ H->SqL K H a xs)
  (hs:∀i x σ H,i<xs.length->xs[xs.length - 1 - i]? = some x->Pv i σ H->g x σ H fun σ2 H2=>tb { D with nx:=Pv (i+1),ct:=Pv (i+1),bk:=D.nx } σ2 H2) (hd:∀σ H,Pv xs.length σ H->D.nx σ H) :
  ∃W:Nat->Nat->St->Hp->Prop,(∃m,W 0 m σ H)∧∀i m σ H,W i m σ H ->
   ((ItR K a xs.length).stop i H∧D.nx σ H)∨((ItR K a xs.length).go i H∧∃N:St->Hp->Prop,(∀σ' H',N σ' H'->∃m',m'<m∧W (i+1) m' σ' H')∧∀x H',(ItR K a xs.length).yld i H x H'->g x σ H' fun σ2 H2=>tb { D with nx:=N,ct:=N,bk:=D.nx } σ2 H2):=by
 refine⟨fun i m σ H=>m=xs.length - i∧i≤xs.length∧Pv i σ H,⟨_,rfl,Nat.zero_le _,h0⟩,?_⟩;rintro i m σ H ⟨rfl,hi,p⟩;have q:=hl i σ H hi p
 by_cases hlt:i<xs.length
 ·refine .inr ⟨⟨xs,xs[xs.length - 1 - i],q,rfl,hlt,List.getElem?_eq_getElem (by omega)⟩,Pv (i+1),fun σ' H' p'=>⟨xs.length - (i+1),by omega,rfl,hlt,p'⟩,fun x H' ⟨e,y⟩=>?_⟩
  subst e;exact hs i x σ _ hlt (y xs q) p
 ·have e:i=xs.length:=by omega
  subst e;exact .inl ⟨rfl,hd σ H p⟩
end L2
namespace L2
open PySem PySem.Spec PyProof.Rows
theorem kL{α:Type}{K:W.Frag}{a:Addr}{xs:List V}{es:List α}{fv:List (Str×Nat)}{g:TG}{tc:TT}{te:TE}{σ:St}{H1:Hp}{Q:VK}{k:Nat}(hD:H1 a=some (.lst xs))(hlen:xs.length<1000)(R:α->V->Prop)(pr:Paired R es xs)(P:α->Bool)
  (hs:∀e x H2 (τ:St) (Kc:VK) (Kn:Hp->Prop),e∈es->R e x->Same H1 H2->τ.length=k->(P e=true->∀H4,Same H2 H4->Kc x H4)->(P e=false->∀H4,Same H2 H4->Kn H4) ->
   g x (τ++fvs fv σ) H2 fun σ2 H4=>(∃τ':St,τ'.length=k∧σ2=τ'++fvs fv σ)∧tc σ2 H4 fun b H5=>if b=true then te σ2 H5 Kc else Kn H5)
  (hd:∀l ys H',H1 l=none->Same H1 H'->H' l=some (.lst ys)->Paired R (es.filter P) ys->Q (.ref l) H'):fN (Itl K a) k fv g tc te σ H1 Q:=by
 intro l hl;have ll:=Paired.length pr;have la:l≠a:=fun z=>by rw[z,hD]at hl;cases hl
 have gp:∀{l:List α} {m:List V},Paired R l m->∀(i:Nat) (b:V),m[i]? = some b->∃a,l[i]? = some a∧R a b:=by
  intro l m p
  induction p with
  | nil=>intro i a e;simp at e
  | cons h r ih =>
   intro i a e;cases i with
   | zero=>simp at e;subst e;exact⟨_,rfl,h⟩
   | succ j=>exact ih j a (by simpa using e)
 refine⟨fun i m acc H2=>m=xs.length - i∧i≤xs.length∧acc.length≤i∧Same H1 H2∧H2 l=some (.lst acc)∧Paired R ((es.take i).filter P) acc,⟨_,rfl,Nat.zero_le _,Nat.le_refl _,Same.new hl,upd_same,.nil⟩,?_⟩;rintro i m acc H2 ⟨rfl,hi,e1,sm,e3,hr⟩;refine⟨e3,bC (by omega),?_⟩
 by_cases hlt:i<xs.length
 ·refine .inr ⟨⟨xs,xs[i],SqL.of (sm _ _ hD),List.getElem?_eq_getElem hlt⟩,fun x H3 y τ hτ=>?_⟩
  obtain⟨rfl,e⟩:=y;have hx:=e xs (SqL.of (sm _ _ hD));obtain⟨ee,he,hre⟩:=gp pr i x hx;have tk:es.take (i+1)=es.take i++[ee]:=by rw[List.take_add_one,he];rfl
  refine hs ee x H3 τ _ _ (List.mem_of_getElem? he) hre sm hτ (fun hsel H4 s4=>⟨s4 _ _ e3,xs.length - (i+1),by omega,rfl,hlt,by simp;exact e1,(sm.trans s4).upd hl,upd_same,?_⟩) fun hsel H4 s4=>⟨xs.length - (i+1),by omega,rfl,hlt,by omega,sm.trans s4,s4 _ _ e3,?_⟩
  ·rw[tk,List.filter_append,List.filter_cons,hsel]
   exact Paired.snoc hr hre
  ·rw[tk,List.filter_append,List.filter_cons,hsel]
   simp only[Bool.false_eq_true,if_false,List.filter_nil,List.append_nil];exact hr
 ·have e:i=xs.length:=by omega
  subst e;rw[List.take_of_length_le (by omega)]at hr;exact .inl ⟨⟨xs,SqL.of (sm _ _ hD),Nat.le_refl _⟩,hd l acc H2 hl sm e3 hr⟩
end L2
namespace L2
open PySem PySem.Spec PyProof.Rows
theorem jk(n:Nat):sliceRange ((n:Int) - 1) (-1) (-1)=(List.range n).map fun k=>n - 1 - k:=by
 unfold sliceRange;have e:(if ((-1:Int)>0) then (if (n:Int) - 1 < -1 then (-1 - ((n:Int) - 1) + -1 - 1) / -1 else 0) else (if (n:Int) - 1 > -1 then ((n:Int) - 1 - -1 - -1 - 1) / - -1 else 0)).toNat=n:=by
  rw[if_neg (by decide)]
  split
  ·rw[show - (-1:Int)=1 from rfl,Int.ediv_one]
   omega
  ·omega
 show List.map (fun k:Nat=>((n:Int) - 1 + -1*(k:Int)).toNat) (List.range (if ((-1:Int)>0) then (if (n:Int) - 1 < -1 then (-1 - ((n:Int) - 1) + -1 - 1) / -1 else 0) else (if (n:Int) - 1 > -1 then ((n:Int) - 1 - -1 - -1 - 1) / - -1 else 0)).toNat)=_
 rw[e];refine List.map_congr_left fun k _=>?_;omega
theorem jS(its:List Value):slicePick its.toArray none none (some (-1))=its.reverse.toArray:=by
 unfold slicePick;have b:sliceBounds none none (some (-1)) its.toArray.size=((its.length:Int) - 1,-1,-1):=by
  unfold sliceBounds;simp
 rw[b];show(List.filterMap (fun x=>its.toArray[x]?) (sliceRange ((its.length:Int) - 1) (-1) (-1))).toArray=_;rw[jk]
 congr 1
 have key:∀(l:List Value),List.filterMap (fun x=>l[x]?) ((List.range l.length).map fun k=>l.length - 1 - k)=l.reverse:=by
  intro l;have e2:(List.range l.length).map (fun k=>l.length - 1 - k)=(List.range l.length).reverse:=by
   refine List.ext_getElem? fun i=>?_
   by_cases hi:i<l.length
   ·rw[List.getElem?_map,List.getElem?_range hi,List.getElem?_reverse (by simpa using hi),List.length_range,List.getElem?_range (by omega)]
    rfl
   ·rw[List.getElem?_eq_none (by simp;omega),List.getElem?_eq_none (by simp;omega)]
  rw[e2,List.filterMap_reverse]
  congr 1
  have this:∀(l:List Value),List.filterMap (fun x=>l[x]?) (List.range l.length)=l:=by
   intro l;have h:∀n,n≤l.length->List.filterMap (fun x=>l[x]?) (List.range n)=l.take n:=by
    intro n
    induction n with
    | zero=>intro _;rfl
    | succ n ih =>
     intro hn;rw[List.range_succ,List.filterMap_append,ih (by omega),List.take_succ]
     congr 1
   rw[h _ (Nat.le_refl _),List.take_length]
  exact this l
 have k2:=key its;simpa using k2
section
variable {X:Cx} {e:Expr} {te:TE} {st:Expr} {ts:TO} {pos p2:Pos}
def xk(K:W.Frag)(te:TE)(ts:TO):TE:=fun σ H Q=>te σ H fun x H1=>ts σ H1 fun o H2=>o=some (-1)∧∃a xs,x = .ref a∧SqL K H2 a xs∧∀p H3,Same H2 H3->H3 p=some (.lst xs.reverse)->H2 p=none->Q (.ref p) H3
theorem qD(he:PE X e te)(hs:PO X (some st) ts):PE X (.Subscript e (.Slice none none (some st) p2) pos) (xk X.K te ts):=by
 intro pins s σ H Q I h;refine Subscript_ (thn (he pins s σ H _ I h) fun v s1 ⟨x,H1,I1,r1,q1⟩=>?_);refine wpAny_Slice ?_;rw[evalPart_none];refine wpAny_pure ?_;refine wpAny_pure ?_;refine thn (hs pins s1 σ H1 _ I1 q1) fun vs s3 ⟨o,H3,I3,ps,q3⟩=>?_;obtain⟨rfl,a,xs,rfl,hx,q⟩:=q3;have I4:yI X pins σ H3 { s3 with heap:=s3.heap.push { cls:=.type "slice",data:=.fields #[.none,.none,vs] } }:=I3.kept (t':=s3.toks) fun b ob q=>Heap.get?_push_of_some _ q;cases r1;obtain⟨its,r,ht,hz⟩:=I4.list hx;show wpAny (model X.prog X.w) X.A (subscriptTail e (.Slice none none (some st) p2) (.ref a) (.ref s3.heap.objs.size)) (EP X pins σ Q) X.xe { s3 with heap:=s3.heap.push { cls:=.type "slice",data:=.fields #[.none,.none,vs] } }
 refine tail_any (ops:=[.ref a,.ref s3.heap.objs.size]) ht.isList.typeIs slot_list_getitem.lookup ?_ (by with_unfolding_all rfl);have hlen:=r.length;refine wpAny_getItem_list_slice ht.isList (Heap.IsSliceOf.new ..) .none .none ps (by decide) ?_ (by rw[List.size_toArray] <;> omega);rw[jS];have hf:=I4.hok.fresh (Nat.le_refl _);refine⟨.ref _,upd H3 _ (.lst xs.reverse),I4.laid (fun b ob q=>Heap.get?_push_of_some _ q) (Nat.le_refl _) ?_,rfl,q _ _ (Same.new hf) upd_same hf⟩;exact⟨by rw[List.length_reverse];exact hz,_,0,r.reverse,Heap.get?_push_size _ rfl⟩
end
end L2
namespace Sp5
open PySem PySem.Spec L2 Mth Sp1 Sp2 Sp3 Sp24
structure Ei(T a A:Int):Prop where
 nn:0≤A
 lo:A*A≤T*a
 hi:T*a<(A+1)*(A+1)
theorem xw{x y:Int}(hx:0≤x)(h:x<y):x*x<y*y:=by
 have h1:x*x≤y*x:=Int.mul_le_mul_of_nonneg_right (by omega) hx;have h2:y*x<y*y:=Int.mul_lt_mul_of_pos_left h (by omega);omega
theorem gn{x y:Int}(hx:0≤x)(h:x≤y):x*x≤y*y:=Int.mul_le_mul h h hx (by omega)
theorem Ei.uniq{T a A B:Int}(h:Ei T a A)(k:Ei T a B):A=B:=by
 have h1:A≤B:=by
  by_cases z:A≤B
  ·exact z
  ·have:=gn (x:=B+1) (y:=A) (by have:=k.nn;omega) (by omega)
   have:=k.hi;have:=h.lo;omega
 have h2:B≤A:=by
  by_cases z:B≤A
  ·exact z
  ·have:=gn (x:=A+1) (y:=B) (by have:=h.nn;omega) (by omega)
   have:=h.hi;have:=k.lo;omega
 omega
section
variable {S M a c A C v:Int}
end
end Sp5
namespace Sp5
open PySem PySem.Spec L2 Mth Sp1 Sp2 Sp3 Sp24
theorem eX{x:Int}(h:0<x):sg x=1:=by unfold sg;rw[if_pos h]
theorem fS{x:Int}(h:x<0):sg x = -1:=by unfold sg;rw[if_neg (by omega),if_pos h]
theorem sw{x:Int}(h:x=0):sg x=0:=by subst h;rfl
theorem eM(x:Int):sg (-x) = -sg x:=by
 rcases Int.lt_trichotomy x 0 with h|h|h
 ·rw[fS h,eX (by omega)];rfl
 ·subst h;rfl
 ·rw[eX h,fS (by omega)]
theorem dE{x:Int}(h:0≤x):ssq x=x*x:=by unfold ssq;rw[if_neg (by omega)]
theorem dH{x:Int}(h:x<0):ssq x = -(x*x):=by unfold ssq;rw[if_pos h,Int.mul_neg]
section
variable {S M a c A C w:Int}
end
end Sp5
namespace Sp6
open PySem PySem.Spec L2 Mth Sp1 Sp2 Sp3 Sp24 Sp5
def sh:Nat->Int->Int->Int->Int->Option (List Int)
 | 0,_,_,_,_=>none
 | n+1,lo,hi,b,l=>if lo / b*b=lo then some [lo / b] else if (lo / b+1)*l≤hi then some [lo / b+1] else (sh n l b (hi - lo / b*l) (lo - lo / b*b)).map (lo / b::·)
theorem o8:∀{n:Nat} {lo hi b l:Int} {ts:List Int},sh n lo hi b l=some ts->sh (n+1) lo hi b l=some ts
 | 0,_,_,_,_,_,h=>by cases h
 | n+1,lo,hi,b,l,ts,h=>by
  unfold sh at h ⊢
  by_cases h1:lo / b*b=lo
  ·rw[if_pos h1]at h ⊢;exact h
  ·rw[if_neg h1]at h ⊢
   by_cases h2:(lo / b+1)*l≤hi
   ·rw[if_pos h2]at h ⊢;exact h
   ·rw[if_neg h2]at h ⊢
    obtain⟨us,hu,rfl⟩:=Option.map_eq_some_iff.mp h;rw[o8 hu];rfl
theorem vI{n m:Nat}{lo hi b l:Int}{ts:List Int}(h:sh n lo hi b l=some ts)(hm:n≤m):sh m lo hi b l=some ts:=by
 induction m with
 | zero=>rw[Nat.le_zero.mp hm]at h;exact h
 | succ m ih =>
  rcases Nat.lt_or_eq_of_le hm with g|g
  ·exact o8 (ih (by omega))
  ·rw[<- g];exact h
theorem uD{n m:Nat}{lo hi b l:Int}{ts us:List Int}(h:sh n lo hi b l=some ts)(k:sh m lo hi b l=some us):ts=us:=by
 have a:=vI h (Nat.le_max_left n m);have c:=vI k (Nat.le_max_right n m);rw[a]at c;exact Option.some.inj c
def fr:List Int->Int×Int
 | []=>(0,1)
 | [c]=>(c,1)
 | c::d::r=>(c*(fr (d::r)).1+(fr (d::r)).2,(fr (d::r)).1)
theorem qc{c:Int}{r:List Int}(h:r≠[]):fr (c::r)=(c*(fr r).1+(fr r).2,(fr r).1):=by
 cases r with
 | nil=>exact absurd rfl h
 | cons d r=>rfl
theorem md:∀{n:Nat} {lo hi b l:Int} {ts:List Int},0<b->0<l->lo*l<hi*b->sh n lo hi b l=some ts->ts≠[]∧0<(fr ts).2∧lo*(fr ts).2≤(fr ts).1*b∧(fr ts).1*l≤hi*(fr ts).2∧(fr ts).2≤b∧(fr ts).2≤l∧(0<lo->0<(fr ts).1∧(fr ts).1≤lo∧(fr ts).1≤hi)
 | 0,_,_,_,_,_,_,_,_,h=>by cases h
 | n+1,lo,hi,b,l,ts,hb,hl,hd,h=>by
  unfold sh at h;generalize hq:lo / b=q at h;have m0:=Int.emod_nonneg lo (show b≠0 by omega);have m1:=Int.emod_lt_of_pos lo hb;have m2:q*b+lo % b=lo:=by rw[<- hq];have:=Int.ediv_mul_add_emod lo b;omega
  by_cases h1:q*b=lo
  ·rw[if_pos h1]at h
   cases h;have e1:q*l<hi:=by
    have:q*l*b<hi*b:=by rw[show q*l*b=q*b*l by grind,h1];exact hd
    exact Int.lt_of_mul_lt_mul_right this (by omega)
   refine⟨by simp,by show(0:Int)<1;decide,?_,?_,by show(1:Int)≤b;omega,by show(1:Int)≤l;omega,fun h0=>?_⟩
   ·show lo*1≤q*b
    omega
   ·show q*l≤hi*1
    omega
   ·have q0:0<q:=by
     rcases Int.lt_or_le 0 q with g|g
     ·exact g
     ·have:=Int.mul_nonpos_of_nonpos_of_nonneg g (show 0≤b by omega)
      omega
    have q1:q*1≤q*b:=Int.mul_le_mul_of_nonneg_left (by omega) (by omega);have q2:q*1≤q*l:=Int.mul_le_mul_of_nonneg_left (by omega) (by omega);exact⟨q0,by show q≤lo;omega,by show q≤hi;omega⟩
  ·rw[if_neg h1]at h
   by_cases h2:(q+1)*l≤hi
   ·rw[if_pos h2]at h
    cases h;have e2:(q+1)*b=q*b+b:=by grind
    refine⟨by simp,by show(0:Int)<1;decide,?_,?_,by show(1:Int)≤b;omega,by show(1:Int)≤l;omega,fun h0=>?_⟩
    ·show lo*1≤(q+1)*b
     omega
    ·show(q+1)*l≤hi*1
     omega
    ·have q0:0≤q:=by rw[<- hq];exact Int.ediv_nonneg (by omega) (by omega)
     have q1:q*1≤q*b:=Int.mul_le_mul_of_nonneg_left (by omega) q0;have q2:(q+1)*1≤(q+1)*l:=Int.mul_le_mul_of_nonneg_left (by omega) (by omega);exact⟨by show 0<q+1;omega,by show q+1≤lo;omega,by show q+1≤hi;omega⟩
   ·rw[if_neg h2]at h
    obtain⟨us,hu,rfl⟩:=Option.map_eq_some_iff.mp h;have e2:(q+1)*l=q*l+l:=by grind
    have hh:0<hi - q*l:=by
     have a1:q*b*l<lo*l:=Int.mul_lt_mul_of_pos_right (by omega) hl;have a2:q*l*b<hi*b:=by rw[show q*l*b=q*b*l by grind];omega
     have:=Int.lt_of_mul_lt_mul_right a2 (by omega);omega
    have hlr:0<lo - q*b:=by omega
    have hdet:l*(lo - q*b)<b*(hi - q*l):=by
     have e3:l*(lo - q*b)=lo*l - q*b*l:=by grind
     have e4:b*(hi - q*l)=hi*b - q*b*l:=by grind
     omega
    obtain⟨i1,i2,i3,i4,i5,i6,i7⟩:=md hh hlr hdet hu;obtain⟨j1,j2,j3⟩:=i7 hl;rw[qc i1];generalize (fr us).1=t at *;generalize (fr us).2=u at *;refine⟨by simp,j1,?_,?_,j3,j2,fun h0=>?_⟩
    ·show lo*t≤(q*t+u)*b
     have e5:(q*t+u)*b=q*b*t+b*u:=by grind
     have e6:t*(lo - q*b)=lo*t - q*b*t:=by grind
     omega
    ·show(q*t+u)*l≤hi*t
     have e5:(q*t+u)*l=q*l*t+l*u:=by grind
     have e6:t*(hi - q*l)=hi*t - q*l*t:=by grind
     omega
    ·have q0:0≤q:=by rw[<- hq];exact Int.ediv_nonneg (by omega) (by omega)
     have p0:0≤q*t:=Int.mul_nonneg q0 (by omega);have p1:q*t≤q*b:=Int.mul_le_mul_of_nonneg_left j3 q0;have p2:q*t≤q*l:=Int.mul_le_mul_of_nonneg_left j2 q0;exact⟨by show 0<q*t+u;omega,by show q*t+u≤lo;omega,by show q*t+u≤hi;omega⟩
theorem st{lo hi b l:Int}(hb:0<b)(hl:0<l)(hd:lo*l<hi*b)(h1:¬lo / b*b=lo)(h2:¬(lo / b+1)*l≤hi) :
  (0<hi - lo / b*l∧hi - lo / b*l<l)∧(0<lo - lo / b*b∧lo - lo / b*b<b)∧l*(lo - lo / b*b)<b*(hi - lo / b*l):=by
 have m0:=Int.emod_nonneg lo (show b≠0 by omega);have m1:=Int.emod_lt_of_pos lo hb;have m2:lo / b*b+lo % b=lo:=by have:=Int.ediv_mul_add_emod lo b;omega
 generalize lo / b=q at *;have e2:(q+1)*l=q*l+l:=by grind
 have hh:0<hi - q*l:=by
  have a1:q*b*l<lo*l:=Int.mul_lt_mul_of_pos_right (by omega) hl;have a2:q*l*b<hi*b:=by rw[show q*l*b=q*b*l by grind];omega
  have:=Int.lt_of_mul_lt_mul_right a2 (by omega);omega
 refine⟨⟨hh,by omega⟩,⟨by omega,by omega⟩,?_⟩;have e3:l*(lo - q*b)=lo*l - q*b*l:=by grind
 have e4:b*(hi - q*l)=hi*b - q*b*l:=by grind
 omega
structure Bd(N:Int)(ts:List Int):Prop where
 f:∀j,j<ts.length->(-N≤(fr (ts.drop j)).1∧(fr (ts.drop j)).1≤N)∧0<(fr (ts.drop j)).2∧(fr (ts.drop j)).2≤N
 c:∀x∈ts,-N≤x∧x≤N
theorem wA{N lo hi b l t u:Int}(hb:0<b)(hl:0<l)(hu:0<u)(ub:u≤b)(ul:u≤l)(h1:lo*u≤t*b)(h2:t*l≤hi*u)(lN:-N≤lo)(hN:hi≤N)(N0:0≤N):-N≤t∧t≤N:=by
 constructor
 ·refine Int.le_of_mul_le_mul_right (a:=b) ?_ hb
  have a1:-N*u≤lo*u:=Int.mul_le_mul_of_nonneg_right lN (by omega);have a2:N*u≤N*b:=Int.mul_le_mul_of_nonneg_left ub N0;have e1:-N*u = -(N*u):=by grind
  have e2:-N*b = -(N*b):=by grind
  omega
 ·refine Int.le_of_mul_le_mul_right (a:=l) ?_ hl
  have a1:hi*u≤N*u:=Int.mul_le_mul_of_nonneg_right hN (by omega);have a2:N*u≤N*l:=Int.mul_le_mul_of_nonneg_left ul N0;omega
theorem wV{N lo b:Int}(hb:0<b)(h1:-N≤lo)(h2:lo≤N)(N0:0≤N):-N≤lo / b∧lo / b≤N:=by
 constructor
 ·refine Int.le_ediv_of_mul_le hb ?_
  have:N*1≤N*b:=Int.mul_le_mul_of_nonneg_left (by omega) N0;have e2:-N*b = -(N*b):=by grind
  omega
 ·have:=Int.ediv_le_ediv hb h2
  have a:N / b≤N:=Int.ediv_le_self b N0;omega
theorem vJ:∀{n:Nat} {N lo hi b l:Int} {ts:List Int},0<b->0<l->lo*l<hi*b->(-N≤lo∧lo≤N)->(-N≤hi∧hi≤N)->b≤N->l≤N->sh n lo hi b l=some ts->Bd (N+1) ts
 | 0,_,_,_,_,_,_,_,_,_,_,_,_,_,h=>by cases h
 | n+1,N,lo,hi,b,l,ts,hb,hl,hd,hlo,hhi,bN,lN,h=>by
  obtain⟨i1,i2,i3,i4,i5,i6,_⟩:=md hb hl hd h;have top:(-(N+1)≤(fr ts).1∧(fr ts).1≤N+1)∧0<(fr ts).2∧(fr ts).2≤N+1:=by
   have:=wA (N:=N) hb hl i2 i5 i6 i3 i4 hlo.1 hhi.2 (by omega);exact⟨⟨by omega,by omega⟩,i2,by omega⟩
  have hq:=wV hb hlo.1 hlo.2 (show 0≤N by omega);unfold sh at h
  by_cases h1:lo / b*b=lo
  ·rw[if_pos h1]at h
   cases h;refine⟨fun j hj=>?_,fun x hx=>?_⟩
   ·have:j=0:=by simpa using hj
    subst this;exact top
   ·rw[List.mem_singleton.mp hx]
    omega
  ·rw[if_neg h1]at h
   by_cases h2:(lo / b+1)*l≤hi
   ·rw[if_pos h2]at h
    cases h;refine⟨fun j hj=>?_,fun x hx=>?_⟩
    ·have:j=0:=by simpa using hj
     subst this;exact top
    ·rw[List.mem_singleton.mp hx]
     omega
   ·rw[if_neg h2]at h
    obtain⟨us,hu,rfl⟩:=Option.map_eq_some_iff.mp h;obtain⟨⟨s1,s2⟩,⟨s3,s4⟩,s5⟩:=st hb hl hd h1 h2;have ih:=vJ (N:=N) s1 s3 s5 ⟨by omega,by omega⟩ ⟨by omega,by omega⟩ (by omega) (by omega) hu;refine⟨fun j hj=>?_,fun x hx=>?_⟩
    ·cases j with
     | zero=>exact top
     | succ j=>exact ih.f j (by simpa using hj)
    ·rcases List.mem_cons.mp hx with rfl|hx
     ·omega
     ·exact ih.c x hx
def flr(m u R:Int):Int:=if m<0 then (if R*R=u then -R else -R - 1) else R
def SF(a0 a1 a2 a3 sc F:Int):Prop:=∃R,Ei 1 (sc*sc*a1*a1*a2) R∧F=(sc*a0+flr a1 (sc*sc*a1*a1*a2) R) / a3
theorem SF.uniq{a0 a1 a2 a3 sc F G:Int}(h:SF a0 a1 a2 a3 sc F)(k:SF a0 a1 a2 a3 sc G):F=G:=by
 obtain⟨R,h1,rfl⟩:=h;obtain⟨S,k1,rfl⟩:=k;rw[h1.uniq k1]
theorem gm{x y:Int}(h:x≤y):ssq x≤ssq y:=by
 rcases Int.lt_or_le x 0 with hx|hx
 ·rcases Int.lt_or_le y 0 with hy|hy
  ·rw[dH hx,dH hy]
   have:=gn (x:=-y) (y:=-x) (by omega) (by omega);have e1:-y * -y=y*y:=by grind
   have e2:-x * -x=x*x:=by grind
   omega
  ·rw[dH hx,dE hy]
   have a:=Int.mul_nonneg hy hy;have b:0≤x*x:=by rw[show x*x = -x * -x by grind];exact Int.mul_nonneg (by omega) (by omega)
   omega
 ·rw[dE hx,dE (by omega)]
  exact gn hx h
theorem iS{k x:Int}(hk:0≤k):ssq (k*x)=k*k*ssq x:=by
 rcases Int.lt_or_le x 0 with hx|hx
 ·rcases Int.lt_or_eq_of_le hk with h|h
  ·rw[dH (Int.mul_neg_of_pos_of_neg h hx),dH hx];grind
  ·subst h;simp[ssq]
 ·rw[dE (Int.mul_nonneg hk hx),dE hx];grind
theorem vX{W m u R:Int}(hu:0≤u)(r:Ei 1 (m*m*u) R)(h:W+flr m (m*m*u) R+1≤0):ssq W+ssq m*u<0:=by
 have lo:=r.lo;have hi:=r.hi;have nn:=r.nn;rw[Int.one_mul]at lo hi;unfold flr at h
 by_cases hm:m<0
 ·rw[if_pos hm]at h
  have em:ssq m*u = -(m*m*u):=by rw[dH hm];grind
  rw[em]
  by_cases hx:R*R=m*m*u
  ·rw[if_pos hx]at h
   have a:ssq W≤ssq (R - 1):=gm (by omega);rcases Int.lt_or_le (R - 1) 0 with g|g
   ·rw[dH g]at a
    have:R=0:=by omega
    subst this;simp at a hx;omega
   ·rw[dE g]at a
    have:=xw (x:=R - 1) (y:=R) g (by omega);omega
  ·rw[if_neg hx]at h
   have a:ssq W≤ssq R:=gm (by omega);rw[dE nn]at a;omega
 ·rw[if_neg hm]at h
  have em:ssq m*u=m*m*u:=by rw[dE (by omega)]
  rw[em];have a:ssq W≤ssq (-(R+1)):=gm (by omega);rw[dH (by omega:-(R+1)<0)]at a;have e1:-(R+1) * -(R+1)=(R+1)*(R+1):=by grind
  omega
theorem SF.lt{a0 a1 a2 a3 sc F:Int}(h:SF a0 a1 a2 a3 sc F)(h2:0≤a2)(h3:0<a3)(hs:0<sc):ssq (a0*sc - (F+1)*a3)+ssq (a1*sc)*a2<0:=by
 obtain⟨R,r,rfl⟩:=h;have e:sc*sc*a1*a1*a2=a1*sc*(a1*sc)*a2:=by grind
 rw[e]at r ⊢;have hf:flr a1 (a1*sc*(a1*sc)*a2) R=flr (a1*sc) (a1*sc*(a1*sc)*a2) R:=by
  unfold flr
  by_cases g:a1<0
  ·rw[if_pos g,if_pos (Int.mul_neg_of_neg_of_pos g hs)]
  ·rw[if_neg g,if_neg (by have:=Int.mul_nonneg (show 0≤a1 by omega) (show 0≤sc by omega);omega)]
 rw[hf];refine vX h2 r ?_;generalize flr (a1*sc) (a1*sc*(a1*sc)*a2) R=f;have q:=Int.lt_ediv_add_one_mul_self (sc*a0+f) h3;have e2:sc*a0=a0*sc:=Int.mul_comm _ _;omega
theorem pO{a0 a1 a2 a3 sc L t u:Int}(hs:0<sc)(hu:0<u)(h3:0<a3)(h:ssq (a0*sc - L*a3)+ssq (a1*sc)*a2<0)(hL:L*u≤t*sc):ssq (a0*u - t*a3)+ssq (a1*u)*a2<0:=by
 have e1:ssq (a1*u*sc)=u*u*ssq (a1*sc):=by rw[show a1*u*sc=u*(a1*sc) by grind,iS (by omega)]
 have e2:ssq (a1*u*sc)=sc*sc*ssq (a1*u):=by rw[show a1*u*sc=sc*(a1*u) by grind,iS (by omega)]
 have e3:ssq ((a0*u - t*a3)*sc)=sc*sc*ssq (a0*u - t*a3):=by rw[Int.mul_comm,iS (by omega)]
 have m:(a0*u - t*a3)*sc≤u*(a0*sc - L*a3):=by
  have:=Int.mul_le_mul_of_nonneg_right hL (show 0≤a3 by omega);have f1:(a0*u - t*a3)*sc=a0*u*sc - t*sc*a3:=by grind
  have f2:u*(a0*sc - L*a3)=a0*u*sc - L*u*a3:=by grind
  omega
 have m2:=gm m;rw[e3,iS (k:=u) (by omega)]at m2;have pos:0<sc*sc:=Int.mul_pos hs hs;have pu:0<u*u:=Int.mul_pos hu hu;have key:sc*sc*(ssq (a0*u - t*a3)+ssq (a1*u)*a2)<0:=by
  have g1:sc*sc*(ssq (a0*u - t*a3)+ssq (a1*u)*a2)=sc*sc*ssq (a0*u - t*a3)+sc*sc*ssq (a1*u)*a2:=by grind
  rw[g1,<- e2,e1];have g2:u*u*(ssq (a0*sc - L*a3)+ssq (a1*sc)*a2)<0:=Int.mul_neg_of_pos_of_neg pu h;have g3:u*u*(ssq (a0*sc - L*a3)+ssq (a1*sc)*a2)=u*u*ssq (a0*sc - L*a3)+u*u*ssq (a1*sc)*a2:=by grind
  omega
 rcases Int.lt_or_le (ssq (a0*u - t*a3)+ssq (a1*u)*a2) 0 with g|g
 ·exact g
 ·have:=Int.mul_nonneg (show 0≤sc*sc by omega) g
  omega
def scl(j:Nat):Int:=2^(2^j)
theorem cP(j:Nat):0<scl j:=Int.pow_pos (by decide)
def Rm(a0 a1 a2 a3 b0 b1 b2 b3:Int)(j:Nat)(F G:Int):Prop:=SF a0 a1 a2 a3 (scl j) F∧SF (-b0) (-b1) b2 b3 (scl j) G
def Wi(a0 a1 a2 a3 b0 b1 b2 b3 t u:Int):Prop:=∃(j:Nat) (F G:Int) (ts:List Int) (m:Nat),Rm a0 a1 a2 a3 b0 b1 b2 b3 j F G∧F+1+2≤-G - 1∧(∀i,i<j->∀F' G',Rm a0 a1 a2 a3 b0 b1 b2 b3 i F' G'->¬F'+1+2≤-G' - 1)∧sh m (F+1) (-G - 1) (scl j) (scl j)=some ts∧AR (fr ts).1 (fr ts).2 t u
theorem Wi.uniq{a0 a1 a2 a3 b0 b1 b2 b3 t u t' u':Int}(h:Wi a0 a1 a2 a3 b0 b1 b2 b3 t u)(k:Wi a0 a1 a2 a3 b0 b1 b2 b3 t' u'):t=t'∧u=u':=by
 obtain⟨j,F,G,ts,m,h1,h2,h3,h4,h5⟩:=h;obtain⟨j',F',G',ts',m',k1,k2,k3,k4,k5⟩:=k;have e:j=j':=by
  rcases Nat.lt_trichotomy j j' with g|g|g
  ·exact absurd h2 (k3 j g F G h1)
  ·exact g
  ·exact absurd k2 (h3 j' g F' G' k1)
 subst e;have eF:=h1.1.uniq k1.1;have eG:=h1.2.uniq k1.2;subst eF eG;have et:=uD h4 k4;subst et;obtain⟨_,pos,_⟩:=md (cP j) (cP j) (Int.mul_lt_mul_of_pos_right (show F+1 < -G - 1 by omega) (cP j)) h4;refine eR h5.low k5.low ?_;have e1:=h5.eq;have e2:=k5.eq;refine Int.eq_of_mul_eq_mul_right (a:=(fr ts).2) (by omega) ?_;have f1:t*u'*(fr ts).2=t*(fr ts).2*u':=by grind
 have f2:t'*u*(fr ts).2=t'*(fr ts).2*u:=by grind
 rw[f1,f2,<- e1,<- e2]
 grind
theorem Wi.mid{a0 a1 a2 a3 b0 b1 b2 b3 t u:Int}(h:Wi a0 a1 a2 a3 b0 b1 b2 b3 t u)(a2n:0≤a2)(a3p:0<a3)(b2n:0≤b2)(b3p:0<b3):ssq (a0*u - t*a3)+ssq (a1*u)*a2<0∧ssq (t*b3 - b0*u)+ssq (-b1*u)*b2<0:=by
 obtain⟨j,F,G,ts,m,h1,h2,h3,h4,h5⟩:=h;have sp:=cP j;obtain⟨_,pos,i3,i4,_⟩:=md sp sp (Int.mul_lt_mul_of_pos_right (show F+1 < -G - 1 by omega) sp) h4;have up:=h5.low.pos;have e:=h5.eq;generalize (fr ts).1=x at *;generalize (fr ts).2=y at *;constructor
 ·refine pO (sc:=scl j) (L:=F+1) sp up a3p (h1.1.lt a2n a3p sp) ?_
  refine Int.le_of_mul_le_mul_right (a:=y) ?_ pos;have q:=Int.mul_le_mul_of_nonneg_right i3 (show 0≤u by omega);have f1:(F+1)*u*y=(F+1)*y*u:=by grind
  have f2:t*scl j*y=x*scl j*u:=by
   rw[show t*scl j*y=t*y*scl j by grind,<- e]
   grind
  omega
 ·have q:=pO (a0:=-b0) (a1:=-b1) (a2:=b2) (a3:=b3) (sc:=scl j) (L:=G+1) (t:=-t) sp up b3p (h1.2.lt b2n b3p sp) (by
   refine Int.le_of_mul_le_mul_right (a:=y) ?_ pos;have q:=Int.mul_le_mul_of_nonneg_right i4 (show 0≤u by omega);have f1:(G+1)*u*y = -((-G - 1)*y*u):=by grind
   have f2:-t*scl j*y = -(x*scl j*u):=by
    rw[show -t*scl j*y = -(t*y*scl j) by grind,<- e]
    grind
   omega)
  have f:-b0*u - -t*b3=t*b3 - b0*u:=by grind
  rw[f]at q;exact q
end Sp6
namespace Sp5
open PySem PySem.Spec L2 Mth Sp1 Sp2 Sp3 Sp24
theorem gk(x:Int):ssq (-x) = -ssq x:=by
 rcases Int.lt_trichotomy x 0 with h|h|h
 ·rw[dH h,dE (x:=-x) (by omega)];grind
 ·subst h;rfl
 ·rw[dE (x:=x) (by omega),dH (x:=-x) (by omega)];grind
theorem hO(w m u n l:Int):cr (-w) n l (-m) u = -cr w m u (-n) l:=by
 unfold cr swr;rw[gk m,gk n,eM w,show ssq n*l + -ssq m*u = -(ssq m*u + -ssq n*l) by grind,eM (ssq m*u + -ssq n*l),Int.neg_mul_neg,show -w * -w - n*n*l - -m * -m*u=w*w - m*m*u - -n * -n*l by grind,show -2*n * -m = -2*m * -n by grind,Int.mul_comm l u]
 by_cases g:sg w*sg (ssq m*u + -ssq n*l)≥0
 ·rw[if_pos g,if_pos g,show -sg w + -sg (ssq m*u + -ssq n*l) = -(sg w+sg (ssq m*u + -ssq n*l)) by omega,eM]
 ·rw[if_neg g,if_neg g,Int.neg_mul]
theorem eN(a0 a1 a2 a3 b0 b1 b2 b3:Int):ro b0 b1 b2 b3 a0 a1 a2 a3=0 - ro a0 a1 a2 a3 b0 b1 b2 b3:=by
 unfold ro;have h:=hO (a0*b3 - b0*a3) (a1*b3) a2 (b1*a3) b2;rw[Int.neg_mul a1 b3,Int.neg_mul b1 a3,show b0*a3 - a0*b3 = -(a0*b3 - b0*a3) by omega,h];omega
theorem kg(W m u:Int):cr W m u 0 0=if sg W*sg (ssq m*u)≥0 then sg (sg W+sg (ssq m*u)) else sg W*sg (W*W - m*m*u):=by
 unfold cr swr;have e0:ssq (0:Int)=0:=rfl;have sq:∀e:Int,sg (ssq e)=sg e:=fun e=>by
  rcases Int.lt_trichotomy e 0 with h|h|h
  ·rw[dH h,fS h,fS (by have:=Int.mul_pos_of_neg_of_neg h h;omega)]
  ·subst h;rfl
  ·rw[dE (by omega),eX h,eX (Int.mul_pos h h)]
 have e1:-2*m*0=0:=by omega
 have e2:ssq m*u+0*0=ssq m*u:=by omega
 have e3:W*W - m*m*u - 0*0*0=W*W - m*m*u:=by omega
 rw[e1,e0,e2,e3,show ssq (W*W - m*m*u)+0*(u*0)=ssq (W*W - m*m*u) by omega,sq]
theorem pJ{W w U:Int}(hw:0<w)(hU:0≤U):(cr W w U 0 0<0↔W<0∧w*w*U<W*W)∧(cr W w U 0 0=0↔W≤0∧W*W=w*w*U)∧(0<cr W w U 0 0↔0<W∨W*W<w*w*U):=by
 rw[kg,dE (show 0≤w by omega)];have ww:0<w*w:=Int.mul_pos hw hw;have wu:0≤w*w*U:=Int.mul_nonneg (by omega) hU;generalize w*w*U=V at *;have WW:0<W->0<W*W:=fun h=>Int.mul_pos h h;have WN:W<0->0<W*W:=fun h=>Int.mul_pos_of_neg_of_neg h h;rcases Int.lt_trichotomy W 0 with h|h|h
 ·have k:=WN h
  rw[fS h];rcases Int.lt_or_eq_of_le wu with g|g
  ·rw[eX g,if_neg (by decide)]
   rcases Int.lt_trichotomy (W*W - V) 0 with d|d|d
   ·rw[fS d];omega
   ·rw[sw d];omega
   ·rw[eX d];omega
  ·rw[<- g]
   show(sg (-1+sg 0)<0↔_)∧(sg (-1+sg 0)=0↔_)∧(0<sg (-1+sg 0)↔_);rw[show sg (-1+sg 0) = -1 from rfl];omega
 ·subst h
  rw[show sg 0=0 from rfl,Int.zero_mul,if_pos (by decide),Int.zero_add,Int.zero_mul];rcases Int.lt_or_eq_of_le wu with g|g
  ·rw[eX g,show sg 1=1 from rfl];omega
  ·rw[<- g,show sg (sg 0)=0 from rfl];omega
 ·have k:=WW h
  rw[eX h];rcases Int.lt_or_eq_of_le wu with g|g
  ·rw[eX g,if_pos (by decide),show sg (1+1)=1 from rfl];omega
  ·rw[<- g,show sg 0=0 from rfl,if_pos (by decide),show sg (1+0)=1 from rfl];omega
theorem pK{W w U:Int}(hw:0<w)(hU:0≤U):(0<cr W (-w) U 0 0↔0<W∧w*w*U<W*W)∧(cr W (-w) U 0 0=0↔0≤W∧W*W=w*w*U)∧(cr W (-w) U 0 0<0↔W<0∨W*W<w*w*U):=by
 have k:=pJ (W:=-W) hw hU;have e:cr W (-w) U 0 0 = -cr (-W) w U 0 0:=by
  rw[kg,kg,eM W,dH (show -w<0 by omega),show -w * -w=w*w by grind,show -W * -W=W*W by grind,dE (show 0≤w by omega),Int.neg_mul,eM (w*w*U),Int.neg_mul,Int.mul_neg]
  by_cases g:-(sg W*sg (w*w*U))≥0
  ·rw[if_pos g,if_pos g,show sg W + -sg (w*w*U) = -(-sg W+sg (w*w*U)) by omega,eM]
  ·rw[if_neg g,if_neg g,Int.neg_mul,Int.neg_neg]
 rw[show -W * -W=W*W by grind]at k;rw[e];omega
end Sp5
namespace Sp5
open PySem PySem.Spec L2 Mth Sp1 Sp2 Sp3 Sp24
structure Gv(A B C be x y P L U:Int):Prop where
 pa:0<A
 py:0<y
 pb:be*be=A*C - B*B
 eP:P=B*y
 eL:L=A*y
 eU:U=y*(x*A - y*be*be)
section
variable {A B C be x y P L U:Int}
theorem Gv.kU(g:Gv A B C be x y P L U):U=y*(x*A - (A*C - B*B)*y):=by
 rw[g.eU,show y*(x*A - y*be*be)=y*(x*A - y*(be*be)) by grind,g.pb];grind
theorem k8{k z:Int}(hk:0<k):(0<k*z↔0<z)∧(k*z=0↔z=0)∧(k*z<0↔z<0):=by
 rcases Int.lt_trichotomy z 0 with h|h|h
 ·have:=Int.mul_neg_of_pos_of_neg hk h
  omega
 ·subst h;simp
 ·have:=Int.mul_pos hk h
  omega
theorem Gv.ya(g:Gv A B C be x y P L U):0<y*A:=Int.mul_pos g.py g.pa
theorem cH(p q r s t w:Int):ro p q r s t 0 0 w=cr (p*w - t*s) (q*w) r 0 0:=by
 unfold ro;rw[show -0*s=0 by omega]
theorem Gv.lowE(g:Gv A B C be x y P L U):ro P (-1) U L 1 0 0 1=cr (P - L) (-1) U 0 0:=by rw[cH];congr 1 <;> omega
theorem Gv.lowB(g:Gv A B C be x y P L U):ro P (-1) U L 0 0 0 1=cr P (-1) U 0 0:=by rw[cH];congr 1 <;> omega
theorem Gv.highE(g:Gv A B C be x y P L U):ro P 1 U L 1 0 0 1=cr (P - L) 1 U 0 0:=by rw[cH];congr 1 <;> omega
theorem Gv.highB(g:Gv A B C be x y P L U):ro P 1 U L 0 0 0 1=cr P 1 U 0 0:=by rw[cH];congr 1 <;> omega
theorem qH{W U:Int}(hU:0≤U):(cr W 1 U 0 0<0↔W<0∧U<W*W)∧(cr W 1 U 0 0=0↔W≤0∧W*W=U)∧(0<cr W 1 U 0 0↔0<W∨W*W<U):=by
 have h:=pJ (W:=W) (w:=1) (by decide) hU;rw[Int.one_mul,Int.one_mul]at h;exact h
theorem qI{W U:Int}(hU:0≤U):(0<cr W (-1) U 0 0↔0<W∧U<W*W)∧(cr W (-1) U 0 0=0↔0≤W∧W*W=U)∧(cr W (-1) U 0 0<0↔W<0∨W*W<U):=by
 have h:=pK (W:=W) (w:=1) (by decide) hU;rw[Int.one_mul,Int.one_mul]at h;exact h
def wB(A B C:Int):Int:=if A=0∨B≤0 then C else if B≥A then A - 2*B+C else A*C - B*B
def wC(A B:Int):Int:=if A=0∨B≤0 then 1 else if B≥A then 1 else A
structure Opn(A B C P L U:Int):Prop where
 u:0≤U
 e:¬(0<P - L∧U<(P - L)*(P - L))
 b:¬(P<0∧U<P*P)
theorem Gv.shut(g:Gv A B C be x y P L U)(n:¬(sg U<0∨ro 1 0 0 1 P (-1) U L<0∨ro P 1 U L 0 0 0 1<0)):Opn A B C P L U:=by
 have u:0≤U:=by
  by_cases h:U<0
  ·exact absurd (.inl (by rw[fS h];decide)) n
  ·omega
 refine⟨u,fun h=>n (.inr (.inl ?_)),fun h=>n (.inr (.inr ?_))⟩
 ·rw[eN P (-1) U L 1 0 0 1,g.lowE]
  have:=(qI u).1.mpr h;omega
 ·rw[g.highB]
  exact(qH u).1.mpr h
theorem Gv.shut'(g:Gv A B C be x y P L U)(n:sg U<0∨ro 1 0 0 1 P (-1) U L<0∨ro P 1 U L 0 0 0 1<0):U<0∨(0<P - L∧U<(P - L)*(P - L))∨(P<0∧U<P*P):=by
 by_cases u:U<0
 ·exact .inl u
 have u:0≤U:=by omega
 rcases n with n|n|n
 ·rcases Int.lt_or_eq_of_le u with h|h
  ·rw[eX h]at n;omega
  ·rw[<- h]at n;exact absurd n (by decide)
 ·rw[eN P (-1) U L 1 0 0 1,g.lowE]at n
  exact .inr (.inl ((qI u).1.mp (by omega)))
 ·rw[g.highB]at n
  exact .inr (.inr ((qH u).1.mp n))
def d9(P U L:Int):Int×Int×Int×Int:=if ro P (-1) U L 0 0 0 1<0 then (0,0,0,1) else (P,-1,U,L)
def cZ(P U L:Int):Int×Int×Int×Int:=if ro P 1 U L 1 0 0 1>0 then (1,0,0,1) else (P,1,U,L)
end
end Sp5
namespace Sp5
open PySem PySem.Spec L2 Mth Sp1 Sp2 Sp3 Sp24
abbrev N4:=Int×Int×Int×Int
def ltB(l:N4)(a b:Int):Int:=ro l.1 l.2.1 l.2.2.1 l.2.2.2 a 0 0 b
def gtB(m:N4)(a b:Int):Int:=ro a 0 0 b m.1 m.2.1 m.2.2.1 m.2.2.2
def bL(o:Option (N4×N4))(a b:Int):Bool:=match o with
 | none=>false
 | some (l,m)=>decide (ltB l a b<1) && decide (gtB m a b<1)
def vY(o:Option (N4×N4))(a b:Int):Bool:=match o with
 | none=>false
 | some (l,m)=>decide (ltB l a b = -1) && decide (gtB m a b = -1)
theorem kF(m:N4)(a b:Int):gtB m a b=0 - ltB m a b:=eN _ _ _ _ _ _ _ _
theorem iC{a b:Int}:ltB (0,0,0,1) a b=sg (-a)∧ltB (1,0,0,1) a b=sg (b - a):=by
 have h:∀W:Int,cr W 0 0 0 0=sg W:=fun W=>by
  rw[kg,show ssq 0*0=0 by omega,show sg 0=0 from rfl,Int.mul_zero,if_pos (by decide),Int.add_zero];rcases Int.lt_trichotomy W 0 with h|h|h
  ·rw[fS h];rfl
  ·rw[sw h];rfl
  ·rw[eX h];rfl
 unfold ltB;dsimp only;rw[cH,cH,Int.zero_mul,Int.mul_one,Int.one_mul,h,h];constructor
 ·congr 1;omega
 ·rfl
theorem pd{x:Int}:sg x<1↔x≤0:=by
 rcases Int.lt_trichotomy x 0 with h|h|h
 ·rw[fS h];omega
 ·rw[sw h];omega
 ·rw[eX h];omega
section
variable {A B C be x y P L U a b:Int}
theorem Gv.kt(g:Gv A B C be x y P L U)(a b:Int):(P*b - a*L)*(P*b - a*L) - b*b*U=y*A*((A*a*a - 2*B*a*b+C*b*b)*y - x*(b*b)):=by
 rw[g.kU,g.eP,g.eL];grind
theorem Gv.ct(g:Gv A B C be x y P L U)(a b:Int):((P*b - a*L)*(P*b - a*L)≤b*b*U↔(A*a*a - 2*B*a*b+C*b*b)*y≤x*(b*b))∧((P*b - a*L)*(P*b - a*L)<b*b*U↔(A*a*a - 2*B*a*b+C*b*b)*y<x*(b*b)):=by
 have h:=k8 (z:=(A*a*a - 2*B*a*b+C*b*b)*y - x*(b*b)) g.ya;rw[<- g.kt a b]at h;omega
theorem kh{u v:Int}(h0:0≤u)(h:u≤v):u*u≤v*v:=Int.mul_le_mul h h h0 (by omega)
theorem Gv.lpos(g:Gv A B C be x y P L U):0<L:=by rw[g.eL];exact Int.mul_pos g.pa g.py
theorem kC(b p:Int):b*p*(b*p)=b*b*(p*p):=by grind
theorem Gv.wle(g:Gv A B C be x y P L U)(ha:0≤a):P*b - a*L≤b*P:=by
 have:=Int.mul_nonneg ha (Int.le_of_lt g.lpos);rw[Int.mul_comm P b];omega
theorem Gv.wge(g:Gv A B C be x y P L U)(hab:a≤b):b*(P - L)≤P*b - a*L:=by
 have h:=Int.mul_le_mul_of_nonneg_right hab (Int.le_of_lt g.lpos);rw[Int.mul_sub,Int.mul_comm b P];omega
theorem Gv.low_le(g:Gv A B C be x y P L U)(u0:0≤U)(ha:0≤a)(hb:0<b):(ltB (d9 P U L) a b<1↔¬(0<P*b - a*L∧b*b*U<(P*b - a*L)*(P*b - a*L)))∧(ltB (d9 P U L) a b = -1->P*b - a*L<0∨(P*b - a*L)*(P*b - a*L)<b*b*U):=by
 have bb:0<b*b:=Int.mul_pos hb hb;unfold d9
 by_cases h:ro P (-1) U L 0 0 0 1<0
 ·rw[if_pos h,iC.1]
  rw[g.lowB]at h;have k:=(qI (W:=P) u0).2.2.mp h;have wle:=g.wle (b:=b) ha;generalize P*b - a*L=W at *;have key:W<0∨W*W<b*b*U:=by
   by_cases hw:W<0
   ·exact .inl hw
   ·have hP:¬P<0:=fun z=>by
     have:=Int.mul_neg_of_pos_of_neg hb z;omega
    have k2:P*P<U:=by omega
    have s1:=kh (show 0≤W by omega) wle;rw[kC]at s1;have s2:=Int.mul_lt_mul_of_pos_left k2 bb;exact .inr (by omega)
  refine⟨⟨fun _ ⟨h1,h2⟩=>by omega,fun _=>?_⟩,fun _=>key⟩;exact pd.mpr (by omega)
 ·rw[if_neg h]
  show(ro P (-1) U L a 0 0 b<1↔_)∧(ro P (-1) U L a 0 0 b = -1->_);rw[cH,show -1*b = -b by omega];have k:=pK (W:=P*b - a*L) hb u0;omega
theorem Gv.high_ge(g:Gv A B C be x y P L U)(u0:0≤U)(hab:a≤b)(hb:0<b):(gtB (cZ P U L) a b<1↔¬(P*b - a*L<0∧b*b*U<(P*b - a*L)*(P*b - a*L)))∧(gtB (cZ P U L) a b = -1->0<P*b - a*L∨(P*b - a*L)*(P*b - a*L)<b*b*U):=by
 have bb:0<b*b:=Int.mul_pos hb hb;rw[kF];unfold cZ
 by_cases h:ro P 1 U L 1 0 0 1>0
 ·rw[if_pos h,iC.2]
  rw[g.highE]at h;have k:=(qH (W:=P - L) u0).2.2.mp h;have wge:=g.wge (a:=a) hab;generalize P*b - a*L=W at *;have key:0<W∨W*W<b*b*U:=by
   by_cases hw:0<W
   ·exact .inl hw
   ·have hP:¬0<P - L:=fun z=>by
     have:=Int.mul_pos hb z;omega
    have k2:(P - L)*(P - L)<U:=by omega
    have s1:=kh (u:=-W) (v:=b * -(P - L)) (by omega) (by rw[Int.mul_neg];omega);rw[kC,show -W * -W=W*W by grind,show -(P - L) * -(P - L)=(P - L)*(P - L) by grind]at s1;have s2:=Int.mul_lt_mul_of_pos_left k2 bb;exact .inr (by omega)
  refine⟨⟨fun _ ⟨h1,h2⟩=>by omega,fun _=>?_⟩,fun _=>key⟩;have:0≤sg (b - a):=by
   rcases Int.lt_or_eq_of_le (show 0≤b - a by omega) with z|z
   ·rw[eX z];decide
   ·rw[<- z];decide
  omega
 ·rw[if_neg h]
  show(0 - ro P 1 U L a 0 0 b<1↔_)∧(0 - ro P 1 U L a 0 0 b = -1->_);rw[cH,Int.one_mul];have k:=pJ (W:=P*b - a*L) hb u0;omega
theorem sqx(x:Int):0≤x*x:=by
 rcases Int.le_total 0 x with h|h
 ·exact Int.mul_nonneg h h
 ·exact Int.mul_nonneg_of_nonpos_of_nonpos h h
theorem Gv.far(g:Gv A B C be x y P L U)(n:U<0∨(0<P - L∧U<(P - L)*(P - L))∨(P<0∧U<P*P))(ha:0≤a)(hab:a≤b)(hb:0<b):b*b*U<(P*b - a*L)*(P*b - a*L):=by
 have bb:0<b*b:=Int.mul_pos hb hb;rcases n with n|⟨n1,n2⟩|⟨n1,n2⟩
 ·have h1:=Int.mul_neg_of_pos_of_neg bb n
  have h2:=sqx (P*b - a*L);omega
 ·have wge:=g.wge (a:=a) hab
  have s1:=kh (u:=b*(P - L)) (Int.mul_nonneg (by omega) (by omega)) wge;rw[kC]at s1;have s2:=Int.mul_lt_mul_of_pos_left n2 bb;omega
 ·have wle:=g.wle (b:=b) ha
  have s1:=kh (u:=b * -P) (v:=-(P*b - a*L)) (Int.mul_nonneg (by omega) (by omega)) (by rw[Int.mul_neg];omega);rw[kC,show -P * -P=P*P by grind,show -(P*b - a*L) * -(P*b - a*L)=(P*b - a*L)*(P*b - a*L) by grind]at s1;have s2:=Int.mul_lt_mul_of_pos_left n2 bb;omega
end
end Sp5
namespace L2
open PySem PySem.Spec PyProof.Rows
theorem jj{K:W.Frag}{H H':Hp}{a:Addr}{xs:List V}(h:SqT K H a xs)(s:Same H H'):SqT K H' a xs:=by
 rcases h with(h|⟨o,h⟩)|h
 ·exact .inl (.inl (s _ _ h))
 ·exact .inl (.inr ⟨o,s _ _ h⟩)
 ·exact .inr h
theorem tZ{K:W.Frag}{a:Addr}{xs:List V}{fv:List (Str×Nat)}{te:TE}{σ:St}{H1:Hp}{Qp:Hp->Prop}{l:Addr}(Pv:Nat->List V->Hp->Prop)(h0:Pv 0 [] (upd H1 l (.lst [])))(hp:∀i acc H2,i≤xs.length->Pv i acc H2->SqT K H2 a xs∧H2 l=some (.lst acc)∧acc.length<sizeLine)
  (hs:∀i x acc H2 (Kc:VK),xs[i]? = some x->Pv i acc H2->(∀y H4,H4 l=some (.lst acc)->Pv (i+1) (acc++[y]) (upd H4 l (.lst (acc++[y])))->Kc y H4)->te (some x::fvs fv σ) H2 Kc) (hd:∀acc H2,Pv xs.length acc H2->Qp H2) :
  ∃W:Nat->Nat->List V->Hp->Prop,(∃m,W 0 m [] (upd H1 l (.lst [])))∧∀i m acc H2,W i m acc H2 ->
   H2 l=some (.lst acc)∧acc.length<sizeLine∧(((Itt K a).stop i H2∧Qp H2)∨((Itt K a).go i H2∧∀x H3,(Itt K a).yld i H2 x H3->te (some x::fvs fv σ) H3 fun y H4=>H4 l=some (.lst acc)∧∃m',m'<m∧W (i+1) m' (acc++[y]) (upd H4 l (.lst (acc++[y]))))):=by
 refine⟨fun i m acc H2=>m=xs.length - i∧i≤xs.length∧Pv i acc H2,⟨xs.length,by simp,Nat.zero_le _,h0⟩,?_⟩;rintro i m acc H2 ⟨rfl,hi,p⟩;obtain⟨q1,q2,q3⟩:=hp i acc H2 hi p;refine⟨q2,q3,?_⟩
 by_cases hlt:i<xs.length
 ·refine .inr ⟨⟨xs,xs[i],q1,List.getElem?_eq_getElem hlt⟩,fun x H3 y=>?_⟩
  obtain⟨e1,e2⟩:=y;subst e1;exact hs i x acc _ _ (e2 xs q1) p fun y H4 z1 z2=>⟨z1,xs.length - (i+1),by omega,rfl,hlt,z2⟩
 ·have e:i=xs.length:=by omega
  subst e;exact .inl ⟨⟨xs,q1,Nat.le_refl _⟩,hd acc H2 p⟩
theorem vm{K:W.Frag}{a:Addr}{xs:List V}{fv:List (Str×Nat)}{te:TE}{σ:St}{H1:Hp}{Q:VK}(hL:SqT K H1 a xs)(hlen:xs.length<1000)(R:Nat->V->Hp->Prop)(hR:∀i v H H',SameT H H'->R i v H->R i v H')
  (hs:∀i x H2 (Kc:VK),xs[i]? = some x->Same H1 H2->(∀y H4,Same H2 H4->R i y H4->Kc y H4)->te (some x::fvs fv σ) H2 Kc)
  (hd:∀l ys H',H1 l=none->Same H1 H'->H' l=some (.lst ys)->ys.length=xs.length->(∀i y,ys[i]? = some y->R i y H')->Q (.ref l) H') :
  oW (Itt K a) fv te σ H1 Q:=by
 intro l hl;refine tZ (K:=K) (a:=a) (xs:=xs) (l:=l) (fv:=fv) (Qp:=fun H2=>Q (.ref l) H2) (fun i acc H2=>acc.length=i∧Same H1 H2∧H2 l=some (.lst acc)∧∀j y,acc[j]? = some y->R j y H2)
  ⟨rfl,Same.new hl,upd_same,fun j y h=>by simp at h⟩ ?_ ?_ ?_
 ·rintro i acc H2 hi ⟨e1,sm,e3,_⟩
  exact⟨jj hL sm,e3,bC (by omega)⟩
 ·rintro i x acc H2 Kc hx ⟨e1,sm,e3,hr⟩ kk
  refine hs i x H2 Kc hx sm fun y H4 s4 ry=>kk y H4 (s4 _ _ e3) ⟨by simp[e1],(sm.trans s4).upd hl,upd_same,fun j z hz=>?_⟩;have t4:=SameT.upd (ys:=acc++[y]) (s4 _ _ e3);rcases Nat.lt_trichotomy j acc.length with h|h|h
  ·rw[List.getElem?_append_left h]at hz
   exact hR _ _ _ _ (s4.t.trans t4) (hr j z hz)
  ·subst h
   rw[List.getElem?_append_right (Nat.le_refl _),Nat.sub_self]at hz;cases hz;rw[e1];exact hR _ _ _ _ t4 ry
  ·rw[List.getElem?_eq_none (by simp;omega)]at hz
   cases hz
 ·rintro acc H2 ⟨e1,sm,e3,hr⟩
  exact hd l acc H2 hl sm e3 e1 hr
end L2
namespace Sp11
open PySem PySem.Spec L2 Mth Sp1 Sp2
inductive Bg (C:Addr) (vs:List V) (H:Hp) (Q:VK) (E:XK):Prop
 | mk:∀(a b:Int) (n:Nat),(vs = [.int a,.int b])->((bits a≤n∧bits b≤n∧n≤4500))->((b=0->E (.ref C) none H))->((b≠0->∀(p:Addr) (t u:Int),AR a b t u->bits t≤n->bits u≤n->H p=none->Q (.ref p) (upd H p (.tup [.int t,.int u]))))->Bg C vs H Q E
structure Ek(H:Hp)(p:Addr)(a b:Int)(n:Nat):Prop where
 at_:H p=some (.tup [.int a,.int b])
 low:CC a b
 ba:bits a≤n
 bb:bits b≤n
theorem Ek.mono{H H':Hp}{p:Addr}{a b:Int}{n:Nat}(f:Ek H p a b n)(s:Same H H'):Ek H' p a b n:=⟨s _ _ f.at_,f.low,f.ba,f.bb⟩
inductive Ed (num den:Int->Int->Int->Int->Int) (vs:List V) (H:Hp) (Q:VK) (x_3:XK):Prop
 | mk:∀(p q:Addr) (a b c d:Int) (n:Nat),(vs = [.ref p,.ref q])->(Ek H p a b n)->(Ek H q c d n)->(n≤2200)->(den a b c d≠0)->(∀(r:Addr) (t u:Int) (H':Hp),AR (num a b c d) (den a b c d) t u->Ek H' r t u (2*n+1)->Same H H'->Q (.ref r) H')->Ed num den vs H Q x_3
end Sp11
namespace Sp11
open PySem PySem.Spec L2 Mth Sp1 Sp2
abbrev Crn:=List (Addr×Int×Int)
end Sp11
namespace Sp11
open PySem PySem.Spec L2 Mth Sp1 Sp2
theorem rj{m n u v:Int}{i j:Nat}(hn:0<n)(f:AR m n u v)(hm:bits m≤i)(hj:bits n≤j):bits u≤i∧bits v≤j:=by
 have hg:=gN (a:=m) (b:=n) (by omega);obtain⟨e1,e2⟩:=mX (by omega) f (gO hn);subst e1 e2;exact⟨ix hg hm,ix hg hj⟩
end Sp11
namespace Hd
open PySem PySem.W PySem.Spec L2
def uT(o:Obj):Bool:=match o.data with
 | .freed=>false
 | _=>true
def qL:Nat->List Obj->Frag
 | _,[]=>[]
 | n,a::r=>bif uT a then (n,a)::qL (n+1) r else qL (n+1) r
def frag(h:Heap):Frag:=qL 0 h.objs.toList
def fnFact(K:Frag)(x:Str):Option (Arguments×List Stmt×Scope×Value):=match nsIn K mainGlobals x with
 | some (some (.ref f))=>(match K.lookup f with
  | some ⟨_,_,.func fd,_⟩=>(match fd.body,fd.closure with
   | .stmts b,[]=>bif (fd.name == x && (fd.qualname == x && (Nat.beq fd.globals mainGlobals && (Nat.beq fd.builtins builtinsNs && codeIn K fd.code x)))) then some (fd.params,b,fd.scope,fd.defaults) else none
   | _,_=>none)
  | _=>none)
 | _=>none
theorem fB{K:Frag}{x:Str}{a:Arguments}{b:List Stmt}{sc:Scope}{dv:Value}(e:fnFact K x=some (a,b,sc,dv)) :
  ∃(f:Addr) (oc:Value) (od:Option Addr) (kV doc pm:Value) (an:Option Addr) (cdv ct:Value) (osl:Array (Option Value)),
   nsIn K mainGlobals x=some (some (.ref f))∧K.lookup f=some ⟨oc,od,.func (fnOf x x a b sc dv kV doc pm an cdv ct),osl⟩∧codeIn K cdv x=true∧keepIn K (.ref f)=true:=by
 unfold fnFact at e
 split at e
 ·rename_i f hf
  split at e
  ·rename_i oc od fd osl hl
   split at e
   ·rename_i b' hb hc
    cases hq:(fd.name == x && (fd.qualname == x && (Nat.beq fd.globals mainGlobals && (Nat.beq fd.builtins builtinsNs && codeIn K fd.code x)))) with
    | false=>rw[hq]at e;cases e
    | true =>
     rw[hq]at e;simp only[Bool.and_eq_true]at hq;obtain⟨h1,h2,h3,h4,h5⟩:=hq
     replace h1:=eq_of_beq h1
     replace h2:=eq_of_beq h2
     replace h3:=Nat.eq_of_beq_eq_true h3
     replace h4:=Nat.eq_of_beq_eq_true h4
     simp only[cond_true,Option.some.injEq,Prod.mk.injEq]at e;obtain⟨e1,e2,e3,e4⟩:=e;obtain⟨n,qn,ps,bd,s,gl,cl,df,kw,dc,pm,an,cd,ct,bl⟩:=fd;simp only at h1 h2 h3 h4 h5 e1 e2 e3 e4 hb hc;subst h1 h2 h3 h4 e1 e2 e3 e4 hb hc;refine⟨f,oc,od,kw,dc,pm,an,cd,ct,osl,hf,hl,h5,?_⟩;unfold keepIn;dsimp only;rw[hl]
   ·cases e
  ·cases e
 ·cases e
theorem df_of{K:Frag}{mg:Str->Option Value}{h:Heap}{x:Str}{st:Stmt}(X:K.In h)(G:h.Ns mainGlobals mg)(e:fnFact K x=some (br st,aL st,ap st,.none)):Df K mg x st:=by
 obtain⟨f,oc,od,kV,doc,pm,an,cdv,ct,osl,h1,h2,h3,h4⟩:=fB e;exact ye X G h1 h2 h3 h4
def bareV:Value->V
 | .none=>.non
 | .bool b=>.bl b
 | .int i _=>.int i
 | .str x _=>.str x
 | .bytes b _=>.byt b
 | .float b _=>.flt b
 | .ref a=>.ref a
 | .type n=>.ty n
 | _=>.ty "no plain value"
def hX:Value->Bool
 | .ellipsis | .notImplemented | .builtin _=>false
 | _=>true
theorem rJ:∀{v:Value},hX v=true->aW (bareV v) v
 | .none,_=>rfl
 | .bool _,_=>rfl
 | .int _ t,_=>⟨t,rfl⟩
 | .str _ t,_=>⟨t,rfl⟩
 | .bytes _ t,_=>⟨t,rfl⟩
 | .float _ t,_=>⟨t,rfl⟩
 | .ref _,_=>rfl
 | .type _,_=>rfl
 | .ellipsis,h=>by cases h
 | .notImplemented,h=>by cases h
 | .builtin _,h=>by cases h
theorem g9:∀{l:List Value},l.all hX=true->aT (l.map bareV) l
 | [],_=>.nil
 | _::_,h=>by
  rw[List.all_cons,Bool.and_eq_true]at h;exact .cons (rJ h.1) (g9 h.2)
def sB(K:Frag)(v:Value):Option (List V):=match v with
 | .ref a=>(match K.lookup a with
  | some ⟨_,_,.seq its _,_⟩=>bif its.toList.all hX then some (its.toList.map bareV) else none
  | _=>none)
 | _=>none
theorem oe{K:Frag}{v:Value}{ds:List V}(e:sB K v=some ds):∃(a:Addr) (o:Obj) (its:List Value) (n:Nat),v = .ref a∧K.lookup a=some o∧o.data = .seq its.toArray n∧aT ds its:=by
 unfold sB at e
 split at e
 ·rename_i a
  split at e
  ·rename_i oc od its n osl hl
   cases hq:its.toList.all hX with
   | false=>rw[hq]at e;cases e
   | true =>
    rw[hq]at e;cases e;exact⟨a,_,its.toList,n,rfl,hl,rfl,g9 hq⟩
  ·cases e
 ·cases e
def fnFactD(K:Frag)(x:Str):Option (Arguments×List Stmt×Scope×List V):=match fnFact K x with
 | some (a,b,s,dv)=>(match sB K dv with
  | some ds=>some (a,b,s,ds)
  | none=>none)
 | none=>none
theorem dfd_of{K:Frag}{mg:Str->Option Value}{h:Heap}{x:Str}{st:Stmt}{ds:List V}(X:K.In h)(G:h.Ns mainGlobals mg)(e:fnFactD K x=some (br st,aL st,ap st,ds)):ER K mg x st ds:=by
 unfold fnFactD at e
 split at e
 ·rename_i a b s dv hf
  split at e
  ·rename_i ds' hs
   simp only[Option.some.injEq,Prod.mk.injEq]at e;obtain⟨e1,e2,e3,e4⟩:=e;subst e1 e2 e3 e4;obtain⟨f,oc,od,kV,doc,pm,an,cdv,ct,osl,h1,h2,h3,h4⟩:=fB hf;obtain⟨T,oT,its,n,rfl,hl,hd,hv⟩:=oe hs;exact wW X G h1 h2 h3 h4 hl hd hv
  ·cases e
 ·cases e
def cls(K:Frag)(x:Str):Addr:=match nsIn K mainGlobals x with
 | some (some (.ref C))=>C
 | _=>0
def excFact(K:Frag)(x:Str):Bool:=match nsIn K mainGlobals x with
 | some (some (.ref C))=>excIn K C [.type "ValueError",.type "Exception",.type "BaseException",.type "object"] "ValueError.__new__"
 | _=>false
theorem exc_of{K:Frag}{mg:Str->Option Value}{h:Heap}{x:Str}(X:K.In h)(G:h.Ns mainGlobals mg)(e:excFact K x=true):CG K mg x (cls K x):=by
 unfold excFact at e
 split at e
 ·rename_i C hC
  have:cls K x=C:=by unfold cls;rw[hC]
  rw[this];exact wR X G hC e
 ·cases e
def tupFact(K:Frag)(x:Str):Option (List V):=match nsIn K mainGlobals x with
 | some (some (.ref a))=>(match K.lookup a with
  | some ⟨.type "tuple",_,.seq its _,_⟩=>bif its.toList.all hX then some (its.toList.map bareV) else none
  | _=>none)
 | _=>none
theorem tup_of{K:Frag}{x:Str}{ds:List V}(e:tupFact K x=some ds):∃(a:Addr) (od:Option Addr) (its:List Value) (n:Nat) (osl:Array (Option Value)),nsIn K mainGlobals x=some (some (.ref a))∧K.lookup a=some ⟨.type "tuple",od,.seq its.toArray n,osl⟩∧aT ds its:=by
 unfold tupFact at e
 split at e
 ·rename_i a ha
  split at e
  ·rename_i od its n osl hl
   cases hq:its.toList.all hX with
   | false=>rw[hq]at e;cases e
   | true =>
    rw[hq]at e;cases e;exact⟨a,od,its.toList,n,osl,ha,hl,g9 hq⟩
  ·cases e
 ·cases e
def noFact(K:Frag)(x:Str):Bool:=match nsIn K mainGlobals x with
 | some none=>true
 | _=>false
theorem no_of{K:Frag}{x:Str}(e:noFact K x=true):nsIn K mainGlobals x=some none:=by
 unfold noFact at e
 split at e
 ·rename_i h
  exact h
 ·cases e
theorem at_map{α β:Type}{f g:α->β}{l:List α}(e:l.map f=l.map g)(i:Nat){a:α}(h:l[i]? = some a):f a=g a:=by
 have q:=congrArg (fun l:List β=>l[i]?) e;simp only[List.getElem?_map,h,Option.map_some,Option.some.injEq]at q;exact q
theorem at_all{α:Type}{f:α->Bool}{l:List α}(e:l.all f=true)(i:Nat){a:α}(h:l[i]? = some a):f a=true :=
 List.all_eq_true.mp e a (List.mem_of_getElem? h)
theorem at_two{α:Type}{l m:List α}(e:l=m)(i:Nat){a b:α}(h:l[i]? = some a)(h':m[i]? = some b):a=b:=by
 subst e;rw[h]at h';exact Option.some.inj h'
end Hd
namespace Hd
open PySem PySem.W PySem.Spec L2
theorem vals_sz{ds:List V}{its:List Value}(u:aT ds its)(h:ds.length≤100):its.toArray.size≤100:=by
 rw[List.size_toArray,<- u.length];exact h
end Hd
namespace L2
open PySem PySem.Spec PyProof.Rows
end L2
namespace Hd
open PySem PySem.W PySem.Spec L2
theorem pair2{α β:Type _}{a a':α}{b b':β}(h:a=a')(g:b=b'):(a,b)=(a',b'):=by rw[h,g]
end Hd
namespace PySem
namespace F
end F
section
variable {prog:Program} {w:World} {A:Around} {E:Value->Shared->Prop}
end
end PySem
namespace L2
open PySem PySem.Spec PyProof.Rows
inductive DH (x:V) (vs:List V) (H:Hp) (Q:VK):Prop
 | mk:∀l xs,(x = .ref l)->(vs = [])->(H l=some (.lst xs))->(∀H',Dc H H' l xs []->Q .non H')->DH x vs H Q
theorem qN{X:Cx}:MtM X "list.clear" DH:=fun pins s σ H x xs v us Q I rx rs ⟨l,ys,e1,e2,h,q⟩ =>
 sQ pins s σ H x xs v us Q I rx rs ⟨l,ys,e1,e2,h,q _ (.mk' h)⟩
end L2
namespace L2
open PySem PySem.Spec PyProof.Rows
structure Cv(K:W.Frag)(mg:Str->Option Value)(x:Str)(C:Addr):Prop where
 bound:mg x=some (.ref C)
 cls:EB K C
 makes:W.makesIn K C=true
 kp:W.keepIn K (.ref C)=true
structure E4(K:W.Frag)(C:Addr)(m q:Str)(st:Stmt):Prop where
 ex:∃(f:Addr) (oc:Value) (od:Option Addr) (kV doc pm:Value) (an:Option Addr) (cdv ct:Value) (osl:Array (Option Value)),
  E3 K C m f∧K.lookup f=some ⟨oc,od,.func (W.fnOf m q (br st) (aL st) (ap st) .none kV doc pm an cdv ct),osl⟩∧W.codeIn K cdv q=true
structure Mt(P:Program)(w:World)(K:W.Frag)(mg:Str->Option Value)(base:Heap)(C:Addr)(m:Str)(ps:List Str)(k:Nat)(sp:Sp):Prop where
 ex:∃(f:Addr) (fd:FuncData),E3 K C m f∧eW K fd ps []∧Bf P w K mg base (CXE P w) k f fd ps sp
theorem E4.mt{P:Program}{w:World}{K:W.Frag}{mg:Str->Option Value}{base:Heap}{C:Addr}{m q:Str}{st:Stmt}{N ps:List Str}{k:Nat}{sp:Sp}(D:E4 K C m q st)(S:yG N ps (ap st))
  (hbind:∀(kV doc pm:Value) (an:Option Addr) (cdv ct:Value) (us:List Value),us.length=ps.length->bindArgs (W.fnOf m q (br st) (aL st) (ap st) .none kV doc pm an cdv ct) ⟨us,[]⟩=pure (ps.zip us))
  (len:∀vs H Q E,sp vs H Q E->vs.length=ps.length)
  (hbody:∀(f:Addr) (cdv:Value) (A:Around) (outer:List Env) (s:Shared) (H:Hp) (vs:List V) (Q:VK) (E:XK),y7 k (A.deeper (envOfC q (ap st) s.heap.objs.size f cdv))->sp vs H Q E ->
   ∃t,PSs (bw (CXE P w) P w K mg base N q (ap st) f cdv A outer s H E) (aL st) t∧t { nx:=fun _ H'=>Q .non H',rt:=Q } (eS N vs) H):Mt P w K mg base C m ps (k+1) sp:=by
 obtain⟨f,oc,od,kV,doc,pm,an,cdv,ct,osl,hm,lk,hcd⟩:=D.ex;exact⟨⟨f,_,hm,.all (hbind kV doc pm an cdv ct),m7 lk hcd S len fun A outer s H vs Q E hr hsp=>hbody f cdv A outer s H vs Q E hr hsp⟩⟩
section
variable {X:Cx} {C:Addr} {m:Str} {ps:List Str} {k:Nat} {sp:Sp} {o e:Expr} {es:List Expr} {ta:TE} {t:TA} {apos pos:Pos}
theorem wj{st:Stmt}{t:TS}(h:PS X.nox st t):PS X st t:=fun pins s σ H D I hw =>
 wpAny_mono (h pins s σ H D (I.wish _) hw) (fun _ _ q=>q.unwish) fun _ _ z=>False.elim z
end
section
variable {P:Program} {w:World} {K:W.Frag} {mg:Str->Option Value} {base:Heap} {N:List Str} {qual:Str} {scope:Scope} {f:Addr} {cdv:Value} {A:Around} {outer:List Env} {s₀:Shared} {H₀:Hp} {E:XK}
 {C:Addr} {m:Str} {ps:List Str} {k:Nat} {sp:Sp} {o e:Expr} {es:List Expr} {ta:TE} {t:TA} {apos pos:Pos}
end
section
variable {X:Cx} {x:Str} {i:Nat} {C:Addr} {m:Str} {ps:List Str} {k:Nat} {sp:Sp} {o e:Expr} {es:List Expr} {ta:TE} {t:TA} {px apos cpos pos:Pos}
end
section
variable {X:Cx}
end
end L2
namespace Hd
open PySem PySem.W PySem.Spec L2
def ownFact(K:Frag)(x:Str):Bool:=match nsIn K mainGlobals x with
 | some (some (.ref C))=>plainGet K C Str.empty && (hasDictIn K C && (plainOver K C && (makesIn K C && keepIn K (.ref C))))
 | _=>false
theorem own_of{K:Frag}{mg:Str->Option Value}{h:Heap}{x:Str}(X:K.In h)(G:h.Ns mainGlobals mg)(e:ownFact K x=true)(sa:findIn K (.ref (cls K x)) "__setattr__" = some (some (.builtin "object.__setattr__"))):Cv K mg x (cls K x):=by
 unfold ownFact at e
 split at e
 ·rename_i C hC
  have hc:cls K x=C:=by unfold cls;rw[hC]
  rw[hc]at sa ⊢;simp only[Bool.and_eq_true]at e;obtain⟨e1,e2,e3,e4,e5⟩:=e;exact⟨mg_of X G hC,⟨e1,e2,e3,sa⟩,e4,e5⟩
 ·cases e
def mtFact(K:Frag)(x m q:Str):Option (Arguments×List Stmt×Scope×Value):=match findIn K (.ref (cls K x)) m with
 | some (some (.ref f))=>(match K.lookup f with
  | some ⟨.type n,_,.func fd,_⟩=>(match fd.body,fd.closure with
   | .stmts b,[]=>bif (n == "function" && (fd.name == m && (fd.qualname == q && (Nat.beq fd.globals mainGlobals && (Nat.beq fd.builtins builtinsNs && codeIn K fd.code q))))) then some (fd.params,b,fd.scope,fd.defaults) else none
   | _,_=>none)
  | _=>none)
 | _=>none
theorem dfm_of{K:Frag}{x m q:Str}{st:Stmt}(e:mtFact K x m q=some (br st,aL st,ap st,.none)):E4 K (cls K x) m q st:=by
 unfold mtFact at e
 split at e
 ·rename_i f hf
  split at e
  ·rename_i n od fd osl hl
   split at e
   ·rename_i b' hb hc
    cases hq:(n == "function" && (fd.name == m && (fd.qualname == q && (Nat.beq fd.globals mainGlobals && (Nat.beq fd.builtins builtinsNs && codeIn K fd.code q))))) with
    | false=>rw[hq]at e;cases e
    | true =>
     rw[hq]at e;simp only[Bool.and_eq_true]at hq;obtain⟨h0,h1,h2,h3,h4,h5⟩:=hq
     replace h0:=eq_of_beq h0
     replace h1:=eq_of_beq h1
     replace h2:=eq_of_beq h2
     replace h3:=Nat.eq_of_beq_eq_true h3
     replace h4:=Nat.eq_of_beq_eq_true h4
     simp only[cond_true,Option.some.injEq,Prod.mk.injEq]at e;obtain⟨e1,e2,e3,e4⟩:=e;obtain⟨n',qn,ps,bd,s,gl,cl,df,kw,dc,pm,an,cd,ct,bl⟩:=fd;simp only at h1 h2 h3 h4 h5 e1 e2 e3 e4 hb hc;subst h0 h1 h2 h3 h4 e2 hb hc e4;refine⟨⟨f,.type "function",od,kw,dc,pm,an,cd,ct,osl,⟨hf,?_,?_⟩,?_,h5⟩⟩
     ·unfold isFn typeIn
      dsimp only;rw[hl];exact beq_self_eq_true _
     ·unfold keepIn
      dsimp only;rw[hl]
     ·rw[hl,<- e1,<- e3]
   ·cases e
  ·cases e
 ·cases e
end Hd
namespace L2
open PySem PySem.Spec PyProof.Rows
section
variable {X:Cx}
theorem pU:typeLookup (.type "list") (dunderI "add")=pure (some (.builtin "list.__iadd__")):=by rw[typeLookup_type,builtinLookup_eq_fast];kernel_rfl
theorem nU{M:Model}{A:Around}{E:Value->Shared->Prop}{s:Shared}{a b:Value}{Q:Value->Shared->Prop}(ha:s.TypeIs a "list")(hb:s.TypeIs b "list")
  (hc:wpAny M A (call (.builtin "list.__iadd__") [a,b]) Q E s):wpAny M A (inplaceOp .Add a b) Q E s:=by
 unfold inplaceOp;refine wpAny_holding ?_;have hs:isSeqSlot (some (.builtin "list.__iadd__"))=true:=by decide +kernel
 have hfi:fillsInplaceSlot (.type "list") "add" (Operator.Add == .Add)=pure false:=by
  unfold fillsInplaceSlot;show(typeLookup (.type "list") (dunderI "add") >>= fun fi=>pure (fi.isSome && !isSeqSlot fi))=pure false;rw[pU,pure_bind,hs];rfl
 refine wpAny_bind (wpAny_typeOf ha (wpAny_bind (wpAny_of_eq hfi ?_)));show wpAny M A (if false=true then _ else _) Q E s
 rw[if_neg Bool.false_ne_true];refine wpAny_bind (wpAny_binaryOp1_none (nm:="add") ha hb PySem.noFill_list_add ?_);refine wpAny_bind (wpAny_of_eq (PySem.seqSlot_of pU hs) ?_);exact wpAny_bind (wpAny_rule hc)
def wf:TIp:=fun x y H Q=>∃l b xs zs,x = .ref l∧y = .ref b∧H l=some (.lst xs)∧H b=some (.lst zs)∧xs.length+zs.length≤sizeLine∧∀H',Dc H H' l xs (xs++zs)->Q (.ref l) H'
theorem pX:PIp X .Add wf:=by
 intro pins s σ H x y v u Q I rx ry h;obtain⟨l,b,xs,zs,rfl,rfl,hH,hB,hz,q⟩:=h;cases rx;cases ry;obtain⟨z,its,n,r,hl,e⟩:=I.lstM hH;obtain⟨z2,its2,n2,r2,hl2,e2⟩:=I.lstM hB;have hsz:its.toArray.size+its2.toArray.size≤sizeLine:=by rw[List.size_toArray,List.size_toArray];omega
 have hlong:¬(!its.toArray.isEmpty && Builtin.List.listTooLong (its.toArray.size+its2.toArray.size))=true:=by
  rw[sO hsz,Bool.and_false];exact Bool.false_ne_true
 refine nU ⟨_,e,rfl⟩ ⟨_,e2,rfl⟩ (call_meets F.slot_list_iadd ⟨_,e,rfl⟩ F.entry_list_iadd (F.args_list_iadd_2 _ _)
  (AutoSeq1.list___iadd___list_list_0 l its.toArray n b its2.toArray n2 hlong (by rw[List.size_toArray];omega) (by omega)) ⟨e,e2,?_⟩)
 refine⟨.ref l,_,I.lset (its':=its++its2) hH e (by simp) (r.append r2) ?_,rfl,q _ (.mk' hH)⟩;rw[List.length_append];omega
theorem gC{K:W.Frag}{e:Expr}{f:Str}{ta:TE}{pos:Pos}(h:X.K=K)(he:PE X e ta)(hb:attributeBase e f X.env (eval e X.env)=eval e X.env):PE X (.Attribute e f pos) (xq K ta f):=h▸dP he hb
variable {C:Addr} {ps:List Str} {k:Nat} {sp:Sp} {pos:Pos} {e:Expr} {es:List Expr} {t:TA}
theorem xH{x:Str}{p:Pos}(O:Cv X.K X.mg x C)(F:Mt X.prog X.w X.K X.mg X.base C "__init__" ps k sp)(hr:y7 (k+1) X.A)(hg:Gl X x)(ha:PA X (e::es) t)(hdb:(x == ("__debug__" : Str))=false:=by decide)(he:starEach (e::es) X.env=(false,eval e X.env)::starEach es X.env:=by rfl)(hpl:(backTo pos (starEach es X.env)).any (·.1)=false:=by rfl) :
  PE X (.Call (.Name x p) (e::es) [] pos) (vG C sp [] E0 t):=by
 obtain⟨f,fd,hm,hb,G⟩:=F.ex;exact uK ⟨O.makes,hm.at_,hm.fn,O.kp⟩ G hr hg O.bound hb .nil km ha hdb he hpl
end
end L2
namespace L2
open PySem PySem.Spec PyProof.Rows
section
variable {X:Cx}
end
end L2
namespace L2
open PySem PySem.Spec PyProof.Rows
theorem nO(val:Nat->Int):∀k,argBest (fun i j=>decide (val i<val j)) k≤k∧∀i,i≤k->val (argBest (fun i j=>decide (val i<val j)) k)≤val i
 | 0=>⟨Nat.le_refl _,fun i hi=>by rw[Nat.le_zero.mp hi];exact Int.le_refl _⟩
 | k+1=>by
  obtain⟨h1,h2⟩:=nO val k;unfold argBest
  split
  ·rename_i h
   have h:=of_decide_eq_true h;refine⟨Nat.le_refl _,fun i hi=>?_⟩;rcases Nat.lt_or_ge k i with z|z
   ·rw[show i=k+1 by omega]
    exact Int.le_refl _
   ·have:=h2 i z
    omega
  ·rename_i h
   have h:¬val (k+1)<val (argBest (fun i j=>decide (val i<val j)) k):=fun z=>h (decide_eq_true z);refine⟨by omega,fun i hi=>?_⟩;rcases Nat.lt_or_ge k i with z|z
   ·rw[show i=k+1 by omega]
    omega
   ·exact h2 i z
section
variable {X:Cx}
inductive Ew (K:W.Frag) (xs:List V) (H:Hp) (Q:VK):Prop
 | mk:∀(l:Addr) (ns:List Int),(xs = [.ref l])->(SqL K H l (ns.map V.int))->(0<ns.length)->(∀m,m∈ns->(∀x∈ns,m≤x)->Q (.int m) H)->Ew K xs H Q
theorem rF(hc:X.calm=true):eJ X (.builtin "min") (Ew X.K):=by
 intro pins s σ H xs us Q I r h;obtain⟨l,ns,rfl,hq,h0,q⟩:=h;obtain⟨u,rfl,ru⟩:=fc r;have ru:u=Value.ref l:=ru;subst ru;obtain⟨its,rv,pl,hz⟩:=I.list hq;have hls:l<s.heap.objs.size:=by obtain⟨_,e,_⟩:=pl.isList;exact Heap.lt_size e
 have len:its.length=ns.length:=by have:=rv.length;rw[List.length_map]at this;exact this.symm
 have hval:∀(i:Nat) (v:Value),its.toArray[i]? = some v->∃t,v = .int (ns.getD i 0) t:=fun i v e=>by
  have e:its[i]? = some v:=by simpa using e
  have:i<its.length:=(List.getElem?_eq_some_iff.mp e).1;have h2:(ns.map V.int)[i]? = some (.int (ns.getD i 0)):=by
   rw[List.getElem?_map,List.getD_eq_getElem?_getD,List.getElem?_eq_getElem (by omega)];rfl
  obtain⟨u,hu,ru⟩:=rv.get h2;rw[e]at hu;cases hu;exact ru
 have up:∀o:Obj,s.heap.objs.size<(s.heap.push o).objs.size:=fun o=>by rw[Heap.size_push];exact Nat.lt_succ_self _
 refine call_min_walk (wpAny_pyIter_list pl.isList ?_);have W:=Walks.list (prog:=X.prog) (w:=X.w) (A:=X.A.in1) (I.ok.hd hc) s.heap.objs.size l (Nat.ne_of_lt hls) its.toArray;refine⟨s.heap.objs.size,_,_,_,_,_,_,rfl,W,⟨⟨_,Heap.get?_push_size _ rfl,rfl,rfl⟩,pl.isList.at fun o e=>Heap.get?_push_of_some _ e⟩,fun b hb=>?_,by rw[List.size_toArray];omega,CmpOf.ints_lt (fun i=>ns.getD i 0) hval,fun v h' tk hP hk=>?_⟩
 ·rcases List.mem_cons.mp hb with z|z
  ·rw[z];exact up _
  ·rw[List.mem_singleton.mp z];exact Nat.lt_trans hls (up _)
 ·obtain⟨t,rfl⟩:=hval _ _ hP
  obtain⟨a1,a2⟩:=nO (fun i=>ns.getD i 0) (its.toArray.size - 1);generalize argBest (fun i j=>decide (ns.getD i 0<ns.getD j 0)) (its.toArray.size - 1)=b at a1 a2;have sz:its.toArray.size=ns.length:=by rw[List.size_toArray,len]
  rw[sz]at a1 a2;have hb:b<ns.length:=by omega
  have gd:∀i,(hi:i<ns.length)->ns.getD i 0=ns[i]:=fun i hi=>by rw[List.getD_eq_getElem?_getD,List.getElem?_eq_getElem hi];rfl
  refine⟨.int (ns.getD b 0),H,I.kept fun c o e=>hk c o (by rw[List.mem_singleton];exact Nat.ne_of_lt (Heap.lt_size e)) (Heap.get?_push_of_some _ e),⟨t,rfl⟩,q _ ?_ fun x hx=>?_⟩
  ·rw[gd b hb]
   exact List.getElem_mem hb
  ·obtain⟨i,hi,rfl⟩:=List.mem_iff_getElem.mp hx
   have:=a2 i (by omega);rw[gd i hi]at this;exact this
end
end L2
namespace L2
open PySem PySem.Spec PyProof.Rows
section
variable {X:Cx}
theorem w6:bootBuiltins "any" = some (.builtin "any"):=by decide +kernel
theorem rK(bs:List Bool):((List.range bs.length).any fun i=>(bs[i]?).getD true)=bs.any id:=by
 rw[Bool.eq_iff_iff];simp only[List.any_eq_true,List.mem_range,id];constructor
 ·rintro⟨i,hi,z⟩
  rw[List.getElem?_eq_getElem hi]at z;exact⟨_,List.getElem_mem hi,z⟩
 ·rintro⟨b,hb,z⟩
  obtain⟨i,hi,rfl⟩:=List.mem_iff_getElem.mp hb;exact⟨i,hi,by rw[List.getElem?_eq_getElem hi];exact z⟩
theorem t8(hc:X.calm=true):eJ X (.builtin "any") (fun xs H Q=>∃(p:Addr) (bs:List Bool),xs = [.ref p]∧SqL X.K H p (bs.map V.bl)∧Q (.bl (bs.any id)) H):=by
 intro pins s σ H xs us Q I r h;obtain⟨p,bs,rfl,hq,q⟩:=h;obtain⟨u,rfl,rx⟩:=fc r;cases rx;obtain⟨its,rv,pl,_⟩:=I.list hq;have hl:=pl.isList;have lt:p<s.heap.objs.size:=by
  obtain⟨_,e,_⟩:=hl;exact Heap.lt_size e
 refine call_any_walk (wpAny_pyIter_list hl ?_);refine⟨s.heap.objs.size,[s.heap.objs.size,p],[s.heap.objs.size],its.toArray.size,_,_,fun i=>(bs[i]?).getD true,rfl,Walks.list (A:=X.A.in1) (I.ok.hd hc) _ p (Nat.ne_of_lt lt) its.toArray,?_⟩;refine⟨⟨⟨_,Heap.get?_push_size _ rfl,rfl,rfl⟩,hl.push _⟩,fun i v s' Q' E' hP hQ=>?_,fun h' tk hk=>?_⟩
 ·obtain⟨b,e,rfl⟩:=vW rv (by simpa using hP)
  simp only[e,Option.getD_some]at hQ;exact wpAny_truthy_bool hQ
 ·have el:its.toArray.size=bs.length:=by
   have:=rv.length;rw[List.length_map]at this;rw[List.size_toArray];omega
  rw[el,rK];refine⟨.bl _,H,I.kept (t':=tk) fun b o e=>?_,rfl,q⟩;exact hk b o (fun hm=>by rw[List.mem_singleton.mp hm]at e;exact Nat.lt_irrefl _ (Heap.lt_size e)) (Heap.get?_push_of_some _ e)
end
end L2
namespace L2
open PySem PySem.Spec PyProof.Rows
section
variable {X:Cx}
variable {x fn:Str} {i:Nat} {ps:List Str} {k:Nat} {ds:List V} {sp:Sp} {e:Expr} {es:List Expr} {ta:TA} {px pf cpos pos:Pos}
end
end L2
namespace L2
open PySem PySem.Spec PyProof.Rows
end L2
namespace L2
open PySem PySem.Spec PyProof.Rows PySem.W
theorem qS{P:Program}{w:World}{K:W.Frag}{mg mb:Str->Option Value}{k:Nat}{fa a:Addr}{fd:FuncData}{x:Str}{sp:Sp}{s₁:Shared}{vs:List Value}{ns:List Int}{tabs:List Addr}
  (KX:K.In s₁.heap) (hKt:∀p∈tabs,K.lookup p=none) (hT:∀p∈tabs,s₁.heap.get? p=some (tabObj #[])) (hTc:∀p∈tabs,isCodeTable s₁.heap p)
  (hns:s₁.heap.Ns mainGlobals mg) (hb:s₁.heap.Ns builtinsNs mb) (hbb:∀x:Str,x≠"__name__"->mb x=bootBuiltins x) (hlim:s₁.heap.NoLimit) (hg:s₁.gens = #[])
  (ha:s₁.heap.get? a=some { cls:=.type "list",data:=.seq vs.toArray }) (hi:IntsAre vs ns) (hl:ns.length≤sizeLine) (hr:y7 k callerA)
  (F:∀base:Heap,K.In base->base.Ns mainGlobals mg->Bf P w K mg base CX0 k fa fd [x] sp) (hbind:∀(s:Shared) (u:Value),BindsTo s fd ⟨[u],[]⟩ [(x,u)])
  (hsp:∀H:Hp,SqL K H a (ns.map V.int)->(∀p∈tabs,H p=some (.tbl #[]))->sp [.ref a] H (fun v _=>v = .bl true) fun _ _ _=>False) :
  codeAny (model P w) callerA (.call (.ref fa) ⟨[.ref a],[]⟩) (fun r s'=>r = .ok (.ret (.bool true))∧OldK s₁.heap s'.heap∧s'.os=s₁.os∧AllBare s'.gens) s₁:=by
 have rv:=ka hi;have lenV:=hi.length;have atab:a∉tabs:=fun z=>by rw[hT a z]at ha;cases ha
 have core:∀H:Hp,SqL K H a (ns.map V.int)->(∀p∈tabs,H p=some (.tbl #[]))->HOk P w H s₁.heap->(∀b,H b≠none->b∈tabs∨(b=a∧K.lookup a=none∧∃o xs,H b=some (.frz o (.lst xs)))) ->
   codeAny (model P w) callerA (.call (.ref fa) ⟨[.ref a],[]⟩) (fun r s'=>r = .ok (.ret (.bool true))∧OldK s₁.heap s'.heap∧s'.os=s₁.os∧AllBare s'.gens) s₁:=by
  intro H hS hTb hok hA;have base_of:∀{b:Addr} {o:Obj},s₁.heap.get? b=some o->H b=none->(lD s₁.heap H).get? b=some o:=fun e n=>tD e n;have noA:∀{b:Addr} {o:Obj} {es:Array DictEntry} {ep:Nat},s₁.heap.get? b=some o->o.data = .dict es ep->H b=none:=fun {b o es ep} e d=>by
   cases q:H b with
   | none=>rfl
   | some u =>
    rcases hA b (by rw[q];simp) with z|⟨e',_⟩
    ·rw[hT b z]at e;cases e
     have d':Data.fields _=Data.dict es ep:=d;cases d'
    ·subst e'
     rw[ha]at e;cases e;have d':Data.seq vs.toArray _=Data.dict es ep:=d;cases d'
  have nsK:∀{b:Addr} {m:Str->Option Value},s₁.heap.Ns b m->(lD s₁.heap H).Ns b m:=fun {b m} ⟨o,es,ep,e,d,r⟩=>⟨o,es,ep,base_of e (noA e d),d,r⟩;have hKb:K.In (lD s₁.heap H):=fun b o e=>base_of (KX b o e) (by
   cases q:H b with
   | none=>rfl
   | some u =>
    rcases hA b (by rw[q];simp) with z|⟨e',hk,_⟩
    ·rw[hKt b z]at e;cases e
    ·subst e'
     rw[hk]at e;cases e)
  have hM:Mod K mg (lD s₁.heap H):=⟨hKb,nsK hns,⟨mb,nsK hb,hbb⟩,let ⟨mc,h1,h2⟩:=hlim;⟨mc,nsK h1,h2⟩⟩;have e0:C8 P w K mg (lD s₁.heap H) callerA [] s₁ H:=⟨rfl,hM,fun b o e=>uP e,Nat.le_of_eq (qY _ _),trivial,fun b hb=>absurd (show b∈([]:List Addr) from hb) (by simp),hok,.of_eq hg⟩;refine codeAny_mono ((F _ hKb (nsK hns)).run callerA [] s₁ H ⟨[.ref a],[]⟩ [.ref a] [.ref a] _ _ hr e0 (hbind s₁ (.ref a)) (.cons rfl .nil) (hsp H hS hTb)) fun r s' h=>?_;cases r with
  | error e=>exact False.elim h
  | ok fl =>
   cases fl with
   | next=>exact False.elim h
   | brk=>exact False.elim h
   | cont=>exact False.elim h
   | ret u =>
    obtain⟨v,H',os,bare,un,hok',r',q⟩:=h;have q':v = .bl true:=q;subst q';obtain rfl:u=Value.bool true:=r';refine⟨rfl,⟨fun b o e=>?_,fun b o e=>un.there b o e (by simp)⟩,os,bare⟩;cases q:H b with
    | none=>exact .inl (un.keep b o e q (by intro z;exact absurd (show b∈([]:List Addr) from z) (by simp)) (by simp))
    | some u =>
     rcases hA b (by rw[q];simp) with z|⟨_,_,ob,xs,z⟩
     ·obtain⟨more,q2⟩:=un.tbls b #[] (hTb b z)
      have e2:s'.heap.get? b=some { cls:=.none,data:=.fields (#[]++more) }:=hok' b _ q2;rw[hT b z]at e;cases e;exact .inr (.inl ⟨hTc b z,rfl,#[],more,rfl,e2⟩)
     ·have z2:=un.frzs b ob _ z
      obtain⟨e1,_⟩:=hok b _ z;obtain⟨e2,_⟩:=hok' b _ z2;rw[e]at e1;cases e1;exact .inl e2
 let Ht:Hp:=fun b=>if b∈tabs then some (.tbl #[]) else none
 have tb:∀p∈tabs,Ht p=some (.tbl #[]):=fun p hp=>if_pos hp;have tn:∀b,b∉tabs->Ht b=none:=fun b hb=>if_neg hb;have tok:HOk P w Ht s₁.heap:=fun b u e=>by
  by_cases z:b∈tabs
  ·rw[tb b z]at e;cases e
   exact hT b z
  ·rw[tn b z]at e;cases e
 cases hk:K.lookup a with
 | some o =>
  have e:=KX a o hk;rw[ha]at e;cases e;refine core Ht (.inr ⟨_,vs.toArray,_,hk,rfl,rfl,rfl,by rw[List.size_toArray,lenV];exact hl,by simpa using rv⟩) tb tok fun b z=>?_
  by_cases hb:b∈tabs
  ·exact .inl hb
  ·exact absurd (tn b hb) z
 | none =>
  have nb:Ht a=none:=tn a atab;have sm:∀b o,Ht b=some o->upd Ht a (.frz { cls:=.type "list",data:=.seq vs.toArray } (.lst (ns.map V.int))) b=some o:=fun b o e=>by
   rw[aN (fun z=>by rw[z,nb]at e;cases e)];exact e
  refine core (upd Ht a (.frz { cls:=.type "list",data:=.seq vs.toArray } (.lst (ns.map V.int)))) (.inl (.inr ⟨{ cls:=.type "list",data:=.seq vs.toArray },upd_same⟩)) (fun p hp=>sm p _ (tb p hp)) (fun b u z=>?_) fun b z=>?_
  ·by_cases hb:b=a
   ·subst hb
    rw[upd_same]at z;cases z;exact⟨ha,by rw[List.length_map];exact hl,vs,_,rv,ha⟩
   ·rw[aN hb]at z
    exact(tok b u z).stay (fun _ _ _ q=>q) (fun d q=>sm d _ q) fun d xs q=>sm d _ q
  ·by_cases hb:b=a
   ·exact .inr ⟨hb,hk,_,_,by rw[hb];exact upd_same⟩
   ·rw[aN hb]at z
    by_cases ht:b∈tabs
    ·exact .inl ht
    ·exact absurd (tn b ht) z
def nZ(K:W.Frag)(tabs:List Addr):Sp:=fun vs H Q _=>∃(a:Addr) (ns:List Int),vs = [.ref a]∧SqL K H a (ns.map V.int)∧ns.length≤63∧(∀p∈tabs,H p=some (.tbl #[]))∧∀H',Q (.bl true) H'
end L2
namespace Hd
open PySem PySem.W PySem.Spec L2
def vQ(o:Obj):Bool:=match o with
 | ⟨.none,_,.fields _,_⟩=>true
 | _=>false
def strip(K:Frag):Frag:=K.filter fun p=>!vQ p.2
theorem mG:∀(l:List Obj) (n:Nat) (p:Nat×Obj),p∈qL n l->n≤p.1∧l[p.1 - n]? = some p.2∧uT p.2=true
 | [],_,_,e=>by cases e
 | x::r,n,p,e=>by
  have up:p∈qL (n+1) r->n≤p.1∧(x::r)[p.1 - n]? = some p.2∧uT p.2=true:=fun e=>by
   obtain⟨h1,h2,h3⟩:=mG r (n+1) p e;refine⟨by omega,?_,h3⟩;have:p.1 - n=(p.1 - (n+1))+1:=by omega
   rw[this];exact h2
  unfold qL at e;cases hl:uT x with
  | false =>
   rw[hl]at e;exact up e
  | true =>
   rw[hl,cond_true]at e;rcases List.mem_cons.mp e with rfl|e
   ·exact⟨Nat.le_refl _,by simp,hl⟩
   ·exact up e
theorem tM(h:Heap):∀p∈frag h,h.get? p.1=some p.2:=fun p hp=>by
 obtain⟨_,q,hl⟩:=mG _ _ _ hp;have q:h.objs[p.1]? = some p.2:=by simpa using q
 unfold Heap.get?;rw[q];obtain⟨a,o⟩:=p;obtain⟨c,d,dt,sl⟩:=o;cases dt <;> first|rfl|cases hl
theorem eA{K:Frag}{b:Addr}{o:Obj}(e:K.lookup b=some o):(b,o)∈K:=by
 induction K with
 | nil=>cases e
 | cons x r ih =>
  rw[List.lookup_cons]at e;cases hb:b == x.1 with
  | true =>
   rw[hb]at e;cases e;rw[beq_iff_eq.mp hb];exact List.mem_cons_self
  | false =>
   rw[hb]at e;exact List.mem_cons_of_mem _ (ih e)
theorem si{K:Frag}{h:Heap}(k:∀p∈K,h.get? p.1=some p.2):(strip K).In h:=fun b o e=>k (b,o) (List.mem_filter.mp (eA e)).1
theorem qy{K:Frag}{b:Addr}{o:Obj}(e:(strip K).lookup b=some o):vQ o=false:=by
 have:=(List.mem_filter.mp (eA e)).2;simpa using this
def hookT{α:Type}(facts:Frag->α)(val:α):Hook :=
 ⟨α,fun s=>facts (frag s.heap),fun _=>val,fun _ h=>∃K:Frag,(∀p∈K,h.get? p.1=some p.2)∧facts K=val,fun _ s e=>⟨_,tM s.heap,e⟩,fun _ _ _ ⟨K,hi,e⟩ k=>⟨K,fun p hp=>k _ _ (hi p hp),e⟩⟩
def l8(K:Frag)(x:Str):Option (Addr×Addr):=match nsIn (strip K) mainGlobals x with
 | some (some (.ref f))=>(match (strip K).lookup f with
  | some ⟨_,_,.func fd,_⟩=>(match fd.code with
   | .ref c=>(match (strip K).lookup c with
    | some ⟨.type "code",_,.fields vs,_⟩=>(match (vs[11]? : Option Value),vs.getD 18 .none,vs.getD 7 .none,vs.getD 9 .none,vs.getD 10 .none with
     | some (.ref p),.str _ _,.int _ _,.bool _,.int _ _=>(match K.lookup p with
      | some ⟨.none,none,.fields ps,sl⟩=>bif (ps.toList.isEmpty && (sl.toList.isEmpty && !(Nat.beq c p))) then some (c,p) else none
      | _=>none)
     | _,_,_,_,_=>none)
    | _=>none)
   | _=>none)
  | _=>none)
 | _=>none
def tabFact(K:Frag)(x:Str):Bool:=(l8 K x).isSome
def tabP(K:Frag)(x:Str):Addr:=match l8 K x with
 | some q=>q.2
 | none=>0
theorem jf{K:Frag}{x:Str}{c p:Addr}(e:l8 K x=some (c,p)):∃f oc od fd sl,nsIn (strip K) mainGlobals x=some (some (.ref f))∧(strip K).lookup f=some ⟨oc,od,.func fd,sl⟩∧fd.code = .ref c∧jR (strip K) c p∧K.lookup p=some (tabObj #[]):=by
 unfold l8 at e
 split at e
 ·rename_i f hf
  split at e
  ·rename_i oc od fd sl hl
   split at e
   ·rename_i c' hc
    split at e
    ·rename_i od2 vs sl2 hl2
     split at e
     ·rename_i p' st tt i1 t1 b1 i2 t2 h11 h18 h7 h9 h10
      split at e
      ·rename_i ps sl3 hl3
       cases hq:(ps.toList.isEmpty && (sl3.toList.isEmpty && !(Nat.beq c' p'))) with
       | false=>rw[hq]at e;cases e
       | true =>
        rw[hq]at e;simp only[cond_true,Option.some.injEq,Prod.mk.injEq]at e;obtain⟨rfl,rfl⟩:=e;simp only[Bool.and_eq_true,List.isEmpty_iff,Bool.not_eq_true']at hq;obtain⟨q1,q2,q3⟩:=hq;have q1:ps = #[]:=by simpa using q1
        have q2:sl3 = #[]:=by simpa using q2
        subst q1 q2;refine⟨f,oc,od,fd,sl,hf,hl,hc,⟨_,vs,st,tt,i1,t1,b1,i2,t2,hl2,rfl,rfl,h11,?_,h18,h7,h9,h10,?_⟩,hl3⟩
        ·rw[Array.getD_eq_getD_getElem?,h11];rfl
        ·intro z
         rw[z,Nat.beq_refl]at q3;cases q3
      ·cases e
     ·cases e
    ·cases e
   ·cases e
  ·cases e
 ·cases e
theorem l7{K:Frag}{x:Str}(t:tabFact K x=true):∃c,l8 K x=some (c,tabP K x):=by
 unfold tabFact at t;obtain⟨⟨c,p⟩,e⟩:=Option.isSome_iff_exists.mp t;refine⟨c,?_⟩;unfold tabP;rw[e]
theorem dft_of{K:Frag}{mg:Str->Option Value}{h:Heap}{x:Str}{st:Stmt}(X:(strip K).In h)(G:h.Ns mainGlobals mg)(e:fnFact (strip K) x=some (br st,aL st,ap st,.none))(t:tabFact K x=true):EQ (strip K) mg x st (tabP K x):=by
 obtain⟨f,oc,od,kV,doc,pm,an,cdv,ct,osl,h1,h2,h3,h4⟩:=fB e;obtain⟨c,ht⟩:=l7 t;obtain⟨f',oc',od',fd',sl',g1,g2,g3,g4,_⟩:=jf ht;rw[h1]at g1;cases g1;rw[h2]at g2;cases g2;have g3:cdv = .ref c:=g3;subst g3;exact⟨⟨f,oc,od,kV,doc,pm,an,c,ct,osl,W.mg_of X G h1,h2,h3,h4,g4⟩⟩
def apart:List Addr->Bool
 | []=>true
 | a::r=>(r.all fun b=>!(Nat.beq a b)) && apart r
theorem apart_ne:∀{l:List Addr},apart l=true->∀{i j:Nat} {a b:Addr},l[i]? = some a->l[j]? = some b->i<j->a≠b
 | [],_,i,j,a,b,hi,_,_=>by simp at hi
 | x::r,h,i,j,a,b,hi,hj,lt=>by
  unfold apart at h;rw[Bool.and_eq_true]at h;cases j with
  | zero=>omega
  | succ j =>
   have hj:r[j]? = some b:=by simpa using hj
   cases i with
   | zero =>
    have hi:x=a:=by simpa using hi
    subst hi;have:=List.all_eq_true.mp h.1 b (List.mem_of_getElem? hj);rintro rfl;rw[Nat.beq_refl]at this;cases this
   | succ i=>exact apart_ne h.2 (i:=i) (j:=j) (by simpa using hi) hj (by omega)
def bltFact(K:Frag):Bool:=match nsIn K mainGlobals "__builtins__" with
 | some (some (.ref bm))=>(match K.lookup bm with
  | some ⟨.type "module",some d,.plain,_⟩=>!(Nat.beq bm builtinsNs) && (!(Nat.beq bm mainGlobals) && Nat.beq d builtinsNs)
  | _=>false)
 | _=>false
theorem blt_of{K:Frag}{mg:Str->Option Value}{h:Heap}(X:K.In h)(G:h.Ns mainGlobals mg)(t:bltFact K=true):uj K mg:=by
 unfold bltFact at t
 split at t
 ·rename_i bm hb
  split at t
  ·rename_i d sl hl
   simp only[Bool.and_eq_true,Bool.not_eq_true']at t;obtain⟨t1,t2,t3⟩:=t;have t3:=Nat.eq_of_beq_eq_true t3;subst t3;refine⟨bm,_,W.mg_of X G hb,fun z=>?_,fun z=>?_,hl,rfl,rfl,rfl⟩
   ·rw[z,Nat.beq_refl]at t1;cases t1
   ·rw[z,Nat.beq_refl]at t2;cases t2
  ·cases t
 ·cases t
theorem law_walkT{l:OpenLaw}{k:Nat}{q:Program}{loose:List Str}{XP:(Str->Option Value)->Heap->Prop}{d:DefRec}{α:Type}{facts:Frag->α}{val:α}{names:List Str}(hk:y7 k callerA)(hn:l.most=some 63)(hdf:d.params.defaults = [])
  (hnm:∀K,facts K=val->names.all (tabFact K)=true)
  (F:∀(K:Frag),facts K=val->∀(w:World) (mg:Str->Option Value) (fa:Addr) (h:Heap),(strip K).In h->h.Ns mainGlobals mg->mg d.name=some (.ref fa) ->
   ∃fd:FuncData,(∀(s:Shared) (u:Value),BindsTo s fd ⟨[u],[]⟩ [("script",u)])∧∀base:Heap,(strip K).In base->base.Ns mainGlobals mg->Bf l.prog w (strip K) mg base CX0 k fa fd ["script"] (nZ (strip K) (names.map (tabP K)))) :
  WalkO q loose XP (Hook.says (hookT facts val)) l.row.toRowW d [] (fun f vs=>PySem.call f vs):=by
 refine Att.attach_call hn hdf fun w s₀ s₁ mg mb fa o pm cd doc a vs ns G Y ho hd hcd hmg hobj hints hlen hg=>?_;obtain⟨K,hin,hf⟩:=Y;have KX:=si hin;obtain⟨fd,hb,hF⟩:=F K hf w mg fa _ KX G.T.g hmg;have ht:∀p∈names.map (tabP K),∃c,jR (strip K) c p∧K.lookup p=some (tabObj #[]):=fun p hp=>by
  obtain⟨x,hx,rfl⟩:=List.mem_map.mp hp;obtain⟨c,e⟩:=l7 (List.all_eq_true.mp (hnm K hf) x hx);obtain⟨_,_,_,_,_,_,_,_,g4,g5⟩:=jf e;exact⟨c,g4,g5⟩
 refine qS (tabs:=names.map (tabP K)) KX (fun p hp=>?_) (fun p hp=>?_) (fun p hp=>?_) G.T.g G.T.b G.T.builtins G.T.nolimit hg hobj hints (Nat.le_trans hlen (by decide)) hk hF hb (fun H hS hT=>⟨a,ns,rfl,hS,hlen,hT,fun _=>rfl⟩)
 ·cases e:(strip K).lookup p with
  | none=>rfl
  | some o =>
   have e1:=hin _ (List.mem_filter.mp (eA e)).1;obtain⟨c,_,e2⟩:=ht p hp;have e2:=hin _ (eA e2);have e1:s₁.heap.get? p=some o:=e1;have e2:s₁.heap.get? p=some (tabObj #[]):=e2;rw[e1]at e2;cases e2;cases qy e
 ·obtain⟨c,_,e2⟩:=ht p hp
  exact hin _ (eA e2)
 ·obtain⟨c,C,e2⟩:=ht p hp
  exact((C.hd KX).tab (ps:=#[]) (hin _ (eA e2))).isCodeTable
end Hd
namespace Hd
open PySem PySem.W PySem.Spec L2
theorem tY{K:Frag}{mg:Str->Option Value}{h:Heap}{x:Str}{v:V}(X:K.In h)(G:h.Ns mainGlobals mg)(e:(nsIn K mainGlobals x).map (fun o=>o.map bareV)=some (some v)):∃u,mg x=some u∧bareV u=v:=by
 cases hn:nsIn K mainGlobals x with
 | none =>
  rw[hn]at e;cases e
 | some o =>
  cases o with
  | none =>
   rw[hn]at e;cases e
  | some u =>
   rw[hn]at e;exact⟨u,mg_of X G hn,Option.some.inj (Option.some.inj e)⟩
theorem int_of{K:Frag}{mg:Str->Option Value}{h:Heap}{x:Str}{i:Int}(X:K.In h)(G:h.Ns mainGlobals mg)(e:(nsIn K mainGlobals x).map (fun o=>o.map bareV)=some (some (.int i))):∃tk,mg x=some (.int i tk):=by
 obtain⟨u,h1,h2⟩:=tY X G e;cases u <;> first|(cases h2;exact⟨_,h1⟩)|cases h2
end Hd
namespace Hd
open PySem PySem.W PySem.Spec L2
end Hd
namespace L2
open PySem PySem.Spec PyProof.Rows
section
variable {X:Cx}
end
end L2
namespace L2
open PySem PySem.Spec PyProof.Rows
section
variable {X:Cx}
end
end L2
namespace L2
open PySem PySem.Spec PyProof.Rows
section
variable {X:Cx}
end
end L2
local macro_rules | `(tactic| omega)=>`(tactic| lia)
local macro_rules | `(tactic| walk_at "bt")=>`(tactic| first
 | assumption
 | (apply L2.bits_mul <;> walk_at "bt")
 | (apply L2.bits_add2 <;> walk_at "bt")
 | (apply L2.bits_sub2 <;> walk_at "bt")
 | (apply L2.bits_neg;walk_at "bt")
 | (apply L2.bits_abs;walk_at "bt")
 | exact L2.bits_lit)
local macro_rules | `(tactic| walk_at "bl")=>`(tactic| (apply L2.bits_of_le;(walk_at "bt");decide))
local macro_rules | `(tactic| walk_at "cm")=>`(tactic| first
 | exact L2.CM.l ⟨by decide,by decide⟩
 | exact L2.CM.r ⟨by decide,by decide⟩
 | (apply L2.CM.of;(walk_at "bt");(walk_at "bt");decide))
local macro_rules | `(tactic| walk_at "at")=>`(tactic| first
 | assumption
 | exact L2.upd_same
 | (refine L2.Same.at (by assumption) ?_;walk_at "at")
 | (refine L2.SameT.at (by assumption) ?_;walk_at "at"))
local macro_rules | `(tactic| walk_at "sm")=>`(tactic| first
 | assumption
 | exact L2.Same.rfl'
 | (refine L2.Same.trans ?_ (by assumption);walk_at "sm"))
local macro_rules | `(tactic| walk_at "kn")=>`(tactic| first
 | assumption
 | exact⟨_,.int _⟩|exact⟨_,.bl _⟩|exact⟨_,.str _⟩|exact⟨_,.non⟩
 | exact⟨_,.tup (by walk_at "at")⟩|exact⟨_,.lst (by walk_at "at")⟩|exact⟨_,.dict (by walk_at "at")⟩)
local macro_rules | `(tactic| walk_at "nice")=>`(tactic| first
 | exact L2.nice_int|exact L2.nice_bool|exact L2.nice_tuple|exact L2.nice_list|exact L2.nice_str)
local macro_rules | `(tactic| walk_at "th")=>`(tactic| first
 | assumption
 | exact Sp1.th_flat .non (fun p e=>nomatch e)|exact Sp1.th_flat (.int _) (fun p e=>nomatch e)|exact Sp1.th_flat (.bl _) (fun p e=>nomatch e)|exact Sp1.th_flat (.str _) (fun p e=>nomatch e)
 | exact Sp1.th_lst (by walk_at "at")
 | (refine' Sp1.th_tup ?hat ?hkn;(case hat=>walk_at "at");(case hkn=>(simp only[List.mem_cons,List.not_mem_nil,or_false,forall_eq_or_imp,forall_eq,false_imp_iff,implies_true];(try (first|(walk_at "kn")|(repeat' apply And.intro) <;> walk_at "kn")))))
 )
local macro_rules | `(tactic| walk_at "r1")=>`(tactic| first
 | (refine⟨_,rfl,?_⟩)
 | (refine⟨_,_,rfl,rfl,?_⟩)
 | (refine⟨_,_,rfl,rfl,by walk_at "cm",?_⟩)
 | (refine⟨_,_,rfl,rfl,(by show(0:Int)<_;decide),?_⟩)
 | (refine⟨_,_,rfl,rfl,⟨by decide,by decide⟩,?_⟩)
 | (refine⟨_,_,rfl,rfl,⟨by decide,by decide,by decide⟩,?_⟩)
 | (refine' ⟨_,_,_,_,rfl,rfl,L2.SqT.of ?hat,?hix,?nxt⟩;(case hat=>walk_at "at");(case hix=>exact rfl))
 | (refine' ⟨_,_,_,_,rfl,rfl,L2.SqL.of ?hat,?hix,?nxt⟩;(case hat=>walk_at "at");(case hix=>exact rfl))
 | (refine⟨by walk_at "cm",?_⟩)
 | (refine⟨(by show(0:Int)<_;decide),?_⟩)
 | (refine⟨⟨by decide,by decide⟩,?_⟩)
 | (refine⟨⟨by decide,by decide,by decide⟩,?_⟩)
 | (refine⟨Sp1.sz (by simp),fun _ _ _ _ _=>?_⟩)
 | (refine⟨Sp1.sz (by simp),L2.alloc fun _ _ _ _=>?_⟩)
 | (refine' ⟨_,_,_,_,rfl,rfl,?hat,?hbt,Sp1.sz ?hsz,fun _ _ _ _ _=>?nxt⟩;(case hat=>walk_at "at");(case hbt=>walk_at "at");(case hsz=>simp))
 | (refine' ⟨_,_,_,_,rfl,rfl,?hat,?hbt,Sp1.sz ?hsz,L2.alloc fun _ _ _ _=>?nxt⟩;(case hat=>walk_at "at");(case hbt=>walk_at "at");(case hsz=>simp))
 | (refine' ⟨_,_,rfl,.inl (L2.SqL.of ?hat),?nxt⟩;(case hat=>walk_at "at"))
 | (refine' ⟨_,_,rfl,.inr (L2.SqT.of ?hat),?nxt⟩;(case hat=>walk_at "at"))
 | (refine' L2.alloc fun _ _ _ _=>?nxt))
local macro_rules | `(tactic| walk_at "rd")=>`(tactic| repeat (walk_at "r1"))
namespace K31
open PySem PySem.Spec L2 Mth Sp1 Sp2 Sp11 Sp7 Sp24 Sp5 Sp6 Dr Wk Sk Fz
def top(i:Nat):Stmt:=Challenge.pw_oneleash_k31_free_walk_or_fence.main.body.getD i (.Pass ⟨0,0,0,0⟩)
def uS(i j:Nat):Stmt:=match top i with
 | .ClassDef _ _ _ b _ _ _ _ _ _ _=>b.getD j (.Pass ⟨0,0,0,0⟩)
 | x=>x
def ja:List (Str×Nat):=[(Str.ofString "is_whole",5),(Str.ofString "common_divisor",6),(Str.ofString "plus",8),(Str.ofString "is_ratio",9),(Str.ofString "sign_of",11),(Str.ofString "signed_square",12),(Str.ofString "sign_with_root",13),(Str.ofString "sign_with_roots",14),(Str.ofString "root_order",15),(Str.ofString "floor_root",16),(Str.ofString "own_fraction",17),(Str.ofString "scaled_floor",18),(Str.ofString "below_all",19),(Str.ofString "shared_terms",20),(Str.ofString "fraction_of_terms",21),(Str.ofString "fraction_within",22),(Str.ofString "root_between",23),(Str.ofString "look_at_square",27),(Str.ofString "leash_order",28),(Str.ofString "reach_of",29),(Str.ofString "part_within",30),(Str.ofString "last_of",32),(Str.ofString "with_a_stretch",36),(Str.ofString "doors_of",37),(Str.ofString "far_corners",38),(Str.ofString "begins_fence",40),(Str.ofString "ends_fence",41),(Str.ofString "pair_at_corner",42),(Str.ofString "part_from",43),(Str.ofString "pair_in_door",44),(Str.ofString "place_on",45),(Str.ofString "pairs_on",46),(Str.ofString "row_to",48),(Str.ofString "seek",49),(Str.ofString "is_cell",51),(Str.ofString "steps_through",52),(Str.ofString "pair_within",53),(Str.ofString "free_walk",54),(Str.ofString "steps_along",55),(Str.ofString "free_fence",56),(Str.ofString "go_free",57),(Str.ofString "_law_cell_at",59),(Str.ofString "_law_pool",60),(Str.ofString "_law_take",61),(Str.ofString "_law_line",62),(Str.ofString "_law_moved",63),(Str.ofString "_law_second",64),(Str.ofString "_law_whole",65),(Str.ofString "_law_common",66),(Str.ofString "_law_is_fraction",67),(Str.ofString "_law_lowest",68),(Str.ofString "_law_above",69),(Str.ofString "_law_point",70),(Str.ofString "_law_apart",71),(Str.ofString "_law_near",72),(Str.ofString "_law_are_pairs",73),(Str.ofString "_law_foot",74),(Str.ofString "_law_beside",75),(Str.ofString "_law_square",76),(Str.ofString "_law_free_walk",77),(Str.ofString "_law_free_fence",78),(Str.ofString "_law_shown",79),(Str.ofString "law",80)]
def i9:List (Str×Nat×List V):=[(Str.ofString "ratio",7,[.int 1])]
def xW:List Str:=[Str.ofString "NoRatio",Str.ofString "NoSquare",Str.ofString "LeashError"]
def hNo:List Str:=[Str.ofString "abs",Str.ofString "all",Str.ofString "any",Str.ofString "bool",Str.ofString "enumerate",Str.ofString "int",Str.ofString "isinstance",Str.ofString "len",Str.ofString "list",Str.ofString "max",Str.ofString "min",Str.ofString "range",Str.ofString "reversed",Str.ofString "str",Str.ofString "tuple"]
def uX:List (Str×List V):=[(Str.ofString "BEGIN",[.int 0,.int 0,.int 0,.int 1]),(Str.ofString "END",[.int 1,.int 0,.int 0,.int 1])]
def xZ(K:W.Frag):List (Option (Option V)):=[(W.nsIn K mainGlobals "UPRIGHT").map (fun o=>o.map Hd.bareV),(W.nsIn K mainGlobals "LEVEL").map (fun o=>o.map Hd.bareV)]
def vT:List (Option (Option V)):=[some (some (.int 0)),some (some (.int 1))]
def xY(K:W.Frag):List (Option (Option Value)):=[W.findIn K (.ref (Hd.cls K "Field")) "__setattr__",W.findIn K (.ref (Hd.cls K "Field")) "room",W.findIn K (.ref (Hd.cls K "Field")) "last",W.findIn K (.ref (Hd.cls K "Field")) "doors",W.findIn K (.ref (Hd.cls K "Field")) "far"]
def vS:List (Option (Option Value)):=[some (some (.builtin "object.__setattr__")),some none,some none,some none,some none]
def xX(K:W.Frag):List (Bool):=[(K.lookup sysModules).isSome]
def vR:List (Bool):=[true]
def xT:List Str:=[Str.ofString "Field"]
def hMt:List (Str×Str×Str×Stmt):=[(Str.ofString "Field",Str.ofString "__init__",Str.ofString "Field.__init__",uS 39 0)]
def hTabs:List Str:=[Str.ofString "free_walk",Str.ofString "free_fence"]
def hF0(K:W.Frag):List (Option (Arguments×List Stmt×Scope×Value)):=ja.map (fun p=>Hd.fnFact K p.1)
def hG0:List (Option (Arguments×List Stmt×Scope×Value)):=ja.map (fun p=>some (br (top p.2),aL (top p.2),ap (top p.2),.none))
def hF1(K:W.Frag):List (Option (Arguments×List Stmt×Scope×List V))×Bool×Bool×List (Option (List V))×Bool×List (Option (Arguments×List Stmt×Scope×Value))×List (Option (Option V))×List (Option (Option Value))×List (Bool):=(i9.map (fun p=>Hd.fnFactD K p.1),xW.all (Hd.excFact K),hNo.all (Hd.noFact K),uX.map (fun p=>Hd.tupFact K p.1),xT.all (Hd.ownFact K),hMt.map (fun p=>Hd.mtFact K p.1 p.2.1 p.2.2.1),xZ K,xY K,xX K)
def hG1:List (Option (Arguments×List Stmt×Scope×List V))×Bool×Bool×List (Option (List V))×Bool×List (Option (Arguments×List Stmt×Scope×Value))×List (Option (Option V))×List (Option (Option Value))×List (Bool):=(i9.map (fun p=>some (br (top p.2.1),aL (top p.2.1),ap (top p.2.1),p.2.2)),true,true,uX.map (fun p=>some p.2),true,hMt.map (fun p=>some (br p.2.2.2,aL p.2.2.2,ap p.2.2.2,.none)),vT,vS,vR)
def hF2(K0:W.Frag):Bool×Bool×Bool:=(hTabs.all (Hd.tabFact K0),Hd.bltFact (Hd.strip K0),Hd.apart (hTabs.map (Hd.tabP K0)))
def hG2:Bool×Bool×Bool:=(true,true,true)
def hFacts(K:W.Frag):(List (Option (Arguments×List Stmt×Scope×Value)))×(List (Option (Arguments×List Stmt×Scope×List V))×Bool×Bool×List (Option (List V))×Bool×List (Option (Arguments×List Stmt×Scope×Value))×List (Option (Option V))×List (Option (Option Value))×List (Bool))×(Bool×Bool×Bool):=(hF0 (Hd.strip (K)),hF1 (Hd.strip (K)),hF2 (K))
def hGood:(List (Option (Arguments×List Stmt×Scope×Value)))×(List (Option (Arguments×List Stmt×Scope×List V))×Bool×Bool×List (Option (List V))×Bool×List (Option (Arguments×List Stmt×Scope×Value))×List (Option (Option V))×List (Option (Option Value))×List (Bool))×(Bool×Bool×Bool):=(hG0,hG1,hG2)
def hView:Program:=W.view Challenge.pw_oneleash_k31_free_walk_or_fence [80]
def hLoose:List Str:=[Str.ofString "LeashError",Str.ofString "NoRatio",Str.ofString "NoSquare",Str.ofString "is_whole",Str.ofString "common_divisor",Str.ofString "ratio",Str.ofString "plus",Str.ofString "is_ratio",Str.ofString "sign_of",Str.ofString "signed_square",Str.ofString "sign_with_root",Str.ofString "sign_with_roots",Str.ofString "root_order",Str.ofString "floor_root",Str.ofString "own_fraction",Str.ofString "scaled_floor",Str.ofString "below_all",Str.ofString "shared_terms",Str.ofString "fraction_of_terms",Str.ofString "fraction_within",Str.ofString "root_between",Str.ofString "BEGIN",Str.ofString "END",Str.ofString "look_at_square",Str.ofString "leash_order",Str.ofString "reach_of",Str.ofString "part_within",Str.ofString "last_of",Str.ofString "UPRIGHT",Str.ofString "LEVEL",Str.ofString "with_a_stretch",Str.ofString "doors_of",Str.ofString "far_corners",Str.ofString "Field",Str.ofString "begins_fence",Str.ofString "ends_fence",Str.ofString "pair_at_corner",Str.ofString "part_from",Str.ofString "pair_in_door",Str.ofString "place_on",Str.ofString "pairs_on",Str.ofString "row_to",Str.ofString "seek",Str.ofString "is_cell",Str.ofString "steps_through",Str.ofString "pair_within",Str.ofString "free_walk",Str.ofString "steps_along",Str.ofString "free_fence",Str.ofString "go_free",Str.ofString "_law_cell_at",Str.ofString "_law_pool",Str.ofString "_law_take",Str.ofString "_law_line",Str.ofString "_law_moved",Str.ofString "_law_second",Str.ofString "_law_whole",Str.ofString "_law_common",Str.ofString "_law_is_fraction",Str.ofString "_law_lowest",Str.ofString "_law_above",Str.ofString "_law_point",Str.ofString "_law_apart",Str.ofString "_law_near",Str.ofString "_law_are_pairs",Str.ofString "_law_foot",Str.ofString "_law_beside",Str.ofString "_law_square",Str.ofString "_law_free_walk",Str.ofString "_law_free_fence",Str.ofString "_law_shown"]
noncomputable def hRunS(w:World):=(W.openEnds treeTable Challenge.pw_oneleash_k31_free_walk_or_fence w 100000).map (fun s=>(W.openSeen hView hLoose (importedModules Challenge.pw_oneleash_k31_free_walk_or_fence.main.body) (fun _=>true) true s,hF1 (Hd.strip (Hd.frag s.heap)),hF2 (Hd.frag s.heap)))
noncomputable def hEndS:=some ((W.openGood hView hLoose,hG1,hG2))
theorem hRunS_self:@hRunS = @hRunS:=rfl
theorem hEndS_self:@hEndS = @hEndS:=rfl
set_option maxHeartbeats 0 in
lay_quick K31.hRunS K31.hEndS
name_quick hRunSQ for K31.hRunS by K31.hRunS_self
name_quick hEndSQ for K31.hEndS by K31.hEndS_self
set_option maxHeartbeats 0 in
theorem uY(w:World):W.Fast.hRunSQ w=W.Fast.hEndSQ:=by kernel_rfl
theorem xU(w:World):hRunS w=hEndS:=(congrFun W.Fast.hRunSQ_eq w).trans ((uY w).trans W.Fast.hEndSQ_eq.symm)
noncomputable def hRun0(w:World):=(W.openEnds treeTable Challenge.pw_oneleash_k31_free_walk_or_fence w 100000).map (fun s=>hF0 (Hd.strip (Hd.frag s.heap)))
noncomputable def hEnd0:=some (hG0)
theorem hRun0_self:@hRun0 = @hRun0:=rfl
theorem hEnd0_self:@hEnd0 = @hEnd0:=rfl
set_option maxHeartbeats 0 in
lay_quick K31.hRun0 K31.hEnd0
name_quick hRun0Q for K31.hRun0 by K31.hRun0_self
name_quick hEnd0Q for K31.hEnd0 by K31.hEnd0_self
set_option maxHeartbeats 0 in
theorem uZ(w:World):W.Fast.hRun0Q w=W.Fast.hEnd0Q:=by kernel_rfl
theorem xV(w:World):hRun0 w=hEnd0:=(congrFun W.Fast.hRun0Q_eq w).trans ((uZ w).trans W.Fast.hEnd0Q_eq.symm)
theorem yA(w:World):(W.openEnds treeTable Challenge.pw_oneleash_k31_free_walk_or_fence w 100000).map (fun s=>(W.openSeen hView hLoose (importedModules Challenge.pw_oneleash_k31_free_walk_or_fence.main.body) (fun _=>true) true s,hFacts (Hd.frag s.heap)))=some (W.openGood hView hLoose,hGood):=by
 have rS:(W.openEnds treeTable Challenge.pw_oneleash_k31_free_walk_or_fence w 100000).map (fun s=>(W.openSeen hView hLoose (importedModules Challenge.pw_oneleash_k31_free_walk_or_fence.main.body) (fun _=>true) true s,hF1 (Hd.strip (Hd.frag s.heap)),hF2 (Hd.frag s.heap)))=some ((W.openGood hView hLoose,hG1,hG2)):=xU w;have r0:(W.openEnds treeTable Challenge.pw_oneleash_k31_free_walk_or_fence w 100000).map (fun s=>hF0 (Hd.strip (Hd.frag s.heap)))=some (hG0):=xV w
 skip
 generalize (W.openEnds treeTable Challenge.pw_oneleash_k31_free_walk_or_fence w 100000)=x at *;cases x with
 | none=>cases rS
 | some s =>
  have zS:=Option.some.inj rS;have z0:=Option.some.inj r0;show some (W.openSeen hView hLoose (importedModules Challenge.pw_oneleash_k31_free_walk_or_fence.main.body) (fun _=>true) true s,hFacts (Hd.frag s.heap))=_;unfold hFacts hGood;have z:=(congrArg Prod.fst zS);have q1:=(congrArg Prod.fst (congrArg Prod.snd zS));have q2:=(congrArg Prod.snd (congrArg Prod.snd zS));have q0:=z0;exact congrArg some (Hd.pair2 z (Hd.pair2 q0 (Hd.pair2 q1 q2)))
structure Txt(mg:Str->Option Value):Prop where
 z_abs:mg "abs" = none
 z_all:mg "all" = none
 z_any:mg "any" = none
 z_bool:mg "bool" = none
 z_enumerate:mg "enumerate" = none
 z_int:mg "int" = none
 z_isinstance:mg "isinstance" = none
 z_len:mg "len" = none
 z_list:mg "list" = none
 z_max:mg "max" = none
 z_min:mg "min" = none
 z_range:mg "range" = none
 z_reversed:mg "reversed" = none
 z_str:mg "str" = none
 z_tuple:mg "tuple" = none
section
variable {P:Program} {w:World} {K:W.Frag} {mg:Str->Option Value} {base:Heap} {C_Field:Addr}
theorem dA{α:Type}{xs:List α}(h:xs.length=1):∃a,xs = [a]:=match xs,h with | [a],_=>⟨a,rfl⟩
theorem di(i j:Int):decide (V.int i=V.int j)=decide (i=j):=Fnc.di i j
theorem dW{x:Int}(h:Sm x):bits x≤50:=by
 have h':-999999999999≤x∧x≤999999999999:=h;exact cL (n:=50) (by show _<1125899906842624;omega)
theorem smk{N M:List Str}{c:Scope}(a:c.kind=.function:=by rfl)(b:c.isCoroutine=false:=by rfl)(d:c.isGenerator=false:=by rfl)(e:N.Nodup:=by decide +kernel)(f:N.take M.length=M:=by rfl)(g:∀x∈M,c.names.lookup x=some .local∨c.names.lookup x=some .cell:=by decide +kernel)(h:∀y∈c.names,y.2≠.free:=by decide +kernel):yG N M c:=⟨a,b,d,e,f,g,h⟩
theorem Dp:yG ["thing"] ["thing"] (ap (top 5)):=smk
theorem nu(BU:Df K mg "is_whole" (top 5))(T:Txt mg):Fn P w K mg base "is_whole" ["thing"] 1 Cm:=by
 refine BU.fn Dp (fun _ _ _ _ _ _ us hl=>by obtain⟨_,rfl⟩:=dA hl;rfl) (fun vs H Q E h=>?_) (fun f cdv A outer s H vs Q E hr h=>?_)
 ·obtain⟨x,t,rfl,_⟩:=h
  rfl
 ·obtain⟨x,t,rfl,k,q⟩:=h
  refine⟨_,(ar (az (d8 (aF bO (by rfl) T.z_isinstance a9 (aa (pv 0) (aa (fQ T.z_int oR) af))) (dO (oq (aF bO (by rfl) T.z_isinstance a9 (aa (pv 0) (aa (fQ T.z_bool ql) af)))))))),?_⟩;refine⟨_,rfl,x,t,"int",rfl,k,.inl rfl,_,rfl,?_⟩;refine aY (fun hc=>?_) (fun hc=>?_)
  ·refine⟨_,rfl,x,t,"bool",rfl,k,.inr (.inl rfl),_,rfl,?_⟩
   rw[(j9 k).1 hc];exact q
  ·rw[(j9 k).2 hc]at q
   exact q
theorem yU:yG ["one","other","rest"] ["one","other"] (ap (top 6)):=smk
theorem gW(zQ:Df K mg "common_divisor" (top 6))(T:Txt mg):Fn P w K mg base "common_divisor" ["one","other"] 1 DD:=by
 refine zQ.fn yU (fun _ _ _ _ _ _ us hl=>by obtain⟨_,_,rfl⟩:=dF hl;rfl) (fun vs H Q E h=>?_) (fun f cdv A outer s H vs Q E hr h=>?_)
 ·obtain⟨a,b,rfl,_⟩:=h
  rfl
 ·obtain⟨a,b,rfl,q⟩:=h
  refine⟨_,(ag (ax (i:=0) yU.nd rfl (Or.inl rfl) (aF fE (by rfl) T.z_abs jM (aa (pv 0) af))) (ag (ax (i:=1) yU.nd rfl (Or.inl rfl) (aF fE (by rfl) T.z_abs jM (aa (pv 1) af))) (ag (dN PassesOwn.never (aC gG (pv 1) ad (aE _)) (ag (ax (i:=2) yU.nd rfl (Or.inl rfl) (ao fu (pv 0) (pv 1))) (ag (ax (i:=0) yU.nd rfl (Or.inl rfl) (pv 1)) (ar (ax (i:=1) yU.nd rfl (Or.inl rfl) (pv 2)))))) (ar (az (pv 0)))))),?_⟩;refine⟨_,rfl,a,rfl,_,rfl,b,rfl,?_⟩;refine dL (fun σ H'=>∃x y r,σ = [some (.int x),some (.int y),r]∧H'=H∧0≤x∧0≤y∧Int.gcd x y=Int.gcd a b)
   (fun σ _=>match σ with | [_,some (.int y),_]=>y.toNat|_=>0) ⟨_,_,_,rfl,rfl,jO a,jO b,by rw[pY,tI]⟩ ?_ ?_
  ·rintro σ H' ⟨x,y,r,rfl,rfl,hx,hy,hg⟩
   refine⟨_,rfl,rfl,_,rfl,?_⟩;refine aY (fun hc=>?_) (fun hc=>?_)
   ·have hy0:¬y=0:=by simpa using hc
    have hy1:0<y:=by omega
    refine⟨_,rfl,_,rfl,x,y,rfl,rfl,hy1,_,rfl,_,rfl,⟨y,x % y,_,rfl,rfl,hy,Int.emod_nonneg _ hy0,?_⟩,?_⟩
    ·rw[mV hx hy1]
     exact hg
    ·have h1:=Int.emod_lt_of_pos x hy1
     have h2:=Int.emod_nonneg x hy0;show(x % y).toNat<y.toNat;omega
   ·have hy0:y=0:=by simpa using hc
    subst hy0;refine⟨_,rfl,?_⟩;have e:(Int.gcd a b:Int)=x:=by rw[<- hg];exact gcd_zero hx
    rw[e]at q;exact q
  ·rintro σ H' Q1 Q2 hq ⟨v,e,hs,k,ek,r⟩
   exact⟨v,e,hs,k,ek,hq _ _ r⟩
theorem C5:yG ["top","bottom","divisor"] ["top","bottom"] (ap (top 7)):=smk
theorem tN{C:Addr}(C9:ER K mg "ratio" (top 7) [.int 1])(zi:CG K mg "NoRatio" C)(zh:Fn P w K mg base "is_whole" ["thing"] 1 Cm)(yV:Fn P w K mg base "common_divisor" ["one","other"] 1 DD):Fx P w K mg base "ratio" ["top","bottom"] 2 [.int 1] (Bg C):=by
 refine C9.fx C5 (fun T kV doc pm an cdv ct us its oT n s hv hl ho hs=>?_) (fun T kV doc pm an cdv ct us its oT n s hv hl ho hs=>?_) (fun vs H Q E h=>?_) (fun f cdv A outer s H vs Q E hr h=>?_)
 ·obtain⟨u,rfl,_⟩:=fc hv
  match us,hl with
  | [_,_],_=>exact BindsTo.of_defaults rfl ho hs rfl rfl
 ·obtain⟨u,rfl,_⟩:=fc hv
  have hl1:us.length=1:=by simpa using hl
  match us,hl1 with
  | [_],_=>exact BindsTo.of_defaults rfl ho hs rfl rfl
 ·obtain⟨a,b,nb,rfl,_⟩:=h
  rfl
 ·obtain⟨a,b,nb,rfl,⟨ba,bb,hnb⟩,k0,k1⟩:=h
  refine⟨_,(ag (aQ (cX (ca (bo (aA zh (hr.mono (by decide)) (by rfl) (aa (pv 0) af)))) (cX (ca (bo (aA zh (hr.mono (by decide)) (by rfl) (aa (pv 1) af)))) (cT (aC bR (pv 1) ad (aE _))))).pt (ar (gu zi (by rfl))) aH) (ag (ax (i:=2) C5.nd rfl (Or.inl rfl) (aA yV (hr.mono (by decide)) (by rfl) (aa (pv 0) (aa (pv 1) af)))) (ag (aQ (aC cY (pv 1) ad (aE _)) (ar (ax (i:=2) C5.nd rfl (Or.inl rfl) (dI cS (pv 2)))) aH) (ar (az (h8 (aa (ao mE (pv 0) (pv 2)) (aa (ao mE (pv 1) (pv 2)) af)))))))),?_⟩;refine⟨_,rfl,_,_,rfl,.int a,_,rfl,ig ?_⟩;refine⟨_,rfl,_,_,rfl,.int b,_,rfl,ig ?_⟩;refine⟨_,rfl,rfl,_,rfl,?_⟩;refine aY (fun hc=>?_) (fun hc=>?_)
  ·exact k0 (by simpa using hc)
  ·have hb:b≠0:=by simpa using hc
   have hg:=gN (a:=a) (b:=b) hb;have bg:bits (Int.gcd a b:Int)≤8000:=aw (kG hb bb) (by omega);refine⟨_,rfl,_,rfl,a,b,rfl,?_⟩;refine⟨_,rfl,_,_,rfl,rfl,_,rfl,?_⟩;refine aY (fun hd=>?_) (fun hd=>?_)
   ·have hlt:b<0:=by simpa using hd
    refine⟨_,rfl,_,rfl,?_⟩;refine⟨_,rfl,_,rfl,_,_,rfl,rfl,⟨by omega,bits_neg bg⟩,_,rfl,_,rfl,_,_,rfl,rfl,⟨by omega,bits_neg bg⟩,sz (by simp),fun p hp=>?_⟩;exact k1 hb p _ _ (kI hb _ (by rw[if_pos hlt])) (fM ba) (fM bb) hp
   ·have hlt:¬b<0:=by simpa using hd
    refine⟨_,rfl,_,rfl,_,_,rfl,rfl,⟨by omega,bg⟩,_,rfl,_,rfl,_,_,rfl,rfl,⟨by omega,bg⟩,sz (by simp),fun p hp=>?_⟩;exact k1 hb p _ _ (kI hb _ (by rw[if_neg hlt])) (fM ba) (fM bb) hp
theorem DK:yG ["number"] ["number"] (ap (top 11)):=smk
theorem oI(Cf:Df K mg "sign_of" (top 11)):Fn P w K mg base "sign_of" ["number"] 1 BH:=by
 refine Cf.fn DK (fun _ _ _ _ _ _ us hl=>by obtain⟨_,rfl⟩:=dA hl;rfl) (fun vs H Q E h=>?_) (fun f cdv A outer s H vs Q E hr h=>?_)
 ·obtain⟨n,rfl,_⟩:=h
  rfl
 ·obtain⟨n,rfl,q⟩:=h
  refine⟨_,(ag (aQ (aC iB (pv 0) ad (aE _)) (ar (az ad)) aH) (ag (aQ (aC cY (pv 0) ad (aE _)) (ar (az (dI cS ad))) aH) (ar (az ad)))),?_⟩;unfold sg at q;refine⟨_,rfl,_,_,rfl,rfl,_,rfl,aY (fun h1=>?_) (fun h1=>?_)⟩
  ·rw[if_pos (by simpa using h1)]at q
   exact q
  ·rw[if_neg (by simpa using h1)]at q
   refine⟨_,rfl,_,_,rfl,rfl,_,rfl,aY (fun h2=>?_) (fun h2=>?_)⟩
   ·rw[if_pos (by simpa using h2)]at q
    exact⟨_,rfl,q⟩
   ·rw[if_neg (by simpa using h2)]at q
    exact q
theorem Cl:yG ["number"] ["number"] (ap (top 12)):=smk
theorem im(Aa:Df K mg "signed_square" (top 12))(T:Txt mg):Fn P w K mg base "signed_square" ["number"] 1 Dx:=by
 refine Aa.fn Cl (fun _ _ _ _ _ _ us hl=>by obtain⟨_,rfl⟩:=dA hl;rfl) (fun vs H Q E h=>?_) (fun f cdv A outer s H vs Q E hr h=>?_)
 ·obtain⟨n,rfl,_⟩:=h
  rfl
 ·obtain⟨n,rfl,bn,q⟩:=h
  refine⟨_,(ar (az (ao ay (pv 0) (aF fE (by rfl) T.z_abs jM (aa (pv 0) af))))),?_⟩;exact⟨_,rfl,_,rfl,_,rfl,_,_,rfl,rfl,CM.b bn (bits_abs bn) (by decide) (by decide),q⟩
theorem B9:yG ["whole","part","under"] ["whole","part","under"] (ap (top 13)):=smk
theorem gR(zM:Df K mg "sign_with_root" (top 13))(yL:Fn P w K mg base "sign_of" ["number"] 1 BH)(yO:Fn P w K mg base "signed_square" ["number"] 1 Dx):Fn P w K mg base "sign_with_root" ["whole","part","under"] 2 DR:=by
 refine zM.fn B9 (fun _ _ _ _ _ _ us hl=>by obtain⟨_,_,_,rfl⟩:=gL hl;rfl) (fun vs H Q E h=>?_) (fun f cdv A outer s H vs Q E hr h=>?_)
 ·obtain⟨a,p,u,rfl,_⟩:=h
  rfl
 ·obtain⟨a,p,u,rfl,⟨ba,bp,bu⟩,q⟩:=h
  refine⟨_,(ar (az (aA yL (hr.mono (by decide)) (by rfl) (aa (ao aP (aA yO (hr.mono (by decide)) (by rfl) (aa (pv 0) af)) (ao ay (aA yO (hr.mono (by decide)) (by rfl) (aa (pv 1) af)) (pv 2))) af)))),?_⟩;exact⟨_,rfl,a,rfl,aw ba (by decide),_,rfl,p,rfl,aw bp (by decide),_,rfl,_,_,rfl,rfl,CM.b (ji bp) bu (by decide) (by decide),_,_,rfl,rfl,_,rfl,q⟩
theorem zy:yG ["whole","part","under","share","below","roots","even"] ["whole","part","under","share","below"] (ap (top 14)):=smk
theorem fV(zE:Df K mg "sign_with_roots" (top 14))(yL:Fn P w K mg base "sign_of" ["number"] 1 BH)(yO:Fn P w K mg base "signed_square" ["number"] 1 Dx)(zH:Fn P w K mg base "sign_with_root" ["whole","part","under"] 2 DR):Fn P w K mg base "sign_with_roots" ["whole","part","under","share","below"] 3 Dj:=by
 refine zE.fn zy (fun _ _ _ _ _ _ us hl=>by obtain⟨_,_,_,_,_,rfl⟩:=wE hl;rfl) (fun vs H Q E h=>?_) (fun f cdv A outer s H vs Q E hr h=>?_)
 ·obtain⟨a,p,u,c,b,rfl,_⟩:=h
  rfl
 ·obtain⟨a,p,u,c,b,rfl,⟨ba,bp,bu,bc,bb⟩,q⟩:=h
  refine⟨_,(ag (ax (i:=5) zy.nd rfl (Or.inl rfl) (aA yL (hr.mono (by decide)) (by rfl) (aa (ao aP (ao ay (aA yO (hr.mono (by decide)) (by rfl) (aa (pv 1) af)) (pv 2)) (ao ay (aA yO (hr.mono (by decide)) (by rfl) (aa (pv 3) af)) (pv 4))) af))) (ag (aQ (aC pI (ao ay (aA yL (hr.mono (by decide)) (by rfl) (aa (pv 0) af)) (pv 5)) ad (aE _)) (ar (az (aA yL (hr.mono (by decide)) (by rfl) (aa (ao aP (aA yL (hr.mono (by decide)) (by rfl) (aa (pv 0) af)) (pv 5)) af)))) aH) (ag (ax (i:=6) zy.nd rfl (Or.inl rfl) (ao aG (ao aG (ao ay (pv 0) (pv 0)) (ao ay (ao ay (pv 1) (pv 1)) (pv 2))) (ao ay (ao ay (pv 3) (pv 3)) (pv 4)))) (ar (az (ao ay (aA yL (hr.mono (by decide)) (by rfl) (aa (pv 0) af)) (aA zH (hr.mono (by decide)) (by rfl) (aa (pv 6) (aa (ao ay (ao ay (dI cS ad) (pv 1)) (pv 3)) (aa (ao ay (pv 2) (pv 4)) af)))))))))),?_⟩;refine⟨_,rfl,p,rfl,aw bp (by decide),_,rfl,_,_,rfl,rfl,CM.b (ji bp) bu (by decide) (by decide),_,rfl,c,rfl,aw bc (by decide),_,rfl,_,_,rfl,rfl,CM.b (ji bc) bb (by decide) (by decide),_,_,rfl,rfl,_,rfl,?_⟩;unfold cr at q;refine⟨_,rfl,a,rfl,_,rfl,_,_,rfl,rfl,CM.b (iT _) (iT _) (by decide) (by decide),_,_,rfl,rfl,_,rfl,aY (fun h1=>?_) (fun h1=>?_)⟩
  ·rw[if_pos (by simpa using h1)]at q
   exact⟨_,rfl,a,rfl,_,rfl,_,_,rfl,rfl,_,rfl,q⟩
  ·rw[if_neg (by simpa using h1)]at q
   have m2:∀{i j:Int},bits i≤1000->bits j≤1000->bits (i*j)≤2000:=fun hi hj=>bits_mul hi hj;have m3:∀{i j:Int},bits i≤2000->bits j≤1000->bits (i*j)≤3000:=fun hi hj=>bits_mul hi hj;have cm:∀{i j:Int},bits i≤5000->bits j≤5000->CM i j:=fun hi hj=>CM.b hi hj (by decide) (by decide);have w:∀{i:Int} {m:Nat},bits i≤m->m≤5000->bits i≤5000:=fun h hm=>aw h hm;have ba':=w ba (by decide);have bp':=w bp (by decide);have bc':=w bc (by decide);have bu':=w bu (by decide);have bb':=w bb (by decide);refine⟨_,rfl,_,rfl,_,_,rfl,rfl,cm ba' ba',_,rfl,_,rfl,_,_,rfl,rfl,cm bp' bp',_,rfl,_,_,rfl,rfl,cm (w (m2 bp bp) (by decide)) bu',_,_,rfl,rfl,_,rfl,_,rfl,_,_,rfl,rfl,cm bc' bc',_,rfl,_,_,rfl,rfl,cm (w (m2 bc bc) (by decide)) bb',_,_,rfl,rfl,?_⟩;have b2:bits (-2:Int)≤1000:=aw (aV (by decide) (by decide)) (by decide);have be:bits (a*a - p*p*u - c*c*b)≤8000:=aw (aK (n:=3001) (aK (n:=3000) (aw (m2 ba ba) (by decide)) (m3 (m2 bp bp) bu)) (aw (m3 (m2 bc bc) bb) (by decide))) (by decide);refine⟨_,rfl,a,rfl,_,rfl,_,rfl,_,rfl,_,_,rfl,rfl,cm (w b2 (by decide)) bp',_,rfl,_,_,rfl,rfl,cm (w (m2 b2 bp) (by decide)) bc',_,rfl,_,rfl,_,_,rfl,rfl,cm bu' bb',_,_,_,rfl,⟨be,aw (m3 (m2 b2 bp) bc) (by decide),aw (m2 bu bb) (by decide)⟩,_,_,rfl,rfl,?_,q⟩;exact CM.l (by have:=jm a;exact sU (by omega) (by omega))
theorem BY:yG ["one","other","whole"] ["one","other"] (ap (top 15)):=smk
theorem jW(AY:Df K mg "root_order" (top 15))(zC:Fn P w K mg base "sign_with_roots" ["whole","part","under","share","below"] 3 Dj):Fn P w K mg base "root_order" ["one","other"] 4 (DV K):=by
 refine AY.fn BY (fun _ _ _ _ _ _ us hl=>by obtain⟨_,_,rfl⟩:=dF hl;rfl) (fun vs H Q E h=>?_) (fun f cdv A outer s H vs Q E hr h=>?_)
 ·obtain⟨p,q,a0,a1,a2,a3,b0,b1,b2,b3,rfl,_⟩:=h
  rfl
 ·obtain⟨p,q,a0,a1,a2,a3,b0,b1,b2,b3,rfl,ra,rb,k⟩:=h
  have cm:∀{i j:Int},bits i≤450->bits j≤450->CM i j:=fun hi hj=>CM.b hi hj (by decide) (by decide);have m2:∀{i j:Int},bits i≤450->bits j≤450->bits (i*j)≤900:=fun hi hj=>bits_mul hi hj;refine⟨_,(ag (ax (i:=2) BY.nd rfl (Or.inl rfl) (ao aG (ao ay (aj ai (pv 0) ad (fun _ _=>rfl)) (aj ai (pv 1) ad (fun _ _=>rfl))) (ao ay (aj ai (pv 1) ad (fun _ _=>rfl)) (aj ai (pv 0) ad (fun _ _=>rfl))))) (ar (az (aA zC (hr.mono (by decide)) (by rfl) (aa (pv 2) (aa (ao ay (aj ai (pv 0) ad (fun _ _=>rfl)) (aj ai (pv 1) ad (fun _ _=>rfl))) (aa (aj ai (pv 0) ad (fun _ _=>rfl)) (aa (ao ay (dI cS (aj ai (pv 1) ad (fun _ _=>rfl))) (aj ai (pv 0) ad (fun _ _=>rfl))) (aa (aj ai (pv 1) ad (fun _ _=>rfl)) af))))))))),?_⟩;refine⟨_,rfl,p,_,_,_,rfl,rfl,ra.at_,rfl,_,rfl,q,_,_,_,rfl,rfl,rb.at_,rfl,_,_,rfl,rfl,cm ra.b0 rb.b3,_,rfl,q,_,_,_,rfl,rfl,rb.at_,rfl,_,rfl,p,_,_,_,rfl,rfl,ra.at_,rfl,_,_,rfl,rfl,cm rb.b0 ra.b3,_,_,rfl,rfl,?_⟩;refine⟨_,rfl,_,rfl,p,_,_,_,rfl,rfl,ra.at_,rfl,_,rfl,q,_,_,_,rfl,rfl,rb.at_,rfl,_,_,rfl,rfl,cm ra.b1 rb.b3,_,rfl,p,_,_,_,rfl,rfl,ra.at_,rfl,_,rfl,q,_,_,_,rfl,rfl,rb.at_,rfl,_,rfl,_,rfl,p,_,_,_,rfl,rfl,ra.at_,rfl,_,_,rfl,rfl,cm (bits_neg rb.b1) ra.b3,_,rfl,q,_,_,_,rfl,rfl,rb.at_,rfl,?_⟩;exact⟨_,_,_,_,_,rfl,⟨aw (aK (m2 ra.b0 rb.b3) (m2 rb.b0 ra.b3)) (by decide),aw (m2 ra.b1 rb.b3) (by decide),aw ra.b2 (by decide),aw (m2 (bits_neg rb.b1) ra.b3) (by decide),aw rb.b2 (by decide)⟩,k⟩
theorem wz{n f:Int}(hn:0≤n)(hf:0<f):n<((f+n / f) / 2+1)*((f+n / f) / 2+1)∧(n<f*f->(f+n / f) / 2<f)∧0≤(f+n / f) / 2:=by
 have q0:0≤n / f:=Int.ediv_nonneg hn (by omega);have q1:n<(n / f+1)*f:=Int.lt_ediv_add_one_mul_self n hf;refine⟨?_,fun h=>?_,by omega⟩
 ·generalize eg:(f+n / f) / 2=g
  have h2:f+(n / f+1)≤2*(g+1):=by omega
  have s1:=gn (x:=f+(n / f+1)) (y:=2*(g+1)) (by omega) h2;have e1:2*(g+1)*(2*(g+1))=4*((g+1)*(g+1)):=by grind
  have e2:(f+(n / f+1))*(f+(n / f+1))=4*((n / f+1)*f)+(f - (n / f+1))*(f - (n / f+1)):=by grind
  have e3:0≤(f - (n / f+1))*(f - (n / f+1)):=by
   rcases Int.le_total 0 (f - (n / f+1)) with g0|g0
   ·exact Int.mul_nonneg g0 g0
   ·exact Int.mul_nonneg_of_nonpos_of_nonpos g0 g0
  omega
 ·have:n / f<f:=Int.ediv_lt_of_lt_mul hf h
  omega
theorem nX{n:Int}(hn:0≤n):n<((1:Int)*2^((((bits n:Nat):Int)+1) / 2).toNat+1)*((1:Int)*2^((((bits n:Nat):Int)+1) / 2).toNat+1)∧0<(1:Int)*2^((((bits n:Nat):Int)+1) / 2).toNat:=by
 generalize ek:((((bits n:Nat):Int)+1) / 2).toNat=k;have hk:bits n≤k+k:=by omega
 have h1:=cM hk;have hp:(0:Int)<2^k:=Int.pow_pos (by decide);have e1:((2:Int)^k)*2^k=((2^(k+k):Nat):Int):=by rw[<- Int.pow_add];norm_cast
 rw[Int.one_mul];refine⟨?_,hp⟩;have e2:((2:Int)^k+1)*(2^k+1)=2^k*2^k+2*2^k+1:=by grind
 have h2:n<((2^(k+k):Nat):Int):=by omega
 omega
inductive CT (vs:List V) (H:Hp) (Q:VK) (x_3:XK):Prop
 | mk:∀n:Int,(vs = [.int n])->(0≤n)->(bits n≤15000)->(∀r:Int,Ei 1 n r->Q (.int r) H)->CT vs H Q x_3
theorem gk(x:Int):ssq (-x) = -ssq x:=by
 rcases Int.lt_trichotomy x 0 with h|h|h
 ·rw[dH h,dE (x:=-x) (by omega)];grind
 ·subst h;rfl
 ·rw[dE (x:=x) (by omega),dH (x:=-x) (by omega)];grind
theorem hO(w m u n l:Int):cr (-w) n l (-m) u = -cr w m u (-n) l:=by
 unfold cr swr;rw[gk m,gk n,eM w,show ssq n*l + -ssq m*u = -(ssq m*u + -ssq n*l) by grind,eM (ssq m*u + -ssq n*l),Int.neg_mul_neg,show -w * -w - n*n*l - -m * -m*u=w*w - m*m*u - -n * -n*l by grind,show -2*n * -m = -2*m * -n by grind,Int.mul_comm l u]
 by_cases g:sg w*sg (ssq m*u + -ssq n*l)≥0
 ·rw[if_pos g,if_pos g,show -sg w + -sg (ssq m*u + -ssq n*l) = -(sg w+sg (ssq m*u + -ssq n*l)) by omega,eM]
 ·rw[if_neg g,if_neg g,Int.neg_mul]
theorem eN(a0 a1 a2 a3 b0 b1 b2 b3:Int):ro b0 b1 b2 b3 a0 a1 a2 a3=0 - ro a0 a1 a2 a3 b0 b1 b2 b3:=by
 unfold ro;have h:=hO (a0*b3 - b0*a3) (a1*b3) a2 (b1*a3) b2;rw[Int.neg_mul a1 b3,Int.neg_mul b1 a3,show b0*a3 - a0*b3 = -(a0*b3 - b0*a3) by omega,h];omega
theorem oh{n:Int}(hn:0≤n)(h:bits n≤15000):bits ((1:Int)*2^((((bits n:Nat):Int)+1) / 2).toNat)≤7502:=by
 refine cL ?_;generalize ek:((((bits n:Nat):Int)+1) / 2).toNat=k;have hk:k≤7501:=by omega
 rw[Int.one_mul,Int.natAbs_pow];show 2^k<2^7502;exact Nat.pow_lt_pow_right (by decide) (by omega)
theorem AO:yG ["number","guess"] ["number"] (ap (top 16)):=smk
theorem j6(Bb:Df K mg "floor_root" (top 16)):Fn P w K mg base "floor_root" ["number"] 1 CT:=by
 refine Bb.fn AO (fun _ _ _ _ _ _ us hl=>by obtain⟨_,rfl⟩:=dA hl;rfl) (fun vs H Q E h=>?_) (fun f cdv A outer s H vs Q E hr h=>?_)
 ·obtain⟨n,rfl,_⟩:=h
  rfl
 ·obtain⟨n,rfl,hn,bn,q⟩:=h
  refine⟨_,(ag (ax (i:=1) AO.nd rfl (Or.inl rfl) (ao sM ad (ao cj (ao aP (ot PySem.F.plainAttrs_int PySem.F.slot_int_bit_length PySem.F.type_int_bit_length qO (pv 0)) ad) ad))) (ag (dN PassesOwn.never (aC iB (ao ay (pv 1) (pv 1)) (pv 0) (aE _)) (ar (ax (i:=1) AO.nd rfl (Or.inl rfl) (ao cj (ao aP (pv 1) (ao cj (pv 0) (pv 1))) ad)))) (ar (az (pv 1))))),?_⟩;have st:=nX hn;have sb:=oh hn bn;refine⟨_,rfl,rfl,n,rfl,rfl,_,_,rfl,rfl,_,_,rfl,rfl,⟨by decide,by decide⟩,_,_,rfl,rfl,⟨Int.ediv_nonneg (by omega) (by decide),?_,by decide⟩,?_⟩
  ·show(((bits n:Nat):Int)+1) / 2≤1000000
   omega
  refine dL (fun σ H'=>∃f:Int,σ = [some (.int n),some (.int f)]∧H'=H∧0≤f∧n<(f+1)*(f+1)∧bits f≤7502)
   (fun σ _=>match σ with | [_,some (.int f)]=>f.toNat|_=>0) ⟨_,rfl,rfl,by omega,st.1,sb⟩ ?_ ?_
  ·rintro σ H' ⟨f,rfl,rfl,hf,hlt,bf⟩
   refine⟨_,rfl,_,rfl,_,_,rfl,rfl,CM.b bf bf (by decide) (by decide),_,rfl,_,_,rfl,rfl,_,rfl,aY (fun hc=>?_) (fun hc=>?_)⟩
   ·have hc:n<f*f:=cV hc
    have hf0:0<f:=by
     rcases Int.lt_or_eq_of_le hf with h|h
     ·exact h
     ·rw[<- h]at hc;simp at hc;omega
    obtain⟨k1,k2,k3⟩:=wz hn hf0;refine⟨_,rfl,_,rfl,_,rfl,_,_,rfl,rfl,⟨hf0,aw bf (by decide)⟩,_,_,rfl,rfl,_,_,rfl,rfl,⟨by decide,by decide⟩,⟨(f+n / f) / 2,rfl,rfl,k3,k1,bQ k3 (Int.le_of_lt (k2 hc)) bf⟩,?_⟩;have:=k2 hc;show((f+n / f) / 2).toNat<f.toNat;omega
   ·have hc:¬n<f*f:=du hc
    refine⟨_,rfl,q f ⟨hf,by omega,by omega⟩⟩
  ·rintro σ H' Q1 Q2 hq ⟨v,e,v2,e2,i,j,e3,e4,cm,v3,e5,i2,j2,e6,e7,k,ek,r⟩
   exact⟨v,e,v2,e2,i,j,e3,e4,cm,v3,e5,i2,j2,e6,e7,k,ek,hq _ _ r⟩
inductive Dy (K:W.Frag) (vs:List V) (H:Hp) (Q:VK) (x_3:XK):Prop
 | mk:∀(p:Addr) (a0 a1 a2 a3 sc:Int) (n kk k2:Nat),(vs = [.ref p,.int sc])->(Rt K H p a0 a1 a2 a3)->((0≤a2∧0<a3))->((0<sc∧bits sc≤n))->((n≤4100∧bits a0≤kk∧bits a1≤kk∧bits a2≤2*k2∧kk≤450∧k2≤500))->(∀F,SF a0 a1 a2 a3 sc F->bits F≤n+kk+k2+5->Q (.int F) H)->Dy K vs H Q x_3
inductive Ee (K:W.Frag) (vs:List V) (H:Hp) (Q:VK) (x_3:XK):Prop
 | mk:∀(p:Addr) (a0 a1 a2 a3 sc:Int) (n kk k2:Nat),(vs = [.ref p,.int sc])->(Rt K H p a0 a1 a2 a3)->((0≤a2∧0<a3))->((0<sc∧bits sc≤n))->((n≤4100∧bits a0≤kk∧bits a1≤kk∧bits a2≤2*k2∧kk≤450∧k2≤500))->(∀F H',SF (-a0) (-a1) a2 a3 sc F->bits F≤n+kk+k2+5->Same H H'->Q (.int (-F - 1)) H')->Ee K vs H Q x_3
theorem mf{n R:Int}{m:Nat}(r:Ei 1 n R)(h:bits n≤2*m):bits R≤m+1:=by
 have h1:=cM h;have lo:=r.lo;have nn:=r.nn;rw[Int.one_mul]at lo;refine cL ?_;refine Classical.byContradiction fun g=>?_;have g1:2^(m+1)≤R.natAbs:=by omega
 have g2:2^(m+1)*2^(m+1)≤R.natAbs*R.natAbs:=Nat.mul_le_mul g1 g1;have e1:R.natAbs*R.natAbs=(R*R).natAbs:=(Int.natAbs_mul R R).symm;have e2:(R*R).natAbs≤n.natAbs:=by have:=Int.mul_nonneg nn nn;omega
 have e3:2^(2*m)≤2^(m+1)*2^(m+1):=by rw[<- Nat.pow_add];exact Nat.pow_le_pow_right (by decide) (by omega)
 omega
theorem kJ{x s:Int}{m:Nat}(hs:0<s)(h:bits x≤m):bits (x / s)≤m+1:=by
 have h1:=cM h;refine cL ?_;have e:(x / s).natAbs≤x.natAbs+1:=by
  have q1:=Int.ediv_mul_le x (show s≠0 by omega);have q2:=Int.lt_ediv_add_one_mul_self x hs;generalize x / s=q at *;rcases Int.lt_or_le q 0 with g|g
  ·have a1:q*s≤q*1:=by
    have:=Int.mul_le_mul_of_nonneg_left (show(1:Int)≤s by omega) (show 0≤-q by omega);have e1:-q*s = -(q*s):=by grind
    omega
   have e2:(q+1)*s=q*s+s:=by grind
   rcases Int.lt_or_le (q+1) 0 with g2|g2
   ·have a2:(q+1)*s≤(q+1)*1:=by
     have:=Int.mul_le_mul_of_nonneg_left (show(1:Int)≤s by omega) (show 0≤-(q+1) by omega);have e1:-(q+1)*s = -((q+1)*s):=by grind
     omega
    omega
   ·omega
  ·have a1:q*1≤q*s:=Int.mul_le_mul_of_nonneg_left (by omega) g
   omega
 have:2^(m+1)=2*2^m:=by rw[Nat.pow_succ];omega
 have p:0<2^m:=Nat.pow_pos (by decide);omega
theorem zA:yG ["number","scale","under","root"] ["number","scale"] (ap (top 18)):=smk
theorem iL(As:Df K mg "scaled_floor" (top 18))(zm:Fn P w K mg base "floor_root" ["number"] 1 CT):Fn P w K mg base "scaled_floor" ["number","scale"] 2 (Dy K):=by
 refine As.fn zA (fun _ _ _ _ _ _ us hl=>by obtain⟨_,_,rfl⟩:=dF hl;rfl) (fun vs H Q E h=>?_) (fun f cdv A outer s H vs Q E hr h=>?_)
 ·obtain⟨p,a0,a1,a2,a3,sc,n,kk,k2,rfl,_⟩:=h
  rfl
 ·obtain⟨p,a0,a1,a2,a3,sc,n,kk,k2,rfl,r,⟨h2,h3⟩,⟨s0,sb⟩,⟨n1,c0,c1,c2,d1,d2⟩,q⟩:=h
  refine⟨_,(ag (ax (i:=2) zA.nd rfl (Or.inl rfl) (ao ay (ao ay (ao ay (ao ay (pv 1) (pv 1)) (aj ai (pv 0) ad (fun _ _=>rfl))) (aj ai (pv 0) ad (fun _ _=>rfl))) (aj ai (pv 0) ad (fun _ _=>rfl)))) (ag (ax (i:=3) zA.nd rfl (Or.inl rfl) (aA zm (hr.mono (by decide)) (by rfl) (aa (pv 2) af))) (ag (aQ (aC cY (aj ai (pv 0) ad (fun _ _=>rfl)) ad (aE _)) (ar (ax (i:=3) zA.nd rfl (Or.inl rfl) (gB (aC bR (ao ay (pv 3) (pv 3)) (pv 2) (aE _)) (dI cS (pv 3)) (ao aG (dI cS (pv 3)) ad)))) aH) (ar (az (ao cj (ao aP (ao ay (pv 1) (aj ai (pv 0) ad (fun _ _=>rfl))) (pv 3)) (aj ai (pv 0) ad (fun _ _=>rfl)))))))),?_⟩;have m1:bits (sc*sc)≤n+n:=bits_mul sb sb;have m2:bits (sc*sc*a1)≤n+n+kk:=bits_mul m1 c1;have m3:bits (sc*sc*a1*a1)≤n+n+kk+kk:=bits_mul m2 c1;have m4:bits (sc*sc*a1*a1*a2)≤2*(n+kk+k2):=aw (bits_mul m3 c2) (by omega);have n4:0≤sc*sc*a1*a1*a2:=by
   have e:sc*sc*a1*a1=sc*a1*(sc*a1):=by grind
   rw[e];have:0≤sc*a1*(sc*a1):=by
    rcases Int.lt_or_le (sc*a1) 0 with g|g
    ·exact Int.mul_nonneg_of_nonpos_of_nonpos (by omega) (by omega)
    ·exact Int.mul_nonneg g g
   exact Int.mul_nonneg this h2
  refine⟨_,rfl,_,rfl,_,_,rfl,rfl,CM.of sb sb ⟨by omega,by omega⟩,_,rfl,p,_,_,_,rfl,rfl,r.at_,rfl,_,_,rfl,rfl,CM.of m1 r.b1 ⟨by omega,by decide⟩,_,rfl,p,_,_,_,rfl,rfl,r.at_,rfl,_,_,rfl,rfl,CM.of m2 r.b1 ⟨by omega,by decide⟩,_,rfl,p,_,_,_,rfl,rfl,r.at_,rfl,_,_,rfl,rfl,CM.of m3 r.b2 ⟨by omega,by decide⟩,?_⟩;refine⟨_,rfl,_,rfl,n4,aw m4 (by omega),fun R hR=>?_⟩;have rb:bits R≤n+kk+k2+1:=mf hR m4;have m5:bits (sc*a0)≤n+kk:=bits_mul sb c0;have fin:∀f:Int,f=flr a1 (sc*sc*a1*a1*a2) R->bits f≤n+kk+k2+2->bits ((sc*a0+f) / a3)≤n+kk+k2+5:=fun f _ hf=>aw (kJ h3 (a7 (n:=n+kk+k2+2) (aw m5 (by omega)) hf)) (by omega);have end_:∀f:Int,f=flr a1 (sc*sc*a1*a1*a2) R->bits f≤n+kk+k2+2->Q (.int ((sc*a0+f) / a3)) H:=fun f e hf=>q _ ⟨R,hR,by rw[<- e]⟩ (fin f e hf);refine⟨_,rfl,p,_,_,_,rfl,rfl,r.at_,rfl,_,_,rfl,rfl,_,rfl,aY (fun e1=>?_) (fun e1=>?_)⟩
  ·have e1:a1<0:=cV e1
   refine⟨_,rfl,_,rfl,_,_,rfl,rfl,CM.of rb rb ⟨by omega,by omega⟩,_,rfl,rfl,_,rfl,aY (fun e2=>?_) (fun e2=>?_)⟩
   ·have e2:R*R=sc*sc*a1*a1*a2:=by simpa using e2
    refine⟨_,rfl,_,rfl,_,rfl,_,rfl,p,_,_,_,rfl,rfl,r.at_,rfl,_,_,rfl,rfl,CM.of sb r.b0 ⟨by omega,by decide⟩,_,rfl,_,_,rfl,rfl,_,rfl,p,_,_,_,rfl,rfl,r.at_,rfl,_,_,rfl,rfl,⟨h3,aw r.b3 (by decide)⟩,end_ (-R) ?_ (aw (bits_neg rb) (by omega))⟩;unfold flr;rw[if_pos e1,if_pos e2]
   ·have e2:¬R*R=sc*sc*a1*a1*a2:=by simpa using e2
    refine⟨_,rfl,_,rfl,_,_,rfl,rfl,_,rfl,_,rfl,p,_,_,_,rfl,rfl,r.at_,rfl,_,_,rfl,rfl,CM.of sb r.b0 ⟨by omega,by decide⟩,_,rfl,_,_,rfl,rfl,_,rfl,p,_,_,_,rfl,rfl,r.at_,rfl,_,_,rfl,rfl,⟨h3,aw r.b3 (by decide)⟩,end_ (-R - 1) ?_ (aK (n:=n+kk+k2+1) (bits_neg rb) (aw (show bits 1≤1 by decide) (by omega)))⟩;unfold flr;rw[if_pos e1,if_neg e2]
  ·have e1:¬a1<0:=du e1
   refine⟨_,rfl,_,rfl,p,_,_,_,rfl,rfl,r.at_,rfl,_,_,rfl,rfl,CM.of sb r.b0 ⟨by omega,by decide⟩,_,rfl,_,_,rfl,rfl,_,rfl,p,_,_,_,rfl,rfl,r.at_,rfl,_,_,rfl,rfl,⟨h3,aw r.b3 (by decide)⟩,end_ R ?_ (aw rb (by omega))⟩;unfold flr;rw[if_neg e1]
theorem Cj:yG ["number","scale","turned"] ["number","scale"] (ap (top 19)):=smk
theorem lO(Bw:Df K mg "below_all" (top 19))(y3:Fn P w K mg base "scaled_floor" ["number","scale"] 2 (Dy K)):Fn P w K mg base "below_all" ["number","scale"] 3 (Ee K):=by
 refine Bw.fn Cj (fun _ _ _ _ _ _ us hl=>by obtain⟨_,_,rfl⟩:=dF hl;rfl) (fun vs H Q E h=>?_) (fun f cdv A outer s H vs Q E hr h=>?_)
 ·obtain⟨p,a0,a1,a2,a3,sc,n,kk,k2,rfl,_⟩:=h
  rfl
 ·obtain⟨p,a0,a1,a2,a3,sc,n,kk,k2,rfl,r,⟨h2,h3⟩,⟨s0,sb⟩,⟨n1,c0,c1,c2,d1,d2⟩,q⟩:=h
  refine⟨_,(ag (ax (i:=2) Cj.nd rfl (Or.inl rfl) (aB (aa (dI cS (aj ai (pv 0) ad (fun _ _=>rfl))) (aa (dI cS (aj ai (pv 0) ad (fun _ _=>rfl))) (aa (aj ai (pv 0) ad (fun _ _=>rfl)) (aa (aj ai (pv 0) ad (fun _ _=>rfl)) af)))))) (ar (az (ao aG (dI cS (aA y3 (hr.mono (by decide)) (by rfl) (aa (pv 2) (aa (pv 1) af)))) ad)))),?_⟩;refine⟨_,rfl,p,_,_,_,rfl,rfl,r.at_,rfl,_,rfl,_,rfl,p,_,_,_,rfl,rfl,r.at_,rfl,_,rfl,_,rfl,p,_,_,_,rfl,rfl,r.at_,rfl,_,rfl,p,_,_,_,rfl,rfl,r.at_,rfl,sz (by simp),fun t H1 s1 f1 nn1=>?_⟩;exact⟨_,rfl,_,rfl,t,-a0,-a1,a2,a3,sc,n,kk,k2,rfl,⟨SqT.of f1,bits_neg r.b0,bits_neg r.b1,r.b2,r.b3⟩,⟨h2,h3⟩,⟨s0,sb⟩,⟨n1,bits_neg c0,bits_neg c1,c2,d1,d2⟩,fun F hF hb=>⟨_,rfl,_,_,rfl,rfl,q F H1 hF hb s1⟩⟩
inductive CP (vs:List V) (H:Hp) (Q:VK) (x_3:XK):Prop
 | mk:∀lo hi sc:Int,(vs = [.int lo,.int hi,.int sc])->((lo<hi∧bits lo≤6020∧bits hi≤6020))->((0<sc∧bits sc≤4100))->(∀(l:Addr) (ts:List Int) (n:Nat) (H':Hp),Same H H'->H' l=some (.lst (ts.map V.int))->sh n lo hi sc sc=some ts->ts.length≤8210->Q (.ref l) H')->CP vs H Q x_3
theorem ib{x:Int}{n:Nat}(h:bits x≤n):x<2^n:=by
 have:=cM h;have e:((2^n:Nat):Int)=2^n:=by norm_cast
 omega
theorem mT{x y:Int}{n:Nat}(h:2*x<y)(hy:y<2^n)(h0:0<x):∃m,n=m+1∧x<2^m:=by
 cases n with
 | zero=>simp at hy;omega
 | succ m =>
  refine⟨m,rfl,?_⟩;have:(2:Int)^(m+1)=2*2^m:=by rw[Int.pow_succ];omega
  omega
def Far(lo hi b l sc:Int)(k:Nat):Prop:=(k=0∧b=sc∧l=sc)∨∃x y:Nat,hi<2^x∧lo<2^x∧b<2^y∧l<2^y∧b<lo∧l<hi∧k+x+y≤8205
theorem Far.len{lo hi b l sc:Int}{k:Nat}(h:Far lo hi b l sc k):k≤8205:=by
 rcases h with h|⟨x,y,h⟩ <;> omega
theorem Far.step{lo hi b l sc:Int}{k:Nat}(h:Far lo hi b l sc k)(sb:bits sc≤4100)(hb:0<b)(hl:0<l)(s:(0<hi - lo / b*l∧hi - lo / b*l<l)∧(0<lo - lo / b*b∧lo - lo / b*b<b)):Far l b (hi - lo / b*l) (lo - lo / b*b) sc (k+1):=by
 obtain⟨⟨s1,s2⟩,s3,s4⟩:=s;rcases h with⟨rfl,rfl,rfl⟩|⟨x,y,h1,h2,h3,h4,h5,h6,h7⟩
 ·have:=ib sb
  exact .inr ⟨4100,4100,this,this,by omega,by omega,s2,s4,by omega⟩
 ·have q1:1≤lo / b:=by
   have:=Int.ediv_le_ediv hb (show b≤lo by omega);rw[Int.ediv_self (by omega)]at this;exact this
  have e1:l*1≤lo / b*l:=by rw[Int.mul_comm (lo / b)];exact Int.mul_le_mul_of_nonneg_left q1 (by omega)
  have e2:b*1≤lo / b*b:=by rw[Int.mul_comm (lo / b)];exact Int.mul_le_mul_of_nonneg_left q1 (by omega)
  obtain⟨m,rfl,hm⟩:=mT (x:=hi - lo / b*l) (by omega) h1 s1;obtain⟨m',e,hm'⟩:=mT (x:=lo - lo / b*b) (by omega) h2 s3;have:m=m':=by omega
  subst this;exact .inr ⟨y,m,h3,h4,hm,hm',s2,s4,by omega⟩
theorem yK:yG ["low","high","scale","terms","bottom","last","term","low_rest","high_rest"] ["low","high","scale"] (ap (top 20)):=smk
theorem iK(Ar:Df K mg "shared_terms" (top 20))(T:Txt mg):Fn P w K mg base "shared_terms" ["low","high","scale"] 1 CP:=by
 refine Ar.fn yK (fun _ _ _ _ _ _ us hl=>by obtain⟨_,_,_,rfl⟩:=gL hl;rfl) (fun vs H Q E h=>?_) (fun f cdv A outer s H vs Q E hr h=>?_)
 ·obtain⟨lo,hi,sc,rfl,_⟩:=h
  rfl
 ·obtain⟨lo,hi,sc,rfl,⟨lh,bl,bh⟩,⟨s0,sb⟩,q⟩:=h
  refine⟨_,(ag (ax (i:=3) yK.nd rfl (Or.inl rfl) (bH af)) (ag (ax (i:=4) yK.nd rfl (Or.inl rfl) (pv 2)) (ag (ax (i:=5) yK.nd rfl (Or.inl rfl) (pv 2)) (ar (dN PassesOwn.never (bo dJ) (ag (ax (i:=6) yK.nd rfl (Or.inl rfl) (ao cj (pv 0) (pv 4))) (ag (aQ (aC bR (ao ay (pv 6) (pv 4)) (pv 0) (aE _)) (ag (cI (fm PySem.F.plainAttrs_list PySem.F.slot_list_append PySem.F.type_list_append bP (pv 3) (aa (pv 6) af))) (ar (az (pv 3)))) aH) (ag (aQ (aC ku (ao ay (ao aP (pv 6) ad) (pv 5)) (pv 1) (aE _)) (ag (cI (fm PySem.F.plainAttrs_list PySem.F.slot_list_append PySem.F.type_list_append bP (pv 3) (aa (ao aP (pv 6) ad) af))) (ar (az (pv 3)))) aH) (ag (cI (fm PySem.F.plainAttrs_list PySem.F.slot_list_append PySem.F.type_list_append bP (pv 3) (aa (pv 6) af))) (ag (ax (i:=7) yK.nd rfl (Or.inl rfl) (ao aG (pv 0) (ao ay (pv 6) (pv 4)))) (ag (ax (i:=8) yK.nd rfl (Or.inl rfl) (ao aG (pv 1) (ao ay (pv 6) (pv 5)))) (ag (ax (i:=0) yK.nd rfl (Or.inl rfl) (pv 5)) (ag (ax (i:=1) yK.nd rfl (Or.inl rfl) (pv 4)) (ag (ax (i:=4) yK.nd rfl (Or.inl rfl) (pv 8)) (ar (ax (i:=5) yK.nd rfl (Or.inl rfl) (pv 7))))))))))))))))),?_⟩;refine⟨sz (by simp),fun p H1 s1 f1 n1=>⟨_,rfl,_,rfl,?_⟩⟩;refine dL (fun σ H'=>∃(x y b l:Int) (ts:List Int) (z6 z7 z8:Option V),σ = [some (.int x),some (.int y),some (.int sc),some (.ref p),some (.int b),some (.int l),z6,z7,z8]∧Same H H'∧H' p=some (.lst (ts.map V.int))∧(0<b∧b≤sc)∧(0<l∧l≤sc)∧x*l<y*b∧(bits x≤6020∧bits y≤6020)∧Far x y b l sc ts.length∧∀us n,sh n x y b l=some us->∃m,sh m lo hi sc sc=some (ts++us))
   (fun σ _=>match σ with | [_,_,_,_,some (.int b),some (.int l),_,_,_]=>(b+l).toNat|_=>0) ⟨lo,hi,sc,sc,[],_,_,_,rfl,s1,f1,⟨s0,Int.le_refl _⟩,⟨s0,Int.le_refl _⟩,Int.mul_lt_mul_of_pos_right lh s0,⟨bl,bh⟩,.inl ⟨rfl,rfl,rfl⟩,fun us n h=>⟨n,h⟩⟩ ?_ ?_
  ·rintro σ H' ⟨x,y,b,l,ts,z6,z7,z8,rfl,sm,ft,⟨b0,b1⟩,⟨l0,l1⟩,hd,⟨bx,by'⟩,far,tl⟩
   have bb:bits b≤4100:=bQ (by omega) b1 sb;have bl':bits l≤4100:=bQ (by omega) l1 sb;have bq:bits (x / b)≤6021:=kJ b0 bx;have fl:=far.len;have sz3:∀c:Int,(ts.map V.int).length<sizeLine:=fun _=>by rw[sizeLine_eq,List.length_map];omega
   refine⟨_,rfl,ce rfl ?_⟩;refine⟨_,rfl,_,rfl,_,_,rfl,rfl,⟨b0,aw bb (by decide)⟩,?_⟩;refine⟨_,rfl,_,rfl,_,_,rfl,rfl,CM.of bq bb ⟨by decide,by decide⟩,_,rfl,rfl,_,rfl,aY (fun c1=>?_) (fun c1=>?_)⟩
   ·have c1:x / b*b=x:=by simpa using c1
    refine⟨_,rfl,.inl ⟨rfl,_,SqL.of ft⟩,_,rfl,p,_,_,rfl,rfl,ft,sz3 0,fun H2 u2=>⟨_,rfl,?_⟩⟩;obtain⟨m,hm⟩:=tl [x / b] 1 (by unfold sh;rw[if_pos c1]);exact q p (ts++[x / b]) m H2 (u2.same sm n1) (by rw[u2.now,List.map_append];rfl) hm (by simp;omega)
   ·have c1:¬x / b*b=x:=by simpa using c1
    refine⟨_,rfl,_,_,rfl,rfl,_,rfl,_,_,rfl,rfl,CM.of (a7 (n:=6021) bq (aw (show bits 1≤1 by decide) (by decide))) bl' ⟨by decide,by decide⟩,_,rfl,_,_,rfl,rfl,_,rfl,aY (fun c2=>?_) (fun c2=>?_)⟩
    ·have c2:(x / b+1)*l≤y:=cV c2
     refine⟨_,rfl,.inl ⟨rfl,_,SqL.of ft⟩,_,rfl,_,_,rfl,rfl,p,_,_,rfl,rfl,ft,sz3 0,fun H2 u2=>⟨_,rfl,?_⟩⟩;obtain⟨m,hm⟩:=tl [x / b+1] 1 (by unfold sh;rw[if_neg c1,if_pos c2]);exact q p (ts++[x / b+1]) m H2 (u2.same sm n1) (by rw[u2.now,List.map_append];rfl) hm (by simp;omega)
    ·have c2:¬(x / b+1)*l≤y:=du c2
     obtain⟨st1,st2,st3⟩:=st b0 l0 hd c1 c2;refine⟨_,rfl,.inl ⟨rfl,_,SqL.of ft⟩,_,rfl,p,_,_,rfl,rfl,ft,sz3 0,fun H2 u2=>?_⟩;refine⟨_,rfl,_,rfl,_,rfl,_,_,rfl,rfl,CM.of bq bb ⟨by decide,by decide⟩,_,_,rfl,rfl,?_⟩;refine⟨_,rfl,_,rfl,_,rfl,_,_,rfl,rfl,CM.of bq bl' ⟨by decide,by decide⟩,_,_,rfl,rfl,?_⟩;refine⟨_,rfl,_,rfl,_,rfl,_,rfl,⟨l,b,y - x / b*l,x - x / b*b,ts++[x / b],_,_,_,rfl,u2.same sm n1,by rw[u2.now,List.map_append];rfl,⟨st1.1,by omega⟩,⟨st2.1,by omega⟩,st3,⟨aw bl' (by decide),aw bb (by decide)⟩,by rw[List.length_append];exact far.step sb b0 l0 ⟨st1,st2⟩,fun us n h=>?_⟩,?_⟩
     ·obtain⟨m,hm⟩:=tl (x / b::us) (n+1) (by unfold sh;rw[if_neg c1,if_neg c2,h];rfl)
      exact⟨m,by rw[List.append_assoc];exact hm⟩
     ·show(y - x / b*l+(x - x / b*b)).toNat<(b+l).toNat
      omega
  ·rintro σ H' Q1 Q2 hq ⟨k,e,r⟩
   exact⟨k,e,hq _ _ r⟩
inductive EK (vs:List V) (H:Hp) (Q:VK) (x_3:XK):Prop
 | mk:∀(l:Addr) (ts:List Int) (N:Int) (n:Nat),(vs = [.ref l])->(H l=some (.lst (ts.map V.int)))->((0<ts.length∧ts.length≤8210))->(Bd N ts)->((bits N≤n∧n≤4490∧0≤N))->(∀(r:Addr) (t u:Int) (H':Hp),Same H H'->H' r=some (.tup [.int t,.int u])->AR (fr ts).1 (fr ts).2 t u->bits t≤n->bits u≤n->Q (.ref r) H')->EK vs H Q x_3
theorem tX{xs:List V}(h:0<xs.length):fP xs none (some (-1))=xs.dropLast:=by
 unfold fP;rw[HT.sIx_none];have e:HT.sIx xs.length xs.length (some (-1))=xs.length - 1:=by
  unfold HT.sIx;simp;omega
 rw[e,List.dropLast_eq_take];simp
theorem jd{N x:Int}{n:Nat}(h:-N≤x∧x≤N)(hN:bits N≤n)(N0:0≤N):bits x≤n:=cL (Nat.lt_of_le_of_lt (by omega:x.natAbs≤N.natAbs) (cM hN))
theorem yN:yG ["terms","top","bottom","term","rest"] ["terms"] (ap (top 21)):=smk
theorem fA{C:Addr}(zp:Df K mg "fraction_of_terms" (top 21))(Ae:Fx P w K mg base "ratio" ["top","bottom"] 2 [.int 1] (Bg C))(T:Txt mg):Fn P w K mg base "fraction_of_terms" ["terms"] 3 EK:=by
 refine zp.fn yN (fun _ _ _ _ _ _ us hl=>by obtain⟨_,rfl⟩:=dA hl;rfl) (fun vs H Q E h=>?_) (fun f cdv A outer s H vs Q E hr h=>?_)
 ·obtain⟨l,ts,N,n,rfl,_⟩:=h
  rfl
 ·obtain⟨l,ts,N,n,rfl,hl,⟨t0,t1⟩,bd,⟨bN,n1,N0⟩,q⟩:=h
  refine⟨_,(ag (ax (i:=1) yN.nd rfl (Or.inl rfl) (aj aM (pv 0) (dI cS ad) (fun _ _=>rfl))) (ag (ax (i:=2) yN.nd rfl (Or.inl rfl) ad) (ag (cO PassesOwn.never rfl (wo rfl T.z_reversed (gA gq (pv 0) iU (gz (dI cS ad)))) (aU (i:=3) yN.nd rfl (Or.inl rfl)) (ag (ax (i:=4) yN.nd rfl (Or.inl rfl) (pv 2)) (ag (ax (i:=2) yN.nd rfl (Or.inl rfl) (pv 1)) (ar (ax (i:=1) yN.nd rfl (Or.inl rfl) (ao aP (ao ay (pv 3) (pv 1)) (pv 4))))))) (ar (az (jq Ae (hr.mono (by decide)) (by rfl) (aa (pv 1) (aa (pv 2) af)))))))),?_⟩;obtain⟨ti,tl,rfl⟩:∃ti tl,ts=ti++[tl]:=by
   rcases List.eq_nil_or_concat ts with h|⟨a,b,h⟩
   ·rw[h]at t0
    simp at t0
   ·exact⟨a,b,by rw[h];simp⟩
  have len:(ti++[tl]).length=ti.length+1:=by simp
  have hlast:atI ((ti++[tl]).map V.int) (-1)=some (.int tl):=by
   rw[List.map_append];exact uf _ _
  have hcut:fP ((ti++[tl]).map V.int) none (some (-1))=ti.map V.int:=by
   rw[tX (by rw[List.length_map,len];omega),List.map_append];simp
  refine⟨_,rfl,_,rfl,l,_,_,_,rfl,rfl,SqL.of hl,hlast,?_⟩;refine⟨_,rfl,_,rfl,_,rfl,l,_,rfl,SqL.of hl,fun p H1 s1 f1 m1=>?_⟩;rw[hcut]at f1;have fl:(fr ((ti++[tl]).drop ti.length))=(tl,1):=by rw[List.drop_left];rfl
  refine⟨p,_,rfl,SqL.of f1,va (K:=K) (a:=p) (xs:=ti.map V.int) (fun i σ H'=>∃(x y:Int) (z3 z4:Option V),σ = [some (.ref l),some (.int x),some (.int y),z3,z4]∧H'=H1∧i≤ti.length∧fr ((ti++[tl]).drop (ti.length - i))=(x,y)) ⟨tl,1,_,_,rfl,rfl,Nat.zero_le _,by rw[Nat.sub_zero];exact fl⟩ ?_ ?_ ?_⟩
  ·rintro i σ H' hi ⟨x,y,z3,z4,rfl,rfl,h1,h2⟩
   exact SqL.of f1
  ·rintro i v σ H' hi hv ⟨x,y,z3,z4,rfl,rfl,h1,h2⟩
   rw[List.length_map]at hi hv;rw[List.getElem?_map]at hv;obtain⟨c,hc,rfl⟩:=Option.map_eq_some_iff.mp hv;have hj:ti.length - (i+1)<(ti++[tl]).length:=by rw[len];omega
   have hc':(ti++[tl])[ti.length - (i+1)]? = some c:=by
    rw[List.getElem?_append_left (by omega),<- hc]
    congr 1
    omega
   have e1:(ti++[tl]).drop (ti.length - (i+1))=c::(ti++[tl]).drop (ti.length - i):=by
    obtain⟨a1,a2⟩:=List.getElem?_eq_some_iff.mp hc';rw[List.drop_eq_getElem_cons a1,a2]
    congr 1
    congr 1
    omega
   have ne:(ti++[tl]).drop (ti.length - i)≠[]:=fun z=>by
    have:=congrArg List.length z;rw[List.length_drop,len]at this;simp at this;omega
   have bt:=(bd.f (ti.length - i) (by rw[len];omega)).1;rw[h2]at bt;have bx:bits x≤n:=jd bt bN N0;have bc:bits c≤n:=jd (bd.c c (List.mem_of_getElem? hc')) bN N0;refine⟨_,rfl,_,rfl,_,rfl,_,rfl,_,_,rfl,rfl,CM.of bc bx ⟨by omega,by omega⟩,_,rfl,_,_,rfl,rfl,c*x+y,x,_,_,rfl,rfl,by omega,?_⟩;rw[e1,qc ne,h2]
  ·rintro σ H' ⟨x,y,z3,z4,rfl,rfl,h1,h2⟩
   rw[List.length_map,Nat.sub_self,List.drop_zero]at h2;have b0:=bd.f 0 (by omega);rw[List.drop_zero,h2]at b0;have bx:bits x≤n:=jd b0.1 bN N0;have by':bits y≤n:=jd ⟨by have:=b0.2.1;omega,b0.2.2⟩ bN N0;refine⟨_,rfl,_,rfl,x,y,n,rfl,⟨bx,by',by omega⟩,fun z=>?_,fun _ r t u fr' c1 c2 nr=>?_⟩
   ·have:=b0.2.1
    have z:y=0:=z;omega
   ·rw[h2]at q
    exact q r t u _ (s1.trans (Same.new nr)) upd_same fr' c1 c2
theorem pA{K:W.Frag}{H H':Hp}{p:Addr}{a0 a1 a2 a3:Int}(r:Rt K H p a0 a1 a2 a3)(s:Same H H'):Rt K H' p a0 a1 a2 a3:=⟨jj r.at_ s,r.b0,r.b1,r.b2,r.b3⟩
structure Fa(a0 a1 a2 a3 b0 b1 b2 b3:Int)(kk k2:Nat):Prop where
 a2n:0≤a2
 a3p:0<a3
 b2n:0≤b2
 b3p:0<b3
 x0:bits a0≤kk
 x1:bits a1≤kk
 x2:bits a2≤2*k2
 y0:bits b0≤kk
 y1:bits b1≤kk
 y2:bits b2≤2*k2
 hk:kk≤450
 h2:k2≤500
inductive EJ (K:W.Frag) (vs:List V) (H:Hp) (Q:VK) (x_3:XK):Prop
 | mk:∀(p q:Addr) (a0 a1 a2 a3 b0 b1 b2 b3:Int) (kk k2 J n:Nat),(vs = [.ref p,.ref q])->(Rt K H p a0 a1 a2 a3)->(Rt K H q b0 b1 b2 b3)->(Fa a0 a1 a2 a3 b0 b1 b2 b3 kk k2)->((2^J+1+kk+k2+8≤n∧n≤4490∧2^J≤4099))->((∀F G,Rm a0 a1 a2 a3 b0 b1 b2 b3 J F G->F+1+2≤-G - 1))->(∀(r:Addr) (t u:Int) (H':Hp),Same H H'->H' r=some (.tup [.int t,.int u])->Wi a0 a1 a2 a3 b0 b1 b2 b3 t u->bits t≤n->bits u≤n->Q (.ref r) H')->EJ K vs H Q x_3
theorem wd(i:Nat):(1:Int)*2^((2:Int)^i).toNat=scl i:=by
 have:((2:Int)^i).toNat=2^i:=by
  have e:((2^i:Nat):Int)=(2:Int)^i:=by norm_cast
  rw[<- e];exact Int.toNat_natCast _
 rw[this,Int.one_mul];rfl
theorem gs(i:Nat):bits (scl i)≤2^i+1:=by
 refine cL ?_;unfold scl;rw[Int.natAbs_pow];exact Nat.pow_lt_pow_right (by decide) (by omega)
theorem jo(i:Nat):((2^i:Nat):Int)=(2:Int)^i:=by norm_cast
theorem yS:yG ["one","other","bits","scale","low","high"] ["one","other"] (ap (top 22)):=smk
theorem fX(zG:Df K mg "fraction_within" (top 22))(y3:Fn P w K mg base "scaled_floor" ["number","scale"] 2 (Dy K))(Bn:Fn P w K mg base "below_all" ["number","scale"] 3 (Ee K))(zn:Fn P w K mg base "fraction_of_terms" ["terms"] 3 EK)(Ak:Fn P w K mg base "shared_terms" ["low","high","scale"] 1 CP):Fn P w K mg base "fraction_within" ["one","other"] 4 (EJ K):=by
 refine zG.fn yS (fun _ _ _ _ _ _ us hl=>by obtain⟨_,_,rfl⟩:=dF hl;rfl) (fun vs H Q E h=>?_) (fun f cdv A outer s H vs Q E hr h=>?_)
 ·obtain⟨p,q,a0,a1,a2,a3,b0,b1,b2,b3,kk,k2,J,n,rfl,_⟩:=h
  rfl
 ·obtain⟨p,q,a0,a1,a2,a3,b0,b1,b2,b3,kk,k2,J,n,rfl,rp,rq,tw,⟨j1,j2,j3⟩,top,k⟩:=h
  refine⟨_,(ag (ax (i:=2) yS.nd rfl (Or.inl rfl) ad) (ar (dN PassesOwn.never (bo dJ) (ag (ax (i:=3) yS.nd rfl (Or.inl rfl) (ao sM ad (pv 2))) (ag (ax (i:=4) yS.nd rfl (Or.inl rfl) (ao aP (aA y3 (hr.mono (by decide)) (by rfl) (aa (pv 0) (aa (pv 3) af))) ad)) (ag (ax (i:=5) yS.nd rfl (Or.inl rfl) (aA Bn (hr.mono (by decide)) (by rfl) (aa (pv 1) (aa (pv 3) af)))) (ag (aQ (aC ku (ao aP (pv 4) ad) (pv 5) (aE _)) (ar (az (aA zn (hr.mono (by decide)) (by rfl) (aa (aA Ak (hr.mono (by decide)) (by rfl) (aa (pv 4) (aa (pv 5) (aa (pv 3) af)))) af)))) aH) (ar (ax (i:=2) yS.nd rfl (Or.inl rfl) (ao ay (pv 2) ad)))))))))),?_⟩;refine dL (fun σ H'=>∃(i:Nat) (z3 z4 z5:Option V),σ = [some (.ref p),some (.ref q),some (.int (2^i)),z3,z4,z5]∧i≤J∧Same H H'∧∀i',i'<i->∀F' G',Rm a0 a1 a2 a3 b0 b1 b2 b3 i' F' G'->¬F'+1+2≤-G' - 1)
   (fun σ _=>match σ with | [_,_,some (.int B),_,_,_]=>((2:Int)^J+1 - B).toNat|_=>0) ⟨0,_,_,_,rfl,Nat.zero_le _,Same.refl _,fun i' h=>absurd h (by omega)⟩ ?_ ?_
  ·rintro σ H' ⟨i,z3,z4,z5,rfl,hi,sm,no⟩
   have pw:2^i≤2^J:=Nat.pow_le_pow_right (by decide) hi;have pi:0<2^i:=Nat.pow_pos (by decide);have pc:=jo i;have rp':=pA rp sm;have rq':=pA rq sm;refine⟨_,rfl,ce rfl ?_⟩;refine⟨_,rfl,_,_,rfl,rfl,⟨by omega,by show(2:Int)^i≤1000000;omega,by decide⟩,?_⟩;rw[wd];refine⟨_,rfl,_,rfl,p,a0,a1,a2,a3,scl i,2^i+1,kk,k2,rfl,rp',⟨tw.a2n,tw.a3p⟩,⟨cP i,gs i⟩,⟨by omega,tw.x0,tw.x1,tw.x2,tw.hk,tw.h2⟩,fun F hF bF=>⟨_,_,rfl,rfl,?_⟩⟩;refine⟨_,rfl,_,rfl,q,b0,b1,b2,b3,scl i,2^i+1,kk,k2,rfl,rq',⟨tw.b2n,tw.b3p⟩,⟨cP i,gs i⟩,⟨by omega,tw.y0,tw.y1,tw.y2,tw.hk,tw.h2⟩,fun G H1 hG bG s1=>?_⟩;refine⟨_,rfl,_,_,rfl,rfl,_,rfl,_,_,rfl,rfl,_,rfl,aY (fun c1=>?_) (fun c1=>?_)⟩
   ·have c1:F+1+2≤-G - 1:=cV c1
    have hk:=tw.hk;have h2:=tw.h2;have bl:bits (F+1)≤2^i+1+kk+k2+6:=a7 bF (aw (show bits 1≤1 by decide) (by omega));have bh:bits (-G - 1)≤2^i+1+kk+k2+6:=aK (bits_neg bG) (aw (show bits 1≤1 by decide) (by omega));refine⟨_,rfl,_,rfl,_,rfl,F+1,-G - 1,scl i,rfl,⟨by omega,aw bl (by omega),aw bh (by omega)⟩,⟨cP i,aw (gs i) (by omega)⟩,fun l ts m H2 s2 f2 hs ln=>?_⟩;have hd:(F+1)*scl i<(-G - 1)*scl i:=Int.mul_lt_mul_of_pos_right (by omega) (cP i);have e1:=ib bl;have e2:=ib bh;have e3:=ib (bits_neg bl);have e4:=ib (bits_neg bh);have e5:=ib (aw (n:=2^i+1+kk+k2+6) (gs i) (by omega));have bd:=vJ (N:=2^(2^i+1+kk+k2+6)) (cP i) (cP i) hd ⟨by omega,by omega⟩ ⟨by omega,by omega⟩ (by omega) (by omega) hs;have ne:=(md (cP i) (cP i) hd hs).1;have N0:(0:Int)<2^(2^i+1+kk+k2+6):=Int.pow_pos (by decide);have bN:bits ((2:Int)^(2^i+1+kk+k2+6)+1)≤n:=by
     refine aw (a7 (n:=2^i+1+kk+k2+7) (cL ?_) (aw (show bits 1≤1 by decide) (by omega))) (by omega);rw[Int.natAbs_pow];exact Nat.pow_lt_pow_right (by decide) (by omega)
    exact⟨l,ts,_,n,rfl,f2,⟨List.length_pos_iff.mpr ne,ln⟩,bd,⟨bN,j2,by omega⟩,fun r t u H3 s3 f3 hf c2 c3=>k r t u H3 (sm.trans (s1.trans (s2.trans s3))) f3 ⟨i,F,G,ts,m,⟨hF,hG⟩,c1,no,hs,hf⟩ c2 c3⟩
   ·have c1:¬F+1+2≤-G - 1:=du c1
    have ij:i≠J:=fun z=>by
     subst z;exact c1 (top F G ⟨hF,hG⟩)
    have pw2:2^(i+1)≤2^J:=Nat.pow_le_pow_right (by decide) (by omega);have pc2:=jo (i+1);have pcJ:=jo J;have e:(2:Int)^i*2=2^(i+1):=by rw[Int.pow_succ]
    refine⟨_,rfl,_,_,rfl,rfl,CM.r ⟨by decide,by decide⟩,?_⟩;rw[e];refine⟨⟨i+1,_,_,_,rfl,by omega,sm.trans s1,fun i' h F' G' hR=>?_⟩,?_⟩
    ·rcases Nat.lt_or_eq_of_le (Nat.le_of_lt_succ h) with g|g
     ·exact no i' g F' G' hR
     ·subst g
      rw[hR.1.uniq hF,hR.2.uniq hG];exact c1
    ·show((2:Int)^J+1 - 2^(i+1)).toNat<((2:Int)^J+1 - 2^i).toNat
     omega
  ·rintro σ H' Q1 Q2 hq ⟨k,e,r⟩
   exact⟨k,e,hq _ _ r⟩
inductive DZ (K:W.Frag) (C:Addr) (vs:List V) (H:Hp) (Q:VK) (E:XK):Prop
 | mk:∀(p:Addr) (a0 a1 a2 a3:Int),(vs = [.ref p])->(Rt K H p a0 a1 a2 a3)->((0≤a2∧0<a3))->(∀R,Ei 1 (a1*a1*a2) R->(R*R≠a1*a1*a2->E (.ref C) none H) ∧
 (R*R=a1*a1*a2->∀(r:Addr) (t u:Int) (H':Hp),Same H H'->H' r=some (.tup [.int t,.int u])->AR (a0+sg a1*R) a3 t u->bits t≤1500->bits u≤1500->Q (.ref r) H'))->DZ K C vs H Q E
inductive EC (K:W.Frag) (C:Addr) (vs:List V) (H:Hp) (Q:VK) (E:XK):Prop
 | mk:∀(p q:Addr) (a0 a1 a2 a3 b0 b1 b2 b3:Int) (kk k2 J n:Nat),(vs = [.ref p,.ref q])->(Rt K H p a0 a1 a2 a3)->(Rt K H q b0 b1 b2 b3)->(Fa a0 a1 a2 a3 b0 b1 b2 b3 kk k2)->((2^J+1+kk+k2+8≤n∧n≤4490∧2^J≤4099))->((0<ro a0 a1 a2 a3 b0 b1 b2 b3->E (.ref C) none H))->((ro a0 a1 a2 a3 b0 b1 b2 b3=0->∀R,Ei 1 (a1*a1*a2) R->(R*R≠a1*a1*a2->E (.ref C) none H)∧(R*R=a1*a1*a2->∀(r:Addr) (t u:Int) (H':Hp),Same H H'->H' r=some (.tup [.int t,.int u])->AR (a0+sg a1*R) a3 t u->bits t≤1500->bits u≤1500->Q (.ref r) H')))->((ro a0 a1 a2 a3 b0 b1 b2 b3<0->(∀F G,Rm a0 a1 a2 a3 b0 b1 b2 b3 J F G->F+1+2≤-G - 1)∧∀(r:Addr) (t u:Int) (H':Hp),Same H H'->H' r=some (.tup [.int t,.int u])->Wi a0 a1 a2 a3 b0 b1 b2 b3 t u->bits t≤n->bits u≤n->Q (.ref r) H'))->EC K C vs H Q E
theorem wa(x:Int):0≤x*x:=by
 rcases Int.lt_or_le x 0 with g|g
 ·exact Int.le_of_lt (Int.mul_pos_of_neg_of_neg g g)
 ·exact Int.mul_nonneg g g
theorem Ag:yG ["number","under","root"] ["number"] (ap (top 17)):=smk
theorem iO{C:Addr}(Av:Df K mg "own_fraction" (top 17))(zi:CG K mg "NoRatio" C)(zm:Fn P w K mg base "floor_root" ["number"] 1 CT)(yL:Fn P w K mg base "sign_of" ["number"] 1 BH)(Ae:Fx P w K mg base "ratio" ["top","bottom"] 2 [.int 1] (Bg C)):Fx P w K mg base "own_fraction" ["number"] 3 [] (DZ K C):=by
 refine Av.fx Ag (fun _ _ _ _ _ _ us hl=>by obtain⟨_,rfl⟩:=dA hl;rfl) (fun vs H Q E h=>?_) (fun f cdv A outer s H vs Q E hr h=>?_)
 ·obtain⟨p,a0,a1,a2,a3,rfl,_⟩:=h
  rfl
 ·obtain⟨p,a0,a1,a2,a3,rfl,r,⟨h2,h3⟩,k⟩:=h
  refine⟨_,(ag (ax (i:=1) Ag.nd rfl (Or.inl rfl) (ao ay (ao ay (aj ai (pv 0) ad (fun _ _=>rfl)) (aj ai (pv 0) ad (fun _ _=>rfl))) (aj ai (pv 0) ad (fun _ _=>rfl)))) (ag (ax (i:=2) Ag.nd rfl (Or.inl rfl) (aA zm (hr.mono (by decide)) (by rfl) (aa (pv 1) af))) (ag (aQ (aC gG (ao ay (pv 2) (pv 2)) (pv 1) (aE _)) (ar (gu zi (by rfl))) aH) (ar (az (sK Ae (hr.mono (by decide)) (by rfl) (aa (ao aP (aj ai (pv 0) ad (fun _ _=>rfl)) (ao ay (aA yL (hr.mono (by decide)) (by rfl) (aa (aj ai (pv 0) ad (fun _ _=>rfl)) af)) (pv 2))) (aa (aj ai (pv 0) ad (fun _ _=>rfl)) af)))))))),?_⟩;have m1:bits (a1*a1)≤900:=bits_mul r.b1 r.b1;have m2:bits (a1*a1*a2)≤1900:=bits_mul m1 r.b2;have n2:0≤a1*a1*a2:=Int.mul_nonneg (wa a1) h2;refine⟨_,rfl,p,_,_,_,rfl,rfl,r.at_,rfl,_,rfl,p,_,_,_,rfl,rfl,r.at_,rfl,_,_,rfl,rfl,CM.of r.b1 r.b1 ⟨by decide,by decide⟩,_,rfl,p,_,_,_,rfl,rfl,r.at_,rfl,_,_,rfl,rfl,CM.of m1 r.b2 ⟨by decide,by decide⟩,?_⟩;refine⟨_,rfl,_,rfl,n2,aw m2 (by decide),fun R hR=>?_⟩;obtain⟨k1,k2⟩:=k R hR;have rb:bits R≤951:=mf hR m2;refine⟨_,rfl,_,rfl,_,_,rfl,rfl,CM.of rb rb ⟨by decide,by decide⟩,_,rfl,rfl,_,rfl,aY (fun c=>?_) (fun c=>?_)⟩
  ·exact k1 (by simpa using c)
  ·have c:R*R=a1*a1*a2:=by simpa using c
   refine⟨_,rfl,p,_,_,_,rfl,rfl,r.at_,rfl,_,rfl,p,_,_,_,rfl,rfl,r.at_,rfl,a1,rfl,_,rfl,_,_,rfl,rfl,CM.of (iT a1) rb ⟨by decide,by decide⟩,_,_,rfl,rfl,_,rfl,p,_,_,_,rfl,rfl,r.at_,rfl,_,_,1500,rfl,⟨aw (a7 (n:=961) (aw r.b0 (by decide)) (bits_mul (iT a1) rb)) (by decide),aw r.b3 (by decide),by decide⟩,fun z=>absurd z (by omega),fun _ p2 t u fr c1 c2 np=>k2 c p2 t u _ (Same.new np) upd_same fr c1 c2⟩
theorem Bi:yG ["one","other","order"] ["one","other"] (ap (top 23)):=smk
theorem iM{C:Addr}(At:Df K mg "root_between" (top 23))(zi:CG K mg "NoRatio" C)(yM:Fn P w K mg base "root_order" ["one","other"] 4 (DV K))(An:Fx P w K mg base "own_fraction" ["number"] 3 [] (DZ K C))(zD:Fn P w K mg base "fraction_within" ["one","other"] 4 (EJ K)):Fx P w K mg base "root_between" ["one","other"] 5 [] (EC K C):=by
 refine At.fx Bi (fun _ _ _ _ _ _ us hl=>by obtain⟨_,_,rfl⟩:=dF hl;rfl) (fun vs H Q E h=>?_) (fun f cdv A outer s H vs Q E hr h=>?_)
 ·obtain⟨p,q,a0,a1,a2,a3,b0,b1,b2,b3,kk,kq,J,n,rfl,_⟩:=h
  rfl
 ·obtain⟨p,q,a0,a1,a2,a3,b0,b1,b2,b3,kk,kq,J,n,rfl,rp,rq,tw,j,k1,k2,k3⟩:=h
  refine⟨_,(ag (ax (i:=2) Bi.nd rfl (Or.inl rfl) (aA yM (hr.mono (by decide)) (by rfl) (aa (pv 0) (aa (pv 1) af)))) (ag (aQ (aC iB (pv 2) ad (aE _)) (ar (gu zi (by rfl))) aH) (ag (aQ (aC bR (pv 2) ad (aE _)) (ar (az (sK An (hr.mono (by decide)) (by rfl) (aa (pv 0) af)))) aH) (ar (az (aA zD (hr.mono (by decide)) (by rfl) (aa (pv 0) (aa (pv 1) af)))))))),?_⟩;refine⟨_,rfl,_,rfl,p,q,a0,a1,a2,a3,b0,b1,b2,b3,rfl,rp,rq,?_⟩;refine⟨_,rfl,_,_,rfl,rfl,_,rfl,aY (fun c=>?_) (fun c=>?_)⟩
  ·exact k1 (cV c)
  ·have c:¬0<ro a0 a1 a2 a3 b0 b1 b2 b3:=du c
   refine⟨_,rfl,rfl,_,rfl,aY (fun d=>?_) (fun d=>?_)⟩
   ·exact⟨_,rfl,p,a0,a1,a2,a3,rfl,rp,⟨tw.a2n,tw.a3p⟩,k2 (by simpa using d)⟩
   ·have d:¬ro a0 a1 a2 a3 b0 b1 b2 b3=0:=by simpa using d
    obtain⟨k4,k5⟩:=k3 (by omega);exact⟨_,rfl,_,rfl,p,q,a0,a1,a2,a3,b0,b1,b2,b3,kk,kq,J,n,rfl,rp,rq,tw,j,k4,k5⟩
theorem EO:yG ["a","b"] ["a","b"] (ap (top 8)):=smk
theorem ve{C:Addr}(Du:Df K mg "plus" (top 8))(Ae:Fx P w K mg base "ratio" ["top","bottom"] 2 [.int 1] (Bg C)):Fn P w K mg base "plus" ["a","b"] 3 (Ed (fun a b c d=>a*d+c*b) (fun a b c d=>b*d)):=by
 refine Du.fn EO (fun _ _ _ _ _ _ us hl=>by obtain⟨_,_,rfl⟩:=dF hl;rfl) (fun vs H Q E h=>?_) (fun f cdv A outer s H vs Q E hr h=>?_)
 ·obtain⟨p,q,a,b,c,d,n,rfl,_⟩:=h
  rfl
 ·obtain⟨p,q,a,b,c,d,n,rfl,fp,fq,hn,hden,k⟩:=h
  have ep:=fp.at_;have eq:=fq.at_;have cm:∀{i j:Int},bits i≤n->bits j≤n->CM i j:=fun hi hj=>CM.b hi hj (Nat.le_trans hn (by decide)) (Nat.le_trans hn (by decide));have fin:∀(r:Addr) (t u:Int),AR (a*d+c*b) (b*d) t u->bits t≤2*n+1->bits u≤2*n+1->H r=none->Q (.ref r) (upd H r (.tup [.int t,.int u])):=fun r t u fr bt bu hr'=>by
   obtain⟨H1,e1,s1,f1⟩:=grow (o:=.tup [.int t,.int u]) hr';rw[e1];exact k r t u H1 fr ⟨f1,fr.low,bt,bu⟩ s1
  refine⟨_,(ar (az (jq Ae (hr.mono (by decide)) (by rfl) (aa (ao aP (ao ay (aj ai (pv 0) ad (fun _ _=>rfl)) (aj ai (pv 1) ad (fun _ _=>rfl))) (ao ay (aj ai (pv 1) ad (fun _ _=>rfl)) (aj ai (pv 0) ad (fun _ _=>rfl)))) (aa (ao ay (aj ai (pv 0) ad (fun _ _=>rfl)) (aj ai (pv 1) ad (fun _ _=>rfl))) af))))),?_⟩;refine⟨_,rfl,p,_,_,_,rfl,rfl,SqT.of ep,rfl,_,rfl,q,_,_,_,rfl,rfl,SqT.of eq,rfl,_,_,rfl,rfl,cm fp.ba fq.bb,_,rfl,q,_,_,_,rfl,rfl,SqT.of eq,rfl,_,rfl,p,_,_,_,rfl,rfl,SqT.of ep,rfl,_,_,rfl,rfl,cm fq.ba fp.bb,_,_,rfl,rfl,?_⟩;refine⟨_,rfl,p,_,_,_,rfl,rfl,SqT.of ep,rfl,_,rfl,q,_,_,_,rfl,rfl,SqT.of eq,rfl,_,_,rfl,rfl,cm fp.bb fq.bb,_,_,2*n+1,rfl,⟨aw (a7 (n:=2*n) (aw (bits_mul fp.ba fq.bb) (by omega)) (aw (bits_mul fq.ba fp.bb) (by omega))) (by omega),aw (bits_mul fp.bb fq.bb) (by omega),by omega⟩,fun z=>absurd z hden,fun _ r t u fr bt bu hr'=>fin r t u fr bt bu hr'⟩
theorem Dq:yG ["thing"] ["thing"] (ap (top 9)):=smk
theorem nA(BV:Df K mg "is_ratio" (top 9))(zh:Fn P w K mg base "is_whole" ["thing"] 1 Cm)(yV:Fn P w K mg base "common_divisor" ["one","other"] 1 DD)(T:Txt mg):Fn P w K mg base "is_ratio" ["thing"] 2 D2:=by
 refine BV.fn Dq (fun _ _ _ _ _ _ us hl=>by obtain⟨_,rfl⟩:=dA hl;rfl) (fun vs H Q E h=>?_) (fun f cdv A outer s H vs Q E hr h=>?_)
 ·obtain⟨x,rfl,_⟩:=h
  rfl
 ·obtain⟨x,rfl,th,q⟩:=h
  obtain⟨t,k⟩:=th.kn;refine⟨_,(ag (aQ (cX (ca (bo (aF bO (by rfl) T.z_isinstance a9 (aa (pv 0) (aa (fQ T.z_tuple g7) af))))) (cT (aC gG (aF aI (by rfl) T.z_len bD (aa (pv 0) af)) ad (aE _)))).pt (ar (az dJ)) aH) (ag (aQ (cX (ca (bo (aA zh (hr.mono (by decide)) (by rfl) (aa (aj ai (pv 0) ad (fun _ _=>rfl)) af)))) (cT (ca (bo (aA zh (hr.mono (by decide)) (by rfl) (aa (aj ai (pv 0) ad (fun _ _=>rfl)) af)))))).pt (ar (az dJ)) aH) (ar (az (d8 (bY pI (aj ai (pv 0) ad (fun _ _=>rfl)) ad (aE _)) (dO (bY bR (aA yV (hr.mono (by decide)) (by rfl) (aa (aj ai (pv 0) ad (fun _ _=>rfl)) (aa (aj ai (pv 0) ad (fun _ _=>rfl)) af))) ad (aE _)))))))),?_⟩;refine⟨_,rfl,x,t,"tuple",rfl,k,.inr (.inr (.inl rfl)),_,rfl,?_⟩;rcases Kn.cases_tup k with⟨p,xs,rfl,e,rfl⟩|⟨hl,hs⟩
  ·-- a tuple
   rw[sZ e]at q;refine ig ?_;refine⟨_,rfl,p,xs,rfl,.inr (SqT.of e),rfl,_,rfl,?_⟩;refine aY (fun hc=>?_) (fun hc=>?_)
   ·have hn:xs.length≠2:=by
     intro z;rw[z]at hc;exact absurd hc (by decide)
    rw[tp hn]at q;exact q
   ·have hn:xs.length=2:=by
     have z:(xs.length:Int)=2:=by simpa using hc
     omega
    match xs,hn,e,q with
    | [y,z],_,e,q =>
     obtain⟨ty,ky⟩:=th.parts p _ rfl e y (by simp);obtain⟨tz,kz⟩:=th.parts p _ rfl e z (by simp);refine⟨_,rfl,p,_,_,_,rfl,rfl,SqT.of e,rfl,y,ty,rfl,ky,_,rfl,?_⟩;rcases Kn.cases_int ky with⟨a,rfl,rfl⟩|⟨ny,ey⟩
     ·refine ig ?_
      refine⟨_,rfl,p,_,_,_,rfl,rfl,SqT.of e,rfl,z,tz,rfl,kz,_,rfl,?_⟩;rcases Kn.cases_int kz with⟨b,rfl,rfl⟩|⟨nz,ez⟩
      ·refine ig ?_
       refine⟨_,rfl,p,_,_,_,rfl,rfl,SqT.of e,rfl,b,1,rfl,rfl,_,rfl,?_⟩;have q':Q (.bl (lowB a b)) H:=q;unfold lowB at q';refine aY (fun hc=>?_) (fun hc=>?_)
       ·refine⟨_,rfl,p,_,_,_,rfl,rfl,SqT.of e,rfl,_,rfl,p,_,_,_,rfl,rfl,SqT.of e,rfl,a,b,rfl,rfl,?_⟩
        rw[hc,Bool.true_and]at q';have e1:decide (V.int (Int.gcd a b:Int)=V.int 1)=decide (Int.gcd a b=1):=by
         rw[Bool.eq_iff_iff];simp;omega
        rw[<- e1]at q';exact q'
       ·rw[hc,Bool.false_and]at q'
        exact q'
      ·rw[ez,tm nz]at *
       exact q
     ·rw[ey,tq ny]at *
      exact q
  ·rw[hs]
   rw[hl]at q;exact q
theorem DL:yG ["line"] ["line"] (ap (top 32)):=smk
theorem oJ(Cg:Df K mg "last_of" (top 32))(T:Txt mg):Fn P w K mg base "last_of" ["line"] 1 CY:=by
 refine Cg.fn DL (fun _ _ _ _ _ _ us hl=>by obtain⟨_,rfl⟩:=dA hl;rfl) (fun vs H Q E h=>?_) (fun f cdv A outer s H vs Q E hr h=>?_)
 ·obtain⟨p,xs,rfl,_⟩:=h
  rfl
 ·obtain⟨p,xs,rfl,e,q⟩:=h
  exact⟨_,(ar (az (ao aG (aF aI (by rfl) T.z_len bD (aa (pv 0) af)) ad))),_,rfl,p,xs,rfl,.inl (SqL.of e),_,_,rfl,rfl,q⟩
theorem AB:yG ["one","other","square","across","up"] ["one","other","square"] (ap (top 28)):=smk
theorem jF(AJ:Df K mg "leash_order" (top 28))(yL:Fn P w K mg base "sign_of" ["number"] 1 BH):Fn P w K mg base "leash_order" ["one","other","square"] 2 Em:=by
 refine AJ.fn AB (fun _ _ _ _ _ _ us hl=>by obtain⟨_,_,_,rfl⟩:=gL hl;rfl) (fun vs H Q E h=>?_) (fun f cdv A outer s H vs Q E hr h=>?_)
 ·obtain⟨p,q,r,x,y,x',y',a,b,rfl,_⟩:=h
  rfl
 ·obtain⟨p,q,r,x,y,x',y',a,b,rfl,⟨e1,b1,b2⟩,⟨e2,b3,b4⟩,⟨e3,b5,b6⟩,k⟩:=h
  refine⟨_,(ag (ax (i:=3) AB.nd rfl (Or.inl rfl) (ao aG (aj ai (pv 1) ad (fun _ _=>rfl)) (aj ai (pv 0) ad (fun _ _=>rfl)))) (ag (ax (i:=4) AB.nd rfl (Or.inl rfl) (ao aG (aj ai (pv 1) ad (fun _ _=>rfl)) (aj ai (pv 0) ad (fun _ _=>rfl)))) (ar (az (aA yL (hr.mono (by decide)) (by rfl) (aa (ao aG (aj ai (pv 2) ad (fun _ _=>rfl)) (ao ay (ao aP (ao ay (pv 3) (pv 3)) (ao ay (pv 4) (pv 4))) (aj ai (pv 2) ad (fun _ _=>rfl)))) af)))))),?_⟩
  walk_at "rd"
  exact k
theorem y4:yG ["corner","begin","end","square","across","up","away_across","away_up","length","along","beside","under"] ["corner","begin","end","square"] (ap (top 29)):=smk
theorem mY(BM:Df K mg "reach_of" (top 29)):Fn P w K mg base "reach_of" ["corner","begin","end","square"] 1 CU:=by
 refine BM.fn y4 (fun _ _ _ _ _ _ us hl=>by obtain⟨_,_,_,_,rfl⟩:=qR hl;rfl) (fun vs H Q E h=>?_) (fun f cdv A outer s H vs Q E hr h=>?_)
 ·obtain⟨pc,pb,pe,ps,cx,cy,bx,by_,ex,ey,a,b,rfl,_⟩:=h
  rfl
 ·obtain⟨pc,pb,pe,ps,cx,cy,bx,by_,ex,ey,a,b,rfl,⟨e1,b1,b2⟩,⟨e2,b3,b4⟩,⟨e3,b5,b6⟩,⟨e4,b7,b8⟩,k⟩:=h
  refine⟨_,(ag (ax (i:=4) y4.nd rfl (Or.inl rfl) (ao aG (aj ai (pv 2) ad (fun _ _=>rfl)) (aj ai (pv 1) ad (fun _ _=>rfl)))) (ag (ax (i:=5) y4.nd rfl (Or.inl rfl) (ao aG (aj ai (pv 2) ad (fun _ _=>rfl)) (aj ai (pv 1) ad (fun _ _=>rfl)))) (ag (ax (i:=6) y4.nd rfl (Or.inl rfl) (ao aG (aj ai (pv 0) ad (fun _ _=>rfl)) (aj ai (pv 1) ad (fun _ _=>rfl)))) (ag (ax (i:=7) y4.nd rfl (Or.inl rfl) (ao aG (aj ai (pv 0) ad (fun _ _=>rfl)) (aj ai (pv 1) ad (fun _ _=>rfl)))) (ag (ax (i:=8) y4.nd rfl (Or.inl rfl) (ao aP (ao ay (pv 4) (pv 4)) (ao ay (pv 5) (pv 5)))) (ag (ax (i:=9) y4.nd rfl (Or.inl rfl) (ao aP (ao ay (pv 6) (pv 4)) (ao ay (pv 7) (pv 5)))) (ag (ax (i:=10) y4.nd rfl (Or.inl rfl) (ao aG (ao ay (pv 6) (pv 5)) (ao ay (pv 7) (pv 4)))) (ag (ax (i:=11) y4.nd rfl (Or.inl rfl) (ao ay (aj ai (pv 3) ad (fun _ _=>rfl)) (ao aG (ao ay (aj ai (pv 3) ad (fun _ _=>rfl)) (pv 8)) (ao ay (ao ay (aj ai (pv 3) ad (fun _ _=>rfl)) (pv 10)) (pv 10))))) (ar (az (h8 (aa (ao ay (pv 9) (aj ai (pv 3) ad (fun _ _=>rfl))) (aa (pv 11) (aa (ao ay (pv 8) (aj ai (pv 3) ad (fun _ _=>rfl))) af)))))))))))))),?_⟩
  walk_at "rd"
  exact k _ _ (by assumption) (by assumption)
theorem Cb:yG ["square"] ["square"] (ap (top 27)):=smk
theorem gT{C:Addr}(zO:Df K mg "look_at_square" (top 27))(BI:CG K mg "NoSquare" C)(BK:Fn P w K mg base "is_ratio" ["thing"] 2 D2):Fx P w K mg base "look_at_square" ["square"] 3 [] (CW C):=by
 refine zO.fx Cb (fun _ _ _ _ _ _ us hl=>by obtain⟨_,rfl⟩:=dA hl;rfl) (fun vs H Q E h=>?_) (fun f cdv A outer s H vs Q E hr h=>?_)
 ·obtain⟨x,rfl,_⟩:=h
  rfl
 ·obtain⟨x,rfl,th,k0,k1⟩:=h
  refine⟨_,(ar (aQ (cX (ca (bo (aA BK (hr.mono (by decide)) (by rfl) (aa (pv 0) af)))) (cT (aC cY (aj ai (pv 0) ad (fun _ _=>rfl)) ad (aE _)))).pt (ar (gu BI (by rfl))) aH)),?_⟩;refine⟨_,rfl,x,rfl,th,_,rfl,?_⟩;cases hl:iI H x with
  | false=>exact jV (k0 (uA hl))
  | true =>
   obtain⟨p,a,b,rfl,e,lw⟩:=tj hl;rw[uz e,sW lw,Bool.true_and]at k0 k1;refine ig ?_;refine⟨_,rfl,p,_,_,_,rfl,rfl,SqT.of e,rfl,_,_,rfl,rfl,_,rfl,aY (fun h1=>?_) (fun h1=>?_)⟩
   ·exact k0 (by rw[show decide (a<0)=true from h1];rfl)
   ·exact k1 (by rw[show decide (a<0)=false from h1];rfl)
def Pw(K:W.Frag)(H':Hp)(v:V)(N e:Bool)(P U L:Int):Prop:=(v = .non∧N=true)∨(N=false∧∃(t l h:Addr) (ln hn:Int×Int×Int×Int),v = .ref t∧H' t=some (.tup [.ref l,.ref h])∧SqT K H' l [.int ln.1,.int ln.2.1,.int ln.2.2.1,.int ln.2.2.2]∧SqT K H' h [.int hn.1,.int hn.2.1,.int hn.2.2.1,.int hn.2.2.2]∧ln=(if e=true then (0,0,0,1) else d9 P U L)∧hn=(if e=true then (1,0,0,1) else cZ P U L))
inductive DW (K:W.Frag) (vs:List V) (H:Hp) (Q:VK) (x_3:XK):Prop
 | mk:∀(pc pb pe ps:Addr) (cx cy bx by_ ex ey a b room:Int),(vs = [.ref pc,.ref pb,.ref pe,.ref ps,.int room])->(Cn H pc cx cy)->(Cn H pb bx by_)->(Cn H pe ex ey)->(Sq H ps a b)->(∀(v:V) (H':Hp),Same H H'->Pw K H' v (pwN cx cy bx by_ ex ey a b room) (decide ([bx,by_] = [ex,ey])) (rAl cx cy bx by_ ex ey*b) (rUn cx cy bx by_ ex ey a b) (a8 bx by_ ex ey*b)->Q v H')->DW K vs H Q x_3
theorem za:yG ["corner","begin","end","square","room","reach","low","high"] ["corner","begin","end","square","room"] (ap (top 30)):=smk
theorem jD{pB pE:Addr}(AH:Df K mg "part_within" (top 30))(Bz:mg "BEGIN" = some (.ref pB))(CL:mg "END" = some (.ref pE))(hB:∀H,SqT K H pB [.int 0,.int 0,.int 0,.int 1])(hE:∀H,SqT K H pE [.int 1,.int 0,.int 0,.int 1])
  (zc:Fn P w K mg base "leash_order" ["one","other","square"] 2 Em) (BJ:Fn P w K mg base "reach_of" ["corner","begin","end","square"] 1 CU) (yL:Fn P w K mg base "sign_of" ["number"] 1 BH) (yM:Fn P w K mg base "root_order" ["one","other"] 4 (DV K)):Fn P w K mg base "part_within" ["corner","begin","end","square","room"] 5 (DW K):=by
 refine AH.fn za (fun _ _ _ _ _ _ us hl=>by obtain⟨_,_,_,_,_,rfl⟩:=wE hl;rfl) (fun vs H Q E h=>?_) (fun f cdv A outer s H vs Q E hr h=>?_)
 ·obtain⟨pc,pb,pe,ps,cx,cy,bx,by_,ex,ey,a,b,room,rfl,_⟩:=h
  rfl
 ·obtain⟨pc,pb,pe,ps,cx,cy,bx,by_,ex,ey,a,b,room,rfl,c1,c2,c3,c4,k⟩:=h
  refine⟨_,(ag (aQ (aC (lj hr.units0) (pv 1) (pv 2) (aE _)) (ar (az (gB (aC pI (aA zc (hr.mono (by decide)) (by rfl) (aa (pv 0) (aa (pv 1) (aa (pv 3) af)))) (pv 4) (aE _)) (h8 (aa (bI (v:=.ref _) (by rfl) Bz rfl) (aa (bI (v:=.ref _) (by rfl) CL rfl) af))) cb))) aH) (ag (ax (i:=5) za.nd rfl (Or.inl rfl) (aA BJ (hr.mono (by decide)) (by rfl) (aa (pv 0) (aa (pv 1) (aa (pv 2) (aa (pv 3) af)))))) (ag (aQ (aC cY (aA yL (hr.mono (by decide)) (by rfl) (aa (aj ai (pv 5) ad (fun _ _=>rfl)) af)) (pv 4) (aE _)) (ar (az cb)) aH) (ag (ax (i:=6) za.nd rfl (Or.inl rfl) (h8 (aa (aj ai (pv 5) ad (fun _ _=>rfl)) (aa (dI cS ad) (aa (aj ai (pv 5) ad (fun _ _=>rfl)) (aa (aj ai (pv 5) ad (fun _ _=>rfl)) af)))))) (ag (ax (i:=7) za.nd rfl (Or.inl rfl) (h8 (aa (aj ai (pv 5) ad (fun _ _=>rfl)) (aa ad (aa (aj ai (pv 5) ad (fun _ _=>rfl)) (aa (aj ai (pv 5) ad (fun _ _=>rfl)) af)))))) (ag (aQ (cX (aC cY (aA yM (hr.mono (by decide)) (by rfl) (aa (bI (v:=.ref _) (by rfl) CL rfl) (aa (pv 6) af))) (pv 4) (aE _)) (cT (aC cY (aA yM (hr.mono (by decide)) (by rfl) (aa (pv 7) (aa (bI (v:=.ref _) (by rfl) Bz rfl) af))) (pv 4) (aE _)))).pt (ar (az cb)) aH) (ag (aQ (aC cY (aA yM (hr.mono (by decide)) (by rfl) (aa (pv 6) (aa (bI (v:=.ref _) (by rfl) Bz rfl) af))) ad (aE _)) (ar (ax (i:=6) za.nd rfl (Or.inl rfl) (bI (v:=.ref _) (by rfl) Bz rfl))) aH) (ag (aQ (aC iB (aA yM (hr.mono (by decide)) (by rfl) (aa (pv 7) (aa (bI (v:=.ref _) (by rfl) CL rfl) af))) ad (aE _)) (ar (ax (i:=7) za.nd rfl (Or.inl rfl) (bI (v:=.ref _) (by rfl) CL rfl))) aH) (ar (az (h8 (aa (pv 6) (aa (pv 7) af))))))))))))),?_⟩;refine⟨_,rfl,_,rfl,pb,pe,[bx,by_],[ex,ey],rfl,rfl,SqT.of c2.at_,SqT.of c3.at_,_,rfl,aY (fun h1=>?_) (fun h1=>?_)⟩
  ·have hs:[bx,by_] = [ex,ey]:=cV h1
   refine⟨_,rfl,_,rfl,_,rfl,_,_,_,_,_,_,_,_,_,rfl,c1,c2,c4,_,rfl,_,_,rfl,rfl,_,rfl,aY (fun h2=>?_) (fun h2=>?_)⟩
   ·refine⟨Sp1.sz (by simp),alloc fun p H1 s1 e1=>k _ _ s1 (.inr ⟨?_,p,pB,pE,(0,0,0,1),(1,0,0,1),rfl,e1,hB _,hE _,?_,?_⟩)⟩
    ·unfold pwN
     rw[if_pos hs];simp only[ge_iff_le]at h2 ⊢;rw[show decide (room≤lo cx cy bx by_ a b)=true from h2];rfl
    ·rw[decide_eq_true hs];rfl
    ·rw[decide_eq_true hs];rfl
   ·refine k _ _ Same.rfl' (.inl ⟨rfl,?_⟩)
    unfold pwN;rw[if_pos hs];rw[show decide (lo cx cy bx by_ a b≥room)=false from h2];rfl
  ·have hs:¬[bx,by_] = [ex,ey]:=du h1
   unfold pwN at k;rw[if_neg hs,decide_eq_false hs]at k;refine⟨_,rfl,_,rfl,_,rfl,_,rfl,_,_,_,_,_,_,_,_,_,_,_,_,rfl,c1,c2,c3,c4,fun r H1 s1 e1=>?_⟩;obtain⟨_,b1,b2⟩:=c1;obtain⟨_,b3,b4⟩:=c2;obtain⟨_,b5,b6⟩:=c3;obtain⟨_,b7,b8⟩:=c4;have z1:bits (rAl cx cy bx by_ ex ey*b)≤450:=by unfold rAl;walk_at "bl"
   have z2:bits (rUn cx cy bx by_ ex ey a b)≤1000:=by unfold rUn a8 rBe;walk_at "bl"
   have z3:bits (a8 bx by_ ex ey*b)≤450:=by unfold a8;walk_at "bl"
   generalize rAl cx cy bx by_ ex ey*b=A0 at *;generalize rUn cx cy bx by_ ex ey a b=A1 at *;generalize a8 bx by_ ex ey*b=A2 at *
   walk_at "rd"
   refine aY (fun h2=>?_) (fun h2=>?_)
   ·exact k _ _ s1 (.inl ⟨rfl,by rw[show decide (sg A1<room)=true from h2];rfl⟩)
   rw[show decide (sg A1<room)=false from h2,Bool.false_or]at k
   walk_at "rd"
   rename_i pl Hl sl el ph Hh sh eh;have r0:bits (0:Int)≤450:=by decide
   have r1:bits (1:Int)≤450:=by decide
   have r2:bits (-1:Int)≤450:=by decide
   have r0':bits (0:Int)≤1000:=by decide
   have RB:∀H,Rt K H pB 0 0 0 1:=fun H=>⟨hB H,r0,r0,r0',r1⟩;have RE:∀H,Rt K H pE 1 0 0 1:=fun H=>⟨hE H,r1,r0,r0',r1⟩;have RL:Rt K Hh pl A0 (-1) A1 A2:=⟨SqT.of (sh _ _ el),z1,r2,z2,z3⟩;have RH:Rt K Hh ph A0 1 A1 A2:=⟨SqT.of eh,z1,r1,z2,z3⟩;have sm:Same H Hh:=s1.trans (sl.trans sh);refine⟨_,_,_,_,_,_,_,_,_,_,rfl,RE _,RL,_,rfl,_,_,rfl,rfl,_,rfl,aY (fun h3=>?_) (fun h3=>?_)⟩
   ·refine k _ _ sm (.inl ⟨rfl,?_⟩)
    rw[show decide (ro 1 0 0 1 A0 (-1) A1 A2<room)=true from h3];rfl
   rw[show decide (ro 1 0 0 1 A0 (-1) A1 A2<room)=false from h3,Bool.false_or]at k;refine⟨_,rfl,_,_,_,_,_,_,_,_,_,_,rfl,RH,RB _,_,rfl,_,_,rfl,rfl,_,rfl,aY (fun h4=>?_) (fun h4=>?_)⟩
   ·exact k _ _ sm (.inl ⟨rfl,h4⟩)
   rw[show decide (ro A0 1 A1 A2 0 0 0 1<room)=false from h4]at k;have fin:∀(l h:Addr) (ln hn:Int×Int×Int×Int),(∀H1,Same Hh H1->SqT K H1 l [.int ln.1,.int ln.2.1,.int ln.2.2.1,.int ln.2.2.2])->(∀H1,Same Hh H1->SqT K H1 h [.int hn.1,.int hn.2.1,.int hn.2.2.1,.int hn.2.2.2])->ln=d9 A0 A1 A2->hn=cZ A0 A1 A2->(xl (xj (o4 (DQ 6) (o4 (DQ 7) v5)))) { nx:=fun _ H'=>Q .non H',rt:=Q } [some (.ref pc),some (.ref pb),some (.ref pe),some (.ref ps),some (.int room),some (.ref r),some (.ref l),some (.ref h)] Hh:=fun l h ln hn hl hh e1 e2 =>
    ⟨_,rfl,_,rfl,Sp1.sz (by simp),alloc fun p H1 s1 ep=>k _ _ (sm.trans s1) (.inr ⟨rfl,p,l,h,ln,hn,rfl,ep,hl _ s1,hh _ s1,e1,e2⟩)⟩
   have lT:ro A0 (-1) A1 A2 0 0 0 1<0->d9 A0 A1 A2=(0,0,0,1):=fun z=>by unfold d9;rw[if_pos z]
   have lF:¬ro A0 (-1) A1 A2 0 0 0 1<0->d9 A0 A1 A2=(A0,-1,A1,A2):=fun z=>by unfold d9;rw[if_neg z]
   have hT:ro A0 1 A1 A2 1 0 0 1>0->cZ A0 A1 A2=(1,0,0,1):=fun z=>by unfold cZ;rw[if_pos z]
   have hF:¬ro A0 1 A1 A2 1 0 0 1>0->cZ A0 A1 A2=(A0,1,A1,A2):=fun z=>by unfold cZ;rw[if_neg z]
   have tl:∀H1,Same Hh H1->SqT K H1 pl [.int A0,.int (-1),.int A1,.int A2]:=fun H1 s=>SqT.of (s _ _ (sh _ _ el));have th:∀H1,Same Hh H1->SqT K H1 ph [.int A0,.int 1,.int A1,.int A2]:=fun H1 s=>SqT.of (s _ _ eh);refine⟨_,rfl,_,_,_,_,_,_,_,_,_,_,rfl,RL,RB _,_,_,rfl,rfl,_,rfl,aY (fun h5=>?_) (fun h5=>?_)⟩
   ·refine⟨_,rfl,_,_,_,_,_,_,_,_,_,_,rfl,RH,RE _,_,_,rfl,rfl,_,rfl,aY (fun h6=>?_) (fun h6=>?_)⟩
    ·exact fin pB pE (0,0,0,1) (1,0,0,1) (fun H1 _=>hB H1) (fun H1 _=>hE H1) (lT (cV h5)).symm (hT (cV h6)).symm
    ·exact fin pB ph (0,0,0,1) (A0,1,A1,A2) (fun H1 _=>hB H1) th (lT (cV h5)).symm (hF (du h6)).symm
   ·refine⟨_,rfl,_,_,_,_,_,_,_,_,_,_,rfl,RH,RE _,_,_,rfl,rfl,_,rfl,aY (fun h6=>?_) (fun h6=>?_)⟩
    ·exact fin pl pE (A0,-1,A1,A2) (1,0,0,1) tl (fun H1 _=>hE H1) (lF (du h5)).symm (hT (cV h6)).symm
    ·exact fin pl ph (A0,-1,A1,A2) (A0,1,A1,A2) tl th (lF (du h5)).symm (hF (du h6)).symm
theorem BX:yG ["came","spot","row","ahead"] ["came","spot"] (ap (top 48)):=smk
theorem rn(Cy:Df K mg "row_to" (top 48))(T:Txt mg):Fn P w K mg base "row_to" ["came","spot"] 1 (CQ K):=by
 refine Cy.fn BX (fun _ _ _ _ _ _ us hl=>by obtain⟨_,_,rfl⟩:=dF hl;rfl) (fun vs H Q E h=>?_) (fun f cdv A outer s H vs Q E hr h=>?_)
 ·obtain⟨d,sv,es,i,e,rfl,_⟩:=h
  rfl
 ·obtain⟨d,sv,es,i,e,rfl,cm,tr,he,hsv,hl,q⟩:=h
  refine⟨_,(ag (ax (i:=2) BX.nd rfl (Or.inl rfl) (bH af)) (ag (dN PassesOwn.never (aC gF (pv 1) cb (aE _)) (ag (ax (i:=3) BX.nd rfl (Or.inl rfl) (iX (eD hr) (pv 0) (pv 1) (fun _ _=>rfl))) (ag (cI (fm PySem.F.plainAttrs_list PySem.F.slot_list_append PySem.F.type_list_append bP (pv 2) (aa (aB (aa (pv 1) (aa (aj ai (pv 3) ad (fun _ _=>rfl)) af))) af))) (ar (ax (i:=1) BX.nd rfl (Or.inl rfl) (aj ai (pv 3) ad (fun _ _=>rfl))))))) (ag (cI (ot PySem.F.plainAttrs_list PySem.F.slot_list_reverse PySem.F.type_list_reverse mJ (pv 2))) (ar (az (pv 2)))))),?_⟩;refine⟨sz (by simp),fun r H1 s1 f1 n1=>?_⟩;have CM':∀{H':Hp},Same H H'->∃kvs,H' d=some (.dT kvs)∧Paired (Ent K H' es) es kvs:=fun {H'} s'=>by
   obtain⟨kvs,e1,e2⟩:=cm;exact⟨kvs,s' _ _ e1,Paired.mapP e2 fun a b x=>x.mono s'.t fun _ _ h=>h⟩
  refine dL (fun σ H'=>∃(cur:Option Nat) (cv:V) (done:List (aJ×Lb)) (vs:List V) (av:Option V),σ = [some (.ref d),some cv,some (.ref r),av]∧Same H H'∧H' r=some (.lst vs)∧Paired (fun (e:aJ×Lb) v=>∃t sv hv,v = .ref t∧H' t=some (.tup [sv,hv])∧bJ H' sv e.1∧iR K H' hv e.2) done vs∧oU es cur i done ∧
    (cur=none->cv = .non)∧(∀j,cur=some j->∃e,es[j]? = some e∧bJ H' cv e.1∧done.length+j+1≤es.length)∧done.length≤es.length)
   (fun _ H'=>match H' r with|some (.lst vs)=>es.length - vs.length|_=>0) ⟨some i,sv,[],[],_,rfl,s1,f1,.nil,oU.begin,(fun z=>nomatch z),(fun j z=>by cases z;exact⟨e,he,hsv.mono s1.t,by have:=(List.getElem?_eq_some_iff.mp he).1;simp;omega⟩),Nat.zero_le _⟩ ?_ ?_
  ·rintro σ H2 ⟨cur,cv,done,vs,av,rfl,s2,f2,pr,lf,c0,c1,dl⟩
   refine⟨_,rfl,rfl,_,rfl,?_⟩;cases cur with
   | none =>
    rw[c0 rfl];refine ig ?_;refine⟨_,rfl,.inl ⟨rfl,_,SqL.of f2⟩,r,_,rfl,rfl,f2,fun H3 u=>?_⟩;refine⟨_,rfl,?_⟩;have s3:Same H H3:=fun b o eb=>u.at (fun z=>by rw[z,n1]at eb;cases eb) (s2 b o eb);refine q r H3 done.reverse s3 (by simpa using lf [] rfl) (by simpa using dl) ⟨_,u.now,?_⟩;exact ox (Paired.mapP pr fun a b ⟨t,sv,hv,x1,x2,x3,x4⟩=>⟨t,sv,hv,x1,u.t _ _ x2,x3.mono u.t,x4.mono u.t⟩)
   | some j =>
    obtain⟨e,he,hs,hj⟩:=c1 j rfl;obtain⟨p,rfl,hp⟩:=hs;refine jV ?_;obtain⟨kvs,kd,kp⟩:=CM' s2;obtain⟨kv,hkv,ke,t,pv,hvv,kt,ht,lbv,h0,h1⟩:=eQ kp j e he;have nd:(kvs.map (·.1)).Nodup:=by rw[lA kp];exact tr.nd
    have vv:=uk nd hkv;rw[ke,kt]at vv;have dg:=gi.t kd hp;rw[vv]at dg;refine⟨_,rfl,_,rfl,d,_,rfl,dg,?_⟩;refine⟨_,rfl,.inl ⟨rfl,_,SqL.of f2⟩,_,rfl,_,rfl,t,_,_,_,rfl,rfl,SqT.of ht,rfl,sz (by simp),fun x H3 s3 f3 n3=>?_⟩;have lv:=Paired.length pr;refine⟨r,_,_,rfl,rfl,s3 _ _ f2,bC (by omega),fun H4 u=>?_⟩;have s4:Same H H4:=fun b o eb=>u.at (fun z=>by rw[z,n1]at eb;cases eb) (s3 _ _ (s2 b o eb));have t4:=s3.t.trans u.t;refine⟨_,rfl,t,_,_,_,rfl,rfl,SqT.of (t4 _ _ ht),rfl,?_⟩;refine⟨⟨e.2.1,pv,done++[(e.1,e.2.2)],_,_,rfl,s4,u.now,Paired.snoc (Paired.mapP pr fun a b ⟨t,sv,hv,x1,x2,x3,x4⟩=>⟨t,sv,hv,x1,t4 _ _ x2,x3.mono t4,x4.mono t4⟩) ⟨x,.ref p,hvv,rfl,u.t _ _ f3,⟨p,rfl,t4 _ _ hp⟩,lbv.mono t4⟩,lf.up he,h0,fun j' hj'=>?_,?_⟩,?_⟩
    ·obtain⟨e',g1,g2⟩:=h1 j' hj'
     have:=tr.up j e j' he hj';refine⟨e',g1,g2.mono t4,?_⟩;rw[List.length_append,List.length_singleton];omega
    ·rw[List.length_append,List.length_singleton]
     omega
    ·show(match H4 r with|some (.lst vs)=>es.length - vs.length|_=>0)<(match H2 r with|some (.lst vs)=>es.length - vs.length|_=>0)
     rw[u.now,f2];show es.length - (vs++[V.ref x]).length<es.length - vs.length;rw[List.length_append,List.length_singleton];omega
  ·rintro σ H' Q1 Q2 hq ⟨v,e,hs,k,ek,r⟩
   exact⟨v,e,hs,k,ek,hq _ _ r⟩
theorem Bh:yG ["begins","steps_from","is_end","came","spot","row","number","step"] ["begins","steps_from","is_end"] (ap (top 49)):=smk
theorem vc(Dt:Df K mg "seek" (top 49))(Cw:Fn P w K mg base "row_to" ["came","spot"] 1 (CQ K))(T:Txt mg):Fn P w K mg base "seek" ["begins","steps_from","is_end"] 5 (nY P w K mg base 3):=by
 refine Dt.fn Bh (fun _ _ _ _ _ _ us hl=>by obtain⟨_,_,_,rfl⟩:=gL hl;rfl) (fun vs H Q E h=>?_) (fun f cdv A outer s H vs Q E hr h=>?_)
 ·obtain⟨b,f1,f2,bvs,bs,U,stp,fin,rfl,_⟩:=h
  rfl
 ·obtain⟨b,f1,f2,bvs,bs,U,stp,fin,rfl,hb,pb,nd,hU,hul,F,q0,q1⟩:=h
  refine⟨_,(ag (ax (i:=3) Bh.nd rfl (Or.inl rfl) jr) (ag (cO PassesOwn.never rfl (cQ (pv 0)) (aU (i:=4) Bh.nd rfl (Or.inl rfl)) (ar (gx (eD hr) (pv 3) (pv 4) (aB (aa cb (aa cb af))) rfl))) (ag (ax (i:=5) Bh.nd rfl (Or.inl rfl) (ej dD (by rfl) T.z_list g8 (aa (pv 0) af))) (ag (ax (i:=6) Bh.nd rfl (Or.inl rfl) ad) (ag (dN PassesOwn.never (aC cY (pv 6) (aF aI (by rfl) T.z_len bD (aa (pv 5) af)) (aE _)) (ag (ax (i:=4) Bh.nd rfl (Or.inl rfl) (aj aM (pv 5) (pv 6) (fun _ _=>rfl))) (ag (aQ (bo (mB (k:=3) (i:=2) (hr.mono (by decide)) rfl (Or.inl rfl) (aa (pv 4) af))) (ar (az (aA Cw (hr.mono (by decide)) (by rfl) (aa (pv 3) (aa (pv 4) af))))) aH) (ag (cO PassesOwn.never rfl (cQ (mB (k:=3) (i:=1) (hr.mono (by decide)) rfl (Or.inl rfl) (aa (pv 4) af))) (aU (i:=7) Bh.nd rfl (Or.inl rfl)) (ar (aQ (kZ (qE (eD hr) (aj ai (pv 7) ad (fun _ _=>rfl)) (pv 3)) (by rfl)) (ag (gx (eD hr) (pv 3) (aj ai (pv 7) ad (fun _ _=>rfl)) (aB (aa (pv 4) (aa (aj ai (pv 7) ad (fun _ _=>rfl)) af))) rfl) (ar (cI (fm PySem.F.plainAttrs_list PySem.F.slot_list_append PySem.F.type_list_append bP (pv 5) (aa (aj ai (pv 7) ad (fun _ _=>rfl)) af))))) aH))) (ar (ol (i:=6) Bh.nd rfl (Or.inl rfl) ad wL)))))) (ar (az cb))))))),?_⟩;obtain⟨sp1,i1,c1⟩:=F.c1;obtain⟨sp2,i2,c2⟩:=F.c2;have FO:∀{f:Addr} {H':Hp},oV H f->Same H H'->oV H' f:=fun {f H'} ⟨o,fd,e,d⟩ s=>⟨o,fd,s _ _ e,d⟩;have bl:=Paired.length pb;refine fun d hd=>?_;have s1:Same H (upd H d (.dT [])):=Same.new hd;refine⟨_,rfl,b,rfl,⟨_,SqL.of (s1 _ _ hb)⟩,fw (K:=K) (xs:=bvs) (fun i σ H'=>∃spv,σ = [some (.ref b),some (.ref f1),some (.ref f2),some (.ref d),spv,none,none,none]∧Same H H'∧iz K H' d ((bs.take i).map fun s=>(s,none,.no))) ⟨_,rfl,s1,[],upd_same,.nil⟩ ?_ ?_ ?_⟩
  ·rintro i σ H' hi ⟨spv,rfl,s',_⟩
   exact SqL.of (s' _ _ hb)
  ·rintro i x σ H' hx ⟨spv,rfl,s',cm⟩
   obtain⟨s,hs,p,rfl,hp⟩:=aX pb i x hx;refine⟨sz (by simp),fun t H2 s2 f2 n2=>⟨_,rfl,_,rfl,?_⟩⟩;have hns:s∉(((bs.take i).map fun s=>((s,none,.no):En)).map (·.1)):=by
    rw[List.map_map];show s∉(bs.take i).map id;rw[List.map_id];intro z;obtain⟨j,hj⟩:=List.getElem?_of_mem z;have ⟨j1,j2⟩:=List.getElem?_eq_some_iff.mp hj;rw[List.length_take]at j1;rw[List.getElem?_take_of_lt (by omega)]at hj;have:=qM nd hs hj;omega
   have hlb:=kB nd hU;obtain⟨H3,dp,cm3,t3,o3⟩:=(cm.mono s2).add (s:=s) (pj:=none) (s2 _ _ (s' _ _ hp)) f2 (h:=.no) rfl hns (fun _=>rfl) (fun j z=>nomatch z) (by simp;omega)
   have s3:Same H H3:=fun x o e=>by
    rw[o3 x (fun z=>by rw[z,hd]at e;cases e)];exact s2 _ _ (s' _ _ e)
   refine⟨d,H3,rfl,dp,_,rfl,s3,?_⟩;rw[List.take_add_one,hs,List.map_append];exact cm3
  ·rintro σ H2 ⟨spv,rfl,s2,cm⟩
   rw[List.take_of_length_le (by omega)]at cm;refine⟨_,rfl,b,_,rfl,.inl (SqL.of (s2 _ _ hb)),fun r H3 s3 f3 n3=>?_⟩;have nr:H r=none:=s2.free n3;have rd:r≠d:=fun z=>by
    obtain⟨kvs,e1,_⟩:=cm;rw[z,e1]at n3;cases n3
   refine dL (fun σ H'=>∃(es:List En) (n:Nat) (spv stv:Option V) (rvs:List V),σ = [some (.ref b),some (.ref f1),some (.ref f2),some (.ref d),spv,some (.ref r),some (.int (n:Int)),stv]∧Same H H'∧iz K H' d es∧H' r=some (.lst rvs)∧Paired (fun (e:En) v=>bJ H' v e.1) es rvs∧Aj bs U stp fin es n∧es=bT bs stp n)
    (fun σ _=>match σ with | [_,_,_,_,_,_,some (.int n),_]=>U.length - n.toNat|_=>0) ⟨_,0,_,_,_,rfl,s2.trans s3,cm.mono s3,f3,?_,Aj.first nd hU,rfl⟩ ?_ ?_
   ·have:∀{bs:List aJ} {bvs:List V},Paired (fun s v=>bJ H v s) bs bvs->Paired (fun (e:En) v=>bJ H3 v e.1) (bs.map fun s=>(s,none,.no)) bvs:=by
     intro bs bvs pb
     induction pb with
     | nil=>exact .nil
     | cons a r ih=>exact .cons (bJ.mono a (s2.trans s3).t) ih
    exact this pb
   ·rintro σ H4 ⟨es,n,spv,stv,rvs,rfl,s4,cm4,f4,pr,go,esn⟩
    have el:=Paired.length pr;have gl:=go.len;refine⟨_,rfl,_,rfl,r,_,rfl,.inl (SqL.of f4),_,_,rfl,rfl,_,rfl,aY (fun g1=>?_) (fun g1=>?_)⟩
    ·have g1:(n:Int)<(rvs.length:Int):=cV g1
     obtain⟨v,hv⟩:∃v,rvs[n]? = some v:=⟨rvs[n]'(by omega),by simp[show n<rvs.length by omega]⟩;obtain⟨e,he,hsp⟩:=aX pr n v hv;have eU:=go.inU e (List.mem_of_getElem? he);refine⟨_,rfl,_,rfl,r,_,_,_,rfl,rfl,SqL.of f4,d6 hv,?_⟩;refine⟨f2,sp2,rfl,i2,FO F.o2 s4,_,rfl,FO F.o2 s4,c2 H4 v e.1 _ s4 hsp eU fun H5 s5=>⟨_,rfl,aY (fun g2=>?_) (fun g2=>?_)⟩⟩
     ·refine⟨_,rfl,_,rfl,d,v,es,n,e,rfl,cm4.mono s5,go.tree,he,hsp.mono s5.t,by omega,fun r' H' l s' p hl ra=>?_⟩
      obtain⟨w1,w2,e',w3,w4⟩:=uG (fin:=fin) go.grown p;rw[he]at w3;cases w3;exact q1 r' H' l ((s4.trans s5).trans s') ⟨w1,w2,_,w4,g2⟩ ⟨n,e,by rw[<- esn];exact he,g2,(fun i hi=>by
       have hl:=go.le;have hx:es[i]? = some (es[i]'(by omega)):=List.getElem?_eq_getElem (by omega);exact⟨_,by rw[<- esn];exact hx,(go.seen i _ hi hx).1⟩),by rw[<- esn];exact p⟩ (by omega) ra
     ·refine⟨f1,sp1,rfl,i1,FO F.o1 (s4.trans s5),_,rfl,FO F.o1 (s4.trans s5),c1 H5 v e.1 _ (s4.trans s5) (hsp.mono s5.t) eU fun rl H6 s6 n6 st=>?_⟩
      obtain⟨svs,hr6,ps⟩:=st;have sl:=Paired.length ps;have few:=F.few _ eU;have cm6:=(cm4.mono s5).mono s6;have rld:rl≠d:=fun z=>by
       obtain⟨kvs,e1,_⟩:=cm4.mono s5;rw[z,e1]at n6;cases n6
      have rlr:rl≠r:=fun z=>by
       rw[z,s5 _ _ f4]at n6;cases n6
      have pr6:Paired (fun (e:En) v=>bJ H6 v e.1) es rvs:=Paired.mapP pr fun a b x=>x.mono (s5.t.trans s6.t);refine⟨rl,rfl,⟨_,SqL.of hr6⟩,fw (K:=K) (xs:=svs) (fun i σ H'=>∃(es':List En) (stv:Option V) (rvs:List V),σ = [some (.ref b),some (.ref f1),some (.ref f2),some (.ref d),some v,some (.ref r),some (.int (n:Int)),stv]∧Same H H'∧SameT H6 H'∧H' rl=some (.lst svs)∧iz K H' d es'∧H' r=some (.lst rvs)∧Paired (fun (e:En) v=>bJ H' v e.1) es' rvs∧Aj bs U stp fin es' n∧es'[n]? = some e∧es'=((stp e.1).take i).foldl (oP n) es∧∀(k:Nat) x,k<i->(stp e.1)[k]? = some x->x.1∈es'.map (·.1))
       ⟨es,_,rvs,rfl,(s4.trans s5).trans s6,SameT.refl,hr6,cm6,s6 _ _ (s5 _ _ f4),pr6,go,he,rfl,fun k x z=>absurd z (Nat.not_lt_zero _)⟩ ?_ ?_ ?_⟩
      ·rintro i σ H7 hi ⟨es',stv,rvs,rfl,s7,t7,h7,_⟩
       exact SqL.of h7
      ·rintro i x σ H7 hx ⟨es',stv,rvs,rfl,s7,t7,h7,cm7,f7,pr7,go7,he7,fo7,sn7⟩
       have el7:=Paired.length pr7;have gl7:=go7.len;obtain⟨y,hy,t,sv,hvv,rfl,ht,⟨p,rfl,hp⟩,lbv⟩:=aX ps i x hx;have ht7:=t7 _ _ ht;have hp7:=t7 _ _ hp;obtain⟨o,dg,iff⟩:=cm7.look hp7;refine⟨_,rfl,t,_,_,_,rfl,rfl,SqT.of ht7,rfl,_,rfl,d,o,rfl,dg,_,rfl,?_⟩;cases ho:o.isSome with
       | true =>
        refine ig ?_;refine⟨es',_,rvs,rfl,s7,t7,h7,cm7,f7,pr7,go7,he7,by rw[List.take_add_one,hy,Option.toList_some,List.foldl_append,<- fo7];exact(if_pos (iff.mp ho)).symm,fun k x hk hz=>?_⟩
        by_cases z:k=i
        ·subst z
         rw[hy]at hz;cases hz;exact iff.mp ho
        ·exact sn7 k x (by omega) hz
       | false =>
        have hnew:y.1∉es'.map (·.1):=fun z=>by rw[iff.mpr z]at ho;cases ho
        have hyU:=F.shut _ eU y (List.mem_of_getElem? hy);refine jV ?_;refine⟨_,rfl,_,rfl,t,_,_,_,rfl,rfl,SqT.of ht7,rfl,sz (by simp),fun x8 H8 s8 f8 n8=>⟨_,rfl,_,rfl,t,_,_,_,rfl,rfl,SqT.of (s8 _ _ ht7),rfl,?_⟩⟩;obtain⟨H9,dp,cm9,t9,o9⟩:=(cm7.mono s8).add (s:=y.1) (pj:=some n) (h:=y.2) (s8 _ _ hp7) f8 (lbv.mono (t7.trans s8.t)) hnew (fun z=>nomatch z) (fun j z=>by cases z;exact⟨e,he7,hsp.mono (((s5.t.trans s6.t).trans t7).trans s8.t)⟩) (by omega)
        refine⟨d,H9,rfl,dp,?_⟩;have f9:H9 r=some (.lst rvs):=(o9 r rd).trans (s8 _ _ f7);have T9:=s8.t.trans t9;refine⟨_,rfl,.inl ⟨rfl,_,SqL.of f9⟩,_,rfl,t,_,_,_,rfl,rfl,SqT.of (T9 _ _ ht7),rfl,r,_,_,rfl,rfl,f9,bC (by omega),fun H10 u=>?_⟩;have T10:=T9.trans u.t;have s10:Same H H10:=fun x o eo=>by
         refine u.at (fun z=>by rw[z,nr]at eo;cases eo) ?_;rw[o9 x (fun z=>by rw[z,hd]at eo;cases eo)];exact s8 _ _ (s7 _ _ eo)
        have cm10:iz K H10 d (es'++[(y.1,some n,y.2)]):=by
         obtain⟨kvs,k1,k2⟩:=cm9;exact⟨kvs,u.at (fun z=>rd z.symm) k1,Paired.mapP k2 fun a b x=>x.mono u.t fun _ _ h=>h⟩
        refine⟨es'++[(y.1,some n,y.2)],_,_,rfl,s10,t7.trans T10,u.at rlr ((o9 rl rld).trans (s8 _ _ h7)),cm10,u.now,Paired.snoc (Paired.mapP pr7 fun a b x=>x.mono T10) ⟨p,rfl,T10 _ _ hp7⟩,go7.add he7 (List.mem_of_getElem? hy) hyU hnew,?_,by rw[List.take_add_one,hy,Option.toList_some,List.foldl_append,<- fo7];exact(if_neg hnew).symm,fun k x hk hz=>?_⟩
        ·rw[List.getElem?_append_left (List.getElem?_eq_some_iff.mp he7).1]
         exact he7
        ·rw[List.map_append]
         by_cases z:k=i
         ·subst z
          rw[hy]at hz;cases hz;exact List.mem_append_right _ (by simp)
         ·exact List.mem_append_left _ (sn7 k x (by omega) hz)
      ·rintro σ H7 ⟨es',stv,rvs,rfl,s7,t7,h7,cm7,f7,pr7,go7,he7,fo7,sn7⟩
       refine⟨_,rfl,_,_,rfl,rfl,?_⟩;refine⟨⟨es',n+1,_,_,rvs,rfl,s7,cm7,f7,pr7,go7.next he7 g2 fun x hx=>?_,?_⟩,?_⟩
       ·obtain⟨k,hk⟩:=List.getElem?_of_mem hx
        exact sn7 k x (by have:=(List.getElem?_eq_some_iff.mp hk).1;omega) hk
       ·rw[fo7,List.take_of_length_le (by omega)]
        show _=match (bT bs stp n)[n]? with
         | some e=>(stp e.1).foldl (oP n) (bT bs stp n)
         | none=>bT bs stp n
        rw[<- esn,he]
       ·have gl7:=go7.len
        have ln:=(List.getElem?_eq_some_iff.mp he7).1;show U.length - ((n:Int)+1).toNat<U.length - (n:Int).toNat;omega
    ·have g1:¬((n:Int)<(rvs.length:Int)):=fun z=>by rw[show decide ((n:Int)<(rvs.length:Int))=true from decide_eq_true z]at g1;cases g1
     exact q0 H4 s4 (go.shut (by omega))
   ·rintro σ H' Q1 Q2 hq ⟨v,e,w,e2,r,xs,h1,h2,i,j,h3,h4,k,ek,rr⟩
    exact⟨v,e,w,e2,r,xs,h1,h2,i,j,h3,h4,k,ek,hq _ _ rr⟩
def fZ(qs1 qs2:Crn)(a b room:Int)(i j:Int):Bool:=match qs1[i.toNat]?,qs2[j.toNat]? with
 | some c,some d=>decide (lo c.2.1 c.2.2 d.2.1 d.2.2 a b<room)
 | _,_=>false
theorem vg{qs1 qs2:Crn}{a b room:Int}{i j:Nat}{c d:Addr×Int×Int}(hc:qs1[i]? = some c)(hd:qs2[j]? = some d):fZ qs1 qs2 a b room i j=decide (lo c.2.1 c.2.2 d.2.1 d.2.2 a b<room):=by
 unfold fZ;rw[Int.toNat_natCast,Int.toNat_natCast,hc,hd]
inductive D5 (vs:List V) (H:Hp) (Q:VK) (x_3:XK):Prop
 | mk:∀(l1 l2 sp:Addr) (qs1 qs2:Crn) (a b room:Int),(vs = [.ref l1,.ref l2,.ref sp,.int room])->(LineM H l1 qs1)->(LineM H l2 qs2)->((1≤qs1.length∧qs1.length≤20))->((1≤qs2.length∧qs2.length≤20))->(Sq H sp a b)->(∀d H',Same H H'->lZ H' d (qs1.length - 1) (qs2.length - 1) (fZ qs1 qs2 a b room)->Q (.ref d) H')->D5 vs H Q x_3
inductive Ef (vs:List V) (H:Hp) (Q:VK) (x_3:XK):Prop
 | mk:∀(c l:Addr) (i j m n:Int),(vs = [.ref c,.ref l,.str "free"])->(H c=some (.tup [.int i,.int j]))->(H l=some (.tup [.int m,.int n]))->(Q (.bl (decide (j=n) || decide (i=0))) H)->Ef vs H Q x_3
inductive Eb (vs:List V) (H:Hp) (Q:VK) (x_3:XK):Prop
 | mk:∀(c l:Addr) (i j m n:Int),(vs = [.ref c,.ref l,.str "free"])->(H c=some (.tup [.int i,.int j]))->(H l=some (.tup [.int m,.int n]))->(Q (.bl (decide (j=0) || decide (i=m))) H)->Eb vs H Q x_3
inductive Co (vs:List V) (H:Hp) (Q:VK) (x_3:XK):Prop
 | mk:∀(c:Addr) (i j:Int),(vs = [.ref c])->(H c=some (.tup [.int i,.int j]))->((0≤i∧i≤1000))->((0≤j∧j≤1000))->(∀(q:Pr) H',Same H H'->PrAt H' q->prC q (i,j)->Q (.ref q.p) H')->Co vs H Q x_3
theorem xG{H:Hp}{p x y:Addr}{i j:Int}(hp:H p=some (.tup [.ref x,.ref y]))(hx:H x=some (.tup [.int i,.int 1]))(hy:H y=some (.tup [.int j,.int 1]))(bi:0≤i∧i≤1000)(bj:0≤j∧j≤1000):PrAt H ⟨p,x,y,i,1,j,1⟩:=by
 have b1:∀{k:Int},0≤k∧k≤1000->bits k≤10:=fun {k} h=>aV (by omega) h.2;have one:bits (1:Int)≤60:=aw (b1 (k:=1) ⟨by decide,by decide⟩) (by decide);have lw:∀k:Int,CC k 1:=fun k=>⟨Int.le_refl 1,by simp⟩;exact⟨hp,hx,hy,lw i,lw j,bi.1,bj.1,aw (b1 bi) (by decide),one,aw (b1 bj) (by decide),one⟩
def xz(P:Int×Int->Bool):aJ×V->Bool
 | ([.inl x,.inl y],_)=>P (x,y)
 | _=>false
theorem jx{P:Int×Int->Bool}:∀{l:List (Int×Int)},(kvF l).filter (xz P)=kvF (l.filter P)
 | []=>rfl
 | p::r=>by
  have ih:=jx (P:=P) (l:=r);unfold kvF at ih ⊢;rw[List.map_cons,List.filter_cons,List.filter_cons,ih];show(if P p=true then _ else _)=_
  split <;> rfl
theorem jt{α β γ:Type}{G:β->γ->Prop}{f:α->β}:∀{l:List α} {ys:List γ},Paired G (l.map f) ys->Paired (fun a y=>G (f a) y) l ys
 | [],_,h=>by cases h;exact .nil
 | a::r,_,h=>by
  cases h with
  | cons h1 h2=>exact .cons h1 (jt h2)
theorem gE{α β γ:Type}{G:β->γ->Prop}{f:α->β}:∀{l:List α} {ys:List γ},Paired (fun a y=>G (f a) y) l ys->Paired G (l.map f) ys
 | [],_,h=>by cases h;exact .nil
 | a::r,_,h=>by
  cases h with
  | cons h1 h2=>exact .cons h1 (gE h2)
theorem Ct:yG ["corner","last","way"] ["corner","last","way"] (ap (top 40)):=smk
theorem iP(Aw:Df K mg "begins_fence" (top 40)):Fn P w K mg base "begins_fence" ["corner","last","way"] 1 Ef:=by
 refine Aw.fn Ct (fun _ _ _ _ _ _ us hl=>by obtain⟨_,_,_,rfl⟩:=gL hl;rfl) (fun vs H Q E h=>?_) (fun f cdv A outer s H vs Q E hr h=>?_)
 ·obtain⟨c,l,i,j,m,n,rfl,_⟩:=h
  rfl
 ·obtain⟨c,l,i,j,m,n,rfl,hc,hl,q⟩:=h
  refine⟨_,(ar (az (vL (bY bR (aj ai (pv 0) ad (fun _ _=>rfl)) (aj ai (pv 1) ad (fun _ _=>rfl)) (aE _)) (dO (d8 (bY gG (pv 2) fk (aE _)) (dO (bY bR (aj ai (pv 0) ad (fun _ _=>rfl)) ad (aE _)))))))),?_⟩;refine⟨_,rfl,c,_,_,_,rfl,rfl,SqT.of hc,rfl,_,rfl,l,_,_,_,rfl,rfl,SqT.of hl,rfl,rfl,_,rfl,?_⟩;rw[di];refine aY (fun h1=>?_) (fun h1=>?_)
  ·rw[h1]at q
   exact q
  ·rw[h1,Bool.false_or]at q
   refine⟨_,rfl,rfl,_,rfl,?_⟩;rw[show(!decide (V.str (Str.ofString "free")=V.str (Str.ofString "part")))=true from rfl];refine jV ?_;exact⟨_,rfl,c,_,_,_,rfl,rfl,SqT.of hc,rfl,rfl,by rw[di];exact q⟩
theorem C6:yG ["corner","last","way"] ["corner","last","way"] (ap (top 41)):=smk
theorem j7(Bc:Df K mg "ends_fence" (top 41)):Fn P w K mg base "ends_fence" ["corner","last","way"] 1 Eb:=by
 refine Bc.fn C6 (fun _ _ _ _ _ _ us hl=>by obtain⟨_,_,_,rfl⟩:=gL hl;rfl) (fun vs H Q E h=>?_) (fun f cdv A outer s H vs Q E hr h=>?_)
 ·obtain⟨c,l,i,j,m,n,rfl,_⟩:=h
  rfl
 ·obtain⟨c,l,i,j,m,n,rfl,hc,hl,q⟩:=h
  refine⟨_,(ar (az (vL (bY bR (aj ai (pv 0) ad (fun _ _=>rfl)) ad (aE _)) (dO (d8 (bY gG (pv 2) fk (aE _)) (dO (bY bR (aj ai (pv 0) ad (fun _ _=>rfl)) (aj ai (pv 1) ad (fun _ _=>rfl)) (aE _)))))))),?_⟩;refine⟨_,rfl,c,_,_,_,rfl,rfl,SqT.of hc,rfl,rfl,_,rfl,?_⟩;rw[di];refine aY (fun h1=>?_) (fun h1=>?_)
  ·rw[h1]at q
   exact q
  ·rw[h1,Bool.false_or]at q
   refine⟨_,rfl,rfl,_,rfl,?_⟩;rw[show(!decide (V.str (Str.ofString "free")=V.str (Str.ofString "part")))=true from rfl];refine jV ?_;exact⟨_,rfl,c,_,_,_,rfl,rfl,SqT.of hc,rfl,_,rfl,l,_,_,_,rfl,rfl,SqT.of hl,rfl,rfl,by rw[di];exact q⟩
theorem Ca:yG ["corner"] ["corner"] (ap (top 42)):=smk
theorem gS(zN:Df K mg "pair_at_corner" (top 42)):Fn P w K mg base "pair_at_corner" ["corner"] 1 Co:=by
 refine zN.fn Ca (fun _ _ _ _ _ _ us hl=>by obtain⟨_,rfl⟩:=dA hl;rfl) (fun vs H Q E h=>?_) (fun f cdv A outer s H vs Q E hr h=>?_)
 ·obtain⟨c,i,j,rfl,_⟩:=h
  rfl
 ·obtain⟨c,i,j,rfl,hc,bi,bj,q⟩:=h
  refine⟨_,(ar (az (@aB _ _ _ _ _ (@aa _ _ _ _ _ (@aB _ _ _ _ _ (@aa _ _ _ _ _ (aj ai (pv 0) ad (fun _ _=>rfl)) (@aa _ _ _ _ _ ad af (by rfl)) (by rfl))) (@aa _ _ _ _ _ (@aB _ _ _ _ _ (@aa _ _ _ _ _ (aj ai (pv 0) ad (fun _ _=>rfl)) (@aa _ _ _ _ _ ad af (by rfl)) (by rfl))) af (by rfl)) (by rfl))))),?_⟩;refine⟨_,rfl,c,_,_,_,rfl,rfl,SqT.of hc,rfl,sz (by simp),fun x H1 s1 f1 n1=>?_⟩;refine⟨_,rfl,c,_,_,_,rfl,rfl,SqT.of (s1 _ _ hc),rfl,sz (by simp),fun y H2 s2 f2 n2=>⟨sz (by simp),fun p H3 s3 f3 n3=>?_⟩⟩;exact q ⟨p,x,y,i,1,j,1⟩ H3 ((s1.trans s2).trans s3) (xG f3 ((s2.trans s3) _ _ f1) (s3 _ _ f2) bi bj) ⟨rfl,rfl,rfl,rfl⟩
theorem zb:yG ["one","other","square","room","far","i","corner","j","beside"] ["one","other","square","room"] (ap (top 38)):=smk
theorem jH(AL:Df K mg "far_corners" (top 38))(zc:Fn P w K mg base "leash_order" ["one","other","square"] 2 Em)(T:Txt mg):Fn P w K mg base "far_corners" ["one","other","square","room"] 3 D5:=by
 refine AL.fn zb (fun _ _ _ _ _ _ us hl=>by obtain⟨_,_,_,_,rfl⟩:=qR hl;rfl) (fun vs H Q E h=>?_) (fun f cdv A outer s H vs Q E hr h=>?_)
 ·obtain⟨l1,l2,sp,qs1,qs2,a,b,room,rfl,_⟩:=h
  rfl
 ·obtain⟨l1,l2,sp,qs1,qs2,a,b,room,rfl,L1,L2',b1,b2,sq,q⟩:=h
  refine⟨_,(ag (ax (i:=4) zb.nd rfl (Or.inl rfl) jr) (ag (cO PassesOwn.never rfl (iW rfl T.z_enumerate (aa (pv 0) af)) (hZ rfl (bW (aU (i:=5) zb.nd rfl (Or.inl rfl)) (bW (aU (i:=6) zb.nd rfl (Or.inl rfl)) eO))) (ar (cO PassesOwn.never rfl (iW rfl T.z_enumerate (aa (pv 1) af)) (hZ rfl (bW (aU (i:=7) zb.nd rfl (Or.inl rfl)) (bW (aU (i:=8) zb.nd rfl (Or.inl rfl)) eO))) (ar (aQ (aC cY (aA zc (hr.mono (by decide)) (by rfl) (aa (pv 6) (aa (pv 8) (aa (pv 2) af)))) (pv 3) (aE _)) (ar (gx (eD hr) (pv 4) (aB (aa (pv 5) (aa (pv 7) af))) dJ rfl)) aH))))) (ar (az (wt (pv 4)))))),?_⟩;have hl1:(qs1.map fun (q:Addr×Int×Int)=>V.ref q.1).length=qs1.length:=List.length_map _;have hl2:(qs2.map fun (q:Addr×Int×Int)=>V.ref q.1).length=qs2.length:=List.length_map _;generalize hF:fZ qs1 qs2 a b room=F at q;refine fun d hd=>?_;have s0:Same H (upd H d (.dT [])):=Same.new hd;refine⟨_,rfl,l1,rfl,⟨_,SqL.of (s0 _ _ L1.lst)⟩,gP (K:=K) (a:=l1) (xs:=qs1.map fun (q:Addr×Int×Int)=>V.ref q.1) (fun i σ H'=>∃(z5 z6 z7 z8:Option V),σ = [some (.ref l1),some (.ref l2),some (.ref sp),some (.int room),some (.ref d),z5,z6,z7,z8]∧Same H H'∧H' d=some (.dT (kvF (fY F qs2.length i))))
   ⟨_,_,_,_,rfl,s0,upd_same⟩ (fun i σ H' _ ⟨_,_,_,_,_,s',_⟩=>SqL.of (s' _ _ L1.lst)) ?_ ?_⟩
  ·rintro i x pp σ H1 H2 hx ⟨z5,z6,z7,z8,rfl,s1,e1⟩ s2 f2
   rw[List.getElem?_map]at hx;obtain⟨u,hu,rfl⟩:=Option.map_eq_some_iff.mp hx;have iu:=(List.getElem?_eq_some_iff.mp hu).1;have S2:=s1.trans s2;refine⟨pp,_,rfl,SqT.of f2,rfl,_,_,rfl,_,_,rfl,rfl,?_⟩;refine⟨_,rfl,l2,rfl,⟨_,SqL.of (S2 _ _ L2'.lst)⟩,gP (K:=K) (a:=l2) (xs:=qs2.map fun (q:Addr×Int×Int)=>V.ref q.1) (fun j σ H'=>∃(z7 z8:Option V),σ = [some (.ref l1),some (.ref l2),some (.ref sp),some (.int room),some (.ref d),some (.int (i:Int)),some (.ref u.1),z7,z8]∧Same H H'∧H' d=some (.dT (kvF (fY F qs2.length i++fO F i j))))
    ⟨_,_,rfl,S2,by rw[show fO F i 0 = [] from rfl,List.append_nil];exact s2 _ _ e1⟩ (fun i σ H' _ ⟨_,_,_,s',_⟩=>SqL.of (s' _ _ L2'.lst)) ?_ ?_⟩
   ·rintro j x pp σ H3 H4 hx ⟨z7,z8,rfl,s3,e3⟩ s4 f4
    rw[List.getElem?_map]at hx;obtain⟨v,hv,rfl⟩:=Option.map_eq_some_iff.mp hx;have jv:=(List.getElem?_eq_some_iff.mp hv).1;have S4:=s3.trans s4;have cu:=(L1.mono S4).crn u (List.mem_of_getElem? hu);have cv:=(L2'.mono S4).crn v (List.mem_of_getElem? hv);have e4:=s4 _ _ e3;have fa:F i j=decide (lo u.2.1 u.2.2 v.2.1 v.2.2 a b<room):=by rw[<- hF];exact vg hu hv
    refine⟨pp,_,rfl,SqT.of f4,rfl,_,_,rfl,_,_,rfl,rfl,?_⟩;refine⟨_,rfl,_,rfl,_,rfl,u.1,v.1,sp,_,_,_,_,_,_,rfl,⟨cu.1,dW cu.2.1,dW cu.2.2⟩,⟨cv.1,dW cv.2.1,dW cv.2.2⟩,sq.mono S4,_,rfl,_,_,rfl,rfl,_,rfl,aY (fun g=>?_) (fun g=>?_)⟩
    ·rw[<- fa]at g
     refine⟨_,rfl,_,rfl,_,rfl,sz (by simp),fun c H5 s5 f5 n5=>?_⟩;have e5:=s5 _ _ e4;have nk:((i:Int),(j:Int))∉fY F qs2.length i++fO F i j:=fun z=>by
      rcases List.mem_append.mp z with z|z
      ·have:=(ju.mp z).2.1
       dsimp only at this;omega
      ·have:=(gI.mp z).2.2.1
       dsimp only at this;omega
     have nv:dm (kvF (fY F qs2.length i++fO F i j)) (ck i j)=none:=gj fun z=>nk (mP.mp z);have len:(kvF (fY F qs2.length i++fO F i j)).length<sizeLine:=by
      unfold kvF;rw[List.length_map,List.length_append];have h1:=jJ (F:=F) (n:=qs2.length) (i:=i);have h2:=mh (F:=F) (i:=i) (k:=j);have h3:=Nat.mul_le_mul (show i≤20 by omega) b2.2;exact bC (by omega)
     refine⟨d,_,rfl,l3.t (k:=ck i j) e5 f5 len,_,_,rfl,?_,?_⟩
     ·exact fun x o e=>by
       rw[aN (fun z=>by rw[z,hd]at e;cases e)];exact s5 _ _ (S4 _ _ e)
     ·rw[upd_same,jn _ nv,hW,if_pos g]
      unfold kvF;rw[<- List.append_assoc,List.map_append (l₂:=[_])];rfl
    ·rw[<- fa]at g
     refine⟨_,_,rfl,S4,?_⟩;rw[hW,if_neg (by rw[g];exact Bool.false_ne_true),List.append_nil];exact e4
   ·rintro σ H3 ⟨z7,z8,rfl,s3,e3⟩
    rw[hl2,<- iq]at e3;exact⟨_,_,_,_,rfl,s3,e3⟩
  ·rintro σ H1 ⟨z5,z6,z7,z8,rfl,s1,e1⟩
   rw[hl1]at e1;refine⟨_,rfl,d,_,rfl,e1,fun o=>q d _ ?_ ⟨o,?_⟩⟩
   ·exact fun x o e=>by
     rw[aN (fun z=>by rw[z,hd]at e;cases e)];exact s1 _ _ e
   ·rw[upd_same]
    unfold lP;rw[show qs1.length - 1+1=qs1.length by omega,show qs2.length - 1+1=qs2.length by omega]
theorem sq0(x:Int):0≤x*x:=sqx x
structure Nm(K:W.Frag)(H:Hp)(p:Addr)(l:Int×Int×Int×Int):Prop where
 at_:SqT K H p [.int l.1,.int l.2.1,.int l.2.2.1,.int l.2.2.2]
 b0:bits l.1≤240
 b1:bits l.2.1≤2
 b2:bits l.2.2.1≤470
 b3:bits l.2.2.2≤240
 p2:0≤l.2.2.1
 p3:1≤l.2.2.2
theorem Nm.mono{K:W.Frag}{H H':Hp}{p:Addr}{l:Int×Int×Int×Int}(h:Nm K H p l)(s:Same H H'):Nm K H' p l:=⟨jj h.at_ s,h.b0,h.b1,h.b2,h.b3,h.p2,h.p3⟩
theorem tE{cx cy bx by_ ex ey x y:Int}(hne:¬[bx,by_] = [ex,ey])(hy:0<y):Gv (a8 bx by_ ex ey) (rAl cx cy bx by_ ex ey) ((cx - bx)*(cx - bx)+(cy - by_)*(cy - by_)) (rBe cx cy bx by_ ex ey) x y (rAl cx cy bx by_ ex ey*y) (a8 bx by_ ex ey*y) (rUn cx cy bx by_ ex ey x y):=by
 refine⟨?_,hy,?_,rfl,rfl,rfl⟩
 ·unfold a8
  have h1:=sq0 (ex - bx);have h2:=sq0 (ey - by_);have key:∀z:Int,z≠0->0<z*z:=fun z hz=>by
   rcases Int.lt_trichotomy z 0 with h|h|h
   ·exact Int.mul_pos_of_neg_of_neg h h
   ·exact absurd h hz
   ·exact Int.mul_pos h h
  by_cases h:ex - bx=0
  ·have h3:ey - by_≠0:=fun z=>hne (by rw[show bx=ex by omega,show by_=ey by omega])
   have:=key _ h3;omega
  ·have:=key _ h
   omega
 ·unfold rBe a8 rAl
  grind
theorem xJ{cx cy bx by_ x y:Int}:lo cx cy bx by_ x y=sg (x - ((cx - bx)*(cx - bx)+(cy - by_)*(cy - by_))*y):=by
 unfold lo;rw[show(bx - cx)*(bx - cx)=(cx - bx)*(cx - bx) by grind,show(by_ - cy)*(by_ - cy)=(cy - by_)*(cy - by_) by grind]
theorem flat{cx cy bx by_ ex ey:Int}(h:[bx,by_] = [ex,ey]):a8 bx by_ ex ey=0∧rAl cx cy bx by_ ex ey=0:=by
 simp only[List.cons.injEq,and_true]at h;obtain⟨rfl,rfl⟩:=h;unfold a8 rAl;rw[show bx - bx=0 by omega,show by_ - by_=0 by omega];simp
theorem ki{x:Int}:(sg x<0↔x<0)∧(sg x<1↔x≤0):=by
 rcases Int.lt_trichotomy x 0 with h|h|h
 ·rw[fS h];omega
 ·rw[sw h];omega
 ·rw[eX h];omega
structure EZ(P L U:Int):Prop where
 u:0<U
 e:P - L<0∨(P - L)*(P - L)<U
 b:0<P∨P*P<U
section
variable {A B C be x y P L U:Int}
theorem _root_.Sp5.Gv.open1(g:Gv A B C be x y P L U):¬(sg U<1∨ro 1 0 0 1 P (-1) U L<1∨ro P 1 U L 0 0 0 1<1)↔EZ P L U:=by
 constructor
 ·intro n
  have u:0<U:=by
   by_cases h:U≤0
   ·exact absurd (.inl (ki.2.mpr h)) n
   ·omega
  refine⟨u,?_,?_⟩
  ·by_cases z:ro 1 0 0 1 P (-1) U L<1
   ·exact absurd (.inr (.inl z)) n
   ·rw[eN P (-1) U L 1 0 0 1,g.lowE]at z
    exact(qI (by omega)).2.2.mp (by omega)
  ·by_cases z:ro P 1 U L 0 0 0 1<1
   ·exact absurd (.inr (.inr z)) n
   ·rw[g.highB]at z
    exact(qH (by omega)).2.2.mp (by omega)
 ·rintro⟨u,e,b⟩ n
  rcases n with n|n|n
  ·have:=ki.2.mp n
   omega
  ·rw[eN P (-1) U L 1 0 0 1,g.lowE]at n
   have:=(qI (W:=P - L) (U:=U) (by omega)).2.2.mpr e;omega
  ·rw[g.highB]at n
   have:=(qH (W:=P) (U:=U) (by omega)).2.2.mpr b;omega
end
theorem tR{A B y U:Int}(ba:bits A≤103)(bb:bits B≤103)(by_:bits y≤130)(bu:bits U≤470)(u0:0≤U)(l0:1≤A*y) :
  (bits (d9 (B*y) U (A*y)).1≤240∧bits (d9 (B*y) U (A*y)).2.1≤2∧bits (d9 (B*y) U (A*y)).2.2.1≤470∧bits (d9 (B*y) U (A*y)).2.2.2≤240∧0≤(d9 (B*y) U (A*y)).2.2.1∧1≤(d9 (B*y) U (A*y)).2.2.2) ∧
  (bits (cZ (B*y) U (A*y)).1≤240∧bits (cZ (B*y) U (A*y)).2.1≤2∧bits (cZ (B*y) U (A*y)).2.2.1≤470∧bits (cZ (B*y) U (A*y)).2.2.2≤240∧0≤(cZ (B*y) U (A*y)).2.2.1∧1≤(cZ (B*y) U (A*y)).2.2.2):=by
 have b1:bits (B*y)≤240:=aw (bits_mul bb by_) (by decide);have b2:bits (A*y)≤240:=aw (bits_mul ba by_) (by decide);constructor
 ·unfold d9
  split
  ·decide
  ·exact⟨b1,(by show bits (-1)≤2;decide),bu,b2,u0,l0⟩
 ·unfold cZ
  split
  ·decide
  ·exact⟨b1,(by show bits 1≤2;decide),bu,b2,u0,l0⟩
theorem um{cx cy bx by_ ex ey x y:Int}(w1:bits (ex - bx)≤51)(w2:bits (ey - by_)≤51)(w3:bits (cx - bx)≤51)(w4:bits (cy - by_)≤51)(hx:bits x≤230)(hy:bits y≤130):bits (rUn cx cy bx by_ ex ey x y)≤470:=by
 unfold rUn;have bl:bits (a8 bx by_ ex ey)≤103:=a7 (bits_mul w1 w1) (bits_mul w2 w2);have bb:bits (rBe cx cy bx by_ ex ey)≤103:=aK (bits_mul w3 w2) (bits_mul w4 w1);exact aw (bits_mul hy (aK (n:=336) (aw (bits_mul hx bl) (by decide)) (bits_mul (bits_mul hy bb) bb))) (by decide)
def cR(cx cy bx by_ ex ey x y room:Int):Option (N4×N4):=if pwN cx cy bx by_ ex ey x y room=true then none else
 some (if decide ([bx,by_] = [ex,ey])=true then (0,0,0,1) else d9 (rAl cx cy bx by_ ex ey*y) (rUn cx cy bx by_ ex ey x y) (a8 bx by_ ex ey*y),if decide ([bx,by_] = [ex,ey])=true then (1,0,0,1) else cZ (rAl cx cy bx by_ ex ey*y) (rUn cx cy bx by_ ex ey x y) (a8 bx by_ ex ey*y))
def wth(cx cy bx by_ ex ey a b:Int):Int:=a8 bx by_ ex ey*a*a - 2*rAl cx cy bx by_ ex ey*a*b+((cx - bx)*(cx - bx)+(cy - by_)*(cy - by_))*b*b
theorem wQ{a b:Int}(ha:0≤a)(hab:a≤b):bL (some ((0,0,0,1),(1,0,0,1))) a b=true:=by
 unfold bL;dsimp only;rw[kF,iC.1,iC.2,Bool.and_eq_true,decide_eq_true_eq,decide_eq_true_eq];refine⟨pd.mpr (by omega),?_⟩;have:0≤sg (b - a):=by
  rcases Int.lt_or_eq_of_le (show 0≤b - a by omega) with z|z
  ·rw[eX z];decide
  ·rw[<- z];decide
 omega
theorem wc{x:Int}:(0≤sg x↔0≤x)∧(1≤sg x↔0<x):=by
 have:=ki (x:=x);omega
theorem ii{cx cy bx by_ ex ey x y a b:Int}(hy:0<y)(ha:0≤a)(hab:a≤b)(hb:0<b) :
  bL (cR cx cy bx by_ ex ey x y 0) a b=decide (wth cx cy bx by_ ex ey a b*y≤x*(b*b))∧(wth cx cy bx by_ ex ey a b*y<x*(b*b)->bL (cR cx cy bx by_ ex ey x y 1) a b=true)∧(vY (cR cx cy bx by_ ex ey x y 1) a b=true->wth cx cy bx by_ ex ey a b*y<x*(b*b)):=by
 have bb:0<b*b:=Int.mul_pos hb hb;unfold cR wth
 by_cases hs:[bx,by_] = [ex,ey]
 ·obtain⟨e1,e2⟩:=flat (cx:=cx) (cy:=cy) hs
  rw[e1,e2,decide_eq_true hs,if_pos rfl,if_pos rfl];unfold pwN;rw[if_pos hs,if_pos hs,xJ];generalize (cx - bx)*(cx - bx)+(cy - by_)*(cy - by_)=C;have k:=wc (x:=x - C*y);have p:=k8 (k:=b*b) (z:=x - C*y) bb;have e:b*b*(x - C*y)=x*(b*b) - (0*a*a - 2*0*a*b+C*b*b)*y:=by grind
  rw[e]at p;have f:=wQ ha hab;refine⟨?_,fun h=>?_,fun h=>?_⟩
  ·by_cases z:sg (x - C*y)≥0
   ·rw[decide_eq_true z,if_neg (by decide),f,eq_comm,decide_eq_true_eq]
    omega
   ·rw[decide_eq_false z,if_pos (by decide),eq_comm]
    exact decide_eq_false (by omega)
  ·rw[decide_eq_true (show sg (x - C*y)≥1 by omega),if_neg (by decide)]
   exact f
  ·by_cases z:sg (x - C*y)≥1
   ·omega
   ·rw[decide_eq_false z,if_pos (by decide)]at h
    cases h
 ·have gv:=tE (cx:=cx) (cy:=cy) (x:=x) hs hy
  rw[decide_eq_false hs,if_neg (show ¬(false=true) by decide),if_neg (show ¬(false=true) by decide)];have ct:=gv.ct a b;have w0:=sqx (rAl cx cy bx by_ ex ey*y*b - a*(a8 bx by_ ex ey*y));unfold pwN;rw[if_neg hs,if_neg hs];refine⟨?_,fun h=>?_,fun h=>?_⟩
  ·by_cases z:sg (rUn cx cy bx by_ ex ey x y)<0∨ro 1 0 0 1 (rAl cx cy bx by_ ex ey*y) (-1) (rUn cx cy bx by_ ex ey x y) (a8 bx by_ ex ey*y)<0∨ro (rAl cx cy bx by_ ex ey*y) 1 (rUn cx cy bx by_ ex ey x y) (a8 bx by_ ex ey*y) 0 0 0 1<0
   ·rw[if_pos (by simp only[Bool.or_eq_true,decide_eq_true_eq];exact z),eq_comm]
    have fr:=gv.far (gv.shut' z) ha hab hb;exact decide_eq_false (by omega)
   ·rw[if_neg (by simp only[Bool.or_eq_true,decide_eq_true_eq];exact z)]
    have o:=gv.shut z;have bu:0≤b*b*rUn cx cy bx by_ ex ey x y:=Int.mul_nonneg (by omega) o.u;have l1:=(gv.low_le o.u ha hb).1;have h1:=(gv.high_ge o.u hab hb).1;unfold bL;dsimp only;rw[Bool.eq_iff_iff,Bool.and_eq_true,decide_eq_true_eq,decide_eq_true_eq,decide_eq_true_eq,l1,h1,<- ct.1];generalize rAl cx cy bx by_ ex ey*y*b - a*(a8 bx by_ ex ey*y)=W at *;generalize b*b*rUn cx cy bx by_ ex ey x y=V at *;constructor
    ·rintro⟨q1,q2⟩
     rcases Int.lt_trichotomy W 0 with w|w|w
     ·omega
     ·rw[w];omega
     ·omega
    ·intro q
     exact⟨fun ⟨_,q2⟩=>by omega,fun ⟨_,q2⟩=>by omega⟩
  ·have hw:=ct.2.mpr h
   have u0:0<rUn cx cy bx by_ ex ey x y:=by
    have:=k8 (k:=b*b) (z:=rUn cx cy bx by_ ex ey x y) bb;omega
   have wge:=gv.wge (a:=a) hab;have wle:=gv.wle (b:=b) ha;have o:EZ (rAl cx cy bx by_ ex ey*y) (a8 bx by_ ex ey*y) (rUn cx cy bx by_ ex ey x y):=by
    refine⟨u0,?_,?_⟩
    ·by_cases z:rAl cx cy bx by_ ex ey*y - a8 bx by_ ex ey*y<0
     ·exact .inl z
     ·have s1:=kh (u:=b*(rAl cx cy bx by_ ex ey*y - a8 bx by_ ex ey*y)) (Int.mul_nonneg (by omega) (by omega)) wge
      rw[kC]at s1;exact .inr (Int.lt_of_mul_lt_mul_left (a:=b*b) (by omega) (by omega))
    ·by_cases z:0<rAl cx cy bx by_ ex ey*y
     ·exact .inl z
     ·have s1:=kh (u:=b * -(rAl cx cy bx by_ ex ey*y)) (v:=-(rAl cx cy bx by_ ex ey*y*b - a*(a8 bx by_ ex ey*y))) (Int.mul_nonneg (by omega) (by omega)) (by rw[Int.mul_neg];omega)
      rw[kC,Int.neg_mul_neg,Int.neg_mul_neg]at s1;exact .inr (Int.lt_of_mul_lt_mul_left (a:=b*b) (by omega) (by omega))
   have n:=gv.open1.mpr o;rw[if_neg (by simp only[Bool.or_eq_true,decide_eq_true_eq];exact n)];unfold bL;dsimp only;rw[Bool.and_eq_true,decide_eq_true_eq,decide_eq_true_eq,(gv.low_le (Int.le_of_lt u0) ha hb).1,(gv.high_ge (Int.le_of_lt u0) hab hb).1];exact⟨fun ⟨_,q2⟩=>by omega,fun ⟨_,q2⟩=>by omega⟩
  ·by_cases z:sg (rUn cx cy bx by_ ex ey x y)<1∨ro 1 0 0 1 (rAl cx cy bx by_ ex ey*y) (-1) (rUn cx cy bx by_ ex ey x y) (a8 bx by_ ex ey*y)<1∨ro (rAl cx cy bx by_ ex ey*y) 1 (rUn cx cy bx by_ ex ey x y) (a8 bx by_ ex ey*y) 0 0 0 1<1
   ·rw[if_pos (by simp only[Bool.or_eq_true,decide_eq_true_eq];exact z)]at h
    cases h
   ·rw[if_neg (by simp only[Bool.or_eq_true,decide_eq_true_eq];exact z)]at h
    have o:=gv.open1.mp z;have ou:=o.u;unfold vY at h;dsimp only at h;rw[Bool.and_eq_true,decide_eq_true_eq,decide_eq_true_eq]at h;have l2:=(gv.low_le (Int.le_of_lt ou) ha hb).2 h.1;have h2:=(gv.high_ge (Int.le_of_lt ou) hab hb).2 h.2;exact ct.2.mp (by omega)
def eI(K:W.Frag)(H:Hp)(v:V)(o:Option (N4×N4)):Prop:=match o with
 | none=>v = .non
 | some (l,m)=>∃t p q:Addr,v = .ref t∧H t=some (.tup [.ref p,.ref q])∧Nm K H p l∧Nm K H q m
theorem eI.mono{K:W.Frag}{H H':Hp}{v:V}{o:Option (N4×N4)}(h:eI K H v o)(s:Same H H'):eI K H' v o:=by
 cases o with
 | none=>exact h
 | some lm =>
  obtain⟨t,p,q,e,f,n1,n2⟩:=h;exact⟨t,p,q,e,s _ _ f,n1.mono s,n2.mono s⟩
theorem tJ{K:W.Frag}{H:Hp}{v:V}{cx cy bx by_ ex ey x y room:Int}(hr:room=0∨room=1)(hy:0<y)(bx':bits x≤230)(byy:bits y≤130)(w1:bits (ex - bx)≤51)(w2:bits (ey - by_)≤51)(w3:bits (cx - bx)≤51)(w4:bits (cy - by_)≤51)
  (h:Pw K H v (pwN cx cy bx by_ ex ey x y room) (decide ([bx,by_] = [ex,ey])) (rAl cx cy bx by_ ex ey*y) (rUn cx cy bx by_ ex ey x y) (a8 bx by_ ex ey*y)):eI K H v (cR cx cy bx by_ ex ey x y room):=by
 unfold cR;rcases h with⟨rfl,hN⟩|⟨hN,t,p,q,ln,hn,rfl,et,al,ah,e1,e2⟩
 ·rw[if_pos hN]
  rfl
 ·rw[if_neg (by rw[hN];decide)]
  have key:(bits ln.1≤240∧bits ln.2.1≤2∧bits ln.2.2.1≤470∧bits ln.2.2.2≤240∧0≤ln.2.2.1∧1≤ln.2.2.2)∧(bits hn.1≤240∧bits hn.2.1≤2∧bits hn.2.2.1≤470∧bits hn.2.2.2≤240∧0≤hn.2.2.1∧1≤hn.2.2.2):=by
   by_cases hs:[bx,by_] = [ex,ey]
   ·rw[decide_eq_true hs,if_pos rfl]at e1 e2
    subst e1 e2;decide
   ·rw[decide_eq_false hs,if_neg (by decide)]at e1 e2
    subst e1 e2;have gv:=tE (cx:=cx) (cy:=cy) (x:=x) hs hy;have u0:0≤rUn cx cy bx by_ ex ey x y:=by
     unfold pwN at hN;rw[if_neg hs,Bool.or_eq_false_iff,decide_eq_false_iff_not]at hN;have:=ki (x:=rUn cx cy bx by_ ex ey x y);rcases hr with rfl|rfl <;> omega
    exact tR (a7 (bits_mul w1 w1) (bits_mul w2 w2)) (a7 (bits_mul w3 w1) (bits_mul w4 w2)) byy (um w1 w2 w3 w4 bx' byy) u0 (Int.mul_pos gv.pa hy)
  rw[<- e1,<- e2];exact⟨t,p,q,rfl,et,⟨al,key.1.1,key.1.2.1,key.1.2.2.1,key.1.2.2.2.1,key.1.2.2.2.2.1,key.1.2.2.2.2.2⟩,⟨ah,key.2.1,key.2.2.1,key.2.2.2.1,key.2.2.2.2.1,key.2.2.2.2.2.1,key.2.2.2.2.2.2⟩⟩
def dk(k i j:Int):aJ:=[.inl k,.inl i,.inl j]
theorem gb{k i j k' i' j':Int}(h:dk k i j=dk k' i' j'):k=k'∧i=i'∧j=j':=by
 unfold dk at h;simp only[List.cons.injEq,Sum.inl.injEq,and_true]at h;exact h
def cF(d:Addr)(H H':Hp):Prop:=∀b o,b≠d->H b=some o->H' b=some o
theorem cF.of{d:Addr}{H H':Hp}(s:Same H H'):cF d H H':=fun b o _ e=>s b o e
theorem cF.trans{d:Addr}{H H1 H2:Hp}(a:cF d H H1)(b:cF d H1 H2):cF d H H2:=fun c o n e=>b c o n (a c o n e)
theorem cF.upd{d:Addr}{H:Hp}{o:HO}:cF d H (upd H d o):=fun b o' n e=>by rw[aN n];exact e
theorem cF.t{d:Addr}{H H':Hp}(b:cF d H H')(hd:∀xs,H d≠some (.tup xs)):SameT H H':=fun x xs e=>b x _ (fun z=>hd xs (by rw[<- z];exact e)) e
theorem cF.same{d:Addr}{H0 H H':Hp}(b:cF d H H')(s:Same H0 H)(h:H0 d=none):Same H0 H':=fun c o e=>b c o (fun z=>by rw[z,h]at e;cases e) (s c o e)
def NoT(o:HO):Prop:=(∀xs,o≠.tup xs)∧∀ob xs,o≠.frz ob (.tup xs)
theorem o7{K:W.Frag}{H H':Hp}{a d:Addr}{xs:List V}{od:HO}(h:SqT K H a xs)(b:cF d H H')(hd:H d=some od)(n:NoT od):SqT K H' a xs:=by
 rcases h with(h|⟨o,h⟩)|h
 ·exact .inl (.inl (b _ _ (fun z=>n.1 xs (by rw[z,hd]at h;cases h;rfl)) h))
 ·exact .inl (.inr ⟨o,b _ _ (fun z=>n.2 o xs (by rw[z,hd]at h;cases h;rfl)) h⟩)
 ·exact .inr h
theorem eI.but{K:W.Frag}{H H':Hp}{v:V}{o:Option (N4×N4)}{d:Addr}{od:HO}(h:eI K H v o)(b:cF d H H')(hd:H d=some od)(n:NoT od):eI K H' v o:=by
 cases o with
 | none=>exact h
 | some lm =>
  obtain⟨t,p,q,e,f,n1,n2⟩:=h;exact⟨t,p,q,e,b _ _ (fun z=>n.1 _ (by rw[z,hd]at f;cases f;rfl)) f,⟨o7 n1.at_ b hd n,n1.b0,n1.b1,n1.b2,n1.b3,n1.p2,n1.p3⟩,⟨o7 n2.at_ b hd n,n2.b0,n2.b1,n2.b2,n2.b3,n2.p2,n2.p3⟩⟩
theorem sP{kvs:List (List Key×V)}:NoT (.dT kvs):=⟨(fun _ z=>by cases z),(fun _ _ z=>by cases z)⟩
structure zo(K:W.Frag)(H:Hp)(d:Addr)(G:Int->Int->Int->Option (N4×N4))(D:Int->Int->Int->Prop)(n:Nat):Prop where
 ex:∃kvs:List (List Key×V),H d=some (.dT kvs)∧kvs.length=n∧(∀k i j,D k i j->∃v,dm kvs (dk k i j)=some v∧eI K H v (G k i j))∧∀k i j,¬D k i j->dm kvs (dk k i j)=none
theorem zo.mono{K:W.Frag}{H H':Hp}{d:Addr}{G:Int->Int->Int->Option (N4×N4)}{D:Int->Int->Int->Prop}{n:Nat}(h:zo K H d G D n)(s:Same H H'):zo K H' d G D n:=by
 obtain⟨kvs,e,l,a,b⟩:=h.ex;exact⟨kvs,s _ _ e,l,fun k i j x=>let ⟨v,e,g⟩:=a k i j x;⟨v,e,g.mono s⟩,b⟩
theorem zo.congr{K:W.Frag}{H:Hp}{d:Addr}{G:Int->Int->Int->Option (N4×N4)}{D D':Int->Int->Int->Prop}{n n':Nat}(h:zo K H d G D n)(e:∀k i j,D k i j↔D' k i j)(en:n=n'):zo K H d G D' n':=by
 subst en;obtain⟨kvs,e',l,a,b⟩:=h.ex;exact⟨kvs,e',l,fun k i j x=>a k i j ((e k i j).mpr x),fun k i j x=>b k i j fun y=>x ((e k i j).mp y)⟩
theorem rs0{A p q:Prop}{z:Int}{j:Nat}:((A∨(p∧q∧0≤z∧z<(j:Int)))∨(p∧q∧z=(j:Int)))↔A∨(p∧q∧0≤z∧z<((j+1:Nat):Int)):=by
 constructor
 ·rintro((h|⟨a,b,c,d⟩)|⟨a,b,c⟩)
  ·exact .inl h
  ·exact .inr ⟨a,b,c,by clear a b c;omega⟩
  ·exact .inr ⟨a,b,by clear a b;omega,by clear a b;omega⟩
 ·rintro(h|⟨a,b,c,d⟩)
  ·exact .inl (.inl h)
  ·rcases Int.lt_or_eq_of_le (show z≤(j:Int) by clear a b c;omega) with e|e
   ·exact .inl (.inr ⟨a,b,c,e⟩)
   ·exact .inr ⟨a,b,e⟩
theorem rs1{A p q:Prop}{z:Int}{j:Nat}:((A∨(p∧q∧0≤z∧z<(j:Int)))∨(p∧z=(j:Int)∧q))↔A∨(p∧q∧0≤z∧z<((j+1:Nat):Int)):=by
 rw[and_comm (a:=z=(j:Int)) (b:=q)];exact rs0
theorem re0{p:Prop}{x y M:Int}{i c:Nat}(e:(c:Int)=M):((p∧(0≤x∧x<(i:Int))∧0≤y∧y<M)∨(p∧x=(i:Int)∧0≤y∧y<(c:Int)))↔p∧(0≤x∧x<((i+1:Nat):Int))∧0≤y∧y<M:=by
 subst e;constructor
 ·rintro(⟨a,b,c⟩|⟨a,b,c⟩)
  ·exact⟨a,⟨b.1,by clear a c;omega⟩,c⟩
  ·exact⟨a,⟨by clear a c;omega,by clear a c;omega⟩,c⟩
 ·rintro⟨a,b,c⟩
  rcases Int.lt_or_eq_of_le (show x≤(i:Int) by clear a c;omega) with e|e
  ·exact .inl ⟨a,⟨b.1,e⟩,c⟩
  ·exact .inr ⟨a,e,c⟩
theorem re1{A p:Prop}{x y M:Int}{j c:Nat}(e:(c:Int)=M):((A∨(p∧(0≤x∧x<M)∧0≤y∧y<(j:Int)))∨(p∧y=(j:Int)∧0≤x∧x<(c:Int)))↔A∨(p∧(0≤x∧x<M)∧0≤y∧y<((j+1:Nat):Int)):=by
 subst e;constructor
 ·rintro((h|⟨a,b,c⟩)|⟨a,b,c⟩)
  ·exact .inl h
  ·exact .inr ⟨a,b,c.1,by clear a b;omega⟩
  ·exact .inr ⟨a,c,by clear a c;omega,by clear a c;omega⟩
 ·rintro(h|⟨a,b,c⟩)
  ·exact .inl (.inl h)
  ·rcases Int.lt_or_eq_of_le (show y≤(j:Int) by clear a b;omega) with e|e
   ·exact .inl (.inr ⟨a,b,c.1,e⟩)
   ·exact .inr ⟨a,e,b⟩
theorem pS{x n:Int}:x<n↔x≤n - 1:=by omega
theorem zo.put{K:W.Frag}{H:Hp}{d t:Addr}{G:Int->Int->Int->Option (N4×N4)}{D:Int->Int->Int->Prop}{n:Nat}{k i j:Int}{v:V}(h:zo K H d G D n)(ht:H t=some (.tup ((dk k i j).map kV)))(g:eI K H v (G k i j))(new:¬D k i j)(hn:n<1000) :
  ∃H',l3 H d (.ref t) v H'∧zo K H' d G (fun k' i' j'=>D k' i' j'∨(k'=k∧i'=i∧j'=j)) (n+1)∧cF d H H':=by
 obtain⟨kvs,e,l,a,b⟩:=h.ex;refine⟨_,l3.t (k:=dk k i j) (v:=v) e ht (by have:=bC (n:=kvs.length) (by omega);exact this),⟨_,upd_same,?_,fun k' i' j' x=>?_,fun k' i' j' x=>?_⟩,cF.upd⟩
 ·rw[jn _ (b k i j new),List.length_append,l];rfl
 ·rw[l5]
  by_cases z:dk k' i' j'=dk k i j
  ·rw[if_pos z]
   obtain⟨rfl,rfl,rfl⟩:=gb z;exact⟨v,rfl,g.but cF.upd e sP⟩
  ·rw[if_neg z]
   rcases x with x|⟨rfl,rfl,rfl⟩
   ·obtain⟨v',e',g'⟩:=a k' i' j' x
    exact⟨v',e',g'.but cF.upd e sP⟩
   ·exact absurd rfl z
 ·rw[l5,if_neg (fun z=>x (.inr (gb z)))]
  exact b k' i' j' fun y=>x (.inl y)
theorem zo.get{K:W.Frag}{H:Hp}{d t:Addr}{G:Int->Int->Int->Option (N4×N4)}{D:Int->Int->Int->Prop}{n:Nat}{k i j:Int}(h:zo K H d G D n)(ht:H t=some (.tup ((dk k i j).map kV))):∃o,gi H d (.ref t) o∧(D k i j->∃v,o=some v∧eI K H v (G k i j))∧(¬D k i j->o=none):=by
 obtain⟨kvs,e,l,a,b⟩:=h.ex;exact⟨_,gi.t e ht,a k i j,b k i j⟩
def DIn(n m:Int)(k i j:Int):Prop:=(k=0∧(0≤i∧i≤n)∧0≤j∧j<m)∨(k=1∧(0≤i∧i<n)∧0≤j∧j≤m)
def cnX(qs:Crn)(i:Int):Int:=(qs.getD i.toNat (0,0,0)).2.1
def cnY(qs:Crn)(i:Int):Int:=(qs.getD i.toNat (0,0,0)).2.2
def dh(qs rs:Crn)(a b room:Int)(k i j:Int):Option (N4×N4) :=
 if k=0 then cR (cnX qs i) (cnY qs i) (cnX rs j) (cnY rs j) (cnX rs (j+1)) (cnY rs (j+1)) a b room
 else cR (cnX rs j) (cnY rs j) (cnX qs i) (cnY qs i) (cnX qs (i+1)) (cnY qs (i+1)) a b room
def jQ(K:W.Frag)(H:Hp)(d:Addr)(n m:Int)(G:Int->Int->Int->Option (N4×N4)):Prop:=∃c,zo K H d G (DIn n m) c
theorem jQ.mono{K:W.Frag}{H H':Hp}{d:Addr}{n m:Int}{G:Int->Int->Int->Option (N4×N4)}(h:jQ K H d n m G)(s:Same H H'):jQ K H' d n m G:=let ⟨c,x⟩:=h;⟨c,x.mono s⟩
def dbl(qs:Crn):Crn:=if qs.length=1 then qs++qs else qs
theorem dZ{qs:Crn}(h:1≤qs.length∧qs.length≤10):2≤(dbl qs).length∧(dbl qs).length≤10:=by
 unfold dbl
 split
 ·rw[List.length_append];omega
 ·omega
theorem _root_.Sp7.LineM.cn{H:Hp}{l:Addr}{qs:Crn}(L:LineM H l qs){i:Int}(h0:0≤i)(h1:i<(qs.length:Int)):∃p,atI (qs.map fun (q:Addr×Int×Int)=>V.ref q.1) i=some (.ref p)∧Cn H p (cnX qs i) (cnY qs i):=by
 have hi:i.toNat<qs.length:=by omega
 have e:qs.getD i.toNat (0,0,0)=qs[i.toNat]:=by rw[List.getD_eq_getElem?_getD,List.getElem?_eq_getElem hi];rfl
 have c:=L.crn _ (List.getElem_mem hi);refine⟨qs[i.toNat].1,?_,?_⟩
 ·have:atI (qs.map fun (q:Addr×Int×Int)=>V.ref q.1) ((i.toNat:Nat):Int)=some (.ref qs[i.toNat].1):=d6 (by rw[List.getElem?_map,List.getElem?_eq_getElem hi];rfl)
  rw[show((i.toNat:Nat):Int)=i by omega]at this;exact this
 ·unfold cnX cnY
  rw[e];exact⟨c.1,dW c.2.1,dW c.2.2⟩
theorem pZ{K:W.Frag}{H:Hp}{v:V}{p q r s:Addr}{cx cy bx by_ ex ey a b room:Int}(hr:room=0∨room=1)(hb:0<b)(c1:Cn H p cx cy)(c2:Cn H q bx by_)(c3:Cn H r ex ey)(sq:Sq H s a b)
  (h:Pw K H v (pwN cx cy bx by_ ex ey a b room) (decide ([bx,by_] = [ex,ey])) (rAl cx cy bx by_ ex ey*b) (rUn cx cy bx by_ ex ey a b) (a8 bx by_ ex ey*b)):eI K H v (cR cx cy bx by_ ex ey a b room) :=
 tJ hr hb sq.ba sq.bb (aK c3.bx c2.bx) (aK c3.by_ c2.by_) (aK c1.bx c2.bx) (aK c1.by_ c2.by_) h
inductive DS (vs:List V) (H:Hp) (Q:VK) (x_3:XK):Prop
 | mk:∀(l:Addr) (qs:Crn),(vs = [.ref l])->(LineM H l qs)->((1≤qs.length∧qs.length≤10))->(∀r H',Same H H'->LineM H' r (dbl qs)->Q (.ref r) H')->DS vs H Q x_3
inductive CZ (K:W.Frag) (vs:List V) (H:Hp) (Q:VK) (x_3:XK):Prop
 | mk:∀(l1 l2 sp:Addr) (qs rs:Crn) (a b room:Int),(vs = [.ref l1,.ref l2,.ref sp,.int room])->(LineM H l1 qs)->(LineM H l2 rs)->((2≤qs.length∧qs.length≤10))->((2≤rs.length∧rs.length≤10))->((Sq H sp a b∧0<b))->((room=0∨room=1))->(∀d H',Same H H'->H d=none->jQ K H' d ((qs.length:Int) - 1) ((rs.length:Int) - 1) (dh qs rs a b room)->Q (.ref d) H')->CZ K vs H Q x_3
structure yZ(K:W.Frag)(C:Addr)(H:Hp)(f:Addr)(n m:Nat)(room:Int)(G:Int->Int->Int->Option (N4×N4))(F:Int->Int->Bool):Prop where
 ex:∃dx lt d fr,H f=some (.ins C dx [("room",.int room),("last",.ref lt),("doors",.ref d),("far",.ref fr)])∧H lt=some (.tup [.int (n:Int),.int (m:Int)])∧jQ K H d n m G∧lZ H fr n m F
theorem yZ.mono{K:W.Frag}{C:Addr}{H H':Hp}{f:Addr}{n m:Nat}{room:Int}{G:Int->Int->Int->Option (N4×N4)}{F:Int->Int->Bool}(h:yZ K C H f n m room G F)(s:Same H H'):yZ K C H' f n m room G F:=by
 obtain⟨dx,lt,d,fr,h1,h2,h3,h4⟩:=h.ex;exact⟨dx,lt,d,fr,s _ _ h1,s _ _ h2,h3.mono s,h4.mono s⟩
def aO(qs:Crn):Nat:=(dbl qs).length - 1
inductive Cq (K:W.Frag) (C:Addr) (vs:List V) (H:Hp) (Q:VK) (x_3:XK):Prop
 | mk:∀(f dx l1 l2 sp:Addr) (qs rs:Crn) (a b room:Int),(vs = [.ref f,.ref l1,.ref l2,.ref sp,.int room])->(H f=some (.ins C dx []))->(LineM H l1 qs)->(LineM H l2 rs)->((1≤qs.length∧qs.length≤10))->((1≤rs.length∧rs.length≤10))->((Sq H sp a b∧0<b))->((room=0∨room=1))->(∀H',cF f H H'->yZ K C H' f (aO qs) (aO rs) room (dh (dbl qs) (dbl rs) a b room) (fZ (dbl qs) (dbl rs) a b room)->Q .non H')->Cq K C vs H Q x_3
theorem B8:yG ["line"] ["line"] (ap (top 36)):=smk
theorem gQ(zL:Df K mg "with_a_stretch" (top 36))(T:Txt mg):Fn P w K mg base "with_a_stretch" ["line"] 1 DS:=by
 refine zL.fn B8 (fun _ _ _ _ _ _ us hl=>by obtain⟨_,rfl⟩:=dA hl;rfl) (fun vs H Q E h=>?_) (fun f cdv A outer s H vs Q E hr h=>?_)
 ·obtain⟨l,qs,rfl,_⟩:=h
  rfl
 ·obtain⟨l,qs,rfl,L,hl,k⟩:=h
  refine⟨_,(ar (az (gB (aC bR (aF aI (by rfl) T.z_len bD (aa (pv 0) af)) ad (aE _)) (ao gH (pv 0) (pv 0)) (pv 0)))),?_⟩;have hll:(qs.map fun (q:Addr×Int×Int)=>V.ref q.1).length=qs.length:=List.length_map _;unfold dbl at k;refine⟨_,rfl,l,_,rfl,.inl (SqL.of L.lst),rfl,_,rfl,?_⟩;rw[hll,di];refine aY (fun c=>?_) (fun c=>?_)
  ·have c:qs.length=1:=by have:((qs.length:Nat):Int)=1:=cV c;omega
   rw[if_pos c]at k;refine⟨_,rfl,_,rfl,l,l,_,_,rfl,rfl,L.lst,L.lst,sz (by simp;omega),fun r H1 s1 f1 _=>k r H1 s1 ⟨by rw[f1,List.map_append],fun q hq=>?_⟩⟩;rcases List.mem_append.mp hq with h|h
   ·exact(L.mono s1).crn q h
   ·exact(L.mono s1).crn q h
  ·have c:¬qs.length=1:=fun z=>du c (by rw[z];rfl)
   rw[if_neg c]at k;exact⟨_,rfl,k l H (Same.refl _) L⟩
theorem zf:yG ["one","other","square","room","doors","i","corner","j"] ["one","other","square","room"] (ap (top 37)):=smk
theorem nB(BW:Df K mg "doors_of" (top 37))(V_UPRIGHT:∃tk,mg "UPRIGHT" = some (.int 0 tk))(V_LEVEL:∃tk,mg "LEVEL" = some (.int 1 tk))(zR:Fn P w K mg base "part_within" ["corner","begin","end","square","room"] 5 (DW K))(zx:Fn P w K mg base "last_of" ["line"] 1 CY)(T:Txt mg):Fn P w K mg base "doors_of" ["one","other","square","room"] 6 (CZ K):=by
 refine BW.fn zf (fun _ _ _ _ _ _ us hl=>by obtain⟨_,_,_,_,rfl⟩:=qR hl;rfl) (fun vs H Q E h=>?_) (fun f cdv A outer s H vs Q E hr h=>?_)
 ·obtain⟨l1,l2,sp,qs,rs,a,b,room,rfl,_⟩:=h
  rfl
 ·obtain⟨l1,l2,sp,qs,rs,a,b,room,rfl,L1,L2,hq,hr',⟨sq,hb⟩,hroom,k⟩:=h
  obtain⟨tU,zj⟩:=V_UPRIGHT;obtain⟨tL,AQ⟩:=V_LEVEL;refine⟨_,(ag (ax (i:=4) zf.nd rfl (Or.inl rfl) jr) (ag (cO PassesOwn.never rfl (iW rfl T.z_enumerate (aa (pv 0) af)) (hZ rfl (bW (aU (i:=5) zf.nd rfl (Or.inl rfl)) (bW (aU (i:=6) zf.nd rfl (Or.inl rfl)) eO))) (ar (cO PassesOwn.never rfl (fJ rfl T.z_range (aa (aA zx (hr.mono (by decide)) (by rfl) (aa (pv 1) af)) af)) (aU (i:=7) zf.nd rfl (Or.inl rfl)) (ar (gx (eD hr) (pv 4) (aB (aa (bI (v:=.int 0) (by rfl) zj ⟨_,rfl⟩) (aa (pv 5) (aa (pv 7) af)))) (aA zR (hr.mono (by decide)) (by rfl) (aa (pv 6) (aa (aj aM (pv 1) (pv 7) (fun _ _=>rfl)) (aa (aj aM (pv 1) (ao aP (pv 7) ad) (fun _ _=>rfl)) (aa (pv 2) (aa (pv 3) af)))))) rfl))))) (ag (cO PassesOwn.never rfl (iW rfl T.z_enumerate (aa (pv 1) af)) (hZ rfl (bW (aU (i:=7) zf.nd rfl (Or.inl rfl)) (bW (aU (i:=6) zf.nd rfl (Or.inl rfl)) eO))) (ar (cO PassesOwn.never rfl (fJ rfl T.z_range (aa (aA zx (hr.mono (by decide)) (by rfl) (aa (pv 0) af)) af)) (aU (i:=5) zf.nd rfl (Or.inl rfl)) (ar (gx (eD hr) (pv 4) (aB (aa (bI (v:=.int 1) (by rfl) AQ ⟨_,rfl⟩) (aa (pv 5) (aa (pv 7) af)))) (aA zR (hr.mono (by decide)) (by rfl) (aa (pv 6) (aa (aj aM (pv 0) (pv 5) (fun _ _=>rfl)) (aa (aj aM (pv 0) (ao aP (pv 5) ad) (fun _ _=>rfl)) (aa (pv 2) (aa (pv 3) af)))))) rfl))))) (ar (az (pv 4)))))),?_⟩;have hl1:(qs.map fun (q:Addr×Int×Int)=>V.ref q.1).length=qs.length:=List.length_map _;have hl2:(rs.map fun (q:Addr×Int×Int)=>V.ref q.1).length=rs.length:=List.length_map _;generalize hG:dh qs rs a b room=G at k;have G0:∀i j:Int,G 0 i j=cR (cnX qs i) (cnY qs i) (cnX rs j) (cnY rs j) (cnX rs (j+1)) (cnY rs (j+1)) a b room:=fun i j=>by rw[<- hG];rfl
  have G1:∀i j:Int,G 1 i j=cR (cnX rs j) (cnY rs j) (cnX qs i) (cnY qs i) (cnX qs (i+1)) (cnY qs (i+1)) a b room:=fun i j=>by rw[<- hG];rfl
  refine fun d hd=>?_;have s0:Same H (upd H d (.dT [])):=Same.new hd;refine⟨_,rfl,l1,rfl,⟨_,SqL.of (s0 _ _ L1.lst)⟩,gP (K:=K) (a:=l1) (xs:=qs.map fun (q:Addr×Int×Int)=>V.ref q.1) (fun i σ H'=>∃(z5 z6 z7:Option V),σ = [some (.ref l1),some (.ref l2),some (.ref sp),some (.int room),some (.ref d),z5,z6,z7]∧Same H H'∧zo K H' d G (fun k' i' j'=>k'=0∧(0≤i'∧i'<(i:Int))∧0≤j'∧j'<(rs.length:Int) - 1) (i*(rs.length - 1)))
   ⟨_,_,_,rfl,s0,[],upd_same,(by simp),fun k' i' j' h=>by omega,fun _ _ _ _=>rfl⟩ (fun i σ H' _ ⟨_,_,_,_,s',_⟩=>SqL.of (s' _ _ L1.lst)) ?_ ?_⟩
  ·rintro i x pp σ H1 H2 hx ⟨z5,z6,z7,rfl,s1,e1⟩ s2 f2
   have hi:=(List.getElem?_eq_some_iff.mp hx).1;rw[hl1]at hi;obtain⟨pc,ac,c1⟩:=L1.cn (i:=(i:Int)) (by omega) (by omega);obtain rfl:x = .ref pc:=by
    have:=d6 hx;rw[ac]at this;cases this;rfl
   have S2:=s1.trans s2;refine⟨pp,_,rfl,SqT.of f2,rfl,_,_,rfl,_,_,rfl,rfl,?_⟩;refine⟨_,rfl,l2,_,rfl,S2 _ _ L2.lst,_,rfl,by omega,by omega,?_⟩;have en:(((rs.map fun (q:Addr×Int×Int)=>V.ref q.1).length:Nat):Int) - 1=((rs.length - 1:Nat):Int):=by omega
   rw[en,Int.toNat_natCast];refine dB (n:=rs.length - 1) (lo:=0) (fun j σ H'=>∃(z7:Option V),σ = [some (.ref l1),some (.ref l2),some (.ref sp),some (.int room),some (.ref d),some (.int (i:Int)),some (.ref pc),z7]∧Same H H'∧zo K H' d G (fun k' i' j'=>(k'=0∧(0≤i'∧i'<(i:Int))∧0≤j'∧j'<(rs.length:Int) - 1)∨(k'=0∧i'=(i:Int)∧0≤j'∧j'<(j:Int))) (i*(rs.length - 1)+j))
    ⟨_,rfl,S2,(e1.mono s2).congr (fun k' i' j'=>⟨.inl,fun h=>h.elim id fun z=>absurd z.2.2 (by omega)⟩) rfl⟩ ?_ ?_
   ·rintro j σ H3 hj ⟨z7,rfl,s3,e3⟩
    rw[Int.zero_add];obtain⟨pb,ab,c2⟩:=L2.cn (i:=(j:Int)) (by omega) (by omega);obtain⟨pe,ae,c3⟩:=L2.cn (i:=(j:Int)+1) (by omega) (by omega);have S3:=SqL.of (K:=K) (s3 _ _ L2.lst);refine⟨_,rfl,_,rfl,_,rfl,l2,_,_,_,rfl,rfl,S3,ab,_,rfl,_,rfl,_,_,rfl,rfl,l2,_,_,_,rfl,rfl,S3,ae,_,rfl,_,rfl,pc,pb,pe,sp,_,_,_,_,_,_,a,b,room,rfl,c1.mono s3,c2.mono s3,c3.mono s3,sq.mono s3,fun v H4 s4 pw=>?_⟩;have S4:=s3.trans s4;refine⟨_,rfl,_,rfl,_,rfl,sz (by simp),fun t H5 s5 f5 _=>?_⟩;have S5:=S4.trans s5;have gv:eI K H5 v (G 0 i j):=by
     rw[G0];exact(pZ hroom hb (c1.mono S4) (c2.mono S4) (c3.mono S4) (sq.mono S4) pw).mono s5
    obtain⟨H6,dp,e6,b6⟩:=((e3.mono s4).mono s5).put (k:=0) (i:=(i:Int)) (j:=(j:Int)) f5 gv (by omega) (by
     have:=Nat.mul_le_mul (show i≤10 by omega) (show rs.length - 1≤9 by omega);omega)
    exact⟨d,H6,rfl,dp,_,rfl,b6.same S5 hd,e6.congr (fun _ _ _=>rs0) (by omega)⟩
   ·rintro σ H3 ⟨z7,rfl,s3,e3⟩
    exact⟨_,_,_,rfl,s3,e3.congr (fun _ _ _=>re0 (by omega)) (by rw[Nat.add_mul,Nat.one_mul])⟩
  ·rintro σ H1 ⟨z5,z6,z7,rfl,s1,e1⟩
   rw[hl1]at e1;refine⟨_,rfl,l2,rfl,⟨_,SqL.of (s1 _ _ L2.lst)⟩,gP (K:=K) (a:=l2) (xs:=rs.map fun (q:Addr×Int×Int)=>V.ref q.1) (fun j σ H'=>∃(z5 z6 z7:Option V),σ = [some (.ref l1),some (.ref l2),some (.ref sp),some (.int room),some (.ref d),z5,z6,z7]∧Same H H'∧zo K H' d G (fun k' i' j'=>(k'=0∧(0≤i'∧i'<(qs.length:Int))∧0≤j'∧j'<(rs.length:Int) - 1)∨(k'=1∧(0≤i'∧i'<(qs.length:Int) - 1)∧0≤j'∧j'<(j:Int))) (qs.length*(rs.length - 1)+j*(qs.length - 1)))
    ⟨_,_,_,rfl,s1,e1.congr (fun k' i' j'=>⟨.inl,fun h=>h.elim id fun z=>absurd z.2.2 (by omega)⟩) (by simp)⟩ (fun i σ H' _ ⟨_,_,_,_,s',_⟩=>SqL.of (s' _ _ L2.lst)) ?_ ?_⟩
   ·rintro j x pp σ H1 H2 hx ⟨z5,z6,z7,rfl,s1,e1⟩ s2 f2
    have hj:=(List.getElem?_eq_some_iff.mp hx).1;rw[hl2]at hj;obtain⟨pc,ac,c1⟩:=L2.cn (i:=(j:Int)) (by omega) (by omega);obtain rfl:x = .ref pc:=by
     have:=d6 hx;rw[ac]at this;cases this;rfl
    have S2:=s1.trans s2;refine⟨pp,_,rfl,SqT.of f2,rfl,_,_,rfl,_,_,rfl,rfl,?_⟩;refine⟨_,rfl,l1,_,rfl,S2 _ _ L1.lst,_,rfl,by omega,by omega,?_⟩;have en:(((qs.map fun (q:Addr×Int×Int)=>V.ref q.1).length:Nat):Int) - 1=((qs.length - 1:Nat):Int):=by omega
    rw[en,Int.toNat_natCast];refine dB (n:=qs.length - 1) (lo:=0) (fun i σ H'=>∃(z5:Option V),σ = [some (.ref l1),some (.ref l2),some (.ref sp),some (.int room),some (.ref d),z5,some (.ref pc),some (.int (j:Int))]∧Same H H'∧zo K H' d G (fun k' i' j'=>((k'=0∧(0≤i'∧i'<(qs.length:Int))∧0≤j'∧j'<(rs.length:Int) - 1)∨(k'=1∧(0≤i'∧i'<(qs.length:Int) - 1)∧0≤j'∧j'<(j:Int)))∨(k'=1∧j'=(j:Int)∧0≤i'∧i'<(i:Int))) (qs.length*(rs.length - 1)+j*(qs.length - 1)+i))
     ⟨_,rfl,S2,(e1.mono s2).congr (fun k' i' j'=>⟨.inl,fun h=>h.elim id fun z=>absurd z.2.2 (by omega)⟩) rfl⟩ ?_ ?_
    ·rintro i σ H3 hi ⟨z7,rfl,s3,e3⟩
     rw[Int.zero_add];obtain⟨pb,ab,c2⟩:=L1.cn (i:=(i:Int)) (by omega) (by omega);obtain⟨pe,ae,c3⟩:=L1.cn (i:=(i:Int)+1) (by omega) (by omega);have S3:=SqL.of (K:=K) (s3 _ _ L1.lst);refine⟨_,rfl,_,rfl,_,rfl,l1,_,_,_,rfl,rfl,S3,ab,_,rfl,_,rfl,_,_,rfl,rfl,l1,_,_,_,rfl,rfl,S3,ae,_,rfl,_,rfl,pc,pb,pe,sp,_,_,_,_,_,_,a,b,room,rfl,c1.mono s3,c2.mono s3,c3.mono s3,sq.mono s3,fun v H4 s4 pw=>?_⟩;have S4:=s3.trans s4;refine⟨_,rfl,_,rfl,_,rfl,sz (by simp),fun t H5 s5 f5 _=>?_⟩;have S5:=S4.trans s5;have gv:eI K H5 v (G 1 i j):=by
      rw[G1];exact(pZ hroom hb (c1.mono S4) (c2.mono S4) (c3.mono S4) (sq.mono S4) pw).mono s5
     obtain⟨H6,dp,e6,b6⟩:=((e3.mono s4).mono s5).put (k:=1) (i:=(i:Int)) (j:=(j:Int)) f5 gv (by omega) (by
      have:=Nat.mul_le_mul (show qs.length≤10 by omega) (show rs.length - 1≤9 by omega);have:=Nat.mul_le_mul (show j≤10 by omega) (show qs.length - 1≤9 by omega);omega)
     exact⟨d,H6,rfl,dp,_,rfl,b6.same S5 hd,e6.congr (fun _ _ _=>rs1) (by omega)⟩
    ·rintro σ H3 ⟨z7,rfl,s3,e3⟩
     exact⟨_,_,_,rfl,s3,e3.congr (fun _ _ _=>re1 (by omega)) (by rw[Nat.add_mul,Nat.one_mul];omega)⟩
   ·rintro σ H2 ⟨z5,z6,z7,rfl,s2,e2⟩
    rw[hl2]at e2;exact⟨_,rfl,k d H2 s2 hd ⟨_,e2.congr (fun k' i' j'=>by unfold DIn;rw[<- pS,<- pS]) rfl⟩⟩
theorem uQ{C dx:Addr}{fs:List (Str×V)}:NoT (.ins C dx fs):=⟨(fun _ z=>by cases z),(fun _ _ z=>by cases z)⟩
theorem eC{H H':Hp}{l f C dx:Addr}{qs:Crn}{fs:List (Str×V)}(L:LineM H l qs)(b:cF f H H')(hf:H f=some (.ins C dx fs)):LineM H' l qs :=
 ⟨b _ _ (fun z=>by have:=L.lst;rw[z,hf]at this;cases this) L.lst,fun q hq=>⟨b _ _ (fun z=>by have:=(L.crn q hq).1;rw[z,hf]at this;cases this) (L.crn q hq).1,(L.crn q hq).2⟩⟩
theorem fH{H H':Hp}{p f C dx:Addr}{xs:List V}{fs:List (Str×V)}(h:H p=some (.tup xs))(b:cF f H H')(hf:H f=some (.ins C dx fs)):H' p=some (.tup xs):=b _ _ (fun z=>by rw[z,hf]at h;cases h) h
theorem kK{K:W.Frag}{H H':Hp}{d f C dx:Addr}{n m:Int}{G:Int->Int->Int->Option (N4×N4)}{fs:List (Str×V)}(h:jQ K H d n m G)(b:cF f H H')(hf:H f=some (.ins C dx fs)):jQ K H' d n m G:=by
 obtain⟨c,⟨kvs,e,l,a,z⟩⟩:=h;exact⟨c,⟨kvs,b _ _ (fun y=>by rw[y,hf]at e;cases e) e,l,fun k i j x=>let ⟨v,e,g⟩:=a k i j x;⟨v,e,g.but b hf uQ⟩,z⟩⟩
theorem vf{H H':Hp}{d f C dx:Addr}{m n:Nat}{F:Int->Int->Bool}{fs:List (Str×V)}(h:lZ H d m n F)(b:cF f H H')(hf:H f=some (.ins C dx fs)):lZ H' d m n F:=by
 obtain⟨o,e⟩:=h;exact⟨o,b _ _ (fun y=>by rw[y,hf]at e;cases e) e⟩
theorem Ai:yG ["self","one","other","square","room","first","second"] ["self","one","other","square","room"] (ap (uS 39 0)):=smk
theorem iQ(Ax:E4 K C_Field "__init__" "Field.__init__" (uS 39 0))(yJ:Cv K mg "Field" C_Field)(n_room:bE K C_Field "room")(n_last:bE K C_Field "last")(n_doors:bE K C_Field "doors")(n_far:bE K C_Field "far")(zk:Fn P w K mg base "with_a_stretch" ["line"] 1 DS)(zx:Fn P w K mg base "last_of" ["line"] 1 CY)(BL:Fn P w K mg base "doors_of" ["one","other","square","room"] 6 (CZ K))(AF:Fn P w K mg base "far_corners" ["one","other","square","room"] 3 D5)(T:Txt mg):Mt P w K mg base C_Field "__init__" ["self","one","other","square","room"] 7 (Cq K C_Field):=by
 refine Ax.mt Ai (fun _ _ _ _ _ _ us hl=>by obtain⟨_,_,_,_,_,rfl⟩:=wE hl;rfl) (fun vs H Q E h=>?_) (fun f cdv A outer s H vs Q E hr h=>?_)
 ·obtain⟨f,dx,l1,l2,sp,qs,rs,a,b,room,rfl,_⟩:=h
  rfl
 ·obtain⟨f,dx,l1,l2,sp,qs,rs,a,b,room,rfl,hf,L1,L2,hq,hr',⟨sq,hb⟩,hroom,k⟩:=h
  refine⟨_,(ag (ax (i:=5) Ai.nd rfl (Or.inl rfl) (aA zk (hr.mono (by decide)) (by rfl) (aa (pv 1) af))) (ag (ax (i:=6) Ai.nd rfl (Or.inl rfl) (aA zk (hr.mono (by decide)) (by rfl) (aa (pv 2) af))) (ag (k6 (pv 0) (pv 4) rfl) (ag (k6 (pv 0) (aB (aa (aA zx (hr.mono (by decide)) (by rfl) (aa (pv 5) af)) (aa (aA zx (hr.mono (by decide)) (by rfl) (aa (pv 6) af)) af))) rfl) (ag (k6 (pv 0) (aA BL (hr.mono (by decide)) (by rfl) (aa (pv 5) (aa (pv 6) (aa (pv 3) (aa (pv 4) af))))) rfl) (ar (k6 (pv 0) (aA AF (hr.mono (by decide)) (by rfl) (aa (pv 5) (aa (pv 6) (aa (pv 3) (aa (pv 4) af))))) rfl))))))),?_⟩;have dq:=dZ hq;have dr:=dZ hr';have h1:((dbl qs).map fun (q:Addr×Int×Int)=>V.ref q.1).length=(dbl qs).length:=List.length_map _;have h2:((dbl rs).map fun (q:Addr×Int×Int)=>V.ref q.1).length=(dbl rs).length:=List.length_map _;refine⟨_,rfl,l1,qs,rfl,L1,hq,fun r1 H1 s1 F1=>?_⟩;refine⟨_,rfl,l2,rs,rfl,L2.mono s1,hr',fun r2 H2 s2 F2=>?_⟩;have S2:=s1.trans s2;have f2:=S2 _ _ hf;refine⟨_,rfl,_,rfl,f,C_Field,dx,[],rfl,f2,yJ.cls,n_room,by simp,?_⟩;have b3:cF f H2 (upd H2 f (.ins C_Field dx (db "room" (.int room) []))):=cF.upd;have f3:(upd H2 f (.ins C_Field dx (db "room" (.int room) []))) f=some (.ins C_Field dx [("room",.int room)]):=upd_same;have A3:=eC (F1.mono s2) b3 f2;have B3:=eC F2 b3 f2;have Q3:Sq (upd H2 f (.ins C_Field dx (db "room" (.int room) []))) sp a b:=⟨fH (S2 _ _ sq.at_) b3 f2,sq.ba,sq.bb⟩;generalize upd H2 f (.ins C_Field dx (db "room" (.int room) []))=H3 at b3 f3 A3 B3 Q3;refine⟨_,rfl,r1,_,rfl,A3.lst,_,rfl,r2,_,rfl,B3.lst,sz (by simp),fun lt H4 s4 f4 n4=>?_⟩;have f4':=s4 _ _ f3;refine⟨_,rfl,f,C_Field,dx,_,rfl,f4',yJ.cls,n_last,by simp,?_⟩;have b5:cF f H4 (upd H4 f (.ins C_Field dx (db "last" (.ref lt) [("room",.int room)]))):=cF.upd;have f5:(upd H4 f (.ins C_Field dx (db "last" (.ref lt) [("room",.int room)]))) f=some (.ins C_Field dx [("room",.int room),("last",.ref lt)]):=upd_same;have A5:=eC (A3.mono s4) b5 f4';have B5:=eC (B3.mono s4) b5 f4';have Q5:Sq (upd H4 f (.ins C_Field dx (db "last" (.ref lt) [("room",.int room)]))) sp a b:=⟨fH (s4 _ _ Q3.at_) b5 f4',sq.ba,sq.bb⟩;have T5:=fH f4 b5 f4';generalize upd H4 f (.ins C_Field dx (db "last" (.ref lt) [("room",.int room)]))=H5 at b5 f5 A5 B5 Q5 T5;refine⟨_,rfl,_,rfl,_,rfl,_,rfl,r1,r2,sp,dbl qs,dbl rs,a,b,room,rfl,A5,B5,dq,dr,⟨Q5,hb⟩,hroom,fun d H6 s6 nd D6=>?_⟩;have f6:=s6 _ _ f5;refine⟨_,rfl,f,C_Field,dx,_,rfl,f6,yJ.cls,n_doors,by simp,?_⟩;have b7:cF f H6 (upd H6 f (.ins C_Field dx (db "doors" (.ref d) [("room",.int room),("last",.ref lt)]))):=cF.upd;have f7:(upd H6 f (.ins C_Field dx (db "doors" (.ref d) [("room",.int room),("last",.ref lt)]))) f=some (.ins C_Field dx [("room",.int room),("last",.ref lt),("doors",.ref d)]):=upd_same;have A7:=eC (A5.mono s6) b7 f6;have B7:=eC (B5.mono s6) b7 f6;have Q7:Sq (upd H6 f (.ins C_Field dx (db "doors" (.ref d) [("room",.int room),("last",.ref lt)]))) sp a b:=⟨fH (s6 _ _ Q5.at_) b7 f6,sq.ba,sq.bb⟩;have T7:=fH (s6 _ _ T5) b7 f6;have D7:=kK D6 b7 f6;generalize upd H6 f (.ins C_Field dx (db "doors" (.ref d) [("room",.int room),("last",.ref lt)]))=H7 at b7 f7 A7 B7 Q7 T7 D7;refine⟨_,rfl,_,rfl,_,rfl,_,rfl,r1,r2,sp,dbl qs,dbl rs,a,b,room,rfl,A7,B7,⟨by omega,by omega⟩,⟨by omega,by omega⟩,Q7,fun fr H8 s8 D8=>?_⟩;have f8:=s8 _ _ f7;refine⟨_,rfl,f,C_Field,dx,_,rfl,f8,yJ.cls,n_far,by simp,?_⟩;have b9:cF f H8 (upd H8 f (.ins C_Field dx (db "far" (.ref fr) [("room",.int room),("last",.ref lt),("doors",.ref d)]))):=cF.upd;have e1:(((dbl qs).length:Nat):Int) - 1=((aO qs:Nat):Int):=by unfold aO;omega
  have e2:(((dbl rs).length:Nat):Int) - 1=((aO rs:Nat):Int):=by unfold aO;omega
  refine k _ ((cF.of S2).trans (b3.trans ((cF.of s4).trans (b5.trans ((cF.of s6).trans (b7.trans ((cF.of s8).trans b9))))))) ⟨dx,lt,d,fr,upd_same,?_,?_,vf D8 b9 f8⟩
  ·have:=fH (s8 _ _ T7) b9 f8
   rw[h1,h2,e1,e2]at this;exact this
  ·have:=kK (D7.mono s8) b9 f8
   rw[e1,e2]at this;exact this
theorem xv(x:Int):0≤x*x:=sqx x
theorem mF{w p u:Int}(hu:0≤u)(h:ssq w+ssq p*u<0):(if sg w*sg (ssq p*u)≥0 then sg (sg w+sg (ssq p*u)) else sg w*sg (w*w - p*p*u)) = -1:=by
 have pp:=Int.mul_nonneg (xv p) hu;have hp:ssq p*u=p*p*u∨ssq p*u = -(p*p*u):=by
  rcases Int.lt_or_le p 0 with g|g
  ·exact .inr (by rw[dH g];grind)
  ·exact .inl (by rw[dE g])
 generalize ssq p*u=z at *;generalize p*p*u=y at *;have ww:=xv w;rcases Int.lt_trichotomy w 0 with g|g|g
 ·rw[dH g]at h
  rw[fS g];rcases Int.lt_trichotomy z 0 with k|k|k
  ·rw[fS k];rfl
  ·rw[sw k];rfl
  ·rw[eX k,eX (x:=w*w - y) (by omega)];rfl
 ·subst g
  have k:z<0:=by simpa[ssq]using h
  rw[fS k];rfl
 ·rw[dE (by omega)]at h
  have k:z<0:=by omega
  rw[eX g,fS k,fS (x:=w*w - y) (by omega)];rfl
theorem Nm.rt{K:W.Frag}{H:Hp}{p:Addr}{l:N4}(h:Nm K H p l):Rt K H p l.1 l.2.1 l.2.2.1 l.2.2.2:=⟨h.at_,aw h.b0 (by decide),aw h.b1 (by decide),aw h.b2 (by decide),aw h.b3 (by decide)⟩
theorem vZ{P U L:Int}(hL:0<L)(hU:0≤U):ro P (-1) U L P 1 U L=if U=0 then 0 else -1:=by
 unfold ro cr;have e0:P*L - P*L=0:=by omega
 rw[e0];have s0:sg 0=0:=rfl;rw[s0,Int.zero_mul,if_pos (by decide),Int.zero_add];have e1:ssq (-1*L) = -(L*L):=by
  unfold ssq;rw[if_pos (by omega)]
  grind
 rw[e1]
 by_cases h:U=0
 ·rw[if_pos h,h]
  simp[sg]
 ·rw[if_neg h]
  have hp:0<L*L*U:=Int.mul_pos (Int.mul_pos hL hL) (by omega);have:-(L*L)*U + -(L*L)*U<0:=by
   rw[Int.neg_mul];omega
  unfold sg;generalize -(L*L)*U + -(L*L)*U=z at *;rw[if_neg (by omega),if_pos (by omega)]
theorem xE{P U L:Int}{j:Nat}(hL:0<L)(hU:1≤U)(hs:2*L≤scl j):∀F G,Rm P (-1) U L P 1 U L j F G->F+1+2≤-G - 1:=by
 rintro F G ⟨⟨R1,r1,rfl⟩,⟨R2,r2,rfl⟩⟩;have sp:=cP j;generalize scl j=sc at *;have e:sc*sc*(-1)*(-1)*U=sc*sc*U:=by grind
 rw[e]at r1 r2;rw[e];have big:∀R,Ei 1 (sc*sc*U) R->sc≤R:=fun R r=>by
  rcases Int.lt_or_le R sc with z|z
  ·exfalso
   have h1:=r.hi;have h2:=r.nn;rw[Int.one_mul]at h1;have h3:(R+1)*(R+1)≤sc*sc:=Int.mul_le_mul (by omega) (by omega) (by omega) (by omega);have h4:sc*sc*1≤sc*sc*U:=Int.mul_le_mul_of_nonneg_left hU (Int.mul_nonneg (by omega) (by omega));omega
  ·exact z
 have b1:=big R1 r1;have b2:=big R2 r2;have f1:flr (-1) (sc*sc*U) R1≤-sc:=by
  unfold flr;rw[if_pos (by decide)]
  split <;> omega
 have f2:flr (-1) (sc*sc*U) R2≤-sc:=by
  unfold flr;rw[if_pos (by decide)]
  split <;> omega
 generalize flr (-1) (sc*sc*U) R1=c1 at *;generalize flr (-1) (sc*sc*U) R2=c2 at *;have d1:=Int.ediv_mul_le (sc*P+c1) (show L≠0 by omega);have d2:=Int.ediv_mul_le (sc * -P+c2) (show L≠0 by omega);generalize (sc*P+c1) / L=F at *;generalize (sc * -P+c2) / L=G at *;have d3:(F+G)*L≤-(4*L):=by
  rw[Int.add_mul];rw[Int.mul_neg]at d2;omega
 have:F+G≤-4:=by
  rcases Int.lt_or_le (-4) (F+G) with z|z
  ·exfalso
   have:=Int.mul_le_mul_of_nonneg_right (show -3≤F+G by omega) (show 0≤L by omega);omega
  ·exact z
 omega
inductive Ej:N4->N4->Prop
 | flat:Ej (0,0,0,1) (1,0,0,1)
 | gate {P U L:Int} (hL:0<L) (hU:0≤U) (h1:0≤ro 1 0 0 1 P (-1) U L) (h2:0≤ro P 1 U L 0 0 0 1):Ej (d9 P U L) (cZ P U L)
theorem tF{cx cy bx by_ ex ey x y room:Int}{l m:N4}(hr:room=0∨room=1)(hy:0<y)(h:cR cx cy bx by_ ex ey x y room=some (l,m)):Ej l m:=by
 unfold cR at h
 by_cases hN:pwN cx cy bx by_ ex ey x y room=true
 ·rw[if_pos hN]at h
  cases h
 ·rw[if_neg hN]at h
  have hN:pwN cx cy bx by_ ex ey x y room=false:=by simpa using hN
  injection h with h;injection h with e1 e2
  by_cases hs:[bx,by_] = [ex,ey]
  ·rw[decide_eq_true hs,if_pos rfl]at e1 e2
   rw[<- e1,<- e2];exact .flat
  ·rw[decide_eq_false hs,if_neg (by decide)]at e1 e2
   have gv:=tE (cx:=cx) (cy:=cy) (x:=x) hs hy;rw[<- e1,<- e2];unfold pwN at hN;rw[if_neg hs,Bool.or_eq_false_iff,decide_eq_false_iff_not,Bool.or_eq_false_iff,decide_eq_false_iff_not,decide_eq_false_iff_not]at hN;have:=ki (x:=rUn cx cy bx by_ ex ey x y);exact .gate gv.lpos (by rcases hr with rfl|rfl <;> omega) (by rcases hr with rfl|rfl <;> omega) (by rcases hr with rfl|rfl <;> omega)
def PF(l m:N4)(t u:Int):Prop :=
 if ro l.1 l.2.1 l.2.2.1 l.2.2.2 0 0 0 1=0 then t=0∧u=1
 else if ro m.1 m.2.1 m.2.2.1 m.2.2.2 1 0 0 1=0 then t=1∧u=1
 else if l.2.2.1=0 then AR l.1 l.2.2.2 t u
 else Wi l.1 l.2.1 l.2.2.1 l.2.2.2 m.1 m.2.1 m.2.2.1 m.2.2.2 t u
theorem PF.uniq{l m:N4}{t u t' u':Int}(h:PF l m t u)(k:PF l m t' u')(hl:0<l.2.2.2):t=t'∧u=u':=by
 unfold PF at h k
 split at h
 ·rename_i c;rw[if_pos c]at k
  exact⟨by omega,by omega⟩
 ·rename_i c;rw[if_neg c]at k
  split at h
  ·rename_i c;rw[if_pos c]at k
   exact⟨by omega,by omega⟩
  ·rename_i c;rw[if_neg c]at k
   split at h
   ·rename_i c;rw[if_pos c]at k
    have e:=h.eq;have e':=k.eq;refine eR h.low k.low ?_;refine Int.eq_of_mul_eq_mul_right (a:=l.2.2.2) (by omega) ?_;rw[show t*u'*l.2.2.2=t*l.2.2.2*u' by grind,show t'*u*l.2.2.2=t'*l.2.2.2*u by grind,<- e,<- e']
    grind
   ·rename_i c;rw[if_neg c]at k
    exact h.uniq k
theorem xN{l m:N4}(g:Ej l m)(h:ro l.1 l.2.1 l.2.2.1 l.2.2.2 0 0 0 1=0):bL (some (l,m)) 0 1=true:=by
 unfold bL;dsimp only;rw[Bool.and_eq_true,decide_eq_true_eq,decide_eq_true_eq];refine⟨by unfold Sp5.ltB;rw[h];decide,?_⟩;rw[kF];cases g with
 | flat=>rw[iC.2];decide
 | gate hL hU h1 h2 =>
  unfold cZ
  split
  ·rw[iC.2];decide
  ·unfold Sp5.ltB
   dsimp only;omega
theorem xM{l m:N4}(g:Ej l m)(h:ro m.1 m.2.1 m.2.2.1 m.2.2.2 1 0 0 1=0):bL (some (l,m)) 1 1=true:=by
 unfold bL;dsimp only;rw[Bool.and_eq_true,decide_eq_true_eq,decide_eq_true_eq];refine⟨?_,by rw[kF];unfold Sp5.ltB;rw[h];decide⟩;cases g with
 | flat=>rw[iC.1];decide
 | gate hL hU h1 h2 =>
  unfold d9
  split
  ·rw[iC.1];decide
  ·unfold Sp5.ltB
   dsimp only;rw[eN];omega
theorem u5{l m:N4}(g:Ej l m)(n0:¬ro l.1 l.2.1 l.2.2.1 l.2.2.2 0 0 0 1=0)(n1:¬ro m.1 m.2.1 m.2.2.1 m.2.2.2 1 0 0 1=0):∃P U L,0<L∧0≤U∧l=(P,-1,U,L)∧m=(P,1,U,L)∧(0<P∧U<P*P)∧P - L<0∧U<(P - L)*(P - L):=by
 cases g with
 | flat=>exact absurd rfl n0
 | gate hL hU h1 h2 =>
  rename_i P U L;unfold d9 at n0 ⊢;unfold cZ at n1 ⊢
  by_cases c1:ro P (-1) U L 0 0 0 1<0
  ·rw[if_pos c1]at n0
   exact absurd rfl n0
  ·by_cases c2:ro P 1 U L 1 0 0 1>0
   ·rw[if_pos c2]at n1
    exact absurd rfl n1
   ·rw[if_neg c1]at n0 ⊢
    rw[if_neg c2]at n1 ⊢;dsimp only at n0 n1;have e1:ro P (-1) U L 0 0 0 1=cr P (-1) U 0 0:=by rw[cH];congr 1 <;> omega
    have e2:ro P 1 U L 1 0 0 1=cr (P - L) 1 U 0 0:=by rw[cH];congr 1 <;> omega
    rw[e1]at c1 n0;rw[e2]at c2 n1;exact⟨P,U,L,hL,hU,rfl,rfl,(qI hU).1.mp (by omega),(qH hU).1.mp (by omega)⟩
theorem uW{P L t u:Int}(hL:0<L)(f:AR P L t u):bL (some ((P,-1,0,L),(P,1,0,L))) t u=true:=by
 have e:=f.eq;unfold bL;dsimp only;rw[Bool.and_eq_true,decide_eq_true_eq,decide_eq_true_eq,kF];unfold Sp5.ltB;dsimp only;rw[cH,cH,show P*u - t*L=0 by omega];constructor
 ·unfold cr;simp[sg,swr,ssq]
 ·unfold cr;simp[sg,swr,ssq]
theorem xL{P U L t u:Int}(hL:0<L)(hU:0≤U)(hu:0<u)(p0:0<P∧U<P*P)(p1:P - L<0∧U<(P - L)*(P - L))(w:Wi P (-1) U L P 1 U L t u):bL (some ((P,-1,U,L),(P,1,U,L))) t u=true∧0≤t∧t≤u:=by
 obtain⟨m1,m2⟩:=w.mid hU hL hU hL;have r1:cr (P*u - t*L) (-u) U 0 0<0:=by
  rw[kg,show(-u:Int) = -1*u by omega];rw[mF hU m1];decide
 have r2:cr (t*L - P*u) (-u) U 0 0<0:=by
  rw[kg,show(-u:Int) = -1*u by omega];rw[mF hU m2];decide
 have k1:=(pK (W:=P*u - t*L) hu hU).2.2.mp r1;have k2:=(pK (W:=t*L - P*u) hu hU).2.2.mp r2;refine⟨?_,?_,?_⟩
 ·unfold bL
  dsimp only;rw[Bool.and_eq_true,decide_eq_true_eq,decide_eq_true_eq,kF];unfold Sp5.ltB;dsimp only;rw[cH,cH];constructor
  ·rw[show(-1:Int)*u = -u by omega];omega
  ·rw[Int.one_mul]
   have:0<cr (P*u - t*L) u U 0 0:=(pJ hu hU).2.2.mpr (by
    rcases k2 with z|z
    ·exact .inl (by omega)
    ·refine .inr ?_
     have e:(t*L - P*u)*(t*L - P*u)=(P*u - t*L)*(P*u - t*L):=by grind
     rw[<- e];exact z)
   omega
 ·rcases Int.lt_or_le t 0 with z|z
  ·exfalso
   have a1:0<P*u:=Int.mul_pos p0.1 hu;have a2:0 < -t*L:=Int.mul_pos (by omega) hL;have a3:P*u≤P*u - t*L:=by rw[Int.neg_mul]at a2;omega
   rcases k1 with y|y
   ·omega
   ·have b1:(P*u)*(P*u)≤(P*u - t*L)*(P*u - t*L):=Int.mul_le_mul a3 a3 (by omega) (by omega)
    have b2:u*u*U<u*u*(P*P):=Int.mul_lt_mul_of_pos_left p0.2 (Int.mul_pos hu hu);have e:u*u*(P*P)=(P*u)*(P*u):=by grind
    omega
  ·exact z
 ·rcases Int.lt_or_le u t with z|z
  ·exfalso
   have a1:0<(L - P)*u:=Int.mul_pos (by omega) hu;have a2:0<(t - u)*L:=Int.mul_pos (by omega) hL;have e0:t*L - P*u=(L - P)*u+(t - u)*L:=by grind
   rcases k2 with y|y
   ·omega
   ·have b1:((L - P)*u)*((L - P)*u)≤(t*L - P*u)*(t*L - P*u):=Int.mul_le_mul (by omega) (by omega) (by omega) (by omega)
    have b2:u*u*U<u*u*((P - L)*(P - L)):=Int.mul_lt_mul_of_pos_left p1.2 (Int.mul_pos hu hu);have e:u*u*((P - L)*(P - L))=((L - P)*u)*((L - P)*u):=by grind
    omega
  ·exact z
structure Ds(H:Hp)(q:Pr):Prop where
 p_:H q.p=some (.tup [.ref q.x,.ref q.y])
 x_:H q.x=some (.tup [.int q.a,.int q.b])
 y_:H q.y=some (.tup [.int q.c,.int q.d])
 lx:CC q.a q.b
 ly:CC q.c q.d
 nx:0≤q.a
 ny:0≤q.c
 ba:bits q.a≤1500
 bb:bits q.b≤1500
 bc:bits q.c≤1500
 bd:bits q.d≤1500
theorem Ds.t{H H':Hp}{q:Pr}(h:Ds H q)(s:SameT H H'):Ds H' q:=⟨s _ _ h.p_,s _ _ h.x_,s _ _ h.y_,h.lx,h.ly,h.nx,h.ny,h.ba,h.bb,h.bc,h.bd⟩
theorem _root_.Wk.PrAt.two{H:Hp}{q:Pr}(h:PrAt H q):Ds H q:=⟨h.p_,h.x_,h.y_,h.lx,h.ly,h.nx,h.ny,aw h.ba (by decide),aw h.bb (by decide),aw h.bc (by decide),aw h.bd (by decide)⟩
structure DJ(H:Hp)(l:Addr)(ps:List Pr):Prop where
 lst:H l=some (.lst (prs ps))
 pr:∀q∈ps,Ds H q
theorem DJ.mono{H H':Hp}{l:Addr}{ps:List Pr}(h:DJ H l ps)(s:Same H H'):DJ H' l ps:=⟨s _ _ h.lst,fun q hq=>(h.pr q hq).t s.t⟩
inductive EE (K:W.Frag) (vs:List V) (H:Hp) (Q:VK) (x_3:XK):Prop
 | mk:∀(p q:Addr) (l m:N4),(vs = [.ref p,.ref q])->(Nm K H p l)->(Nm K H q m)->(Ej l m)->(∀(r:Addr) (t u:Int) (H':Hp),Same H H'->Ek H' r t u 740->PF l m t u->bL (some (l,m)) t u=true->0≤t->t≤u->Q (.ref r) H')->EE K vs H Q x_3
def ga(k i j t u:Int)(q:Pr):Prop:=(k=0∧q.a=i∧q.b=1∧q.c=j*u+t∧q.d=u)∨(k=1∧q.a=i*u+t∧q.b=u∧q.c=j∧q.d=1)
inductive DY (vs:List V) (H:Hp) (Q:VK) (x_3:XK):Prop
 | mk:∀(t p:Addr) (k i j a b:Int),(vs = [.ref t,.ref p])->(H t=some (.tup ((dk k i j).map kV)))->((k=0∨k=1))->((0≤i∧i≤1000))->((0≤j∧j≤1000))->((Ek H p a b 740∧0≤a∧a≤b))->(∀(q:Pr) H',Same H H'->Ds H' q->ga k i j a b q->Q (.ref q.p) H')->DY vs H Q x_3
inductive ED (K:W.Frag) (C:Addr) (vs:List V) (H:Hp) (Q:VK) (x_3:XK):Prop
 | mk:∀(f t:Addr) (n m:Nat) (room:Int) (G:Int->Int->Int->Option (N4×N4)) (F:Int->Int->Bool) (k i j:Int) (l h:N4),(vs = [.ref f,.ref t])->(yZ K C H f n m room G F)->(H t=some (.tup ((dk k i j).map kV)))->(DIn n m k i j)->((n≤20∧m≤20))->(G k i j=some (l,h))->(Ej l h)->(∀(q:Pr) (a b:Int) H',Same H H'->Ds H' q->PF l h a b->bL (some (l,h)) a b=true->0≤a->a≤b->CC a b->ga k i j a b q->Q (.ref q.p) H')->ED K C vs H Q x_3
def dw(n m i j:Int):Bool:=(decide (0≤i) && decide (i<n)) && (decide (0≤j) && decide (j<m))
inductive Cp (K:W.Frag) (C:Addr) (vs:List V) (H:Hp) (Q:VK) (x_3:XK):Prop
 | mk:∀(f c:Addr) (n m:Nat) (room:Int) (G:Int->Int->Int->Option (N4×N4)) (F:Int->Int->Bool) (i j:Int),(vs = [.ref f,.ref c])->(yZ K C H f n m room G F)->(H c=some (.tup [.int i,.int j]))->(Q (.bl (dw n m i j)) H)->Cp K C vs H Q x_3
theorem jw{a b n:Int}(h:CC a b):CC (n*b+a) b:=by
 refine⟨h.pos,?_⟩;have:=h.one;rw[Int.add_comm,Int.mul_comm];rw[Int.gcd_add_mul_left_left];exact this
theorem De:yG ["low","high"] ["low","high"] (ap (top 43)):=smk
theorem lE{C pB pE:Addr}(Bo:Df K mg "part_from" (top 43))(Bz:mg "BEGIN" = some (.ref pB))(CL:mg "END" = some (.ref pE))(hB:∀H,SqT K H pB [.int 0,.int 0,.int 0,.int 1])(hE:∀H,SqT K H pE [.int 1,.int 0,.int 0,.int 1])(yM:Fn P w K mg base "root_order" ["one","other"] 4 (DV K))(Al:Fx P w K mg base "root_between" ["one","other"] 5 [] (EC K C)):Fn P w K mg base "part_from" ["low","high"] 6 (EE K):=by
 refine Bo.fn De (fun _ _ _ _ _ _ us hl=>by obtain⟨_,_,rfl⟩:=dF hl;rfl) (fun vs H Q E h=>?_) (fun f cdv A outer s H vs Q E hr h=>?_)
 ·obtain⟨p,q,l,m,rfl,_⟩:=h
  rfl
 ·obtain⟨p,q,l,m,rfl,n1,n2,go,k⟩:=h
  refine⟨_,(ag (aQ (aC bR (aA yM (hr.mono (by decide)) (by rfl) (aa (pv 0) (aa (bI (v:=.ref _) (by rfl) Bz rfl) af))) ad (aE _)) (ar (az (aB (aa ad (aa ad af))))) aH) (ag (aQ (aC bR (aA yM (hr.mono (by decide)) (by rfl) (aa (pv 1) (aa (bI (v:=.ref _) (by rfl) CL rfl) af))) ad (aE _)) (ar (az (aB (aa ad (aa ad af))))) aH) (ar (az (jq Al (hr.mono (by decide)) (by rfl) (aa (pv 0) (aa (pv 1) af))))))),?_⟩;have RB:∀H,Rt K H pB 0 0 0 1:=fun H=>⟨hB H,by decide,by decide,by decide,by decide⟩;have RE:∀H,Rt K H pE 1 0 0 1:=fun H=>⟨hE H,by decide,by decide,by decide,by decide⟩;have pf:∀{t u:Int},PF l m t u↔if ro l.1 l.2.1 l.2.2.1 l.2.2.2 0 0 0 1=0 then t=0∧u=1 else if ro m.1 m.2.1 m.2.2.1 m.2.2.2 1 0 0 1=0 then t=1∧u=1 else if l.2.2.1=0 then AR l.1 l.2.2.2 t u else Wi l.1 l.2.1 l.2.2.1 l.2.2.2 m.1 m.2.1 m.2.2.1 m.2.2.2 t u:=fun {t u}=>Iff.rfl
  refine⟨_,rfl,_,_,_,_,_,_,_,_,_,_,rfl,n1.rt,RB _,rfl,_,rfl,?_⟩;rw[di];refine aY (fun c1=>?_) (fun c1=>?_)
  ·have c1:=cV c1
   exact⟨sz (by simp),fun r H1 s1 f1 _=>k r 0 1 H1 s1 ⟨f1,⟨by decide,by decide⟩,by decide,by decide⟩ (pf.mpr (by rw[if_pos c1];exact⟨rfl,rfl⟩)) (xN go c1) (by decide) (by decide)⟩
  have c1:=du c1;refine⟨_,rfl,_,_,_,_,_,_,_,_,_,_,rfl,n2.rt,RE _,rfl,_,rfl,?_⟩;rw[di];refine aY (fun c2=>?_) (fun c2=>?_)
  ·have c2:=cV c2
   exact⟨sz (by simp),fun r H1 s1 f1 _=>k r 1 1 H1 s1 ⟨f1,⟨by decide,by decide⟩,by decide,by decide⟩ (pf.mpr (by rw[if_neg c1,if_pos c2];exact⟨rfl,rfl⟩)) (xM go c2) (by decide) (by decide)⟩
  have c2:=du c2;obtain⟨P',U,L,hL,hU,rfl,rfl,p0,p1⟩:=u5 go c1 c2;have hro:=vZ (P:=P') hL hU;refine⟨_,rfl,_,rfl,p,q,P',-1,U,L,P',1,U,L,240,235,8,740,rfl,n1.rt,n2.rt,⟨hU,hL,hU,hL,n1.b0,aw n1.b1 (by decide),n1.b2,n1.b0,by decide,n1.b2,by decide,by decide⟩,⟨by decide,by decide,by decide⟩,fun z=>?_,fun z R r=>?_,fun z=>?_⟩
  ·rw[hro]at z
   split at z <;> omega
  ·have u0:U=0:=by
    rw[hro]at z
    split at z
    ·assumption
    ·omega
   subst u0;have r0:R=0:=by
    have h1:=r.lo;have h2:=r.nn;simp only[Int.mul_zero]at h1;rcases Int.lt_or_eq_of_le h2 with z|z
    ·have:=Int.mul_pos z z
     omega
    ·exact z.symm
   subst r0;refine⟨fun z=>absurd (by simp) z,fun _ r' t u H1 s1 f1 fr _ _=>?_⟩;have fr:AR P' L t u:=by
    have e:P'+sg (-1)*0=P':=by simp
    rw[e]at fr;exact fr
   have b:=rj hL fr n1.b0 n1.b3;have e:=fr.eq;have hu:=fr.low.pos;refine k r' t u H1 s1 ⟨f1,fr.low,aw b.1 (by decide),aw b.2 (by decide)⟩ (pf.mpr (by rw[if_neg c1,if_neg c2,if_pos rfl];exact fr)) (uW hL fr) ?_ ?_
   ·rcases Int.lt_or_le t 0 with z|z
    ·exfalso
     have a1:=Int.mul_pos p0.1 hu;have a2:=Int.mul_neg_of_neg_of_pos z hL;omega
    ·exact z
   ·rcases Int.lt_or_le u t with z|z
    ·exfalso
     have a1:=Int.mul_lt_mul_of_pos_right (show P'<L by omega) hu;have a2:=Int.mul_lt_mul_of_pos_right z hL;rw[Int.mul_comm L u]at a1;omega
    ·exact z
  ·have u1:1≤U:=by
    rw[hro]at z
    split at z
    ·omega
    ·omega
   refine⟨xE hL u1 ?_,fun r t u H1 s1 f1 wi bt bu=>?_⟩
   ·have h1:=cM n1.b3
    have e:scl 8=2^256:=rfl;rw[e];have e2:(2:Int)^256=((2^256:Nat):Int):=by norm_cast
    rw[e2];have e3:(2:Nat)^256=65536*2^240:=by decide
    dsimp only at h1;omega
   ·obtain⟨j,F,G,ts,mm,h1,h2,h3,h4,h5⟩:=id wi
    obtain⟨w1,w2,w3⟩:=xL hL hU h5.low.pos p0 p1 wi;exact k r t u H1 s1 ⟨f1,h5.low,bt,bu⟩ (pf.mpr (by rw[if_neg c1,if_neg c2,if_neg (by dsimp only;omega)];exact wi)) w1 w2 w3
theorem Cr:yG ["door","part"] ["door","part"] (ap (top 44)):=smk
theorem iN(Au:Df K mg "pair_in_door" (top 44))(V_UPRIGHT:∃tk,mg "UPRIGHT" = some (.int 0 tk))(C7:Fn P w K mg base "plus" ["a","b"] 3 (Ed (fun a b c d=>a*d+c*b) (fun a b c d=>b*d))):Fn P w K mg base "pair_in_door" ["door","part"] 4 DY:=by
 refine Au.fn Cr (fun _ _ _ _ _ _ us hl=>by obtain⟨_,_,rfl⟩:=dF hl;rfl) (fun vs H Q E h=>?_) (fun f cdv A outer s H vs Q E hr h=>?_)
 ·obtain⟨t,p,k,i,j,a,b,rfl,_⟩:=h
  rfl
 ·obtain⟨t,p,k,i,j,a,b,rfl,ht,hk,bi,bj,⟨fr,a0,ab⟩,kq⟩:=h
  obtain⟨tU,zj⟩:=V_UPRIGHT;refine⟨_,(ag (aQ (aC bR (aj ai (pv 0) ad (fun _ _=>rfl)) (bI (v:=.int 0) (by rfl) zj ⟨_,rfl⟩) (aE _)) (ar (az (@aB _ _ _ _ _ (@aa _ _ _ _ _ (@aB _ _ _ _ _ (@aa _ _ _ _ _ (aj ai (pv 0) ad (fun _ _=>rfl)) (@aa _ _ _ _ _ ad af (by rfl)) (by rfl))) (@aa _ _ _ _ _ (aA C7 (hr.mono (by decide)) (by rfl) (aa (aB (aa (aj ai (pv 0) ad (fun _ _=>rfl)) (aa ad af))) (aa (pv 1) af))) af (by rfl)) (by rfl))))) aH) (ar (az (@aB _ _ _ _ _ (@aa _ _ _ _ _ (aA C7 (hr.mono (by decide)) (by rfl) (aa (aB (aa (aj ai (pv 0) ad (fun _ _=>rfl)) (aa ad af))) (aa (pv 1) af))) (@aa _ _ _ _ _ (@aB _ _ _ _ _ (@aa _ _ _ _ _ (aj ai (pv 0) ad (fun _ _=>rfl)) (@aa _ _ _ _ _ ad af (by rfl)) (by rfl))) af (by rfl)) (by rfl)))))),?_⟩;have ht:H t=some (.tup [.int k,.int i,.int j]):=ht;have hb:=fr.low.pos;have T:=fun {H':Hp} (s:Same H H')=>SqT.of (K:=K) (s _ _ ht);have one:bits (1:Int)≤740:=by decide
  have sm:∀{x:Int},0≤x∧x≤1000->bits x≤740:=fun h=>aw (aV (by omega) h.2) (by decide);have lw:∀x:Int,CC x 1:=fun x=>⟨Int.le_refl 1,by simp⟩;have sum:∀{x y z:Int},AR (x*b+a*1) (1*b) y z->y=x*b+a∧z=b:=fun {x y z} f=>by
   have e:=f.eq;rw[Int.mul_one,Int.one_mul]at e;exact eR f.low (jw fr.low) (by rw[<- e])
  refine⟨_,rfl,t,_,_,_,rfl,rfl,T (Same.refl _),rfl,rfl,_,rfl,?_⟩;rw[di];refine aY (fun c=>?_) (fun c=>?_)
  ·have c:k=0:=cV c
   subst c;refine⟨_,rfl,t,_,_,_,rfl,rfl,T (Same.refl _),rfl,sz (by simp),fun x H1 s1 f1 _=>?_⟩;refine⟨_,rfl,t,_,_,_,rfl,rfl,T s1,rfl,sz (by simp),fun y H2 s2 f2 _=>?_⟩;have S2:=s1.trans s2;refine⟨_,rfl,y,p,j,1,a,b,740,rfl,⟨f2,lw j,sm bj,one⟩,fr.mono S2,by decide,by omega,fun r s' w' H3 ff f3 s3=>?_⟩;obtain⟨rfl,rfl⟩:=sum ff;refine⟨sz (by simp),fun o H4 s4 f4 _=>kq ⟨o,x,r,i,1,j*w'+a,w'⟩ H4 ((S2.trans s3).trans s4) ⟨f4,s4 _ _ (s3 _ _ (s2 _ _ f1)),s4 _ _ f3.at_,lw i,jw fr.low,bi.1,Int.add_nonneg (Int.mul_nonneg bj.1 (by omega)) a0,aw (sm bi) (by decide),(show bits (1:Int)≤1500 by decide),aw f3.ba (by decide),aw f3.bb (by decide)⟩ (.inl ⟨rfl,rfl,rfl,rfl,rfl⟩)⟩
  ·have c:¬k=0:=du c
   have c:k=1:=by omega
   subst c;refine⟨_,rfl,t,_,_,_,rfl,rfl,T (Same.refl _),rfl,sz (by simp),fun x H1 s1 f1 _=>?_⟩;refine⟨_,rfl,x,p,i,1,a,b,740,rfl,⟨f1,lw i,sm bi,one⟩,fr.mono s1,by decide,by omega,fun r s' w' H2 ff f2 s2=>?_⟩;obtain⟨rfl,rfl⟩:=sum ff;have S2:=s1.trans s2;refine⟨_,rfl,t,_,_,_,rfl,rfl,T S2,rfl,sz (by simp),fun y H3 s3 f3 _=>?_⟩;refine⟨sz (by simp),fun o H4 s4 f4 _=>kq ⟨o,r,y,i*w'+a,w',j,1⟩ H4 ((S2.trans s3).trans s4) ⟨f4,s4 _ _ (s3 _ _ f2.at_),s4 _ _ f3,jw fr.low,lw j,Int.add_nonneg (Int.mul_nonneg bi.1 (by omega)) a0,bj.1,aw f2.ba (by decide),aw f2.bb (by decide),aw (sm bj) (by decide),(show bits (1:Int)≤1500 by decide)⟩ (.inr ⟨rfl,rfl,rfl,rfl,rfl⟩)⟩
theorem DM:yG ["field","cell"] ["field","cell"] (ap (top 51)):=smk
theorem oK(Ch:Df K mg "is_cell" (top 51))(yJ:Cv K mg "Field" C_Field)(n_last:bE K C_Field "last")(n_doors:bE K C_Field "doors")(n_far:bE K C_Field "far"):Fn P w K mg base "is_cell" ["field","cell"] 1 (Cp K C_Field):=by
 refine Ch.fn DM (fun _ _ _ _ _ _ us hl=>by obtain⟨_,_,rfl⟩:=dF hl;rfl) (fun vs H Q E h=>?_) (fun f cdv A outer s H vs Q E hr h=>?_)
 ·obtain⟨f,c,n,m,room,G,F,i,j,rfl,_⟩:=h
  rfl
 ·obtain⟨f,c,n,m,room,G,F,i,j,rfl,fa,hc,q⟩:=h
  refine⟨_,(ar (az (d8 (mw ku cY ad (aj ai (pv 1) ad (fun _ _=>rfl)) (aj ai (dP (pv 0) rfl) ad (fun _ _=>rfl))) (dO (mw ku cY ad (aj ai (pv 1) ad (fun _ _=>rfl)) (aj ai (dP (pv 0) rfl) ad (fun _ _=>rfl))))))),?_⟩;obtain⟨dx,lt,d,fr,hf,hl,_,_⟩:=fa.ex;unfold dw at q;have L:=SqT.of (K:=K) hl;refine⟨_,rfl,c,_,_,_,rfl,rfl,SqT.of hc,rfl,_,_,rfl,rfl,_,rfl,aY (fun c1=>?_) (fun c1=>?_)⟩
  ·rw[c1,Bool.true_and]at q
   refine⟨_,rfl,f,C_Field,dx,_,_,rfl,hf,yJ.cls,n_last,rfl,lt,_,_,_,rfl,rfl,L,rfl,_,_,rfl,rfl,_,rfl,aY (fun c2=>?_) (fun c2=>?_)⟩
   ·rw[c2,Bool.true_and]at q
    refine⟨_,rfl,c,_,_,_,rfl,rfl,SqT.of hc,rfl,_,_,rfl,rfl,_,rfl,aY (fun c3=>?_) (fun c3=>?_)⟩
    ·rw[c3,Bool.true_and]at q
     exact⟨_,rfl,f,C_Field,dx,_,_,rfl,hf,yJ.cls,n_last,rfl,lt,_,_,_,rfl,rfl,L,rfl,_,_,rfl,rfl,q⟩
    ·rw[c3,Bool.false_and]at q
     exact q
   ·rw[c2,Bool.false_and]at q
    exact q
  ·rw[c1,Bool.false_and,Bool.false_and]at q
   exact⟨_,rfl,ig q⟩
theorem BC:yG ["field","door","part"] ["field","door"] (ap (top 53)):=smk
theorem jE(AI:Df K mg "pair_within" (top 53))(yJ:Cv K mg "Field" C_Field)(n_last:bE K C_Field "last")(n_doors:bE K C_Field "doors")(n_far:bE K C_Field "far")(Bk:Fn P w K mg base "part_from" ["low","high"] 6 (EE K))(Am:Fn P w K mg base "pair_in_door" ["door","part"] 4 DY):Fn P w K mg base "pair_within" ["field","door"] 7 (ED K C_Field):=by
 refine AI.fn BC (fun _ _ _ _ _ _ us hl=>by obtain⟨_,_,rfl⟩:=dF hl;rfl) (fun vs H Q E h=>?_) (fun f cdv A outer s H vs Q E hr h=>?_)
 ·obtain⟨f,t,n,m,room,G,F,k,i,j,l,h,rfl,_⟩:=h
  rfl
 ·obtain⟨f,t,n,m,room,G,F,k,i,j,l,h,rfl,fa,ht,din,⟨hn,hm⟩,eg,go,kq⟩:=h
  refine⟨_,(ag (ax (i:=2) BC.nd rfl (Or.inl rfl) (iX (eD hr) (dP (pv 0) rfl) (pv 1) (fun _ _=>rfl))) (ar (az (aA Am (hr.mono (by decide)) (by rfl) (aa (pv 1) (aa (aA Bk (hr.mono (by decide)) (by rfl) (aa (aj ai (pv 2) ad (fun _ _=>rfl)) (aa (aj ai (pv 2) ad (fun _ _=>rfl)) af))) af)))))),?_⟩;obtain⟨dx,lt,d,fr,hf,hl,⟨cc,dd⟩,_⟩:=fa.ex;obtain⟨o,dg,hv,_⟩:=dd.get ht;obtain⟨v,rfl,gv⟩:=hv din;rw[eg]at gv;obtain⟨t2,p,q,rfl,e2,m1,m2⟩:=gv;refine⟨_,rfl,f,C_Field,dx,_,_,rfl,hf,yJ.cls,n_doors,rfl,_,rfl,d,_,rfl,dg,?_⟩;have E:=SqT.of (K:=K) e2;refine⟨_,rfl,_,rfl,t2,_,_,_,rfl,rfl,E,rfl,_,rfl,t2,_,_,_,rfl,rfl,E,rfl,p,q,l,h,rfl,m1,m2,go,fun r a b H1 s1 f1 pf wi a0 ab=>?_⟩;refine⟨t,r,k,i,j,a,b,rfl,s1 _ _ ht,by unfold DIn at din;omega,by unfold DIn at din;omega,by unfold DIn at din;omega,⟨f1,a0,ab⟩,fun q H2 s2 pq dp=>kq q a b H2 (s1.trans s2) pq pf wi a0 ab f1.low dp⟩
abbrev GF:=Int->Int->Int->Option (N4×N4)
def dU(i j:Int):List (aJ×Lb):=[(ck (i - 1) j,.key (dk 0 i j)),(ck i (j - 1),.key (dk 1 i j)),(ck (i+1) j,.key (dk 0 (i+1) j)),(ck i (j+1),.key (dk 1 i (j+1)))]
def mD(n m:Nat)(G:GF):aJ×Lb->Bool
 | ([.inl x,.inl y],.key [.inl k,.inl i,.inl j])=>dw n m x y && (G k i j).isSome
 | _=>false
def je(n m:Nat)(G:GF):aJ->List (aJ×Lb)
 | [.inl i,.inl j]=>(dU i j).filter (mD n m G)
 | _=>[]
def dG(i j:Int):List (aJ×Lb):=[(ck i (j - 1),.key (dk 0 i (j - 1))),(ck (i - 1) j,.key (dk 1 (i - 1) j)),(ck i (j+1),.key (dk 0 i j)),(ck (i+1) j,.key (dk 1 i j))]
noncomputable def ma(n m:Nat)(G:GF):aJ×Lb->Bool
 | (_,.key [.inl k,.inl i,.inl j])=>@decide (DIn n m k i j) (Classical.propDecidable _) && (G k i j).isNone
 | _=>false
noncomputable def fG(n m:Nat)(G:GF):aJ->List (aJ×Lb)
 | [.inl i,.inl j]=>(dG i j).filter (ma n m G)
 | _=>[]
def cg(K:W.Frag)(H:Hp)(e:aJ×Lb)(v:V):Prop:=∃t sv hv,v = .ref t∧H t=some (.tup [sv,hv])∧bJ H sv e.1∧iR K H hv e.2
theorem cg.mono{K:W.Frag}{H H':Hp}{e:aJ×Lb}{v:V}(h:cg K H e v)(s:SameT H H'):cg K H' e v:=by
 obtain⟨t,sv,hv,h1,h2,h3,h4⟩:=h;exact⟨t,sv,hv,h1,s _ _ h2,h3.mono s,h4.mono s⟩
theorem cg.mk{K:W.Frag}{H:Hp}{x y k i j:Int}{t a b:Addr}(ht:H t=some (.tup [.ref a,.ref b]))(ha:H a=some (.tup [.int x,.int y]))(hb:H b=some (.tup [.int k,.int i,.int j])):cg K H (ck x y,.key (dk k i j)) (.ref t) :=
 ⟨t,.ref a,.ref b,rfl,ht,⟨a,rfl,ha⟩,⟨b,rfl,hb⟩⟩
inductive Di (K:W.Frag) (C:Addr) (vs:List V) (H:Hp) (Q:VK) (x_3:XK):Prop
 | mk:∀(f c:Addr) (n m:Nat) (room:Int) (G:GF) (F:Int->Int->Bool) (i j:Int),(vs = [.ref f,.ref c])->(yZ K C H f n m room G F)->(H c=some (.tup [.int i,.int j]))->((0≤i∧i<(n:Int)))->((0≤j∧j<(m:Int)))->(∀r H',Same H H'->H r=none->lX K H' r (je n m G (ck i j))->Q (.ref r) H')->Di K C vs H Q x_3
inductive C0 (K:W.Frag) (C:Addr) (vs:List V) (H:Hp) (Q:VK) (x_3:XK):Prop
 | mk:∀(f c:Addr) (n m:Nat) (room:Int) (G:GF) (F:Int->Int->Bool) (i j:Int),(vs = [.ref f,.ref c])->(yZ K C H f n m room G F)->(H c=some (.tup [.int i,.int j]))->(∀r H',Same H H'->H r=none->lX K H' r (fG n m G (ck i j))->Q (.ref r) H')->C0 K C vs H Q x_3
theorem y9:yG ["field","cell","i","j","steps"] ["field","cell"] (ap (top 52)):=smk
theorem ik(zZ:Df K mg "steps_through" (top 52))(yJ:Cv K mg "Field" C_Field)(n_last:bE K C_Field "last")(n_doors:bE K C_Field "doors")(n_far:bE K C_Field "far")(V_UPRIGHT:∃tk,mg "UPRIGHT" = some (.int 0 tk))(V_LEVEL:∃tk,mg "LEVEL" = some (.int 1 tk))(Ce:Fn P w K mg base "is_cell" ["field","cell"] 1 (Cp K C_Field)):Fn P w K mg base "steps_through" ["field","cell"] 2 (Di K C_Field):=by
 refine zZ.fn y9 (fun _ _ _ _ _ _ us hl=>by obtain⟨_,_,rfl⟩:=dF hl;rfl) (fun vs H Q E h=>?_) (fun f cdv A outer s H vs Q E hr h=>?_)
 ·obtain⟨fo,c,n,m,room,G,F,i,j,rfl,_⟩:=h
  rfl
 ·obtain⟨fo,c,n,m,room,G,F,i,j,rfl,fa,hc,bi,bj,kq⟩:=h
  have CN:BE (bw CX0 P w K mg base ["field","cell","i","j","steps"] "steps_through" (ap (top 52)) f cdv A outer s H E).nox (Sp7.retScope ((aL (top 52)).getD 4 (.Pass ⟨0,0,0,0⟩))) [("field",s.heap.objs.size+1)] ["step"] [("field",0)] :=
   ⟨by rfl,rfl,by decide +kernel,by decide +kernel,(fun x hx=>by simp only[List.mem_cons,List.not_mem_nil,or_false]at hx;subst hx;rfl),(fun p hp=>by simp only[List.mem_cons,List.not_mem_nil,or_false]at hp;subst hp;rfl),by rfl,by decide +kernel,(fun p hp=>by simp only[List.mem_cons,List.not_mem_nil,or_false]at hp;subst hp;exact⟨rfl,rfl,.inr (.inl rfl),rfl,rfl⟩),⟨rfl,rfl⟩,rfl⟩
  obtain⟨tU,zj⟩:=V_UPRIGHT;obtain⟨tL,AQ⟩:=V_LEVEL;refine⟨_,(ag (ax (i:=2) y9.nd rfl (Or.inl rfl) (aj ai (pv 1) ad (fun _ _=>rfl))) (ag (ax (i:=3) y9.nd rfl (Or.inl rfl) (aj ai (pv 1) ad (fun _ _=>rfl))) (ag (ax (i:=4) y9.nd rfl (Or.inl rfl) (@bH _ _ _ _ (@aa _ _ _ _ _ (@aB _ _ _ _ _ (@aa _ _ _ _ _ (@aB _ _ _ _ _ (@aa _ _ _ _ _ (ao aG (pv 2) ad) (@aa _ _ _ _ _ (pv 3) af (by rfl)) (by rfl))) (@aa _ _ _ _ _ (@aB _ _ _ _ _ (@aa _ _ _ _ _ (bI (v:=.int 0) (by rfl) zj ⟨_,rfl⟩) (@aa _ _ _ _ _ (pv 2) (@aa _ _ _ _ _ (pv 3) af (by rfl)) (by rfl)) (by rfl))) af (by rfl)) (by rfl))) (@aa _ _ _ _ _ (@aB _ _ _ _ _ (@aa _ _ _ _ _ (@aB _ _ _ _ _ (@aa _ _ _ _ _ (pv 2) (@aa _ _ _ _ _ (ao aG (pv 3) ad) af (by rfl)) (by rfl))) (@aa _ _ _ _ _ (@aB _ _ _ _ _ (@aa _ _ _ _ _ (bI (v:=.int 1) (by rfl) AQ ⟨_,rfl⟩) (@aa _ _ _ _ _ (pv 2) (@aa _ _ _ _ _ (pv 3) af (by rfl)) (by rfl)) (by rfl))) af (by rfl)) (by rfl))) af (by rfl)) (by rfl)))) (ag (ol (i:=4) y9.nd rfl (Or.inl rfl) (@bH _ _ _ _ (@aa _ _ _ _ _ (@aB _ _ _ _ _ (@aa _ _ _ _ _ (@aB _ _ _ _ _ (@aa _ _ _ _ _ (ao aP (pv 2) ad) (@aa _ _ _ _ _ (pv 3) af (by rfl)) (by rfl))) (@aa _ _ _ _ _ (@aB _ _ _ _ _ (@aa _ _ _ _ _ (bI (v:=.int 0) (by rfl) zj ⟨_,rfl⟩) (@aa _ _ _ _ _ (ao aP (pv 2) ad) (@aa _ _ _ _ _ (pv 3) af (by rfl)) (by rfl)) (by rfl))) af (by rfl)) (by rfl))) (@aa _ _ _ _ _ (@aB _ _ _ _ _ (@aa _ _ _ _ _ (@aB _ _ _ _ _ (@aa _ _ _ _ _ (pv 2) (@aa _ _ _ _ _ (ao aP (pv 3) ad) af (by rfl)) (by rfl))) (@aa _ _ _ _ _ (@aB _ _ _ _ _ (@aa _ _ _ _ _ (bI (v:=.int 1) (by rfl) AQ ⟨_,rfl⟩) (@aa _ _ _ _ _ (pv 2) (@aa _ _ _ _ _ (ao aP (pv 3) ad) af (by rfl)) (by rfl)) (by rfl))) af (by rfl)) (by rfl))) af (by rfl)) (by rfl))) pX) (ar (az (js rfl CN (cQ (pv 4)) (fun fp s₀ H₀=>(aU (i:=0) CN.nd rfl (Or.inl rfl) (Or.inr rfl))) (fun fp s₀ H₀=>(kX (PW.pt (d7 (bo (aA Ce (hr.mono (by decide)) (by rfl) (aa (pv 1) (aa (aj (cC (K:=K) rfl) (pv 0) ad (fun _ _=>rfl)) af)))) (dX (aC gF (iX (eD hr) (gC (K:=K) rfl (pv 1) rfl) (aj (cC (K:=K) rfl) (pv 0) ad (fun _ _=>rfl)) (fun _ _=>rfl)) cb (aE _))))))) (fun fp s₀ H₀=>(pv 0))))))))),?_⟩;refine⟨_,rfl,c,_,_,_,rfl,rfl,SqT.of hc,rfl,?_⟩;refine⟨_,rfl,c,_,_,_,rfl,rfl,SqT.of hc,rfl,?_⟩;refine⟨_,rfl,_,_,rfl,rfl,_,rfl,sz (by simp),fun p1 H1 s1 f1 n1=>?_⟩;refine⟨_,rfl,_,rfl,sz (by simp),fun p2 H2 s2 f2 n2=>?_⟩;refine⟨sz (by simp),fun p3 H3 s3 f3 n3=>?_⟩;refine⟨_,rfl,_,rfl,_,_,rfl,rfl,sz (by simp),fun p4 H4 s4 f4 n4=>?_⟩;refine⟨_,rfl,_,rfl,sz (by simp),fun p5 H5 s5 f5 n5=>?_⟩;refine⟨sz (by simp),fun p6 H6 s6 f6 n6=>?_⟩;refine⟨sz (by simp),fun p7 H7 s7 f7 n7=>?_⟩;refine⟨_,rfl,?_⟩;refine⟨_,rfl,_,_,rfl,rfl,_,rfl,sz (by simp),fun p8 H8 s8 f8 n8=>?_⟩;refine⟨_,rfl,_,_,rfl,rfl,_,rfl,sz (by simp),fun p9 H9 s9 f9 n9=>?_⟩;refine⟨sz (by simp),fun p10 H10 s10 f10 n10=>?_⟩;refine⟨_,rfl,_,rfl,_,_,rfl,rfl,sz (by simp),fun p11 H11 s11 f11 n11=>?_⟩;refine⟨_,rfl,_,rfl,_,_,rfl,rfl,sz (by simp),fun p12 H12 s12 f12 n12=>?_⟩;refine⟨sz (by simp),fun p13 H13 s13 f13 n13=>?_⟩;refine⟨sz (by simp),fun p14 H14 s14 f14 n14=>?_⟩;refine⟨p7,p14,_,_,rfl,rfl,(((((((s8).trans s9).trans s10).trans s11).trans s12).trans s13).trans s14) _ _ f7,f14,sz (by simp),fun Hu u=>?_⟩;have S14:Same H H14:=((((((((((((((s1).trans s2).trans s3).trans s4).trans s5).trans s6).trans s7).trans s8).trans s9).trans s10).trans s11).trans s12).trans s13).trans s14);have nl:H p7=none:=((((((s1).trans s2).trans s3).trans s4).trans s5).trans s6).free n7;have Su:Same H Hu:=fun b ob e=>u.at (fun z=>by rw[z,nl]at e;cases e) (S14 b ob e);have tu:=u.t;have pr:Paired (cg K Hu) (dU i j) [.ref p3,.ref p6,.ref p10,.ref p13]:=.cons (cg.mono (cg.mk ((((((((((((s4).trans s5).trans s6).trans s7).trans s8).trans s9).trans s10).trans s11).trans s12).trans s13).trans s14) _ _ f3) ((((((((((((((s2).trans s3).trans s4).trans s5).trans s6).trans s7).trans s8).trans s9).trans s10).trans s11).trans s12).trans s13).trans s14) _ _ f1) (((((((((((((s3).trans s4).trans s5).trans s6).trans s7).trans s8).trans s9).trans s10).trans s11).trans s12).trans s13).trans s14) _ _ f2)) tu) (.cons (cg.mono (cg.mk (((((((((s7).trans s8).trans s9).trans s10).trans s11).trans s12).trans s13).trans s14) _ _ f6) (((((((((((s5).trans s6).trans s7).trans s8).trans s9).trans s10).trans s11).trans s12).trans s13).trans s14) _ _ f4) ((((((((((s6).trans s7).trans s8).trans s9).trans s10).trans s11).trans s12).trans s13).trans s14) _ _ f5)) tu) (.cons (cg.mono (cg.mk (((((s11).trans s12).trans s13).trans s14) _ _ f10) (((((((s9).trans s10).trans s11).trans s12).trans s13).trans s14) _ _ f8) ((((((s10).trans s11).trans s12).trans s13).trans s14) _ _ f9)) tu) (.cons (cg.mono (cg.mk ((s14) _ _ f13) ((((s12).trans s13).trans s14) _ _ f11) (((s13).trans s14) _ _ f12)) tu) .nil)));have FU:=fa.mono Su;obtain⟨dx,lt,d,fr,hf,hl,⟨cc,dd⟩,_⟩:=FU.ex;refine⟨_,rfl,p7,rfl,⟨_,SqL.of u.now⟩,kL (K:=K) (k:=1) u.now (by simp) (cg K Hu) pr (mD n m G) ?_ ?_⟩
  ·intro e x H2 τ Kc Kn he hre s2 hτ kc kn
   obtain⟨τ0,rfl⟩:∃τ0,τ = [τ0]:=dA hτ;have din:∃x y k i' j',e=(ck x y,.key (dk k i' j'))∧(dw n m x y=true->DIn n m k i' j'):=by
    unfold dU at he;simp only[List.mem_cons,List.not_mem_nil,or_false]at he;rcases he with rfl|rfl|rfl|rfl <;> exact⟨_,_,_,_,_,rfl,fun z=>by unfold dw at z;simp only[Bool.and_eq_true,decide_eq_true_eq]at z;unfold DIn;omega⟩
   obtain⟨x1,y1,k1,i1,j1,rfl,hd⟩:=din;obtain⟨t,sv,hv,rfl,ht,⟨pa,rfl,ha⟩,⟨pb,rfl,hb⟩⟩:=hre;have kc':(dw n m x1 y1 && (G k1 i1 j1).isSome)=true->∀H4,Same H2 H4->Kc (.ref t) H4:=kc;have kn':(dw n m x1 y1 && (G k1 i1 j1).isSome)=false->∀H4,Same H2 H4->Kn H4:=kn;refine⟨⟨[some (.ref t)],rfl,rfl⟩,?_⟩;refine⟨_,rfl,_,rfl,t,_,_,_,rfl,rfl,SqT.of (s2 _ _ ht),rfl,fo,pa,n,m,room,G,F,x1,y1,rfl,FU.mono s2,s2 _ _ ha,_,rfl,aY (fun c1=>?_) (fun c1=>?_)⟩
   ·rw[c1,Bool.true_and]at kc' kn'
    obtain⟨o,dg,hv,_⟩:=(dd.mono s2).get (s2 _ _ hb);obtain⟨v,rfl,gv⟩:=hv (hd c1);refine⟨_,rfl,fo,C_Field,dx,_,_,rfl,s2 _ _ hf,yJ.cls,n_doors,rfl,_,rfl,t,_,_,_,rfl,rfl,SqT.of (s2 _ _ ht),rfl,d,_,rfl,dg,rfl,_,rfl,?_⟩;cases hg:G k1 i1 j1 with
    | none =>
     rw[hg]at gv kn';have gv:v = .non:=gv;rw[gv];exact kn' rfl H2 (Same.refl _)
    | some lm =>
     rw[hg]at gv kc';obtain⟨t2,p,q,rfl,_⟩:=gv;exact⟨_,rfl,kc' rfl H2 (Same.refl _)⟩
   ·rw[c1,Bool.false_and]at kn'
    exact kn' rfl H2 (Same.refl _)
  ·intro r ys H2 nr s2 f2 pr2
   have nr':H r=none:=Su.free nr;exact kq r H2 (Su.trans s2) nr' ⟨ys,f2,Paired.mapP pr2 fun a b x=>cg.mono x s2.t⟩
theorem zq:yG ["field","corner","i","j","steps"] ["field","corner"] (ap (top 55)):=smk
theorem jC(AG:Df K mg "steps_along" (top 55))(yJ:Cv K mg "Field" C_Field)(n_last:bE K C_Field "last")(n_doors:bE K C_Field "doors")(n_far:bE K C_Field "far")(V_UPRIGHT:∃tk,mg "UPRIGHT" = some (.int 0 tk))(V_LEVEL:∃tk,mg "LEVEL" = some (.int 1 tk)):Fn P w K mg base "steps_along" ["field","corner"] 2 (C0 K C_Field):=by
 refine AG.fn zq (fun _ _ _ _ _ _ us hl=>by obtain⟨_,_,rfl⟩:=dF hl;rfl) (fun vs H Q E h=>?_) (fun f cdv A outer s H vs Q E hr h=>?_)
 ·obtain⟨fo,c,n,m,room,G,F,i,j,rfl,_⟩:=h
  rfl
 ·obtain⟨fo,c,n,m,room,G,F,i,j,rfl,fa,hc,kq⟩:=h
  have CN:BE (bw CX0 P w K mg base ["field","corner","i","j","steps"] "steps_along" (ap (top 55)) f cdv A outer s H E).nox (Sp7.retScope ((aL (top 55)).getD 4 (.Pass ⟨0,0,0,0⟩))) [("field",s.heap.objs.size+1)] ["step"] [("field",0)] :=
   ⟨by rfl,rfl,by decide +kernel,by decide +kernel,(fun x hx=>by simp only[List.mem_cons,List.not_mem_nil,or_false]at hx;subst hx;rfl),(fun p hp=>by simp only[List.mem_cons,List.not_mem_nil,or_false]at hp;subst hp;rfl),by rfl,by decide +kernel,(fun p hp=>by simp only[List.mem_cons,List.not_mem_nil,or_false]at hp;subst hp;exact⟨rfl,rfl,.inr (.inl rfl),rfl,rfl⟩),⟨rfl,rfl⟩,rfl⟩
  obtain⟨tU,zj⟩:=V_UPRIGHT;obtain⟨tL,AQ⟩:=V_LEVEL;refine⟨_,(ag (ax (i:=2) zq.nd rfl (Or.inl rfl) (aj ai (pv 1) ad (fun _ _=>rfl))) (ag (ax (i:=3) zq.nd rfl (Or.inl rfl) (aj ai (pv 1) ad (fun _ _=>rfl))) (ag (ax (i:=4) zq.nd rfl (Or.inl rfl) (@bH _ _ _ _ (@aa _ _ _ _ _ (@aB _ _ _ _ _ (@aa _ _ _ _ _ (@aB _ _ _ _ _ (@aa _ _ _ _ _ (pv 2) (@aa _ _ _ _ _ (ao aG (pv 3) ad) af (by rfl)) (by rfl))) (@aa _ _ _ _ _ (@aB _ _ _ _ _ (@aa _ _ _ _ _ (bI (v:=.int 0) (by rfl) zj ⟨_,rfl⟩) (@aa _ _ _ _ _ (pv 2) (@aa _ _ _ _ _ (ao aG (pv 3) ad) af (by rfl)) (by rfl)) (by rfl))) af (by rfl)) (by rfl))) (@aa _ _ _ _ _ (@aB _ _ _ _ _ (@aa _ _ _ _ _ (@aB _ _ _ _ _ (@aa _ _ _ _ _ (ao aG (pv 2) ad) (@aa _ _ _ _ _ (pv 3) af (by rfl)) (by rfl))) (@aa _ _ _ _ _ (@aB _ _ _ _ _ (@aa _ _ _ _ _ (bI (v:=.int 1) (by rfl) AQ ⟨_,rfl⟩) (@aa _ _ _ _ _ (ao aG (pv 2) ad) (@aa _ _ _ _ _ (pv 3) af (by rfl)) (by rfl)) (by rfl))) af (by rfl)) (by rfl))) af (by rfl)) (by rfl)))) (ag (ol (i:=4) zq.nd rfl (Or.inl rfl) (@bH _ _ _ _ (@aa _ _ _ _ _ (@aB _ _ _ _ _ (@aa _ _ _ _ _ (@aB _ _ _ _ _ (@aa _ _ _ _ _ (pv 2) (@aa _ _ _ _ _ (ao aP (pv 3) ad) af (by rfl)) (by rfl))) (@aa _ _ _ _ _ (@aB _ _ _ _ _ (@aa _ _ _ _ _ (bI (v:=.int 0) (by rfl) zj ⟨_,rfl⟩) (@aa _ _ _ _ _ (pv 2) (@aa _ _ _ _ _ (pv 3) af (by rfl)) (by rfl)) (by rfl))) af (by rfl)) (by rfl))) (@aa _ _ _ _ _ (@aB _ _ _ _ _ (@aa _ _ _ _ _ (@aB _ _ _ _ _ (@aa _ _ _ _ _ (ao aP (pv 2) ad) (@aa _ _ _ _ _ (pv 3) af (by rfl)) (by rfl))) (@aa _ _ _ _ _ (@aB _ _ _ _ _ (@aa _ _ _ _ _ (bI (v:=.int 1) (by rfl) AQ ⟨_,rfl⟩) (@aa _ _ _ _ _ (pv 2) (@aa _ _ _ _ _ (pv 3) af (by rfl)) (by rfl)) (by rfl))) af (by rfl)) (by rfl))) af (by rfl)) (by rfl))) pX) (ar (az (js rfl CN (cQ (pv 4)) (fun fp s₀ H₀=>(aU (i:=0) CN.nd rfl (Or.inl rfl) (Or.inr rfl))) (fun fp s₀ H₀=>(kX (PW.pt (d7 (kZ (ow (eD hr) (aj (cC (K:=K) rfl) (pv 0) ad (fun _ _=>rfl)) (gC (K:=K) rfl (pv 1) rfl)) (by rfl)) (dX (aC sN (iX (eD hr) (gC (K:=K) rfl (pv 1) rfl) (aj (cC (K:=K) rfl) (pv 0) ad (fun _ _=>rfl)) (fun _ _=>rfl)) cb (aE _))))))) (fun fp s₀ H₀=>(pv 0))))))))),?_⟩;refine⟨_,rfl,c,_,_,_,rfl,rfl,SqT.of hc,rfl,?_⟩;refine⟨_,rfl,c,_,_,_,rfl,rfl,SqT.of hc,rfl,?_⟩;refine⟨_,rfl,_,rfl,_,_,rfl,rfl,sz (by simp),fun p1 H1 s1 f1 n1=>?_⟩;refine⟨_,rfl,_,rfl,_,_,rfl,rfl,sz (by simp),fun p2 H2 s2 f2 n2=>?_⟩;refine⟨sz (by simp),fun p3 H3 s3 f3 n3=>?_⟩;refine⟨_,rfl,_,_,rfl,rfl,_,rfl,sz (by simp),fun p4 H4 s4 f4 n4=>?_⟩;refine⟨_,rfl,_,_,rfl,rfl,_,rfl,sz (by simp),fun p5 H5 s5 f5 n5=>?_⟩;refine⟨sz (by simp),fun p6 H6 s6 f6 n6=>?_⟩;refine⟨sz (by simp),fun p7 H7 s7 f7 n7=>?_⟩;refine⟨_,rfl,?_⟩;refine⟨_,rfl,_,rfl,_,_,rfl,rfl,sz (by simp),fun p8 H8 s8 f8 n8=>?_⟩;refine⟨_,rfl,_,rfl,sz (by simp),fun p9 H9 s9 f9 n9=>?_⟩;refine⟨sz (by simp),fun p10 H10 s10 f10 n10=>?_⟩;refine⟨_,rfl,_,_,rfl,rfl,_,rfl,sz (by simp),fun p11 H11 s11 f11 n11=>?_⟩;refine⟨_,rfl,_,rfl,sz (by simp),fun p12 H12 s12 f12 n12=>?_⟩;refine⟨sz (by simp),fun p13 H13 s13 f13 n13=>?_⟩;refine⟨sz (by simp),fun p14 H14 s14 f14 n14=>?_⟩;refine⟨p7,p14,_,_,rfl,rfl,(((((((s8).trans s9).trans s10).trans s11).trans s12).trans s13).trans s14) _ _ f7,f14,sz (by simp),fun Hu u=>?_⟩;have S14:Same H H14:=((((((((((((((s1).trans s2).trans s3).trans s4).trans s5).trans s6).trans s7).trans s8).trans s9).trans s10).trans s11).trans s12).trans s13).trans s14);have nl:H p7=none:=((((((s1).trans s2).trans s3).trans s4).trans s5).trans s6).free n7;have Su:Same H Hu:=fun b ob e=>u.at (fun z=>by rw[z,nl]at e;cases e) (S14 b ob e);have tu:=u.t;have pr:Paired (cg K Hu) (dG i j) [.ref p3,.ref p6,.ref p10,.ref p13]:=.cons (cg.mono (cg.mk ((((((((((((s4).trans s5).trans s6).trans s7).trans s8).trans s9).trans s10).trans s11).trans s12).trans s13).trans s14) _ _ f3) ((((((((((((((s2).trans s3).trans s4).trans s5).trans s6).trans s7).trans s8).trans s9).trans s10).trans s11).trans s12).trans s13).trans s14) _ _ f1) (((((((((((((s3).trans s4).trans s5).trans s6).trans s7).trans s8).trans s9).trans s10).trans s11).trans s12).trans s13).trans s14) _ _ f2)) tu) (.cons (cg.mono (cg.mk (((((((((s7).trans s8).trans s9).trans s10).trans s11).trans s12).trans s13).trans s14) _ _ f6) (((((((((((s5).trans s6).trans s7).trans s8).trans s9).trans s10).trans s11).trans s12).trans s13).trans s14) _ _ f4) ((((((((((s6).trans s7).trans s8).trans s9).trans s10).trans s11).trans s12).trans s13).trans s14) _ _ f5)) tu) (.cons (cg.mono (cg.mk (((((s11).trans s12).trans s13).trans s14) _ _ f10) (((((((s9).trans s10).trans s11).trans s12).trans s13).trans s14) _ _ f8) ((((((s10).trans s11).trans s12).trans s13).trans s14) _ _ f9)) tu) (.cons (cg.mono (cg.mk ((s14) _ _ f13) ((((s12).trans s13).trans s14) _ _ f11) (((s13).trans s14) _ _ f12)) tu) .nil)));have FU:=fa.mono Su;obtain⟨dx,lt,d,fr,hf,hl,⟨cc,dd⟩,_⟩:=FU.ex;refine⟨_,rfl,p7,rfl,⟨_,SqL.of u.now⟩,kL (K:=K) (k:=1) u.now (by simp) (cg K Hu) pr (ma n m G) ?_ ?_⟩
  ·intro e x H2 τ Kc Kn he hre s2 hτ kc kn
   obtain⟨τ0,rfl⟩:∃τ0,τ = [τ0]:=dA hτ;obtain⟨x1,y1,k1,i1,j1,rfl⟩:∃x y k i' j',e=(ck x y,.key (dk k i' j')):=by
    unfold dG at he;simp only[List.mem_cons,List.not_mem_nil,or_false]at he;rcases he with rfl|rfl|rfl|rfl <;> exact⟨_,_,_,_,_,rfl⟩
   obtain⟨t,sv,hv,rfl,ht,⟨pa,rfl,ha⟩,⟨pb,rfl,hb⟩⟩:=hre;have kc':(@decide (DIn n m k1 i1 j1) (Classical.propDecidable _) && (G k1 i1 j1).isNone)=true->∀H4,Same H2 H4->Kc (.ref t) H4:=kc;have kn':(@decide (DIn n m k1 i1 j1) (Classical.propDecidable _) && (G k1 i1 j1).isNone)=false->∀H4,Same H2 H4->Kn H4:=kn;refine⟨⟨[some (.ref t)],rfl,rfl⟩,?_⟩;obtain⟨o,dg,hv,hn⟩:=(dd.mono s2).get (s2 _ _ hb);have T2:=SqT.of (K:=K) (s2 _ _ ht);refine⟨_,rfl,t,_,_,_,rfl,rfl,T2,rfl,_,rfl,fo,C_Field,dx,_,_,rfl,s2 _ _ hf,yJ.cls,n_doors,rfl,d,_,rfl,dg,_,rfl,?_⟩;rcases Classical.em (DIn n m k1 i1 j1) with z|z
   ·rw[@decide_eq_true _ (Classical.propDecidable _) z,Bool.true_and]at kc' kn'
    obtain⟨v,rfl,gv⟩:=hv z;refine jV ?_;refine⟨_,rfl,fo,C_Field,dx,_,_,rfl,s2 _ _ hf,yJ.cls,n_doors,rfl,_,rfl,t,_,_,_,rfl,rfl,T2,rfl,d,_,rfl,dg,rfl,_,rfl,?_⟩;cases hg:G k1 i1 j1 with
    | none =>
     rw[hg]at gv kc';have gv:v = .non:=gv;rw[gv];exact⟨_,rfl,kc' rfl H2 (Same.refl _)⟩
    | some lm =>
     rw[hg]at gv kn';obtain⟨t2,p,q,rfl,_⟩:=gv;exact kn' rfl H2 (Same.refl _)
   ·rw[@decide_eq_false _ (Classical.propDecidable _) z,Bool.false_and]at kn'
    rw[hn z];exact kn' rfl H2 (Same.refl _)
  ·intro r ys H2 nr s2 f2 pr2
   have nr':H r=none:=Su.free nr;exact kq r H2 (Su.trans s2) nr' ⟨ys,f2,Paired.mapP pr2 fun a b x=>cg.mono x s2.t⟩
def oN(n m:Nat):aJ->Bool
 | [.inl i,.inl j]=>decide (i=(n:Int) - 1) && decide (j=(m:Int) - 1)
 | _=>false
def rz(n:Nat):aJ->Bool
 | [.inl i,.inl j]=>decide (j=0) || decide (i=(n:Int))
 | _=>false
def lW(m n:Nat)(F:Int->Int->Bool):List (Int×Int):=(lP m n F).filter fun p=>decide (p.2=n) || decide (p.1=0)
def jP(n m:Nat)(G:GF)(F:Int->Int->Bool):Prop:=F 0 0=true∨F n m=true∨vA [ck 0 0] (je n m G) (oN n m)
def lY(n m:Nat)(G:GF)(F:Int->Int->Bool):Prop:=(∀i j:Int,(0≤i∧i≤n)->(0≤j∧j<m)->G 0 i j=none->F i j=true∧F i (j+1)=true)∧∀i j:Int,(0≤i∧i<n)->(0≤j∧j≤m)->G 1 i j=none->F i j=true∧F (i+1) j=true
theorem vo{n m:Nat}{i j:Int}(h:(0≤i∧i<n)∧0≤j∧j<m):dw n m i j=true:=by
 unfold dw;simp only[Bool.and_eq_true,decide_eq_true_eq];omega
theorem sR{n m:Nat}{G:GF}{i j x y k a b:Int}(h:(ck x y,Lb.key (dk k a b))∈dU i j)(hc:(0≤x∧x<n)∧0≤y∧y<m)(hg:G k a b≠none):(ck x y,Lb.key (dk k a b))∈je n m G (ck i j):=by
 refine List.mem_filter.mpr ⟨h,?_⟩;show(dw n m x y && (G k a b).isSome)=true;rw[vo hc,Bool.true_and];cases e:G k a b with
 | none=>exact absurd e hg
 | some _=>rfl
theorem qP{n m:Nat}{G:GF}{i j x y k a b:Int}(h:(ck x y,Lb.key (dk k a b))∈dG i j)(hd:DIn n m k a b)(hg:G k a b=none):(ck x y,Lb.key (dk k a b))∈fG n m G (ck i j):=by
 refine List.mem_filter.mpr ⟨h,?_⟩;show(@decide (DIn n m k a b) (Classical.propDecidable _) && (G k a b).isNone)=true;rw[@decide_eq_true _ (Classical.propDecidable _) hd,hg];rfl
theorem oH{n m:Nat}{G:GF}{F:Int->Int->Bool}(hn:1≤n)(hm:1≤m)(sf:lY n m G F)(h:jP n m G F)(hs:vA ((lW n m F).map fun p=>ck p.1 p.2) (fG n m G) (rz n)):False:=by
 obtain⟨S,s0,s1,s2⟩:=hs;have beg:∀i j:Int,(0≤i∧i≤n)->(0≤j∧j≤m)->F i j=true->(j=m∨i=0)->ck i j∈S:=fun i j hi hj hf hb=>by
  refine s0 _ (List.mem_map.mpr ⟨(i,j),List.mem_filter.mpr ⟨dR.mpr ⟨hi.1,hi.2,hj.1,hj.2,hf⟩,?_⟩,rfl⟩);rcases hb with z|z
  ·rw[decide_eq_true (show(i,j).2=(m:Int) from z),Bool.true_or]
  ·rw[decide_eq_true (show(i,j).1=0 from z),Bool.or_true]
 have noend:∀i j:Int,ck i j∈S->¬(j=0∨i=n):=fun i j hi z=>by
  have:=s2 _ hi;unfold rz ck at this;rw[Bool.or_eq_false_iff,decide_eq_false_iff_not,decide_eq_false_iff_not]at this;omega
 rcases h with h|h|⟨R,r0,r1,r2⟩
 ·exact noend 0 0 (beg 0 0 (by omega) (by omega) h (.inr rfl)) (.inl rfl)
 ·exact noend n m (beg n m (by omega) (by omega) h (.inl rfl)) (.inr rfl)
 have rs:∀{i j x y k a b:Int},ck i j∈R->(ck x y,Lb.key (dk k a b))∈dU i j->(0≤x∧x<n)∧0≤y∧y<m->G k a b≠none->ck x y∈R:=fun hi h hc hg=>r1 _ hi _ (sR h hc hg);have ss:∀{i j x y k a b:Int},ck i j∈S->(ck x y,Lb.key (dk k a b))∈dG i j->DIn n m k a b->G k a b=none->ck x y∈S:=fun hi h hd hg=>s1 _ hi _ (qP h hd hg)
 let r:Nat->Nat->Bool:=fun i j=>@decide (ck (i:Int) (j:Int)∈R) (Classical.propDecidable _)
 let s:Nat->Nat->Bool:=fun i j=>@decide (ck (i:Int) (j:Int)∈S) (Classical.propDecidable _)
 have rT:∀{i j:Nat},r i j=true↔ck (i:Int) (j:Int)∈R:=fun {i j}=>@decide_eq_true_iff _ (Classical.propDecidable _);have sT:∀{i j:Nat},s i j=true↔ck (i:Int) (j:Int)∈S:=fun {i j}=>@decide_eq_true_iff _ (Classical.propDecidable _);have beq:∀{a b:Bool},(a=true↔b=true)->a=b:=fun {a b} h=>by cases a <;> cases b <;> simp_all
 have shU:∀i j:Nat,0<i->i<n->j<m->r (i - 1) j≠r i j->G 0 i j=none:=fun i j h0 hi hj ne=>by
  refine Classical.byContradiction fun hg=>ne (beq ?_);rw[rT,rT];have e:((i - 1:Nat):Int)=(i:Int) - 1:=by omega
  rw[e];constructor
  ·intro h
   refine rs (x:=(i:Int)) (y:=(j:Int)) (k:=0) (a:=(i:Int)) (b:=(j:Int)) h ?_ (by omega) hg;unfold dU;simp[show(i:Int) - 1+1=i by omega]
  ·intro h
   refine rs (x:=(i:Int) - 1) (y:=(j:Int)) (k:=0) (a:=(i:Int)) (b:=(j:Int)) h ?_ (by omega) hg;unfold dU;simp
 have shL:∀i j:Nat,i<n->0<j->j<m->r i (j - 1)≠r i j->G 1 i j=none:=fun i j hi h0 hj ne=>by
  refine Classical.byContradiction fun hg=>ne (beq ?_);rw[rT,rT];have e:((j - 1:Nat):Int)=(j:Int) - 1:=by omega
  rw[e];constructor
  ·intro h
   refine rs (x:=(i:Int)) (y:=(j:Int)) (k:=1) (a:=(i:Int)) (b:=(j:Int)) h ?_ (by omega) hg;unfold dU;simp[show(j:Int) - 1+1=j by omega]
  ·intro h
   refine rs (x:=(i:Int)) (y:=(j:Int) - 1) (k:=1) (a:=(i:Int)) (b:=(j:Int)) h ?_ (by omega) hg;unfold dU;simp
 refine Fz.dual (n:=n) (m:=m) (r:=r) (s:=s) hn hm (rT.mpr (r0 _ (by simp))) ?_ (fun i j h0 hi hj ne=>?_) (fun i j hi h0 hj ne=>?_) (fun j h0 hj ne=>?_) (fun i h0 hi ne=>?_) (fun i h0 hi=>?_) (fun j h0 hj=>?_)
 ·cases e:r (n - 1) (m - 1) with
  | false=>rfl
  | true =>
   have:=r2 _ (rT.mp e);have this:(decide (((n - 1:Nat):Int)=(n:Int) - 1) && decide (((m - 1:Nat):Int)=(m:Int) - 1))=false:=this;rw[decide_eq_true (show((n - 1:Nat):Int)=(n:Int) - 1 by omega),decide_eq_true (show((m - 1:Nat):Int)=(m:Int) - 1 by omega)]at this;cases this
 ·have hg:=shU i j h0 hi hj ne
  refine beq ?_;rw[sT,sT];have e:((j+1:Nat):Int)=(j:Int)+1:=by omega
  rw[e];constructor
  ·intro h
   refine ss (x:=(i:Int)) (y:=(j:Int)+1) (k:=0) (a:=(i:Int)) (b:=(j:Int)) h ?_ (.inl ⟨rfl,by omega,by omega,by omega⟩) hg;unfold dG;simp
  ·intro h
   refine ss (x:=(i:Int)) (y:=(j:Int)) (k:=0) (a:=(i:Int)) (b:=(j:Int)) h ?_ (.inl ⟨rfl,by omega,by omega,by omega⟩) hg;unfold dG;simp[show(j:Int)+1 - 1=j by omega]
 ·have hg:=shL i j hi h0 hj ne
  refine beq ?_;rw[sT,sT];have e:((i+1:Nat):Int)=(i:Int)+1:=by omega
  rw[e];constructor
  ·intro h
   refine ss (x:=(i:Int)+1) (y:=(j:Int)) (k:=1) (a:=(i:Int)) (b:=(j:Int)) h ?_ (.inr ⟨rfl,by omega,by omega,by omega⟩) hg;unfold dG;simp
  ·intro h
   refine ss (x:=(i:Int)) (y:=(j:Int)) (k:=1) (a:=(i:Int)) (b:=(j:Int)) h ?_ (.inr ⟨rfl,by omega,by omega,by omega⟩) hg;unfold dG;simp[show(i:Int)+1 - 1=i by omega]
 ·have hg:=shL 0 j (by omega) h0 hj ne
  exact sT.mpr (beg _ _ (by omega) (by omega) (sf.2 ((0:Nat):Int) j (by omega) (by omega) hg).1 (.inr rfl))
 ·have hg:=shU i (m - 1) h0 hi (by omega) ne
  have:=(sf.1 i ((m - 1:Nat):Int) (by omega) (by omega) hg).2;rw[show((m - 1:Nat):Int)+1=(m:Int) by omega]at this;exact sT.mpr (beg _ _ (by omega) (by omega) this (.inl rfl))
 ·cases e:s i 0 with
  | false=>rfl
  | true=>exact absurd (.inl rfl) (noend _ _ (sT.mp e))
 ·cases e:s n j with
  | false=>rfl
  | true=>exact absurd (.inr rfl) (noend _ _ (sT.mp e))
theorem kf{n m:Nat}{G:GF}(hn:1≤n)(hm:1≤m):∀s∈U (n - 1) (m - 1),∀e∈je n m G s,e.1∈U (n - 1) (m - 1):=by
 intro s hs e he;obtain⟨x,y,rfl,_⟩:=eV.mp hs;obtain⟨h1,h2⟩:=List.mem_filter.mp (show e∈(dU x y).filter (mD n m G) from he);obtain⟨x1,y1,k1,i1,j1,rfl⟩:∃x y k i j,e=(ck x y,Lb.key (dk k i j)):=by
  unfold dU at h1;simp only[List.mem_cons,List.not_mem_nil,or_false]at h1;rcases h1 with rfl|rfl|rfl|rfl <;> exact⟨_,_,_,_,_,rfl⟩
 have h2:(dw n m x1 y1 && (G k1 i1 j1).isSome)=true:=h2;unfold dw at h2;simp only[Bool.and_eq_true,decide_eq_true_eq]at h2;exact eV.mpr ⟨x1,y1,rfl,by omega,by omega,by omega,by omega⟩
theorem rV{n m:Nat}{G:GF}:∀s,(je n m G s).length<1000:=by
 intro s;unfold je
 split
 ·exact Nat.lt_of_le_of_lt (List.length_filter_le _ _) (show 4<1000 by decide)
 ·decide
theorem jN{n m:Nat}{G:GF}:∀s∈U n m,∀e∈fG n m G s,e.1∈U n m:=by
 intro s hs e he;obtain⟨x,y,rfl,_⟩:=eV.mp hs;obtain⟨h1,h2⟩:=List.mem_filter.mp (show e∈(dG x y).filter (ma n m G) from he);have dn:∀{k i j:Int},ma n m G (e.1,.key (dk k i j))=true->DIn n m k i j:=fun {k i j} z=>by
  have z:(@decide (DIn n m k i j) (Classical.propDecidable _) && (G k i j).isNone)=true:=z;rw[Bool.and_eq_true]at z;exact @of_decide_eq_true _ (Classical.propDecidable _) z.1
 unfold dG at h1;simp only[List.mem_cons,List.not_mem_nil,or_false]at h1;rcases h1 with rfl|rfl|rfl|rfl <;> (have:=dn h2;unfold DIn at this;exact eV.mpr ⟨_,_,rfl,by omega,by omega,by omega,by omega⟩)
theorem rL{n m:Nat}{G:GF}:∀s,(fG n m G s).length<1000:=by
 intro s;unfold fG
 split
 ·exact Nat.lt_of_le_of_lt (List.length_filter_le _ _) (show 4<1000 by decide)
 ·decide
def fg(G:GF)(e:aJ×Lb)(q:Pr):Prop:=∃k i j lo hi a b,e.2 = .key (dk k i j)∧G k i j=some (lo,hi)∧PF lo hi a b∧bL (some (lo,hi)) a b=true∧0≤a∧a≤b∧CC a b∧ga k i j a b q
def nS(n m:Nat)(G:GF)(F:Int->Int->Bool)(ps:List Pr):Prop:=F 0 0=false∧F n m=false∧∃(l:List (aJ×Lb)) (ps':List Pr) (q0 q1:Pr),vB [ck 0 0] (je n m G) (oN n m) l∧kR [ck 0 0] (je n m G) (oN n m) l∧(l.length≤900∧l.length≤(U (n - 1) (m - 1)).length)∧ps=q0::(ps'++[q1])∧prC q0 (0,0)∧prC q1 ((n:Int),(m:Int))∧Paired (fg G) l.tail ps'
def uh(n m:Nat)(G:GF)(F:Int->Int->Bool)(ps:List Pr):Prop:=jP n m G F∧∃l:List (aJ×Lb),vB ((lW n m F).map fun p=>ck p.1 p.2) (fG n m G) (rz n) l∧kR ((lW n m F).map fun p=>ck p.1 p.2) (fG n m G) (rz n) l∧(l.length≤900∧l.length≤(U n m).length)∧Paired (fun e q=>prC q (dec e.1)) l ps
theorem l9{K:W.Frag}{H H':Hp}{a:Addr}{xs:List V}(h:SqT K H a xs)(k:∀b o,H b=some o->(∀z,o≠KnO z)->(∀ps,o≠.tbl ps)->H' b=some o):SqT K H' a xs:=by
 rcases h with(h|⟨o,h⟩)|h
 ·exact .inl (.inl (k _ _ h (fun z q=>by cases q) (fun z q=>by cases q)))
 ·exact .inl (.inr ⟨o,k _ _ h (fun z q=>by cases q) (fun z q=>by cases q)⟩)
 ·exact .inr h
theorem yZ.keep{K:W.Frag}{C:Addr}{H H':Hp}{f:Addr}{n m:Nat}{room:Int}{G:GF}{F:Int->Int->Bool}(h:yZ K C H f n m room G F)(k:∀b o,H b=some o->(∀z,o≠KnO z)->(∀ps,o≠.tbl ps)->H' b=some o):yZ K C H' f n m room G F:=by
 obtain⟨dx,lt,d,fr,h1,h2,⟨c,⟨kvs,e,l,a,z⟩⟩,⟨o,h4⟩⟩:=h.ex;refine⟨dx,lt,d,fr,k _ _ h1 (fun z q=>by cases q) (fun z q=>by cases q),k _ _ h2 (fun z q=>by cases q) (fun z q=>by cases q),⟨c,⟨kvs,k _ _ e (fun z q=>by cases q) (fun z q=>by cases q),l,fun kk i j x=>?_,z⟩⟩,⟨o,k _ _ h4 (fun z q=>by cases q) (fun z q=>by cases q)⟩⟩;obtain⟨v,ev,g⟩:=a kk i j x;refine⟨v,ev,?_⟩;cases hg:G kk i j with
 | none=>rw[hg]at g;exact g
 | some lm =>
  rw[hg]at g;obtain⟨t,p,q,e,f,n1,n2⟩:=g;exact⟨t,p,q,e,k _ _ f (fun z q=>by cases q) (fun z q=>by cases q),⟨l9 n1.at_ k,n1.b0,n1.b1,n1.b2,n1.b3,n1.p2,n1.p3⟩,⟨l9 n2.at_ k,n2.b0,n2.b1,n2.b2,n2.b3,n2.p2,n2.p3⟩⟩
theorem wv{X:Cx}(h:X.A.units<cLine)(hk:X.K=K):OpR X (compareOp .Eq) (Ep K false):=hk▸lj h
def qW:Str:="free_walk"++".<locals>."++"<lambda>"
def qF:Str:="free_fence"++".<locals>."++"<lambda>"
def laW:Expr:=jc ((aL (top 54)).getD 2 (.Pass ⟨0,0,0,0⟩)) 1
def lbW:Expr:=jc ((aL (top 54)).getD 2 (.Pass ⟨0,0,0,0⟩)) 2
def laF:Expr:=jc ((aL (top 56)).getD 1 (.Pass ⟨0,0,0,0⟩)) 1
def lbF:Expr:=jc ((aL (top 56)).getD 1 (.Pass ⟨0,0,0,0⟩)) 2
def lsW:List (Pos×Str):=[(cp laW,qW),(cp lbW,qW)]
def lsF:List (Pos×Str):=[(cp laF,qF),(cp lbF,qF)]
def GGk(G:GF):Prop:=∀k i j l h,G k i j=some (l,h)->Ej l h
inductive EG (K:W.Frag) (C t:Addr) (vs:List V) (H:Hp) (Q:VK) (x_3:XK):Prop
 | mk:∀(fo:Addr) (n m:Nat) (room:Int) (G:GF) (F:Int->Int->Bool),(vs = [.ref fo])->(Tab H t lsW)->(yZ K C H fo n m room G F)->(((1≤n∧n≤20)∧1≤m∧m≤20))->(GGk G)->((∀H',cW t H H'->Tab H' t lsW->jP n m G F->Q .non H'))->(∀r H' ps,H r=none->cW t H H'->Tab H' t lsW->nS n m G F ps->DJ H' r ps->Q (.ref r) H')->EG K C t vs H Q x_3
inductive EI (K:W.Frag) (C t:Addr) (vs:List V) (H:Hp) (Q:VK) (x_3:XK):Prop
 | mk:∀(fo:Addr) (n m:Nat) (room:Int) (G:GF) (F:Int->Int->Bool),(vs = [.ref fo])->(Tab H t lsF)->(yZ K C H fo n m room G F)->(((1≤n∧n≤20)∧1≤m∧m≤20))->(lY n m G F)->(jP n m G F)->(∀r H' ps,H r=none->cW t H H'->Tab H' t lsF->uh n m G F ps->DJ H' r ps->Q (.ref r) H')->EI K C t vs H Q x_3
theorem dM{p:Addr}{H H':Hp}{b:Addr}{ls:List (Pos×Str)}(s:cW p H H')(t:Tab H' p ls)(n:H' b=none):H b=none:=by
 cases e:H b with
 | none=>rfl
 | some o =>
  by_cases z:b=p
  ·obtain⟨ps,e1,_⟩:=t
   rw[z,e1]at n;cases n
  ·rw[s b o z e]at n
   cases n
def cE(H H':Hp):Prop:=∀b o,H b=some o->(∀ps,o≠.tbl ps)->H' b=some o
theorem cE.of{H H':Hp}(s:Same H H'):cE H H':=fun b o e _=>s b o e
theorem cE.refl(H:Hp):cE H H:=fun _ _ e _=>e
theorem cE.trans{H H1 H2:Hp}(a:cE H H1)(b:cE H1 H2):cE H H2:=fun c o e n=>b c o (a c o e n) n
theorem cE.t{H H':Hp}(s:cE H H'){b:Addr}{xs:List V}(e:H b=some (.tup xs)):H' b=some (.tup xs):=s b _ e fun ps q=>by cases q
theorem cE.l{H H':Hp}(s:cE H H'){b:Addr}{xs:List V}(e:H b=some (.lst xs)):H' b=some (.lst xs):=s b _ e fun ps q=>by cases q
theorem cE.line{H H':Hp}(s:cE H H'){l:Addr}{qs:Crn}(L:LineM H l qs):LineM H' l qs:=⟨s.l L.lst,fun q hq=>⟨s.t (L.crn q hq).1,(L.crn q hq).2⟩⟩
theorem cE.seq{H H':Hp}(s:cE H H'){l:Addr}{xs:List V}(L:SqL K H l xs):SqL K H' l xs:=by
 rcases L with(h|⟨o,h⟩)|h
 ·exact .inl (.inl (s.l h))
 ·exact .inl (.inr ⟨o,s _ _ h fun ps q=>by cases q⟩)
 ·exact .inr h
theorem cW.n{p:Addr}{H H':Hp}{ls:List (Pos×Str)}(s:cW p H H')(t:Tab H p ls):cE H H':=fun b o e n=>s.keep t e n
structure C4(H:Hp)(tw tf:Addr):Prop where
 w:Tab H tw lsW
 f:Tab H tf lsF
 ne:tw≠tf
theorem C4.same{H H':Hp}{tw tf:Addr}(t:C4 H tw tf)(s:Same H H'):C4 H' tw tf:=⟨t.w.same s,t.f.same s,t.ne⟩
theorem rH{m n:Nat}{F:Int->Int->Bool}:((lW m n F).map fun p=>ck p.1 p.2).Nodup:=by
 have nd:(lW m n F).Nodup:=by
  unfold lW lP;exact List.Pairwise.filter _ oO
 refine List.pairwise_map.mpr (List.Pairwise.imp (fun {a b} h z=>h ?_) nd);obtain⟨z1,z2⟩:=fD z;exact Prod.ext z1 z2
theorem qx{α:Type}{l:List α}{i:Nat}{e:α}(h:l.tail[i]? = some e):l.tail.take (i+1)=l.tail.take i++[e]:=by rw[List.take_add_one,h];rfl
theorem tW(xs:List V):fP xs (some 1) none=xs.tail:=by
 unfold fP;rw[show(1:Int)=((1:Nat):Int) from rfl,HT.sIx_nat,HT.sIx_none];cases xs with
 | nil=>rfl
 | cons a r =>
  rw[Nat.min_eq_left (by simp),List.take_of_length_le (by rw[List.length_drop];exact Nat.le_refl _)];rfl
theorem mC{α β:Type}{R:α->β->Prop}{l:List α}{m:List β}(h:Paired R l m):Paired R l.tail m.tail:=by
 cases h with
 | nil=>exact .nil
 | cons a r=>exact r
theorem kY{α:Type}{R:α->Pr->Prop}:∀{l:List α} {ys:List V},ys.length=l.length->(∀(i:Nat) y,ys[i]? = some y->∃q e,l[i]? = some e∧y=V.ref q.p∧R e q)->∃ps,ys=prs ps∧Paired R l ps
 | [],[],_,_=>⟨[],rfl,.nil⟩
 | e::l,y::ys,hl,h=>by
  obtain⟨q,e',h1,h2,h3⟩:=h 0 y rfl;cases h1;obtain⟨ps,h4,h5⟩:=kY (R:=R) (l:=l) (ys:=ys) (by simpa using hl) (fun i y hy=>h (i+1) y (by simpa using hy));exact⟨q::ps,by rw[h2,h4];rfl,.cons h3 h5⟩
 | [],_::_,hl,_=>by simp at hl
 | _::_,[],hl,_=>by simp at hl
theorem mo(ps:List Pr)(q:Pr):prs (ps++[q])=prs ps++[V.ref q.p]:=by unfold prs;rw[List.map_append];rfl
theorem zV:yG ["field","end","row","walk","step"] ["field"] (ap (top 54)):=smk
theorem lM{t_free_walk:Addr}(Bv:EQ K mg "free_walk" (top 54) t_free_walk)(yJ:Cv K mg "Field" C_Field)(n_last:bE K C_Field "last")(n_doors:bE K C_Field "doors")(n_far:bE K C_Field "far")(BF:uj K mg)(Cd:Fn P w K mg base "seek" ["begins","steps_from","is_end"] 5 (nY P w K mg base 3))(zX:Fn P w K mg base "steps_through" ["field","cell"] 2 (Di K C_Field))(yR:Fn P w K mg base "pair_at_corner" ["corner"] 1 Co)(AD:Fn P w K mg base "pair_within" ["field","door"] 7 (ED K C_Field))(T:Txt mg):Fn P w K mg base "free_walk" ["field"] 8 (EG K C_Field t_free_walk):=by
 refine Bv.fn zV (fun _ _ _ _ _ _ us hl=>by obtain⟨_,rfl⟩:=dA hl;rfl) (fun vs H Q E h=>?_) (fun f cdv A outer s H vs Q E CF hr h=>?_)
 ·obtain⟨fo,n,m,room,G,F,rfl,_⟩:=h
  rfl
 ·obtain⟨fo,n,m,room,G,F,rfl,tb,fa,⟨⟨hn,hn20⟩,hm,hm20⟩,gg,q0,q1⟩:=h
  obtain⟨c,ec,CF⟩:=CF;have CL_a:closureFor (cD laW) (bw CX0 P w K mg base ["field","end","row","walk","step"] "free_walk" (ap (top 54)) f cdv A outer s H E).nox.env=pure ([("field",s.heap.objs.size+1)]:List (Str×Addr)):=by rfl
  have CL_b:closureFor (cD lbW) (bw CX0 P w K mg base ["field","end","row","walk","step"] "free_walk" (ap (top 54)) f cdv A outer s H E).nox.env=pure ([("end",s.heap.objs.size+2)]:List (Str×Addr)):=by rfl
  have CM_a:(cp laW,qW)∈lsW:=List.mem_cons_self;have CM_b:(cp lbW,qW)∈lsW:=List.mem_cons_of_mem _ List.mem_cons_self;have CD_a:∀l∈lsW,l≠(cp laW,qW)->¬(l.1.line=(cp laW).line∧l.1.col=(cp laW).col):=by
   intro l hl ne;rcases List.mem_cons.mp hl with rfl|hl
   ·exact absurd rfl ne
   ·rw[List.mem_singleton.mp hl]
    decide +kernel
  have CD_b:∀l∈lsW,l≠(cp lbW,qW)->¬(l.1.line=(cp lbW).line∧l.1.col=(cp lbW).col):=by
   intro l hl ne;rcases List.mem_cons.mp hl with rfl|hl
   ·decide +kernel
   ·rw[List.mem_singleton.mp hl]at ne
    exact absurd rfl ne
  have CS:∀p∈[((s.heap.objs.size+1:Addr),0),(s.heap.objs.size+2,1)],∃y,(bw CX0 P w K mg base ["field","end","row","walk","step"] "free_walk" (ap (top 54)) f cdv A outer s H E).nox.env.cells.lookup y=some p.1∧(bw CX0 P w K mg base ["field","end","row","walk","step"] "free_walk" (ap (top 54)) f cdv A outer s H E).nox.N[p.2]? = some y∧(bw CX0 P w K mg base ["field","end","row","walk","step"] "free_walk" (ap (top 54)) f cdv A outer s H E).nox.env.kindOf y=some .cell∧Vis (bw CX0 P w K mg base ["field","end","row","walk","step"] "free_walk" (ap (top 54)) f cdv A outer s H E).nox.env.scope y:=by
   intro p hp;simp only[List.mem_cons,List.not_mem_nil,or_false]at hp;rcases hp with rfl|rfl
   ·exact⟨"field",rfl,rfl,rfl,.inr (.inl rfl)⟩
   ·exact⟨"end",rfl,rfl,rfl,.inr (.inl rfl)⟩
  refine⟨_,(ag (ax (i:=1) zV.nd rfl (Or.inr rfl) (aB (aa (ao aG (aj ai (dP (pv 0) rfl) ad (fun _ _=>rfl)) ad) (aa (ao aG (aj ai (dP (pv 0) rfl) ad (fun _ _=>rfl)) ad) af)))) (ag (aQ (cX (kZ (ow (eD hr) (aB (aa ad (aa ad af))) (dP (pv 0) rfl)) (by rfl)) (cT (kZ (ow (eD hr) (dP (pv 0) rfl) (dP (pv 0) rfl)) (by rfl)))).pt (ar (az cb)) aH) (ag (ax (i:=2) zV.nd rfl (Or.inl rfl) (sL Cd (hr.mono (by decide)) (by rfl) (fun _=>rfl) CS (aa (@bH _ _ _ _ (@aa _ _ _ _ _ (@aB _ _ _ _ _ (@aa _ _ _ _ _ ad (@aa _ _ _ _ _ ad af (by rfl)) (by rfl))) af (by rfl))) (aa (k9 CL_a ec CF BF rfl rfl CM_a CD_a) (aa (k9 CL_b ec CF BF rfl rfl CM_b CD_b) af))))) (ag (aQ (aC sN (pv 2) cb (aE _)) (ar (az cb)) aH) (ag (ax (i:=3) zV.nd rfl (Or.inl rfl) (bH (aa (aA yR (hr.mono (by decide)) (by rfl) (aa (aB (aa ad (aa ad af))) af)) af))) (ag (cO PassesOwn.never rfl (cQ (gA gq (pv 2) (gz ad) iU)) (aU (i:=4) zV.nd rfl (Or.inl rfl)) (ar (cI (fm PySem.F.plainAttrs_list PySem.F.slot_list_append PySem.F.type_list_append bP (pv 3) (aa (aA AD (hr.mono (by decide)) (by rfl) (aa (pv 0) (aa (aj ai (pv 4) ad (fun _ _=>rfl)) af))) af))))) (ag (cI (fm PySem.F.plainAttrs_list PySem.F.slot_list_append PySem.F.type_list_append bP (pv 3) (aa (aA yR (hr.mono (by decide)) (by rfl) (aa (dP (pv 0) rfl) af)) af))) (ar (az (pv 3)))))))))),?_⟩;obtain⟨dx,lt,d,fr,hf,hl,_,fd⟩:=fa.ex;have L:=SqT.of (K:=K) hl;refine⟨_,rfl,fo,C_Field,dx,_,_,rfl,hf,yJ.cls,n_last,rfl,lt,_,_,_,rfl,rfl,L,rfl,_,_,rfl,rfl,_,rfl,fo,C_Field,dx,_,_,rfl,hf,yJ.cls,n_last,rfl,lt,_,_,_,rfl,rfl,L,rfl,_,_,rfl,rfl,sz (by simp),fun le H1 s1 f1 n1=>?_⟩;refine⟨sz (by simp),fun p0 H2 s2 f2 n2=>⟨_,rfl,fo,C_Field,dx,_,_,rfl,s2 _ _ (s1 _ _ hf),yJ.cls,n_far,rfl,?_⟩⟩;have S2:=s1.trans s2;obtain⟨o,dg,ho⟩:=(fd.mono S2).get (x:=0) (y:=0) f2;refine⟨fr,o,rfl,dg,_,rfl,aY (fun h0=>?_) (fun h0=>?_)⟩
  ·rw[ho,decide_eq_true_iff]at h0
   exact q0 H2 S2.p (tb.same S2) (.inl (dR.mp h0).2.2.2.2)
  have F0:F 0 0=false:=by
   rw[ho,decide_eq_false_iff_not]at h0;cases e:F 0 0 with
   | false=>rfl
   | true=>exact absurd (dR.mpr ⟨by simp,by simp,by simp,by simp,e⟩) h0
  obtain⟨o',dg',ho'⟩:=(fd.mono S2).get (x:=(n:Int)) (y:=(m:Int)) (S2 _ _ hl);refine⟨_,rfl,fo,C_Field,dx,_,_,rfl,S2 _ _ hf,yJ.cls,n_last,rfl,_,rfl,fo,C_Field,dx,_,_,rfl,S2 _ _ hf,yJ.cls,n_far,rfl,fr,o',rfl,dg',_,rfl,aY (fun h1=>?_) (fun h1=>?_)⟩
  ·rw[ho',decide_eq_true_iff]at h1
   exact q0 H2 S2.p (tb.same S2) (.inr (.inl (dR.mp h1).2.2.2.2))
  have F1:F n m=false:=by
   rw[ho',decide_eq_false_iff_not]at h1;cases e:F n m with
   | false=>rfl
   | true=>exact absurd (dR.mpr ⟨by simp,by simp,by simp,by simp,e⟩) h1
  refine⟨sz (by simp),fun p1 H2b s2b f2b n2b=>⟨sz (by simp),fun b H3 s3 f3 n3=>?_⟩⟩;have S3:=(S2.trans s2b).trans s3;have tb3:=tb.same S3;refine⟨tb3,fun la_ H4 P4 tb4 la4 nfa=>⟨tb4,fun lb_ H5 P5 tb5 lb5 nfb=>fun H6 s6 cells=>?_⟩⟩;have kp:∀{x:Addr} {ob:HO},H3 x=some ob->(∀ps,ob≠.tbl ps)->H6 x=some ob:=fun e n=>s6 _ _ (P5.keep tb4 (P4.keep tb3 e n) n);have c1:=cells (s.heap.objs.size+1,0) List.mem_cons_self (.ref fo) rfl;have c2:=cells (s.heap.objs.size+2,1) (List.mem_cons_of_mem _ List.mem_cons_self) (.ref le) rfl;have la6:=(la4.same fun x ob e=>P5.keep tb4 e (fun ps q=>by cases q)).same fun x ob e=>s6 _ _ e;have lb6:=lb5.same fun x ob e=>s6 _ _ e;have fa6:yZ K C_Field H6 fo n m room G F:=(fa.mono S3).keep fun b o e _ h2=>kp e h2;have e6:=kp (s3 _ _ (s2b _ _ (s2 _ _ f1))) (fun ps q=>by cases q);have FN:E6 P w K mg base 3 H6 la_ lb_ (U (n - 1) (m - 1)) (je n m G) (oN n m):=by
   refine⟨la6.obj,lb6.obj,?_,?_,kf hn hm,fun s _=>rV s⟩
   ·obtain⟨pm,cc,ct,ea,ck6⟩:=la6
    have LN:DO "cell" (cD laW) [("field",s.heap.objs.size+1)]:=by
     refine⟨rfl,rfl,rfl,by decide +kernel,rfl,by rfl,?_,fun p hp=>?_,fun p hp q hq e=>?_⟩
     ·show(["cell","field"]:List Str).Nodup
      decide +kernel
     ·rw[List.mem_singleton.mp hp]
      rfl
     ·rw[List.mem_singleton.mp hp,List.mem_singleton.mp hq]
    refine⟨_,⟨_,["cell"],lz (P:=P) (w:=w) (K:=K) (mg:=mg) (base:=base) (x:="cell") (q:=qW) (params:=i8 laW) (body:=i0 laW) (scope:=cD laW) (pm:=pm) (ctv:=ct) (f:=la_) (c:=cc) (k:=2) LN (fun A2 o2 s2 H2 hr2=>aA zX (hr2.mono (by decide)) (by rfl) (aa (pv 1) (aa (pv 0) af))),.all fun us hl=>by obtain⟨_,rfl⟩:=dA hl;rfl⟩,?_⟩;intro H' v sp Q' s' hv hU k;obtain⟨x,y,rfl,b1,b2,b3,b4⟩:=eV.mp hU;obtain⟨p,rfl,hp⟩:=hv;have cs:Paired (fun (p:Str×Addr) z=>cU H' p.2 z) [("field",s.heap.objs.size+1)] [.ref fo]:=.cons (c1.mono s') .nil;have hC:=g6 cs;have CK:fR H' cc qW:=by
     obtain⟨o,vs,t,e,r⟩:=ck6;exact⟨o,vs,t,s' _ _ e,r⟩
    refine⟨.ref p,[.ref fo],rfl,s' _ _ ea,CK,cs,?_⟩;refine⟨_,rfl,_,rfl,fo,p,n,m,room,G,F,x,y,rfl,(fa6.mono s').keep fun b o e h1 _=>dj hC e h1,dj hC hp (fun z q=>by cases q),⟨b1,by omega⟩,⟨b3,by omega⟩,fun r H1 s1 nr st hC1=>?_⟩;refine k r _ (fI s1) ?_ (kj hC1 st);obtain⟨vs,er,_⟩:=st;rw[cJ fun z=>by rw[hC1 r z]at er;cases er]at nr;exact nr
   ·obtain⟨pm,cc,ct,ea,ck6⟩:=lb6
    have LN:DO "spot" (cD lbW) [("end",s.heap.objs.size+2)]:=by
     refine⟨rfl,rfl,rfl,by decide +kernel,rfl,by rfl,?_,fun p hp=>?_,fun p hp q hq e=>?_⟩
     ·show(["spot","end"]:List Str).Nodup
      decide +kernel
     ·rw[List.mem_singleton.mp hp]
      rfl
     ·rw[List.mem_singleton.mp hp,List.mem_singleton.mp hq]
    refine⟨_,⟨_,["spot"],lz (P:=P) (w:=w) (K:=K) (mg:=mg) (base:=base) (x:="spot") (q:=qW) (params:=i8 lbW) (body:=i0 lbW) (scope:=cD lbW) (pm:=pm) (ctv:=ct) (f:=lb_) (c:=cc) (k:=2) LN (fun A2 o2 s2 H2 hr2=>bY (wv hr2.units0 rfl) (pv 0) (pv 1) (aE _)),.all fun us hl=>by obtain⟨_,rfl⟩:=dA hl;rfl⟩,?_⟩;intro H' v sp Q' s' hv hU k;obtain⟨x,y,rfl,_⟩:=eV.mp hU;obtain⟨p,rfl,hp⟩:=hv;have cs:Paired (fun (p:Str×Addr) z=>cU H' p.2 z) [("end",s.heap.objs.size+2)] [.ref le]:=.cons (c2.mono s') .nil;have hC:=g6 cs;have CK:fR H' cc qW:=by
     obtain⟨o,vs,t,e,r⟩:=ck6;exact⟨o,vs,t,s' _ _ e,r⟩
    refine⟨.ref p,[.ref le],rfl,s' _ _ ea,CK,cs,?_⟩;refine⟨_,rfl,_,rfl,p,le,[x,y],[(n:Int) - 1,(m:Int) - 1],rfl,rfl,SqT.of (dj hC hp (fun z q=>by cases q)),SqT.of (dj hC (s' _ _ e6) (fun z q=>by cases q)),fun hC1=>?_⟩;have e:(if false=true then !decide ([x,y] = [(n:Int) - 1,(m:Int) - 1]) else decide ([x,y] = [(n:Int) - 1,(m:Int) - 1]))=oN n m (ck x y):=by
     rw[if_neg Bool.false_ne_true];unfold oN ck;simp
    rw[e];exact k _ (fI (Same.refl _))
  have SP5:cW t_free_walk H H5:=(S3.p.trans P4).trans P5;have u0:ck 0 0∈U (n - 1) (m - 1):=eV.mpr ⟨0,0,rfl,by simp,by simp,by simp,by simp⟩;have us:=qq (m:=n - 1) (n:=m - 1) (by omega) (by omega);refine⟨b,la_,lb_,[.ref p1],[ck 0 0],U (n - 1) (m - 1),je n m G,oN n m,rfl,kp f3 (fun ps q=>by cases q),.cons ⟨p1,rfl,kp (s3 _ _ f2b) (fun ps q=>by cases q)⟩ .nil,by simp,(fun x hx=>by rw[List.mem_singleton.mp hx];exact u0),us,FN,?_,?_⟩
  ·intro H7 s7 sh H8 k1 k2
   have S8:Same H5 H8:=fun x ob e=>k2 x ob e (s7 _ _ (s6 _ _ e));exact⟨_,rfl,rfl,_,rfl,jV (q0 H8 (SP5.trans S8.p) (tb5.same S8) (.inr (.inr sh)))⟩
  ·intro r H7 lst s7 road fnd hlen ra H8 k1 k2
   have S8:Same H5 H8:=fun x ob e=>k2 x ob e (s7 _ _ (s6 _ _ e));obtain⟨vs,hr8,pr8⟩:=pC (pV k1) ra;have vl:=Paired.length pr8;have fa8:yZ K C_Field H8 fo n m room G F:=((fa.mono S3).keep fun b o e _ h2=>P5.keep tb4 (P4.keep tb3 e h2) h2).mono S8;have tb8:=tb5.same S8;have P8:=SP5.trans S8.p;have inU:=kT road (U:=U (n - 1) (m - 1)) (fun s hs=>by rw[List.mem_singleton.mp hs];exact u0) (kf hn hm);refine⟨_,rfl,rfl,_,rfl,ig ?_⟩;refine⟨sz (by simp),fun c0 H9 s9 f9 n9=>⟨c0,0,0,rfl,f9,⟨by decide,by decide⟩,⟨by decide,by decide⟩,fun q0' H10 s10 pq0 cq0=>⟨sz (by simp),fun wl H11 s11 f11 n11=>?_⟩⟩⟩;have S11:=(s9.trans s10).trans s11;refine⟨_,rfl,_,rfl,r,_,rfl,SqL.of (S11 _ _ hr8),fun sl H12 s12 f12 n12=>?_⟩;rw[tW]at f12;have nw:sl≠wl:=fun z=>by rw[z,f11]at n12;cases n12
   have S12:=S11.trans s12;have fa12:=fa8.mono S12;have pr12:Paired (fun (e:aJ×Lb) v=>∃t sv hv,v = .ref t∧H12 t=some (.tup [sv,hv])∧bJ H12 sv e.1∧iR K H12 hv e.2) lst.tail vs.tail:=mC (Paired.mapP pr8 fun a b ⟨t,sv,hv,x1,x2,x3,x4⟩=>⟨t,sv,hv,x1,S12 _ _ x2,x3.mono S12.t,x4.mono S12.t⟩);have pl:=Paired.length pr12;have nwl8:H8 wl=none:=(s9.trans s10).free n11;have w12:H12 wl=some (.lst (prs [q0'])):=s12 _ _ f11;have hvl:vs.tail.length<900:=by rw[<- pl,List.length_tail];omega
   refine⟨sl,rfl,⟨_,SqL.of f12⟩,fw (K:=K) (a:=sl) (xs:=vs.tail) (fun i σ H'=>∃(ps':List Pr) (z4:Option V),σ = [some (.ref fo),some (.ref le),some (.ref r),some (.ref wl),z4]∧cF wl H12 H'∧H' wl=some (.lst (prs (q0'::ps')))∧Paired (fun e q=>fg G e q∧Ds H' q) (lst.tail.take i) ps')
    ⟨[],_,rfl,fun b o _ e=>e,w12,.nil⟩ (fun i σ H' _ ⟨_,_,_,b',_,_⟩=>SqL.of (b' _ _ nw f12)) ?_ ?_⟩
   ·rintro i x σ H13 hx ⟨ps',z4,rfl,b13,w13,pp13⟩
    have il:=(List.getElem?_eq_some_iff.mp hx).1;obtain⟨e,he,t,sv,hv,rfl,ht,_,hlb⟩:=aX pr12 i x hx;have noT:∀xs,H12 wl≠some (.tup xs):=fun xs z=>by rw[w12]at z;cases z
    have t13:=b13.t noT;have S13:Same H8 H13:=b13.same S12 nwl8;have hm':∃e0,lst[i]? = some e0∧lst[i+1]? = some e:=by
     rw[List.getElem?_tail]at he;have:=(List.getElem?_eq_some_iff.mp he).1;exact⟨lst[i]'(by omega),List.getElem?_eq_getElem (by omega),he⟩
    obtain⟨e0,he0,he1⟩:=hm';have hst:=road.2.1 i e0 e he0 he1;obtain⟨x0,y0,ex0,b1,b2,b3,b4⟩:=eV.mp (inU i e0 he0);rw[ex0]at hst;obtain⟨k1,k2'⟩:=List.mem_filter.mp (show e∈(dU x0 y0).filter (mD n m G) from hst);obtain⟨x1,y1,k_,i_,j_,rfl,din⟩:∃x y k i j,e=(ck x y,Lb.key (dk k i j))∧(dw n m x y=true->DIn n m k i j):=by
     unfold dU at k1;simp only[List.mem_cons,List.not_mem_nil,or_false]at k1;rcases k1 with rfl|rfl|rfl|rfl <;> exact⟨_,_,_,_,_,rfl,fun z=>by unfold dw at z;simp only[Bool.and_eq_true,decide_eq_true_eq]at z;unfold DIn;omega⟩
    have k2':(dw n m x1 y1 && (G k_ i_ j_).isSome)=true:=k2';rw[Bool.and_eq_true]at k2';obtain⟨⟨lo,hi⟩,eg⟩:=Option.isSome_iff_exists.mp k2'.2;obtain⟨pb,rfl,hb⟩:=hlb;refine⟨_,rfl,.inl ⟨rfl,_,SqL.of w13⟩,_,rfl,_,rfl,t,_,_,_,rfl,rfl,SqT.of (t13 _ _ ht),rfl,fo,pb,n,m,room,G,F,k_,i_,j_,lo,hi,rfl,fa8.mono S13,t13 _ _ hb,din k2'.1,⟨hn20,hm20⟩,eg,gg _ _ _ _ _ eg,fun q a b H14 s14 pq pf wi a0 ab lw dp=>?_⟩;have ll:=Paired.length pp13;rw[List.length_take]at ll;refine⟨wl,_,_,rfl,rfl,s14 _ _ w13,bC (by rw[de,List.length_cons];omega),fun H15 u=>?_⟩;refine⟨ps'++[q],_,rfl,fun b' o' nb e'=>u.at nb (s14 _ _ (b13 _ _ nb e')),?_,?_⟩
    ·rw[u.now,<- mo]
     rfl
    ·rw[qx he]
     exact Paired.snoc (Paired.mapP pp13 fun a b x=>⟨x.1,(x.2.t s14.t).t u.t⟩) ⟨⟨k_,i_,j_,lo,hi,a,b,rfl,eg,pf,wi,a0,ab,lw,dp⟩,pq.t u.t⟩
   ·rintro σ H13 ⟨ps',z4,rfl,b13,w13,pp13⟩
    rw[List.take_of_length_le (by omega)]at pp13;have S13:Same H8 H13:=b13.same S12 nwl8;have ll:=Paired.length pp13;obtain⟨dx',lt',d',fr',hf',hl',_,_⟩:=(fa8.mono S13).ex;refine⟨_,rfl,.inl ⟨rfl,_,SqL.of w13⟩,_,rfl,fo,C_Field,dx',_,_,rfl,hf',yJ.cls,n_last,rfl,lt',(n:Int),(m:Int),rfl,hl',⟨by omega,by omega⟩,⟨by omega,by omega⟩,fun q1' H14 s14 pq1 cq1=>?_⟩;refine⟨wl,_,_,rfl,rfl,s14 _ _ w13,bC (by rw[de,List.length_cons];omega),fun H15 u=>⟨_,rfl,?_⟩⟩;have b15:cF wl H12 H15:=fun b' o' nb e'=>u.at nb (s14 _ _ (b13 _ _ nb e'));have S15:Same H8 H15:=b15.same S12 nwl8;refine q1 wl H15 (q0'::(ps'++[q1'])) (dM P8 tb8 nwl8) (P8.trans S15.p) (tb8.same S15) ⟨F0,F1,lst,ps',q0',q1',road,fnd,⟨by omega,by omega⟩,rfl,cq0,cq1,Paired.mapP pp13 fun a b x=>x.1⟩ ⟨?_,fun q hq=>?_⟩
    ·rw[u.now,<- mo]
     rfl
    ·rcases List.mem_cons.mp hq with rfl|hq
     ·exact pq0.two.t ((s11.trans s12).t.trans (b15.t (fun xs z=>by rw[w12]at z;cases z)))
     ·rcases List.mem_append.mp hq with hq|hq
      ·obtain⟨i,hi⟩:=List.mem_iff_getElem?.mp hq
       obtain⟨e,_,h2⟩:=aX pp13 i q hi;exact(h2.2.t s14.t).t u.t
      ·rw[List.mem_singleton.mp hq]
       exact pq1.two.t u.t
theorem AN:yG ["field","begins","row"] ["field"] (ap (top 56)):=smk
theorem j5{t_free_fence:Addr}(Ba:EQ K mg "free_fence" (top 56) t_free_fence)(yJ:Cv K mg "Field" C_Field)(n_last:bE K C_Field "last")(n_doors:bE K C_Field "doors")(n_far:bE K C_Field "far")(BF:uj K mg)(Cd:Fn P w K mg base "seek" ["begins","steps_from","is_end"] 5 (nY P w K mg base 3))(AC:Fn P w K mg base "steps_along" ["field","corner"] 2 (C0 K C_Field))(Ap:Fn P w K mg base "begins_fence" ["corner","last","way"] 1 Ef)(AX:Fn P w K mg base "ends_fence" ["corner","last","way"] 1 Eb)(yR:Fn P w K mg base "pair_at_corner" ["corner"] 1 Co)(T:Txt mg):Fn P w K mg base "free_fence" ["field"] 7 (EI K C_Field t_free_fence):=by
 refine Ba.fn AN (fun _ _ _ _ _ _ us hl=>by obtain⟨_,rfl⟩:=dA hl;rfl) (fun vs H Q E h=>?_) (fun f cdv A outer s H vs Q E CF hr h=>?_)
 ·obtain⟨fo,n,m,room,G,F,rfl,_⟩:=h
  rfl
 ·obtain⟨fo,n,m,room,G,F,rfl,tb,fa,⟨⟨hn,hn20⟩,hm,hm20⟩,sf,nh,q1⟩:=h
  obtain⟨c,ec,CF⟩:=CF;have CL_a:closureFor (cD laF) (bw CX0 P w K mg base ["field","begins","row"] "free_fence" (ap (top 56)) f cdv A outer s H E).nox.env=pure ([("field",s.heap.objs.size+1)]:List (Str×Addr)):=by rfl
  have CL_b:closureFor (cD lbF) (bw CX0 P w K mg base ["field","begins","row"] "free_fence" (ap (top 56)) f cdv A outer s H E).nox.env=pure ([("field",s.heap.objs.size+1)]:List (Str×Addr)):=by rfl
  have CM_a:(cp laF,qF)∈lsF:=List.mem_cons_self;have CM_b:(cp lbF,qF)∈lsF:=List.mem_cons_of_mem _ List.mem_cons_self;have CD_a:∀l∈lsF,l≠(cp laF,qF)->¬(l.1.line=(cp laF).line∧l.1.col=(cp laF).col):=by
   intro l hl ne;rcases List.mem_cons.mp hl with rfl|hl
   ·exact absurd rfl ne
   ·rw[List.mem_singleton.mp hl]
    decide +kernel
  have CD_b:∀l∈lsF,l≠(cp lbF,qF)->¬(l.1.line=(cp lbF).line∧l.1.col=(cp lbF).col):=by
   intro l hl ne;rcases List.mem_cons.mp hl with rfl|hl
   ·decide +kernel
   ·rw[List.mem_singleton.mp hl]at ne
    exact absurd rfl ne
  have CS:∀p∈[((s.heap.objs.size+1:Addr),0)],∃y,(bw CX0 P w K mg base ["field","begins","row"] "free_fence" (ap (top 56)) f cdv A outer s H E).nox.env.cells.lookup y=some p.1∧(bw CX0 P w K mg base ["field","begins","row"] "free_fence" (ap (top 56)) f cdv A outer s H E).nox.N[p.2]? = some y∧(bw CX0 P w K mg base ["field","begins","row"] "free_fence" (ap (top 56)) f cdv A outer s H E).nox.env.kindOf y=some .cell∧Vis (bw CX0 P w K mg base ["field","begins","row"] "free_fence" (ap (top 56)) f cdv A outer s H E).nox.env.scope y:=by
   intro p hp;rw[List.mem_singleton.mp hp];exact⟨"field",rfl,rfl,rfl,.inr (.inl rfl)⟩
  have CB:BE (bw CX0 P w K mg base ["field","begins","row"] "free_fence" (ap (top 56)) f cdv A outer s H E).nox (me ((aL (top 56)).getD 0 (.Pass ⟨0,0,0,0⟩))) [("field",s.heap.objs.size+1)] ["corner"] [("field",0)] :=
   ⟨by rfl,rfl,by decide +kernel,by decide +kernel,(fun x hx=>by simp only[List.mem_cons,List.not_mem_nil,or_false]at hx;subst hx;rfl),(fun p hp=>by simp only[List.mem_cons,List.not_mem_nil,or_false]at hp;subst hp;rfl),by rfl,by decide +kernel,(fun p hp=>by simp only[List.mem_cons,List.not_mem_nil,or_false]at hp;subst hp;exact⟨rfl,rfl,.inr (.inl rfl),rfl,rfl⟩),⟨rfl,rfl⟩,rfl⟩
  have CN:Bx (bw CX0 P w K mg base ["field","begins","row"] "free_fence" (ap (top 56)) f cdv A outer s H E).nox (Sp7.retScope ((aL (top 56)).getD 2 (.Pass ⟨0,0,0,0⟩))) [] "step" [] :=
   ⟨by rfl,rfl,by decide +kernel,by decide +kernel,rfl,(fun p hp=>nomatch hp),by rfl,by decide +kernel,(fun p hp=>nomatch hp),⟨rfl,rfl⟩,rfl⟩
  refine⟨_,(ag (iA (j:=1) rfl CB AN.nd rfl rfl (uJ (dP (pv 0) rfl)) (fun fp s₀ H₀=>(aU (i:=0) CB.nd rfl (Or.inl rfl) (Or.inr rfl))) (fun fp s₀ H₀=>(kX (bo (aA Ap (hr.mono (by decide)) (by rfl) (aa (pv 0) (aa (gC (K:=K) rfl (pv 1) rfl) (aa fk af))))))) (fun fp s₀ H₀=>(pv 0))) (ag (ax (i:=2) AN.nd rfl (Or.inl rfl) (sL Cd (hr.mono (by decide)) (by rfl) (fun _=>rfl) CS (aa (pv 1) (aa (k9 CL_a ec CF BF rfl rfl CM_a CD_a) (aa (k9 CL_b ec CF BF rfl rfl CM_b CD_b) af))))) (ar (az (gD rfl CN (cQ (pv 2)) (fun fp s₀ H₀=>(aA yR (hr.mono (by decide)) (by rfl) (aa (aj (cC (K:=K) rfl) (pv 0) ad (fun _ _=>rfl)) af)))))))),?_⟩;obtain⟨dx,lt,d,fr,hf,hl,_,fd⟩:=fa.ex;obtain⟨o,ed⟩:=id fd;refine⟨_,rfl,fo,C_Field,dx,_,_,rfl,hf,yJ.cls,n_far,rfl,fr,o,_,rfl,ed,oQ (k:=1) ed (by unfold kvF;rw[List.length_map];have:=tP (F:=F) hn20 hm20;omega) (xz fun p=>decide (p.2=m) || decide (p.1=0)) (fun e y H'=>bJ H' y e.1) (fun e v H H' st h=>h.mono st) ?_ ?_⟩
  ·intro k e b H2 τ Kc Kn he hb s2 hτ kc kn
   obtain⟨τ0,rfl⟩:∃τ0,τ = [τ0]:=dA hτ;have he':=List.mem_of_getElem? he;unfold kvF at he';obtain⟨p,hp,rfl⟩:=List.mem_map.mp he';obtain⟨x,y⟩:=p;refine⟨⟨[some (.ref b)],rfl,rfl⟩,?_⟩;refine⟨_,rfl,_,rfl,fo,C_Field,dx,_,_,rfl,s2 _ _ hf,yJ.cls,n_last,rfl,b,lt,x,y,n,m,rfl,hb,s2 _ _ hl,_,rfl,aY (fun h=>?_) (fun h=>kn h H2 (Same.refl _))⟩;exact⟨_,rfl,kc h _ H2 (Same.refl _) ⟨b,rfl,hb⟩⟩
  intro bl bvs H3 nb S3 f3 prb;rw[jx]at prb;have pb3:Paired (fun s v=>bJ H3 v s) ((lW n m F).map fun p=>ck p.1 p.2) bvs:=gE (jt (f:=fun (p:Int×Int)=>(ck p.1 p.2,V.bl true)) prb);have tb3:=tb.same S3;refine⟨_,rfl,tb3,fun la_ H4 P4 tb4 la4 nfa=>⟨tb4,fun lb_ H5 P5 tb5 lb5 nfb=>fun H6 s6 cells=>?_⟩⟩;have kp:∀{x:Addr} {ob:HO},H3 x=some ob->(∀ps,ob≠.tbl ps)->H6 x=some ob:=fun e n=>s6 _ _ (P5.keep tb4 (P4.keep tb3 e n) n);have c1:=cells (s.heap.objs.size+1,0) List.mem_cons_self (.ref fo) rfl;have la6:=(la4.same fun x ob e=>P5.keep tb4 e (fun ps q=>by cases q)).same fun x ob e=>s6 _ _ e;have lb6:=lb5.same fun x ob e=>s6 _ _ e;have fa6:yZ K C_Field H6 fo n m room G F:=(fa.mono S3).keep fun b o e _ h2=>kp e h2;have bU:∀s∈(lW n m F).map fun p=>ck p.1 p.2,s∈U n m:=fun s hs=>by
   obtain⟨p,hp,rfl⟩:=List.mem_map.mp hs;obtain⟨g1,g2,g3,g4,_⟩:=dR.mp (List.mem_filter.mp hp).1;exact eV.mpr ⟨_,_,rfl,g1,g2,g3,g4⟩
  have FN:E6 P w K mg base 3 H6 la_ lb_ (U n m) (fG n m G) (rz n):=by
   refine⟨la6.obj,lb6.obj,?_,?_,jN,fun s _=>rL s⟩
   ·obtain⟨pm,cc,ct,ea,ck6⟩:=la6
    have LN:DO "corner" (cD laF) [("field",s.heap.objs.size+1)]:=by
     refine⟨rfl,rfl,rfl,by decide +kernel,rfl,by rfl,?_,fun p hp=>?_,fun p hp q hq e=>?_⟩
     ·show(["corner","field"]:List Str).Nodup
      decide +kernel
     ·rw[List.mem_singleton.mp hp]
      rfl
     ·rw[List.mem_singleton.mp hp,List.mem_singleton.mp hq]
    refine⟨_,⟨_,["corner"],lz (P:=P) (w:=w) (K:=K) (mg:=mg) (base:=base) (x:="corner") (q:=qF) (params:=i8 laF) (body:=i0 laF) (scope:=cD laF) (pm:=pm) (ctv:=ct) (f:=la_) (c:=cc) (k:=2) LN (fun A2 o2 s2 H2 hr2=>aA AC (hr2.mono (by decide)) (by rfl) (aa (pv 1) (aa (pv 0) af))),.all fun us hl=>by obtain⟨_,rfl⟩:=dA hl;rfl⟩,?_⟩;intro H' v sp Q' s' hv hU k;obtain⟨x,y,rfl,b1,b2,b3,b4⟩:=eV.mp hU;obtain⟨p,rfl,hp⟩:=hv;have cs:Paired (fun (p:Str×Addr) z=>cU H' p.2 z) [("field",s.heap.objs.size+1)] [.ref fo]:=.cons (c1.mono s') .nil;have hC:=g6 cs;have CK:fR H' cc qF:=by
     obtain⟨o,vs,t,e,r⟩:=ck6;exact⟨o,vs,t,s' _ _ e,r⟩
    refine⟨.ref p,[.ref fo],rfl,s' _ _ ea,CK,cs,?_⟩;refine⟨_,rfl,_,rfl,fo,p,n,m,room,G,F,x,y,rfl,(fa6.mono s').keep fun b o e h1 _=>dj hC e h1,dj hC hp (fun z q=>by cases q),fun r H1 s1 nr st hC1=>?_⟩;refine k r _ (fI s1) ?_ (kj hC1 st);obtain⟨vs,er,_⟩:=st;rw[cJ fun z=>by rw[hC1 r z]at er;cases er]at nr;exact nr
   ·obtain⟨pm,cc,ct,ea,ck6⟩:=lb6
    have LN:DO "spot" (cD lbF) [("field",s.heap.objs.size+1)]:=by
     refine⟨rfl,rfl,rfl,by decide +kernel,rfl,by rfl,?_,fun p hp=>?_,fun p hp q hq e=>?_⟩
     ·show(["spot","field"]:List Str).Nodup
      decide +kernel
     ·rw[List.mem_singleton.mp hp]
      rfl
     ·rw[List.mem_singleton.mp hp,List.mem_singleton.mp hq]
    refine⟨_,⟨_,["spot"],lz (P:=P) (w:=w) (K:=K) (mg:=mg) (base:=base) (x:="spot") (q:=qF) (params:=i8 lbF) (body:=i0 lbF) (scope:=cD lbF) (pm:=pm) (ctv:=ct) (f:=lb_) (c:=cc) (k:=2) LN (fun A2 o2 s2 H2 hr2=>aA AX (hr2.mono (by decide)) (by rfl) (aa (pv 0) (aa (gC (K:=K) rfl (pv 1) rfl) (aa fk af)))),.all fun us hl=>by obtain⟨_,rfl⟩:=dA hl;rfl⟩,?_⟩;intro H' v sp Q' s' hv hU k;obtain⟨x,y,rfl,_⟩:=eV.mp hU;obtain⟨p,rfl,hp⟩:=hv;have cs:Paired (fun (p:Str×Addr) z=>cU H' p.2 z) [("field",s.heap.objs.size+1)] [.ref fo]:=.cons (c1.mono s') .nil;have hC:=g6 cs;have CK:fR H' cc qF:=by
     obtain⟨o,vs,t,e,r⟩:=ck6;exact⟨o,vs,t,s' _ _ e,r⟩
    obtain⟨dx',lt',d',fr',hf',hl',_,_⟩:=(fa6.mono s').ex;refine⟨.ref p,[.ref fo],rfl,s' _ _ ea,CK,cs,?_⟩;exact⟨_,rfl,_,rfl,fo,C_Field,dx',_,_,rfl,dj hC hf' (fun z q=>by cases q),yJ.cls,n_last,rfl,p,lt',x,y,n,m,rfl,dj hC hp (fun z q=>by cases q),dj hC hl' (fun z q=>by cases q),fun hC1=>k _ (fI (Same.refl _))⟩
  have SP5:cW t_free_fence H H5:=(S3.p.trans P4).trans P5;have pb6:Paired (fun s v=>bJ H6 v s) ((lW n m F).map fun p=>ck p.1 p.2) bvs:=Paired.mapP pb3 fun a b ⟨p,e1,e2⟩=>⟨p,e1,kp e2 (fun ps q=>by cases q)⟩;have us:=qq hn20 hm20;refine⟨bl,la_,lb_,bvs,_,U n m,fG n m G,rz n,rfl,kp f3 (fun ps q=>by cases q),pb6,rH,bU,us,FN,?_,?_⟩
  ·intro H7 s7 sh
   exact(oH hn hm sf nh sh).elim
  ·intro r H7 lst s7 road fnd hlen ra H8 k1 k2
   have S8:Same H5 H8:=fun x ob e=>k2 x ob e (s7 _ _ (s6 _ _ e));obtain⟨vs,hr8,pr8⟩:=pC (pV k1) ra;have vl:=Paired.length pr8;have inU:=kT road (U:=U n m) bU jN;refine⟨_,rfl,r,rfl,⟨_,SqL.of hr8⟩,lQ (K:=K) (SqL.of hr8) (by omega) (fun i v H'=>∃q e,lst[i]? = some e∧v=V.ref q.p∧(PrAt H' q∧prC q (dec e.1))) (fun i v H H' st h=>by obtain⟨q,e,x1,x2,x3,x4⟩:=h;exact⟨q,e,x1,x2,x3.t st,x4⟩) ?_ ?_⟩
   ·intro i x H9 Kc hx s9 kc
    obtain⟨e,he,t,sv,hv,rfl,ht,⟨c,rfl,hc⟩,_⟩:=aX pr8 i x hx;obtain⟨x,y,ex,g1,g2,g3,g4⟩:=eV.mp (inU i e he);rw[ex]at hc;refine⟨_,rfl,t,_,_,_,rfl,rfl,SqT.of (s9 _ _ ht),rfl,c,x,y,rfl,s9 _ _ hc,⟨g1,by omega⟩,⟨g3,by omega⟩,fun q H10 s10 pq cq=>kc _ H10 s10 ⟨q,e,he,rfl,pq,?_⟩⟩;rw[ex];exact cq
   ·intro lr ys H9 nl s9 f9 hlen9 hr9
    obtain⟨ps,rfl,hp⟩:=kY (R:=fun (e:aJ×Lb) q=>PrAt H9 q∧prC q (dec e.1)) (l:=lst) (ys:=ys) (by omega) hr9;exact q1 lr H9 ps (dM (SP5.trans S8.p) (tb5.same S8) nl) ((SP5.trans S8.p).trans s9.p) (tb5.same (S8.trans s9)) ⟨nh,lst,road,fnd,⟨by omega,by omega⟩,Paired.mapP hp fun a b x=>x.2⟩ ⟨f9,fun q hq=>by
     obtain⟨i,hi⟩:=List.mem_iff_getElem?.mp hq;obtain⟨e,_,h2⟩:=aX hp i q hi;exact h2.1.two⟩
def onB(n1:Bool)(a b a' b':Int):Prop:=if n1=true then a'=0∧b'=1 else a'=a∧b'=b
inductive D0 (vs:List V) (H:Hp) (Q:VK) (x_3:XK):Prop
 | mk:∀(l p:Addr) (qs:Crn) (a b:Int),(vs = [.ref l,.ref p])->(LineM H l qs)->((Ek H p a b 1500∧0≤a))->(∀(r:Addr) (a' b':Int) (H':Hp),Same H H'->Ek H' r a' b' 1500->0≤a'->onB (decide (qs.length=1)) a b a' b'->Q (.ref r) H')->D0 vs H Q x_3
def qJ(o1 o2:Bool)(q q':Pr):Prop:=onB o1 q.a q.b q'.a q'.b∧onB o2 q.c q.d q'.c q'.d
inductive CV (vs:List V) (H:Hp) (Q:VK) (x_3:XK):Prop
 | mk:∀(l1 l2 l:Addr) (qs rs:Crn) (ps:List Pr),(vs = [.ref l1,.ref l2,.ref l])->(LineM H l1 qs)->(LineM H l2 rs)->(DJ H l ps)->(ps.length<990)->(∀(r:Addr) (ps':List Pr) (H':Hp),H r=none->Same H H'->DJ H' r ps'->Paired (qJ (decide (qs.length=1)) (decide (rs.length=1))) ps ps'->Q (.ref r) H')->CV vs H Q x_3
def GoF(qs rs:Crn)(a b:Int)(wk:Bool)(ps':List Pr):Prop:=∃ps,Paired (qJ (decide (qs.length=1)) (decide (rs.length=1))) ps ps'∧(if wk=true then nS (aO qs) (aO rs) (dh (dbl qs) (dbl rs) a b 0) (fZ (dbl qs) (dbl rs) a b 0) ps else uh (aO qs) (aO rs) (dh (dbl qs) (dbl rs) a b 0) (fZ (dbl qs) (dbl rs) a b 0) ps)
inductive D3 (C tw tf:Addr) (vs:List V) (H:Hp) (Q:VK) (E:XK):Prop
 | mk:∀(l1 l2:Addr) (qs rs:Crn) (x:V),(vs = [.ref l1,.ref l2,x])->(LineM H l1 qs)->(LineM H l2 rs)->((1≤qs.length∧qs.length≤10))->((1≤rs.length∧rs.length≤10))->(Dd H x)->(((sqV H x=false∧E (.ref C) none H)∨(sqV H x=true∧∃(p:Addr) (a b:Int),x = .ref p∧(Sq H p a b∧0<b∧0≤a)∧C4 H tw tf∧∀(t r:Addr) (H':Hp) (ps:List Pr) (wk:Bool),H r=none->H t=none->t≠r->cE H H'->C4 H' tw tf->DJ H' r ps->H' t=some (.tup [.str (if wk=true then "walk" else "fence"),.ref r])->GoF qs rs a b wk ps->Q (.ref t) H')))->D3 C tw tf vs H Q E
theorem rf{n m:Nat}{G:GF}{F:Int->Int->Bool}{ps:List Pr}(h:nS n m G F ps):ps.length<990:=by
 obtain⟨_,_,l,ps',q0,q1,_,_,hl,rfl,_,_,pp⟩:=h;have:=Paired.length pp;rw[List.length_tail]at this;simp;omega
theorem rh{n m:Nat}{G:GF}{F:Int->Int->Bool}{ps:List Pr}(h:uh n m G F ps):ps.length<990:=by
 obtain⟨_,l,_,_,hl,pp⟩:=h;have:=Paired.length pp;omega
theorem mW{qs rs:Crn}{a b room:Int}(hr:room=0∨room=1)(hb:0<b):GGk (dh qs rs a b room):=by
 intro k i j l h e;unfold dh at e
 split at e
 ·exact tF hr hb e
 ·exact tF hr hb e
theorem wD{x y x' y' a b:Int}:lo x y x' y' a b<0↔a<((x' - x)*(x' - x)+(y' - y)*(y' - y))*b:=by
 unfold lo;have:=(ki (x:=a - ((x' - x)*(x' - x)+(y' - y)*(y' - y))*b)).1;omega
theorem jI{qs rs:Crn}{a b:Int}{i j:Int}(hi:0≤i∧i<(qs.length:Int))(hj:0≤j∧j<(rs.length:Int)):fZ qs rs a b 0 i j=decide (a<((cnX rs j - cnX qs i)*(cnX rs j - cnX qs i)+(cnY rs j - cnY qs i)*(cnY rs j - cnY qs i))*b):=by
 have hi':i.toNat<qs.length:=by omega
 have hj':j.toNat<rs.length:=by omega
 have e1:qs[i.toNat]? = some (qs.getD i.toNat (0,0,0)):=by rw[List.getD_eq_getElem?_getD,List.getElem?_eq_getElem hi'];rfl
 have e2:rs[j.toNat]? = some (rs.getD j.toNat (0,0,0)):=by rw[List.getD_eq_getElem?_getD,List.getElem?_eq_getElem hj'];rfl
 unfold fZ;rw[e1,e2];dsimp only;have:=wD (x:=cnX qs i) (y:=cnY qs i) (x':=cnX rs j) (y':=cnY rs j) (a:=a) (b:=b)
 by_cases h:a<((cnX rs j - cnX qs i)*(cnX rs j - cnX qs i)+(cnY rs j - cnY qs i)*(cnY rs j - cnY qs i))*b
 ·rw[decide_eq_true h]
  exact decide_eq_true (this.mpr h)
 ·rw[decide_eq_false h]
  exact decide_eq_false (fun z=>h (this.mp z))
theorem fh{cx cy bx by_ ex ey x y t u:Int}(hy:0<y)(h:cR cx cy bx by_ ex ey x y 0=none)(t0:0≤t)(tu:t≤u)(hu:0<u):x*(u*u)<wth cx cy bx by_ ex ey t u*y:=by
 have g:=(ii (cx:=cx) (cy:=cy) (bx:=bx) (by_:=by_) (ex:=ex) (ey:=ey) (x:=x) hy t0 tu hu).1;rw[h]at g;have g:false=decide (wth cx cy bx by_ ex ey t u*y≤x*(u*u)):=g;have:=of_decide_eq_false g.symm;omega
theorem kH{qs rs:Crn}{a b:Int}(hb:0<b)(hq:2≤(dbl qs).length)(hr:2≤(dbl rs).length):lY (aO qs) (aO rs) (dh (dbl qs) (dbl rs) a b 0) (fZ (dbl qs) (dbl rs) a b 0):=by
 have e1:((aO qs:Nat):Int)=((dbl qs).length:Int) - 1:=by unfold aO;omega
 have e2:((aO rs:Nat):Int)=((dbl rs).length:Int) - 1:=by unfold aO;omega
 generalize dbl qs=qs' at *;generalize dbl rs=rs' at *;have w0:∀cx cy bx by_ ex ey:Int,wth cx cy bx by_ ex ey 0 1=(bx - cx)*(bx - cx)+(by_ - cy)*(by_ - cy):=fun cx cy bx by_ ex ey=>by unfold wth;grind
 have w1:∀cx cy bx by_ ex ey:Int,wth cx cy bx by_ ex ey 1 1=(ex - cx)*(ex - cx)+(ey - cy)*(ey - cy):=fun cx cy bx by_ ex ey=>by unfold wth a8 rAl;grind
 refine⟨fun i j hi hj hg=>?_,fun i j hi hj hg=>?_⟩
 ·have hg:cR (cnX qs' i) (cnY qs' i) (cnX rs' j) (cnY rs' j) (cnX rs' (j+1)) (cnY rs' (j+1)) a b 0=none:=hg
  have a0:=fh (t:=0) (u:=1) hb hg (by decide) (by decide) (by decide);have a1:=fh (t:=1) (u:=1) hb hg (by decide) (by decide) (by decide);rw[w0]at a0;rw[w1]at a1;rw[jI (by omega) (by omega),jI (by omega) (by omega)];exact⟨decide_eq_true (by omega),decide_eq_true (by omega)⟩
 ·have hg:cR (cnX rs' j) (cnY rs' j) (cnX qs' i) (cnY qs' i) (cnX qs' (i+1)) (cnY qs' (i+1)) a b 0=none:=hg
  have a0:=fh (t:=0) (u:=1) hb hg (by decide) (by decide) (by decide);have a1:=fh (t:=1) (u:=1) hb hg (by decide) (by decide) (by decide);rw[w0]at a0;rw[w1]at a1;rw[jI (by omega) (by omega),jI (by omega) (by omega)];refine⟨decide_eq_true ?_,decide_eq_true ?_⟩
  ·rw[show(cnX rs' j - cnX qs' i)*(cnX rs' j - cnX qs' i)+(cnY rs' j - cnY qs' i)*(cnY rs' j - cnY qs' i)=(cnX qs' i - cnX rs' j)*(cnX qs' i - cnX rs' j)+(cnY qs' i - cnY rs' j)*(cnY qs' i - cnY rs' j) by grind]
   omega
  ·rw[show(cnX rs' j - cnX qs' (i+1))*(cnX rs' j - cnX qs' (i+1))+(cnY rs' j - cnY qs' (i+1))*(cnY rs' j - cnY qs' (i+1))=(cnX qs' (i+1) - cnX rs' j)*(cnX qs' (i+1) - cnX rs' j)+(cnY qs' (i+1) - cnY rs' j)*(cnY qs' (i+1) - cnY rs' j) by grind]
   omega
theorem Dn:yG ["line","place"] ["line","place"] (ap (top 45)):=smk
theorem mZ(BN:Df K mg "place_on" (top 45))(T:Txt mg):Fn P w K mg base "place_on" ["line","place"] 1 D0:=by
 refine BN.fn Dn (fun _ _ _ _ _ _ us hl=>by obtain⟨_,_,rfl⟩:=dF hl;rfl) (fun vs H Q E h=>?_) (fun f cdv A outer s H vs Q E hr h=>?_)
 ·obtain⟨l,p,qs,a,b,rfl,_⟩:=h
  rfl
 ·obtain⟨l,p,qs,a,b,rfl,L,⟨fr,a0⟩,k⟩:=h
  refine⟨_,(ar (az (gB (aC bR (aF aI (by rfl) T.z_len bD (aa (pv 0) af)) ad (aE _)) (aB (aa ad (aa ad af))) (pv 1)))),?_⟩;have hll:(qs.map fun (q:Addr×Int×Int)=>V.ref q.1).length=qs.length:=List.length_map _;unfold onB at k;refine⟨_,rfl,l,_,rfl,.inl (SqL.of L.lst),rfl,_,rfl,?_⟩;rw[hll,di];refine aY (fun c=>?_) (fun c=>?_)
  ·have c:qs.length=1:=by have:((qs.length:Nat):Int)=1:=cV c;omega
   rw[decide_eq_true c]at k;exact⟨sz (by simp),fun r H1 s1 f1 _=>k r 0 1 H1 s1 ⟨f1,⟨by decide,by decide⟩,by decide,by decide⟩ (by decide) ⟨rfl,rfl⟩⟩
  ·have c:¬qs.length=1:=fun z=>du c (by rw[z];rfl)
   rw[decide_eq_false c]at k;exact⟨_,rfl,k p a b H (Same.refl _) fr a0 ⟨rfl,rfl⟩⟩
theorem Do:yG ["one","other","pairs"] ["one","other","pairs"] (ap (top 46)):=smk
theorem m6(BO:Df K mg "pairs_on" (top 46))(AS:Fn P w K mg base "place_on" ["line","place"] 1 D0)(T:Txt mg):Fn P w K mg base "pairs_on" ["one","other","pairs"] 2 CV:=by
 refine BO.fn Do (fun _ _ _ _ _ _ us hl=>by obtain⟨_,_,_,rfl⟩:=gL hl;rfl) (fun vs H Q E h=>?_) (fun f cdv A outer s H vs Q E hr h=>?_)
 ·obtain⟨l1,l2,l,qs,rs,ps,rfl,_⟩:=h
  rfl
 ·obtain⟨l1,l2,l,qs,rs,ps,rfl,L1,L2,PP,hlen,k⟩:=h
  have CN:Bx (bw CX0 P w K mg base ["one","other","pairs"] "pairs_on" (ap (top 46)) f cdv A outer s H E).nox (Sp7.retScope ((aL (top 46)).getD 0 (.Pass ⟨0,0,0,0⟩))) [("other",s.heap.objs.size+2),("one",s.heap.objs.size+1)] "pair" [("one",0),("other",1)] :=
   ⟨by rfl,rfl,by decide +kernel,by decide +kernel,rfl,(fun p hp=>by simp only[List.mem_cons,List.not_mem_nil,or_false]at hp;rcases hp with rfl|rfl <;> rfl),by rfl,by decide +kernel,(fun p hp=>by simp only[List.mem_cons,List.not_mem_nil,or_false]at hp;rcases hp with rfl|rfl <;> exact⟨rfl,rfl,.inr (.inl rfl),rfl,rfl⟩),⟨rfl,rfl⟩,rfl⟩
  refine⟨_,(ar (az (gD rfl CN (cQ (pv 2)) (fun fp s₀ H₀=>(aB (aa (aA AS (hr.mono (by decide)) (by rfl) (aa (pv 1) (aa (aj (cC (K:=K) rfl) (pv 0) ad (fun _ _=>rfl)) af))) (aa (aA AS (hr.mono (by decide)) (by rfl) (aa (pv 2) (aa (aj (cC (K:=K) rfl) (pv 0) ad (fun _ _=>rfl)) af))) af))))))),?_⟩;refine⟨_,rfl,l,rfl,⟨_,SqL.of PP.lst⟩,lQ (SqL.of PP.lst) (by rw[de];omega) (fun i v H'=>∃(q':Pr) (q:Pr),ps[i]? = some q∧v = .ref q'.p∧(Ds H' q'∧qJ (decide (qs.length=1)) (decide (rs.length=1)) q q')) (fun i v H H' st ⟨q',q,x1,x2,x3,x4⟩=>⟨q',q,x1,x2,x3.t st,x4⟩) ?_ ?_⟩
  ·intro i x H2 Kc hx s2 kk
   obtain⟨q,hq,rfl⟩:=gy hx;have mq:=List.mem_of_getElem? hq;have pq:=(PP.pr q mq).t s2.t;have T:=fun {H':Hp} (s:Same H2 H')=>SqT.of (K:=K) (s _ _ pq.p_);refine⟨_,rfl,_,rfl,q.p,_,_,_,rfl,rfl,T (Same.refl _),rfl,l1,q.x,qs,q.a,q.b,rfl,L1.mono s2,⟨⟨pq.x_,pq.lx,pq.ba,pq.bb⟩,pq.nx⟩,fun r1 a' b' H3 s3 f3 a0 o1=>?_⟩;refine⟨_,rfl,_,rfl,q.p,_,_,_,rfl,rfl,T s3,rfl,l2,q.y,rs,q.c,q.d,rfl,L2.mono (s2.trans s3),⟨⟨s3 _ _ pq.y_,pq.ly,pq.bc,pq.bd⟩,pq.ny⟩,fun r2 c' d' H4 s4 f4 c0 o2=>⟨sz (by simp),fun o H5 s5 f5 n5=>?_⟩⟩;have g3:=(f3.mono s4).mono s5;have g4:=f4.mono s5;exact kk _ H5 ((s3.trans s4).trans s5) ⟨⟨o,r1,r2,a',b',c',d'⟩,q,hq,rfl,⟨f5,g3.at_,g4.at_,g3.low,g4.low,a0,c0,g3.ba,g3.bb,g4.ba,g4.bb⟩,o1,o2⟩
  ·intro lr ys H9 nl s9 f9 hly hr
   rw[de]at hly;obtain⟨ps',rfl,hp⟩:=kY (R:=fun q q'=>Ds H9 q'∧qJ (decide (qs.length=1)) (decide (rs.length=1)) q q') (l:=ps) (ys:=ys) hly (fun i y hy=>let ⟨q',q,h1,h2,h3⟩:=hr i y hy;⟨q',q,h1,h2,h3⟩);exact k lr ps' H9 nl s9 ⟨f9,fun q hq=>by
    obtain⟨i,hi⟩:=List.mem_iff_getElem?.mp hq;obtain⟨e,_,h2⟩:=aX hp i q hi;exact h2.1⟩ (Paired.mapP hp fun a b x=>x.2)
theorem Cc:yG ["one","other","square","field","walk"] ["one","other","square"] (ap (top 57)):=smk
theorem oM{C_NoSquare t_free_walk t_free_fence:Addr}(Ci:Df K mg "go_free" (top 57))(yJ:Cv K mg "Field" C_Field)(zI:Fx P w K mg base "look_at_square" ["square"] 3 [] (CW C_NoSquare))(Aq:Mt P w K mg base C_Field "__init__" ["self","one","other","square","room"] 7 (Cq K C_Field))(Bm:Fn P w K mg base "free_walk" ["field"] 8 (EG K C_Field t_free_walk))(AW:Fn P w K mg base "free_fence" ["field"] 7 (EI K C_Field t_free_fence))(AT:Fn P w K mg base "pairs_on" ["one","other","pairs"] 2 CV):Fx P w K mg base "go_free" ["one","other","square"] 9 [] (D3 C_NoSquare t_free_walk t_free_fence):=by
 refine Ci.fx Cc (fun _ _ _ _ _ _ us hl=>by obtain⟨_,_,_,rfl⟩:=gL hl;rfl) (fun vs H Q E h=>?_) (fun f cdv A outer s H vs Q E hr h=>?_)
 ·obtain⟨l1,l2,qs,rs,x,rfl,_⟩:=h
  rfl
 ·obtain⟨l1,l2,qs,rs,x,rfl,L1,L2',b1,b2,th,q⟩:=h
  refine⟨_,(ag (cI (sK zI (hr.mono (by decide)) (by rfl) (aa (pv 2) af))) (ag (wj (ax (i:=3) Cc.nd rfl (Or.inl rfl) (xH yJ Aq (hr.mono (by decide)) (by rfl) (aa (pv 0) (aa (pv 1) (aa (pv 2) (aa ad af))))))) (ag (ax (i:=4) Cc.nd rfl (Or.inl rfl) (aA Bm (hr.mono (by decide)) (by rfl) (aa (pv 3) af))) (ag (aQ (aC gF (pv 4) cb (aE _)) (ar (az (aB (aa fk (aa (aA AT (hr.mono (by decide)) (by rfl) (aa (pv 0) (aa (pv 1) (aa (pv 4) af)))) af))))) aH) (ar (az (aB (aa fk (aa (aA AT (hr.mono (by decide)) (by rfl) (aa (pv 0) (aa (pv 1) (aa (aA AW (hr.mono (by decide)) (by rfl) (aa (pv 3) af)) af)))) af))))))))),?_⟩;rcases q with⟨sv,qe⟩|⟨sv,p,a,b,rfl,⟨sq,hb,ha⟩,tb,q⟩
  ·exact⟨_,rfl,x,rfl,th,fun _=>qe,fun z=>by rw[sv]at z;cases z⟩
  refine⟨_,rfl,.ref p,rfl,th,(fun z=>by rw[sv]at z;cases z),fun _=>?_⟩;have d1:=dZ b1;have d2:=dZ b2;have ln:(1≤aO qs∧aO qs≤20)∧1≤aO rs∧aO rs≤20:=by unfold aO;omega
  refine⟨_,rfl,_,rfl,_,rfl,fun fo dx nf nd ne=>?_⟩;have sX:Same H (upd (upd H dx (.own fo)) fo (.ins C_Field dx [])):=(Same.new nd).trans (Same.new (by rw[aN (fun z=>ne z.symm)];exact nf));refine⟨fo,dx,l1,l2,p,qs,rs,a,b,0,rfl,upd_same,L1.mono sX,L2'.mono sX,b1,b2,⟨sq.mono sX,hb⟩,.inl rfl,fun H2 bt fa=>⟨rfl,?_⟩⟩;have S2:Same H H2:=fun c o e=>bt c o (fun z=>by rw[z,nf]at e;cases e) (sX c o e);have tb2:=tb.same S2;have gg:GGk (dh (dbl qs) (dbl rs) a b 0):=mW (.inl rfl) hb;refine⟨_,rfl,fo,aO qs,aO rs,0,_,_,rfl,tb2.w,fa,ln,gg,fun H3 P3 tb3 nh=>?_,fun r H3 ps nr P3 tb3 hw pp=>?_⟩
  ·have N3:=cW.n P3 tb2.w
   have tf3:Tab H3 t_free_fence lsF:=by
    obtain⟨ps,ew,_⟩:=id tb2.w;exact tb2.f.other ew (fun z=>tb2.ne z.symm) P3
   refine⟨_,rfl,rfl,_,rfl,ig ?_⟩;refine⟨_,rfl,_,rfl,_,rfl,fo,aO qs,aO rs,0,_,_,rfl,tf3,fa.keep fun b o e _ h2=>N3 b o e h2,ln,kH hb (by omega) (by omega),nh,fun r H4 ps nr P4 tb4 hf pp=>?_⟩;have N4:=((cE.of S2).trans N3).trans (cW.n P4 tf3);have tw4:Tab H4 t_free_walk lsW:=by
    obtain⟨ps,ew,_⟩:=id tf3;exact tb3.other ew tb2.ne P4
   refine⟨l1,l2,r,qs,rs,ps,rfl,N4.line L1,N4.line L2',pp,rh hf,fun r' ps' H5 nr' s5 pp' on=>⟨sz (by simp),fun t H6 s6 f6 n6=>?_⟩⟩;have fr:∀{x:Addr},H4 x=none->H x=none:=fun h=>S2.free (dM P3 tb3 (dM P4 tb4 h));have S6:=s5.trans s6;exact q t r' H6 ps' false (fr nr') (fr (s5.free n6)) (fun z=>by rw[z,pp'.lst]at n6;cases n6) (N4.trans (cE.of S6)) ⟨tw4.same S6,tb4.same S6,tb2.ne⟩ (pp'.mono s6) f6 ⟨ps,on,hf⟩
  ·refine⟨_,rfl,rfl,_,rfl,jV ?_⟩
   have N3:=(cE.of S2).trans (cW.n P3 tb2.w);have tf3:Tab H3 t_free_fence lsF:=by
    obtain⟨ps,ew,_⟩:=id tb2.w;exact tb2.f.other ew (fun z=>tb2.ne z.symm) P3
   refine⟨_,rfl,_,rfl,_,rfl,l1,l2,r,qs,rs,ps,rfl,N3.line L1,N3.line L2',pp,rf hw,fun r' ps' H4 nr' s4 pp' on=>⟨sz (by simp),fun t H5 s5 f5 n5=>?_⟩⟩;have fr:∀{x:Addr},H3 x=none->H x=none:=fun h=>S2.free (dM P3 tb3 h);have S5:=s4.trans s5;exact q t r' H5 ps' true (fr nr') (fr (s4.free n5)) (fun z=>by rw[z,pp'.lst]at n5;cases n5) (N3.trans (cE.of S5)) ⟨tb3.same S5,tf3.same S5,tb2.ne⟩ (pp'.mono s5) f5 ⟨ps,on,hw⟩
structure Pl(p:Addr)(H H':Hp):Prop where
 oth:∀b o,b≠p->H b=some o->H' b=some o
 was:∃n:Int,H p=some (.lst [.int n])
 now:∃n:Int,H' p=some (.lst [.int n])
theorem Pl.refl{p:Addr}{H:Hp}{n:Int}(h:H p=some (.lst [.int n])):Pl p H H:=⟨fun _ _ _ e=>e,⟨n,h⟩,⟨n,h⟩⟩
theorem Pl.trans{p:Addr}{H H1 H2:Hp}(a:Pl p H H1)(b:Pl p H1 H2):Pl p H H2:=⟨fun c o n e=>b.oth c o n (a.oth c o n e),a.was,b.now⟩
theorem Pl.same{p:Addr}{H0 H H':Hp}(a:Pl p H H')(s:Same H0 H)(h:H0 p=none):Same H0 H':=fun b o e=>a.oth b o (aS e h) (s b o e)
theorem Pl.t{p:Addr}{H H':Hp}(a:Pl p H H'):SameT H H':=fun b xs e=>by
 obtain⟨n,h⟩:=a.was;exact a.oth b _ (pR e h (by intro z;cases z)) e
theorem Pl.grow{p:Addr}{H H1 H2:Hp}(a:Pl p H H1)(s:Same H1 H2):Pl p H H2:=⟨fun c o n e=>s c o (a.oth c o n e),a.was,let ⟨n,h⟩:=a.now;⟨n,s _ _ h⟩⟩
theorem Pl.lst{p l:Addr}{H H':Hp}{xs:List V}(a:Pl p H H')(n:l≠p)(e:H l=some (.lst xs)):H' l=some (.lst xs):=a.oth l _ n e
inductive Dm (K:W.Frag) (vs:List V) (H:Hp) (Q:VK) (x_3:XK):Prop
 | mk:∀(sa:Addr) (ss:List Int) (k:Int),(vs = [.ref sa,.int k])->(SqL K H sa (ss.map V.int))->(0≤k)->(∀c:Int,Q (.int c) H)->Dm K vs H Q x_3
inductive Dl (K:W.Frag) (vs:List V) (H:Hp) (Q:VK) (x_3:XK):Prop
 | mk:∀(sa:Addr) (ss:List Int) (k:Int),(vs = [.ref sa,.int k])->(SqL K H sa (ss.map V.int))->(0≤k)->(k≤100)->(∀(p:Addr) (n:Int) (H':Hp),Same H H'->H p=none->H' p=some (.lst [.int n])->Q (.ref p) H')->Dl K vs H Q x_3
inductive BG (vs:List V) (H:Hp) (Q:VK) (x_3:XK):Prop
 | mk:∀(p:Addr) (n m:Int),(vs = [.ref p,.int m])->(H p=some (.lst [.int n]))->((0<m∧bits m≤8000))->(∀(r:Int) (H':Hp),0≤r->r<m->Pl p H H'->Q (.int r) H')->BG vs H Q x_3
theorem Pl.line{p l:Addr}{H H':Hp}{qs:Crn}(a:Pl p H H')(L:LineM H l qs)(n:l≠p):LineM H' l qs:=⟨a.lst n L.lst,fun q hq=>⟨a.t _ _ (L.crn q hq).1,(L.crn q hq).2⟩⟩
theorem sr{z:Int}(a:-999999999999≤z)(b:z≤999999999999):Sm z:=⟨a,b⟩
theorem su{u v:Int}(a:-4≤u∧u≤4)(b:-2≤v∧v≤2):Sm (u*v):=by
 have:v = -2∨v = -1∨v=0∨v=1∨v=2:=by omega
 rcases this with rfl|rfl|rfl|rfl|rfl <;> exact sr (by omega) (by omega)
inductive DC (vs:List V) (H:Hp) (Q:VK) (x_3:XK):Prop
 | mk:∀(p:Addr) (n m:Int),(vs = [.ref p,.int m])->(H p=some (.lst [.int n]))->((0<m∧m≤100))->(∀(l:Addr) (qs:Crn) (H':Hp),LineM H' l qs->1≤qs.length->(qs.length:Int)≤m->H l=none->Pl p H H'->Q (.ref l) H')->DC vs H Q x_3
inductive D1 (vs:List V) (H:Hp) (Q:VK) (x_3:XK):Prop
 | mk:∀(p l:Addr) (n:Int) (qs:Crn),(vs = [.ref p,.ref l])->(H p=some (.lst [.int n]))->(LineM H l qs)->((l≠p∧qs.length≤10))->(∀(r:Addr) (rs:Crn) (H':Hp),LineM H' r rs->rs.length=qs.length->H r=none->Pl p H H'->Q (.ref r) H')->D1 vs H Q x_3
inductive Dk (K:W.Frag) (vs:List V) (H:Hp) (Q:VK) (x_3:XK):Prop
 | mk:∀(p l:Addr) (n:Int) (qs:Crn) (m:Int),(vs = [.ref p,.ref l,.int m])->(H p=some (.lst [.int n]))->(LineM H l qs)->(l≠p)->((1≤qs.length∧(qs.length:Int)≤m))->(m≤10)->(∀(r:Addr) (rs:Crn) (H':Hp),LineM H' r rs->1≤rs.length->(rs.length:Int)≤m->H r=none->Pl p H H'->Q (.ref r) H')->Dk K vs H Q x_3
theorem vx{qs:List (Addr×Int×Int)}{k:Int}(h0:0≤k)(h1:k<(qs.length:Int)):∃q,q∈qs∧atI (qs.map fun (q:Addr×Int×Int)=>V.ref q.1) k=some (.ref q.1):=by
 obtain⟨v,hv,mv⟩:=vy (xs:=qs.map fun (q:Addr×Int×Int)=>V.ref q.1) h0 (by rw[List.length_map];exact h1);obtain⟨q,hq,rfl⟩:=List.mem_map.mp mv;exact⟨q,hq,hv⟩
theorem wY{xs:List V}{k:Nat}(h:k≤xs.length):fP xs none (some (k:Int))=xs.take k:=by
 unfold fP;rw[HT.sIx_nat,HT.sIx_none,Nat.min_eq_left h,List.drop_zero,Nat.sub_zero]
theorem wZ{xs:List V}{k:Nat}(h:k≤xs.length):fP xs (some (k:Int)) none=xs.drop k:=by
 unfold fP;rw[HT.sIx_nat,HT.sIx_none,Nat.min_eq_left h,List.take_of_length_le (by rw[List.length_drop];exact Nat.le_refl _)]
theorem iV{p r:Addr}{H H':Hp}(a:Pl p H H')(h:H' r=none):H r=none:=by
 obtain⟨n,hn⟩:=a.now;cases e:H r with
 | none=>rfl
 | some o =>
  have np:r≠p:=fun z=>by rw[z,hn]at h;cases h
  rw[a.oth r o np e]at h;cases h
theorem CA:yG ["script","k"] ["script","k"] (ap (top 59)):=smk
theorem jG(AK:Df K mg "_law_cell_at" (top 59))(T:Txt mg):Fn P w K mg base "_law_cell_at" ["script","k"] 1 (Dm K):=by
 refine AK.fn CA (fun _ _ _ _ _ _ us hl=>by obtain⟨_,_,rfl⟩:=dF hl;rfl) (fun vs H Q E h=>?_) (fun f cdv A outer s H vs Q E hr h=>?_)
 ·obtain⟨sa,ss,k,rfl,_⟩:=h
  rfl
 ·obtain⟨sa,ss,k,rfl,hS,hk,q⟩:=h
  refine⟨_,(ag (aQ (aC cY (pv 1) (aF aI (by rfl) T.z_len bD (aa (pv 0) af)) (aE _)) (ar (az (aj aM (pv 0) (pv 1) (fun _ _=>rfl)))) aH) (ar (az ad))),?_⟩;refine⟨_,rfl,_,rfl,sa,_,rfl,.inl hS,_,_,rfl,rfl,_,rfl,aY (fun h1=>?_) (fun h1=>?_)⟩
  ·have h1:k<(((ss.map V.int).length:Nat):Int):=cV h1
   rw[List.length_map]at h1;exact⟨_,rfl,_,rfl,sa,_,_,_,rfl,rfl,hS,xf k.toNat (by omega) (by omega),q _⟩
  ·exact q _
theorem ze:yG ["script","at","cell","big","turn","one"] ["script","at"] (ap (top 60)):=smk
theorem ng(BQ:Df K mg "_law_pool" (top 60))(AE:Fn P w K mg base "_law_cell_at" ["script","k"] 1 (Dm K))(T:Txt mg):Fn P w K mg base "_law_pool" ["script","at"] 2 (Dl K):=by
 refine BQ.fn ze (fun _ _ _ _ _ _ us hl=>by obtain⟨_,_,rfl⟩:=dF hl;rfl) (fun vs H Q E h=>?_) (fun f cdv A outer s H vs Q E hr h=>?_)
 ·obtain⟨sa,ss,k,rfl,_⟩:=h
  rfl
 ·obtain⟨sa,ss,k,rfl,hS,hk,hk2,q⟩:=h
  refine⟨_,(ag (ax (i:=2) ze.nd rfl (Or.inl rfl) (aA AE (hr.mono (by decide)) (by rfl) (aa (pv 0) (aa (pv 1) af)))) (ag (aQ (aC pI (pv 2) (ao dQ ad ad) (aE _)) (ar (az (bH (aa (pv 2) af)))) aH) (ag (ax (i:=3) ze.nd rfl (Or.inl rfl) ad) (ag (cO PassesOwn.never rfl (fJ rfl T.z_range (aa ad af)) (aU (i:=4) ze.nd rfl (Or.inl rfl)) (ag (ax (i:=5) ze.nd rfl (Or.inl rfl) (ao fu (ao ay (ao aP (ao aP (ao aP (ao fu (pv 2) ad) (ao ay (ao ay ad (pv 4)) (pv 4))) (ao ay ad (pv 1))) ad) ad) ad)) (ag (ax (i:=5) ze.nd rfl (Or.inl rfl) (ao fu (ao ay (pv 5) (pv 5)) ad)) (ag (ax (i:=5) ze.nd rfl (Or.inl rfl) (ao fu (ao ay (ao aP (pv 5) (ao ay ad (pv 4))) ad) ad)) (ar (ax (i:=3) ze.nd rfl (Or.inl rfl) (ao aP (ao ay (pv 3) ad) (ao fu (ao cj (pv 5) ad) ad)))))))) (ar (az (bH (aa (pv 3) af)))))))),?_⟩;refine⟨_,rfl,_,rfl,sa,ss,k,rfl,hS,hk,fun c=>?_⟩;refine⟨_,rfl,_,_,rfl,rfl,⟨by decide,by decide,by decide⟩,_,_,rfl,rfl,_,rfl,aY (fun h1=>?_) (fun h1=>?_)⟩
  ·exact⟨_,rfl,sz (by simp),fun p H2 s2 f2 n2=>q p c H2 s2 n2 f2⟩
  refine⟨24,rfl,by decide,by decide,dB (n:=24) (lo:=0) (fun _ σ H1=>∃(b:Int) (z1 z2:Option V),σ = [some (.ref sa),some (.int k),some (.int c),some (.int b),z1,z2]∧H1=H) ⟨_,_,_,rfl,rfl⟩ ?_ ?_⟩
  ·rintro i σ H1 hi ⟨b,z1,z2,rfl,rfl⟩
   have g0:=Int.emod_nonneg c (show(998244353:Int)≠0 by decide);have e64:(2:Int)^64=18446744073709551616:=by decide
   have r1:∀n:Int,0≤n % 2147483647∧n % 2147483647<2147483647:=fun n=>⟨Int.emod_nonneg _ (by decide),Int.emod_lt_of_pos _ (by decide)⟩;refine⟨_,rfl,_,_,rfl,rfl,(by show(0:Int)<998244353;decide),_,rfl,_,_,rfl,rfl,CM.l ⟨by decide,by decide⟩,_,rfl,_,_,rfl,rfl,CM.l (by rw[e64];omega),_,_,rfl,rfl,_,rfl,_,_,rfl,rfl,CM.l ⟨by decide,by decide⟩,_,_,rfl,rfl,_,_,rfl,rfl,_,_,rfl,rfl,CM.r ⟨by decide,by decide⟩,_,_,rfl,rfl,(by show(0:Int)<2147483647;decide),?_⟩;refine⟨_,rfl,_,rfl,_,_,rfl,rfl,CM.l (by rw[e64];have:=r1 ((c % 998244353+89*(0+(i:Int))*(0+(i:Int))+7*k+1)*48271);omega),_,_,rfl,rfl,(by show(0:Int)<1000000007;decide),?_⟩
   walk_at "rd"
   exact⟨_,_,_,rfl,rfl⟩
  ·rintro σ H1 ⟨b,z1,z2,rfl,rfl⟩
   exact⟨_,rfl,sz (by simp),fun p H2 s2 f2 n2=>q p b H2 s2 n2 f2⟩
theorem Cs:yG ["pool","many","number"] ["pool","many"] (ap (top 61)):=smk
theorem m8(BP:Df K mg "_law_take" (top 61)):Fn P w K mg base "_law_take" ["pool","many"] 1 BG:=by
 refine BP.fn Cs (fun _ _ _ _ _ _ us hl=>by obtain⟨_,_,rfl⟩:=dF hl;rfl) (fun vs H Q E h=>?_) (fun f cdv A outer s H vs Q E hr h=>?_)
 ·obtain⟨p,n,m,rfl,_⟩:=h
  rfl
 ·obtain⟨p,n,m,rfl,ep,⟨hm,bm⟩,q⟩:=h
  refine⟨_,(ag (ax (i:=2) Cs.nd rfl (Or.inl rfl) (ao fu (aj aM (pv 0) ad (fun _ _=>rfl)) (pv 1))) (ag (wm (ao cj (aj aM (pv 0) ad (fun _ _=>rfl)) (pv 1)) (wq (pv 0) ad qA)) (ar (az (pv 2))))),?_⟩;refine⟨_,rfl,p,_,_,_,rfl,rfl,SqL.of ep,rfl,_,rfl,_,_,rfl,rfl,hm,?_⟩;refine⟨_,rfl,p,_,_,_,rfl,rfl,SqL.of ep,rfl,_,rfl,_,_,rfl,rfl,⟨hm,bm⟩,_,rfl,p,_,_,0,rfl,rfl,ep,rfl,fun H2 u=>?_⟩;exact⟨_,rfl,q _ _ (Int.emod_nonneg _ (by omega)) (Int.emod_lt_of_pos _ hm) ⟨fun b o nb e=>u.at nb e,⟨n,ep⟩,⟨_,u.now⟩⟩⟩
theorem zr:yG ["pool","most","many","sort","along","corners","k","steps"] ["pool","most"] (ap (top 62)):=smk
theorem nj(BS:Df K mg "_law_line" (top 62))(yH:Fn P w K mg base "_law_take" ["pool","many"] 1 BG)(T:Txt mg):Fn P w K mg base "_law_line" ["pool","most"] 2 DC:=by
 refine BS.fn zr (fun _ _ _ _ _ _ us hl=>by obtain⟨_,_,rfl⟩:=dF hl;rfl) (fun vs H Q E h=>?_) (fun f cdv A outer s H vs Q E hr h=>?_)
 ·obtain⟨p,n,m,rfl,_⟩:=h
  rfl
 ·obtain⟨p,n,m,rfl,ep,⟨hm0,hm1⟩,k⟩:=h
  refine⟨_,(ag (ax (i:=2) zr.nd rfl (Or.inl rfl) (ao aP ad (aA yH (hr.mono (by decide)) (by rfl) (aa (pv 0) (aa (pv 1) af))))) (ag (ax (i:=3) zr.nd rfl (Or.inl rfl) (aA yH (hr.mono (by decide)) (by rfl) (aa (pv 0) (aa ad af)))) (ag (ax (i:=4) zr.nd rfl (Or.inl rfl) (aB (aa (ao aG (aA yH (hr.mono (by decide)) (by rfl) (aa (pv 0) (aa ad af))) ad) (aa (ao aG (aA yH (hr.mono (by decide)) (by rfl) (aa (pv 0) (aa ad af))) ad) af)))) (ag (ax (i:=5) zr.nd rfl (Or.inl rfl) (bH af)) (ag (cO PassesOwn.never rfl (fJ rfl T.z_range (aa (pv 2) af)) (aU (i:=6) zr.nd rfl (Or.inl rfl)) (ar (aQ (aC bR (pv 3) ad (aE _)) (ag (ax (i:=7) zr.nd rfl (Or.inl rfl) (ao aG (aA yH (hr.mono (by decide)) (by rfl) (aa (pv 0) (aa ad af))) ad)) (ar (cI (fm PySem.F.plainAttrs_list PySem.F.slot_list_append PySem.F.type_list_append bP (pv 5) (aa (aB (aa (ao ay (pv 7) (aj ai (pv 4) ad (fun _ _=>rfl))) (aa (ao ay (pv 7) (aj ai (pv 4) ad (fun _ _=>rfl))) af))) af))))) (ar (aQ (aC bR (pv 3) ad (aE _)) (ar (cI (fm PySem.F.plainAttrs_list PySem.F.slot_list_append PySem.F.type_list_append bP (pv 5) (aa (aB (aa (ao aP (ao aG (aA yH (hr.mono (by decide)) (by rfl) (aa (pv 0) (aa (ao aG (ao ay ad (ao dQ ad ad)) ad) af))) (ao dQ ad ad)) ad) (aa (ao aP (ao aG (aA yH (hr.mono (by decide)) (by rfl) (aa (pv 0) (aa (ao aG (ao ay ad (ao dQ ad ad)) ad) af))) (ao dQ ad ad)) ad) af))) af)))) (ar (cI (fm PySem.F.plainAttrs_list PySem.F.slot_list_append PySem.F.type_list_append bP (pv 5) (aa (aB (aa (ao aG (aA yH (hr.mono (by decide)) (by rfl) (aa (pv 0) (aa ad af))) (aj ai (pv 4) ad (fun _ _=>rfl))) (aa (ao aG (aA yH (hr.mono (by decide)) (by rfl) (aa (pv 0) (aa ad af))) (aj ai (pv 4) ad (fun _ _=>rfl))) af))) af))))))))) (ar (az (pv 5)))))))),?_⟩;have bsm:∀{z:Int},-1000≤z->z≤1000->bits z≤10:=fun a b=>aV a b;refine⟨_,rfl,_,rfl,p,_,_,rfl,ep,⟨hm0,aw (bsm (by omega) (by omega)) (by decide)⟩,fun r1 H1 a1 b1 P1=>⟨_,_,rfl,rfl,?_⟩⟩;obtain⟨n1,e1⟩:=P1.now;refine⟨_,rfl,p,_,_,rfl,e1,⟨by decide,by decide⟩,fun r2 H2 a2 b2 P2=>?_⟩;obtain⟨n2,e2⟩:=P2.now;refine⟨_,rfl,p,_,_,rfl,e2,⟨by decide,by decide⟩,fun r3 H3 a3 b3 P3=>⟨_,_,rfl,rfl,?_⟩⟩;obtain⟨n3,e3⟩:=P3.now;refine⟨_,rfl,p,_,_,rfl,e3,⟨by decide,by decide⟩,fun r4 H4 a4 b4 P4=>⟨_,_,rfl,rfl,?_⟩⟩;obtain⟨n4,e4⟩:=P4.now;have Q4:Pl p H H4:=P1.trans (P2.trans (P3.trans P4));refine⟨sz (by simp),fun pa H5 s5 f5 _=>?_⟩;refine⟨sz (by simp),fun l H6 s6 f6 n6=>?_⟩;have Q6:Pl p H H6:=(Q4.grow s5).grow s6;have npl:l≠p:=fun z=>by
   have e5:=s5 _ _ e4;subst z;rw[n6]at e5;cases e5
  have h6:H l=none:=by
   cases e:H l with
   | none=>rfl
   | some o =>
    have z:=(Q4.grow s5).oth l o npl e;rw[n6]at z;cases z
  refine⟨_,rfl,_,rfl,by omega,by omega,?_⟩;refine dB (n:=(1+r1).toNat) (lo:=0) (fun i σ H7=>∃(z1 z2:Option V) (qs:List (Addr×Int×Int)),σ = [some (.ref p),some (.int m),some (.int (1+r1)),some (.int r2),some (.ref pa),some (.ref l),z1,z2]∧qs.length=i∧LineM H7 l qs∧Pl p H H7∧H7 pa=some (.tup [.int (r3 - 2),.int (r4 - 2)])) ⟨_,_,[],rfl,rfl,⟨f6,fun q h=>nomatch h⟩,Q6,s6 _ _ f5⟩ ?_ ?_
  ·rintro i σ H7 hi ⟨z1,z2,qs,rfl,hl,L7,P7,f7⟩
   obtain⟨n7,e7⟩:=P7.now;have add:∀(x y:Int) (pt:Addr) (H8 H9:Hp) (z1 z2:Option V),Sm x->Sm y->Pl p H7 H8->H8 pt=some (.tup [.int x,.int y])->Dc H8 H9 l (qs.map fun q=>V.ref q.1) ((qs.map fun q=>V.ref q.1)++[.ref pt]) ->
     ∃(z1' z2':Option V) (qs':List (Addr×Int×Int)),[some (V.ref p),some (.int m),some (.int (1+r1)),some (.int r2),some (.ref pa),some (.ref l),z1,z2] = [some (.ref p),some (.int m),some (.int (1+r1)),some (.int r2),some (.ref pa),some (.ref l),z1',z2']∧qs'.length=i+1∧LineM H9 l qs'∧Pl p H H9∧H9 pa=some (.tup [.int (r3 - 2),.int (r4 - 2)]):=by
    intro x y pt H8 H9 z1 z2 bx by_ P8 f8 u;refine⟨_,_,qs++[(pt,x,y)],rfl,by simp[hl],⟨by rw[u.now];simp,fun q hq=>?_⟩,⟨fun b o nb e=>?_,P7.was,?_⟩,u.t _ _ (P8.t _ _ f7)⟩
    ·rcases List.mem_append.mp hq with hq|hq
     ·exact⟨u.t _ _ (P8.t _ _ (L7.crn q hq).1),(L7.crn q hq).2⟩
     ·rw[List.mem_singleton.mp hq]
      exact⟨u.t _ _ f8,bx,by_⟩
    ·exact u.at (fun z=>by subst z;rw[h6]at e;cases e) (P8.oth b o nb (P7.oth b o nb e))
    ·obtain⟨n8,e8⟩:=P8.now
     exact⟨n8,u.at (Ne.symm npl) e8⟩
   have L8:∀{H8:Hp},Pl p H7 H8->H8 l=some (.lst (qs.map fun q=>V.ref q.1)):=fun P8=>P8.lst npl L7.lst;have len:∀{α:Type},(qs.map fun (q:Addr×Int×Int)=>V.ref q.1).length<sizeLine:=fun {_}=>bC (by rw[List.length_map];omega);have b10:∀{z:Int},-1000≤z->z≤1000->Sm z:=fun a b=>sr (by omega) (by omega);have g3:bits (r3 - 2)≤10:=bsm (by omega) (by omega);have g4:bits (r4 - 2)≤10:=bsm (by omega) (by omega);refine⟨_,rfl,rfl,_,rfl,aY (fun h1=>?_) (fun h1=>?_)⟩
   ·refine⟨_,rfl,p,_,_,rfl,e7,⟨by decide,by decide⟩,fun r5 H8 a5 b5 P8=>⟨_,_,rfl,rfl,?_⟩⟩
    have f8:=P8.t _ _ f7;have g5:bits (r5 - 4)≤10:=bsm (by omega) (by omega);refine⟨_,rfl,.inl ⟨rfl,_,SqL.of (L8 P8)⟩,?_⟩
    walk_at "rd"
    rename_i pt H9 s9 f9 _;exact⟨l,_,_,rfl,rfl,s9 _ _ (L8 P8),len (α:=Unit),fun H10 u=>add _ _ pt H9 H10 _ _ (su (by omega) (by omega)) (su (by omega) (by omega)) (P8.grow s9) f9 u⟩
   ·refine⟨_,rfl,rfl,_,rfl,aY (fun h2=>?_) (fun h2=>?_)⟩
    ·have eb:(2*(10:Int)^(12:Int).toNat - 1)=1999999999999:=by decide +kernel
     have e12:(10:Int)^(12:Int).toNat=1000000000000:=by decide +kernel
     have bb:bits (2*(10:Int)^(12:Int).toNat - 1)≤8000:=by rw[eb];decide +kernel
     have sm:∀{z:Int},0≤z->z<2*(10:Int)^(12:Int).toNat - 1->Sm (z - (10:Int)^(12:Int).toNat+1):=fun {z} a b=>by
      rw[eb]at b;rw[e12];exact sr (by omega) (by omega)
     refine⟨_,rfl,.inl ⟨rfl,_,SqL.of L7.lst⟩,?_⟩;refine⟨_,rfl,_,_,rfl,rfl,⟨by decide,by decide,by decide⟩,_,_,rfl,rfl,CM.l ⟨by decide,by decide⟩,_,_,rfl,rfl,p,_,_,rfl,e7,⟨by rw[eb];decide,bb⟩,fun r5 H8 a5 b5 P8=>?_⟩;obtain⟨n8,e8⟩:=P8.now;refine⟨_,_,rfl,rfl,⟨by decide,by decide,by decide⟩,_,_,rfl,rfl,_,_,rfl,rfl,?_⟩;refine⟨_,rfl,_,_,rfl,rfl,⟨by decide,by decide,by decide⟩,_,_,rfl,rfl,CM.l ⟨by decide,by decide⟩,_,_,rfl,rfl,p,_,_,rfl,e8,⟨by rw[eb];decide,bb⟩,fun r6 H9 a6 b6 P9=>?_⟩;refine⟨_,_,rfl,rfl,⟨by decide,by decide,by decide⟩,_,_,rfl,rfl,_,_,rfl,rfl,sz (by simp),fun pt H10 s10 f10 _=>?_⟩;have P10:Pl p H7 H10:=(P8.trans P9).grow s10;exact⟨l,_,_,rfl,rfl,L8 P10,len (α:=Unit),fun H11 u=>add _ _ pt H10 H11 _ _ (sm a5 b5) (sm a6 b6) P10 f10 u⟩
    ·refine⟨_,rfl,.inl ⟨rfl,_,SqL.of L7.lst⟩,?_⟩
     refine⟨_,rfl,p,_,_,rfl,e7,⟨by decide,by decide⟩,fun r5 H8 a5 b5 P8=>?_⟩;obtain⟨n8,e8⟩:=P8.now;have f8:=P8.t _ _ f7;refine⟨_,rfl,pa,_,_,_,rfl,rfl,SqT.of f8,rfl,_,_,rfl,rfl,?_⟩;refine⟨_,rfl,p,_,_,rfl,e8,⟨by decide,by decide⟩,fun r6 H9 a6 b6 P9=>?_⟩;refine⟨_,rfl,pa,_,_,_,rfl,rfl,SqT.of (P9.t _ _ f8),rfl,_,_,rfl,rfl,sz (by simp),fun pt H10 s10 f10 _=>?_⟩;have P10:Pl p H7 H10:=(P8.trans P9).grow s10;exact⟨l,_,_,rfl,rfl,L8 P10,len (α:=Unit),fun H11 u=>add _ _ pt H10 H11 _ _ (b10 (by omega) (by omega)) (b10 (by omega) (by omega)) P10 f10 u⟩
  ·rintro σ H7 ⟨z1,z2,qs,rfl,hl,L7,P7,f7⟩
   exact⟨_,rfl,k l qs H7 L7 (by omega) (by omega) h6 P7⟩
theorem zu:yG ["pool","line","found","east","north"] ["pool","line"] (ap (top 63)):=smk
theorem lJ(Bs:Df K mg "_law_moved" (top 63))(yH:Fn P w K mg base "_law_take" ["pool","many"] 1 BG)(T:Txt mg):Fn P w K mg base "_law_moved" ["pool","line"] 2 D1:=by
 refine Bs.fn zu (fun _ _ _ _ _ _ us hl=>by obtain⟨_,_,rfl⟩:=dF hl;rfl) (fun vs H Q E h=>?_) (fun f cdv A outer s H vs Q E hr h=>?_)
 ·obtain⟨p,l,n,qs,rfl,_⟩:=h
  rfl
 ·obtain⟨p,l,n,qs,rfl,ep,L,⟨nlp,h10⟩,k⟩:=h
  refine⟨_,(ag (ax (i:=2) zu.nd rfl (Or.inl rfl) (bH af)) (ag (cO PassesOwn.never rfl (cQ (pv 1)) (hZ rfl (bW (aU (i:=3) zu.nd rfl (Or.inl rfl)) (bW (aU (i:=4) zu.nd rfl (Or.inl rfl)) eO))) (ag (ax (i:=3) zu.nd rfl (Or.inl rfl) (ao aG (ao aP (pv 3) (aA yH (hr.mono (by decide)) (by rfl) (aa (pv 0) (aa ad af)))) ad)) (ag (ax (i:=4) zu.nd rfl (Or.inl rfl) (ao aG (ao aP (pv 4) (aA yH (hr.mono (by decide)) (by rfl) (aa (pv 0) (aa ad af)))) ad)) (ar (cI (fm PySem.F.plainAttrs_list PySem.F.slot_list_append PySem.F.type_list_append bP (pv 2) (aa (aB (aa (aF (fL rfl) (by rfl) T.z_max lU (aa (ao aG ad (ao dQ ad ad)) (aa (aF (dC rfl) (by rfl) T.z_min fF (aa (ao aG (ao dQ ad ad) ad) (aa (pv 3) af))) af))) (aa (aF (fL rfl) (by rfl) T.z_max lU (aa (ao aG ad (ao dQ ad ad)) (aa (aF (dC rfl) (by rfl) T.z_min fF (aa (ao aG (ao dQ ad ad) ad) (aa (pv 4) af))) af))) af))) af))))))) (ar (az (pv 2))))),?_⟩;have hll:(qs.map fun (q:Addr×Int×Int)=>V.ref q.1).length=qs.length:=List.length_map _;have e12:(10:Int)^(12:Int).toNat=1000000000000:=by decide +kernel
  refine⟨sz (by simp),fun r H1 s1 f1 n1=>?_⟩;have nr:r≠p:=fun z=>by rw[z,ep]at n1;cases n1
  have nrl:r≠l:=fun z=>by rw[z,L.lst]at n1;cases n1
  refine⟨_,rfl,l,rfl,⟨_,SqL.of (s1 _ _ L.lst)⟩,fw (K:=K) (a:=l) (xs:=qs.map fun (q:Addr×Int×Int)=>V.ref q.1) (fun i σ H'=>∃(z3 z4:Option V) (rs:Crn),σ = [some (.ref p),some (.ref l),some (.ref r),z3,z4]∧rs.length=i∧LineM H' r rs∧Pl p H H'∧H' l=some (.lst (qs.map fun (q:Addr×Int×Int)=>V.ref q.1)))
   ⟨_,_,[],rfl,rfl,⟨f1,fun q h=>nomatch h⟩,(Pl.refl ep).grow s1,s1 _ _ L.lst⟩ (fun i σ H' _ ⟨_,_,_,_,_,_,_,e'⟩=>SqL.of e') ?_ ?_⟩
  ·rintro i x σ H2 hx ⟨z3,z4,rs,rfl,hl,R2,P2,l2⟩
   have il:=(List.getElem?_eq_some_iff.mp hx).1;rw[hll]at il;rw[List.getElem?_map]at hx;obtain⟨u,hu,rfl⟩:=Option.map_eq_some_iff.mp hx;have cu:=L.crn u (List.mem_of_getElem? hu);obtain⟨n2,e2⟩:=P2.now;refine⟨u.1,_,rfl,SqT.of (P2.t _ _ cu.1),rfl,_,_,rfl,_,_,rfl,rfl,?_⟩;refine⟨_,rfl,_,rfl,p,_,_,rfl,e2,⟨by decide,by decide⟩,fun r3 H3 a3 b3 P3=>⟨_,_,rfl,rfl,_,_,rfl,rfl,?_⟩⟩;obtain⟨n3,e3⟩:=P3.now;refine⟨_,rfl,_,rfl,p,_,_,rfl,e3,⟨by decide,by decide⟩,fun r4 H4 a4 b4 P4=>⟨_,_,rfl,rfl,_,_,rfl,rfl,?_⟩⟩;have P34:=P3.trans P4;have R4:=P34.line R2 nr;have l4:=P34.lst nlp l2;refine⟨_,rfl,.inl ⟨rfl,_,SqL.of R4.lst⟩,_,_,rfl,rfl,⟨by decide,by decide,by decide⟩,_,_,rfl,rfl,_,_,rfl,rfl,⟨by decide,by decide,by decide⟩,_,_,rfl,rfl,_,rfl,_,_,rfl,_,_,rfl,_,_,rfl,rfl,⟨by decide,by decide,by decide⟩,_,_,rfl,rfl,_,_,rfl,rfl,⟨by decide,by decide,by decide⟩,_,_,rfl,rfl,_,rfl,_,_,rfl,_,_,rfl,sz (by simp),fun pt H5 s5 f5 n5=>?_⟩;obtain⟨x,y,fxy,sx,sy⟩:∃x y:Int,H5 pt=some (.tup [.int x,.int y])∧Sm x∧Sm y:=by
    refine⟨_,_,f5,?_,?_⟩
    ·show -999999999999≤_∧_≤999999999999
     rw[e12];constructor <;> (split <;> split <;> omega)
    ·show -999999999999≤_∧_≤999999999999
     rw[e12];constructor <;> (split <;> split <;> omega)
   refine⟨r,_,_,rfl,rfl,s5 _ _ R4.lst,bC (by rw[List.length_map];omega),fun H6 u6=>?_⟩;refine⟨_,_,rs++[(pt,x,y)],rfl,by simp[hl],⟨by rw[u6.now];simp,fun q hq=>?_⟩,?_,u6.at nrl.symm (s5 _ _ l4)⟩
   ·rcases List.mem_append.mp hq with hq|hq
    ·exact⟨u6.t _ _ (s5 _ _ (R4.crn q hq).1),(R4.crn q hq).2⟩
    ·rw[List.mem_singleton.mp hq]
     exact⟨u6.t _ _ fxy,sx,sy⟩
   ·have P5:=(P2.trans P34).grow s5
    obtain⟨n5',e5⟩:=P5.now;exact⟨fun b o nb e=>u6.at (fun z=>by rw[z,n1]at e;cases e) (P5.oth b o nb e),P5.was,⟨n5',u6.at nr.symm e5⟩⟩
  ·rintro σ H2 ⟨z3,z4,rs,rfl,hl,R2,P2,l2⟩
   exact⟨_,rfl,k r rs H2 R2 (by omega) n1 P2⟩
theorem AM:yG ["pool","line","most","sort","at"] ["pool","line","most"] (ap (top 64)):=smk
theorem jY(A4:Df K mg "_law_second" (top 64))(yH:Fn P w K mg base "_law_take" ["pool","many"] 1 BG)(AA:Fn P w K mg base "_law_moved" ["pool","line"] 2 D1)(zJ:Fn P w K mg base "_law_line" ["pool","most"] 2 DC)(T:Txt mg):Fn P w K mg base "_law_second" ["pool","line","most"] 3 (Dk K):=by
 refine A4.fn AM (fun _ _ _ _ _ _ us hl=>by obtain⟨_,_,_,rfl⟩:=gL hl;rfl) (fun vs H Q E h=>?_) (fun f cdv A outer s H vs Q E hr h=>?_)
 ·obtain⟨p,l,n,qs,m,rfl,_⟩:=h
  rfl
 ·obtain⟨p,l,n,qs,m,rfl,ep,L,nlp,⟨h1,hm⟩,m10,k⟩:=h
  have hll:(qs.map fun (q:Addr×Int×Int)=>V.ref q.1).length=qs.length:=List.length_map _;have R:∃u:TS,PSs (bw CX0 P w K mg base ["pool","line","most","sort","at"] "_law_second" (ap (top 64)) f cdv A outer s H E).nox ((aL (top 64)).drop 4) u∧∀(H1:Hp) (so:Int) (z:Option V),Pl p H H1->u { nx:=fun _ H'=>Q .non H',rt:=Q } [some (.ref p),some (.ref l),some (.int m),some (.int so),z] H1:=by
   refine⟨_,(ar (az (aA zJ (hr.mono (by decide)) (by rfl) (aa (pv 0) (aa (pv 2) af))))),fun H1 so z P1=>?_⟩;obtain⟨n1,e1⟩:=P1.now;exact⟨_,rfl,_,rfl,p,_,m,rfl,e1,⟨by omega,by omega⟩,fun r rs H2 R2 g1 g2 nr P2=>k r rs H2 R2 g1 g2 (iV P1 nr) (P1.trans P2)⟩
  obtain⟨u,hu,fin⟩:=R;refine⟨_,(ag (ax (i:=3) AM.nd rfl (Or.inl rfl) (aA yH (hr.mono (by decide)) (by rfl) (aa (pv 0) (aa ad af)))) (ag (aQ (aC bR (pv 3) ad (aE _)) (ar (az (aA AA (hr.mono (by decide)) (by rfl) (aa (pv 0) (aa (pv 1) af))))) aH) (ag (aQ (aC bR (pv 3) ad (aE _)) (ar (az (aA AA (hr.mono (by decide)) (by rfl) (aa (pv 0) (aa (qD (pv 1) (gz (dI cS ad))) af))))) aH) (ag (aQ (d7 (aC bR (pv 3) ad (aE _)) (dX (aC cY (aF aI (by rfl) T.z_len bD (aa (pv 1) af)) (pv 2) (aE _)))).pt (ag (ax (i:=4) AM.nd rfl (Or.inl rfl) (aA yH (hr.mono (by decide)) (by rfl) (aa (pv 0) (aa (aF aI (by rfl) T.z_len bD (aa (pv 1) af)) af)))) (ar (az (ao gH (ao gH (gA gq (pv 1) iU (gz (pv 4))) (bH (aa (aj aM (pv 1) (pv 4) (fun _ _=>rfl)) af))) (gA gq (pv 1) (gz (pv 4)) iU))))) aH) hu)))),?_⟩;refine⟨_,rfl,p,_,_,rfl,ep,⟨by decide,by decide⟩,fun so H1 a1 b1 P1=>?_⟩;obtain⟨n1,e1⟩:=P1.now;have L1:=P1.line L nlp;refine⟨_,rfl,rfl,_,rfl,aY (fun c1=>?_) (fun c1=>?_)⟩
  ·exact⟨_,rfl,_,rfl,p,l,_,qs,rfl,e1,L1,⟨nlp,by omega⟩,fun r rs H2 R2 hl nr P2=>k r rs H2 R2 (by omega) (by omega) (iV P1 nr) (P1.trans P2)⟩
  refine⟨_,rfl,rfl,_,rfl,aY (fun c2=>?_) (fun c2=>?_)⟩
  ·refine⟨_,rfl,_,rfl,_,rfl,_,rfl,rfl,l,_,rfl,SqL.of L1.lst,fun a H2 s2 f2 n2=>?_⟩
   have LR:LineM H2 a qs.reverse:=⟨by rw[f2,List.map_reverse],fun q hq=>(L1.mono s2).crn q (List.mem_reverse.mp hq)⟩;have nap:a≠p:=fun z=>by rw[z,e1]at n2;cases n2
   refine⟨p,a,_,qs.reverse,rfl,s2 _ _ e1,LR,⟨nap,by rw[List.length_reverse];omega⟩,fun r rs H3 R3 hl nr P3=>?_⟩;rw[List.length_reverse]at hl;exact k r rs H3 R3 (by omega) (by omega) (iV P1 (s2.free nr)) ((P1.grow s2).trans P3)
  refine⟨_,rfl,rfl,_,rfl,aY (fun c3=>?_) (fun c3=>?_)⟩
  ·refine⟨_,rfl,l,_,rfl,.inl (SqL.of L1.lst),_,rfl,_,_,rfl,rfl,_,rfl,aY (fun c4=>?_) (fun c4=>fin H1 so _ P1)⟩
   have c4:(qs.length:Int)<m:=by
    have:=cV c4;rw[hll]at this;exact this
   refine⟨_,rfl,_,rfl,l,_,rfl,.inl (SqL.of L1.lst),p,_,_,rfl,e1,⟨by omega,aw (aV (by omega) (by omega)) (by decide)⟩,fun at_ H2 a2 b2 P2=>?_⟩;rw[hll]at b2;obtain⟨ak,rfl⟩:∃ak:Nat,at_=(ak:Int):=⟨at_.toNat,by omega⟩;have L2:=P2.line L1 nlp;have S:=fun {H':Hp} (s:Same H2 H')=>SqL.of (K:=K) (s _ _ L2.lst);obtain⟨q,mq,aq⟩:=vx (qs:=qs) a2 b2;refine⟨_,rfl,_,rfl,_,rfl,l,_,rfl,S (Same.refl _),fun x1 H3 s3 f3 n3=>?_⟩;refine⟨_,rfl,_,rfl,l,_,_,_,rfl,rfl,S s3,aq,sz (by simp),fun x2 H4 s4 f4 n4=>?_⟩;refine⟨x1,x2,_,_,rfl,rfl,s4 _ _ f3,f4,sz (by have:=d5 (qs.map fun (q:Addr×Int×Int)=>V.ref q.1) none (some (ak:Int));simp;omega),fun x3 H5 s5 f5 n5=>?_⟩;have S5:=s3.trans (s4.trans s5);refine⟨_,rfl,_,rfl,_,rfl,l,_,rfl,S S5,fun x4 H6 s6 f6 n6=>?_⟩;have ecut:fP (qs.map fun (q:Addr×Int×Int)=>V.ref q.1) none (some (ak:Int))++[V.ref q.1]++fP (qs.map fun (q:Addr×Int×Int)=>V.ref q.1) (some (ak:Int)) none=((qs.take ak++[q]++qs.drop ak).map fun (q:Addr×Int×Int)=>V.ref q.1):=by
    rw[wY (by rw[hll];omega),wZ (by rw[hll];omega),<- List.map_take,<- List.map_drop];simp
   refine⟨x3,x4,_,_,rfl,rfl,s6 _ _ f5,f6,sz (by have:=d5 (qs.map fun (q:Addr×Int×Int)=>V.ref q.1) none (some (ak:Int));have:=d5 (qs.map fun (q:Addr×Int×Int)=>V.ref q.1) (some (ak:Int)) none;rw[List.length_append,List.length_singleton];omega),fun x5 H7 s7 f7 n7=>?_⟩;have S7:=S5.trans (s6.trans s7);rw[ecut]at f7;have L7:=L2.mono S7;have nx5:H2 x5=none:=S5.free (s6.free n7);refine k x5 _ H7 ⟨f7,fun q' hq=>?_⟩ (by simp;omega) (by simp;omega) (iV (P1.trans P2) nx5) ((P1.trans P2).grow S7);rcases List.mem_append.mp hq with hq|hq
   ·rcases List.mem_append.mp hq with hq|hq
    ·exact L7.crn q' (List.mem_of_mem_take hq)
    ·rw[List.mem_singleton.mp hq];exact L7.crn q mq
   ·exact L7.crn q' (List.mem_of_mem_drop hq)
  ·exact fin H1 so _ P1
inductive DF (vs:List V) (H:Hp) (Q:VK) (x_3:XK):Prop
 | mk:∀a b:Int,(vs = [.int a,.int b])->(0≤a)->(0≤b)->(Q (.int (Int.gcd a b:Int)) H)->DF vs H Q x_3
inductive DB (vs:List V) (H:Hp) (Q:VK) (x_3:XK):Prop
 | mk:∀a b:Int,(vs = [.int a,.int b])->((0≤a∧0<b))->(bits b≤1000)->(∀(p:Addr) (t u:Int) (H':Hp),AR a b t u->t≤a->u≤b->0≤t->Same H H'->H' p=some (.tup [.int t,.int u])->Q (.ref p) H')->DB vs H Q x_3
inductive Da (vs:List V) (H:Hp) (Q:VK) (x_3:XK):Prop
 | mk:∀(p q:Addr) (a b c d:Int),(vs = [.ref p,.ref q])->(H p=some (.tup [.int a,.int b]))->(H q=some (.tup [.int c,.int d]))->((bits a≤40000∧bits b≤40000∧bits c≤40000∧bits d≤40000))->(Q (.bl (decide (a*d>c*b))) H)->Da vs H Q x_3
theorem Ad:yG ["one","other","rest"] ["one","other"] (ap (top 66)):=smk
theorem j0(A8:Df K mg "_law_common" (top 66)):Fn P w K mg base "_law_common" ["one","other"] 1 DF:=by
 refine A8.fn Ad (fun _ _ _ _ _ _ us hl=>by obtain⟨_,_,rfl⟩:=dF hl;rfl) (fun vs H Q E h=>?_) (fun f cdv A outer s H vs Q E hr h=>?_)
 ·obtain⟨a,b,rfl,_⟩:=h
  rfl
 ·obtain⟨a,b,rfl,ha,hb,q⟩:=h
  refine⟨_,(ag (dN PassesOwn.never (aC gG (pv 1) ad (aE _)) (ag (ax (i:=2) Ad.nd rfl (Or.inl rfl) (ao fu (pv 0) (pv 1))) (ag (ax (i:=0) Ad.nd rfl (Or.inl rfl) (pv 1)) (ar (ax (i:=1) Ad.nd rfl (Or.inl rfl) (pv 2)))))) (ar (az (pv 0)))),?_⟩;refine dL (fun σ H'=>∃(x y:Int) (z:Option V),σ = [some (.int x),some (.int y),z]∧H'=H∧0≤x∧0≤y∧Int.gcd x y=Int.gcd a b)
   (fun σ _=>match σ with | [_,some (.int y),_]=>y.toNat|_=>0) ⟨_,_,_,rfl,rfl,ha,hb,rfl⟩ ?_ ?_
  ·rintro σ H' ⟨x,y,z,rfl,rfl,hx,hy,hg⟩
   refine⟨_,rfl,rfl,_,rfl,aY (fun hc=>?_) (fun hc=>?_)⟩
   ·have hy0:¬y=0:=by simpa using hc
    have hy1:0<y:=by omega
    refine⟨_,rfl,_,rfl,x,y,rfl,rfl,hy1,_,rfl,_,rfl,⟨y,x % y,_,rfl,rfl,hy,Int.emod_nonneg _ hy0,?_⟩,?_⟩
    ·rw[mV hx hy1]
     exact hg
    ·have h1:=Int.emod_lt_of_pos x hy1
     have h2:=Int.emod_nonneg x hy0;show(x % y).toNat<y.toNat;omega
   ·have hy0:y=0:=by simpa using hc
    subst hy0;refine⟨_,rfl,?_⟩;have e:(Int.gcd a b:Int)=x:=by rw[<- hg,Int.gcd_zero];omega
    rw[e]at q;exact q
  ·rintro σ H' Q1 Q2 hq ⟨v,e,hs,k,ek,r⟩
   exact⟨v,e,hs,k,ek,hq _ _ r⟩
theorem BZ:yG ["top","bottom","common"] ["top","bottom"] (ap (top 68)):=smk
theorem jZ(A6:Df K mg "_law_lowest" (top 68))(zl:Fn P w K mg base "_law_common" ["one","other"] 1 DF)(T:Txt mg):Fn P w K mg base "_law_lowest" ["top","bottom"] 2 DB:=by
 refine A6.fn BZ (fun _ _ _ _ _ _ us hl=>by obtain⟨_,_,rfl⟩:=dF hl;rfl) (fun vs H Q E h=>?_) (fun f cdv A outer s H vs Q E hr h=>?_)
 ·obtain⟨a,b,rfl,_⟩:=h
  rfl
 ·obtain⟨a,b,rfl,⟨ha,hb⟩,bb,q⟩:=h
  refine⟨_,(ag (ax (i:=2) BZ.nd rfl (Or.inl rfl) (aA zl (hr.mono (by decide)) (by rfl) (aa (aF fE (by rfl) T.z_abs jM (aa (pv 0) af)) (aa (pv 1) af)))) (ar (az (aB (aa (ao cj (pv 0) (pv 2)) (aa (ao cj (pv 1) (pv 2)) af)))))),?_⟩;have hg:=gN (a:=a) (b:=b) (by omega);have bg:bits (Int.gcd a b:Int)≤8000:=aw (kG (by omega) bb) (by decide);refine⟨_,rfl,a,rfl,_,rfl,?_⟩;rw[if_neg (show ¬a<0 by omega)];refine⟨a,b,rfl,ha,by omega,?_⟩;refine⟨_,rfl,_,rfl,_,_,rfl,rfl,⟨hg,bg⟩,_,rfl,_,rfl,_,_,rfl,rfl,⟨hg,bg⟩,sz (by simp),fun p H1 s1 f1 n1=>?_⟩;exact q p _ _ H1 (gO hb) (Int.ediv_le_self _ ha) (Int.ediv_le_self _ (by omega)) (Int.ediv_nonneg ha (by omega)) s1 f1
theorem Dh:yG ["one","other"] ["one","other"] (ap (top 69)):=smk
theorem lL(Bu:Df K mg "_law_above" (top 69)):Fn P w K mg base "_law_above" ["one","other"] 1 Da:=by
 refine Bu.fn Dh (fun _ _ _ _ _ _ us hl=>by obtain⟨_,_,rfl⟩:=dF hl;rfl) (fun vs H Q E h=>?_) (fun f cdv A outer s H vs Q E hr h=>?_)
 ·obtain⟨p,q,a,b,c,d,rfl,_⟩:=h
  rfl
 ·obtain⟨p,q,a,b,c,d,rfl,hp,hq,⟨ba,bb,bc,bd⟩,k⟩:=h
  refine⟨_,(ar (az (bY iB (ao ay (aj ai (pv 0) ad (fun _ _=>rfl)) (aj ai (pv 1) ad (fun _ _=>rfl))) (ao ay (aj ai (pv 1) ad (fun _ _=>rfl)) (aj ai (pv 0) ad (fun _ _=>rfl))) (aE _)))),?_⟩;refine⟨_,rfl,p,_,_,_,rfl,rfl,SqT.of hp,rfl,_,rfl,q,_,_,_,rfl,rfl,SqT.of hq,rfl,_,_,rfl,rfl,CM.b ba bd (by decide) (by decide),_,rfl,q,_,_,_,rfl,rfl,SqT.of hq,rfl,_,rfl,p,_,_,_,rfl,rfl,SqT.of hp,rfl,_,_,rfl,rfl,CM.b bc bb (by decide) (by decide),_,_,rfl,rfl,k⟩
def nx(qs:Crn)(k:Int):Int:=if (((qs.map fun (q:Addr×Int×Int)=>V.ref q.1).length:Nat):Int) - 1<k+1 then (((qs.map fun (q:Addr×Int×Int)=>V.ref q.1).length:Nat):Int) - 1 else k+1
theorem kA{qs:Crn}{k:Int}(h0:0≤k)(h1:k<(qs.length:Int)):(0≤nx qs k∧nx qs k<(qs.length:Int))∧(nx qs k=k+1∨nx qs k=k)∧k≤nx qs k:=by
 unfold nx;rw[List.length_map]
 split <;> omega
theorem vP{qs:Crn}{k:Int}(h1:k+1<(qs.length:Int)):nx qs k=k+1:=by
 unfold nx;rw[List.length_map,if_neg (by omega)]
theorem dY{H:Hp}{l:Addr}{qs:Crn}{k:Int}(L:LineM H l qs)(h0:0≤k)(h1:k<(qs.length:Int)):∃a:Addr,atI (qs.map fun (q:Addr×Int×Int)=>V.ref q.1) k=some (.ref a)∧H a=some (.tup [.int (cnX qs k),.int (cnY qs k)])∧bits (cnX qs k)≤50∧bits (cnY qs k)≤50:=by
 obtain⟨j,rfl⟩:∃j:Nat,k=(j:Int):=⟨k.toNat,by omega⟩;have hk:j<qs.length:=by omega
 have e:qs.getD j (0,0,0)=qs[j]:=by rw[List.getD_eq_getElem?_getD,List.getElem?_eq_getElem hk];rfl
 have c:=L.crn _ (List.getElem_mem hk);have e1:cnX qs (j:Int)=qs[j].2.1:=by unfold cnX;rw[Int.toNat_natCast,e]
 have e2:cnY qs (j:Int)=qs[j].2.2:=by unfold cnY;rw[Int.toNat_natCast,e]
 rw[e1,e2];exact⟨qs[j].1,d6 (by rw[List.getElem?_map,List.getElem?_eq_getElem hk];rfl),c.1,dW c.2.1,dW c.2.2⟩
def ftX(cx cy bx by_ ex ey:Int):Int:=(ex - bx)*(cy - by_) - (ey - by_)*(cx - bx)
def ftB(cx cy bx by_ ex ey:Int):Int:=(ex - bx)*(cx - bx)+(ey - by_)*(cy - by_)
theorem oG(cx cy bx by_ ex ey:Int):ftB cx cy bx by_ ex ey=rAl cx cy bx by_ ex ey:=by unfold ftB rAl;grind
def FtR(H:Hp)(r:Addr)(A B X:Int):Prop:=(0<B∧B<A∧∃t,H r=some (.lst [.ref t])∧H t=some (.tup [.int (X*X),.int A]))∨(¬(0<B∧B<A)∧H r=some (.lst []))
inductive EH (vs:List V) (H:Hp) (Q:VK) (x_3:XK):Prop
 | mk:∀(pc l pw pn:Addr) (cx cy:Int) (qs:Crn) (k:Int),(vs = [.ref pc,.ref l,.ref pw,.ref pn])->(Cn H pc cx cy)->(LineM H l qs)->((H pw=some (.tup [.int k,.int 1])∧H pn=some (.tup [.int (nx qs k),.int 1])))->((0≤k∧k<(qs.length:Int)∧qs.length≤100))->(∀(r:Addr) (H':Hp),Same H H'->FtR H' r (a8 (cnX qs k) (cnY qs k) (cnX qs (nx qs k)) (cnY qs (nx qs k))) (ftB cx cy (cnX qs k) (cnY qs k) (cnX qs (nx qs k)) (cnY qs (nx qs k))) (ftX cx cy (cnX qs k) (cnY qs k) (cnX qs (nx qs k)) (cnY qs (nx qs k)))->Q (.ref r) H')->EH vs H Q x_3
def yF(H:Hp)(r:Addr)(d A B X:Int):Prop:=((d=1∧0<B∧B<A)∧∃t,H r=some (.lst [.ref t])∧H t=some (.tup [.int (X*X),.int A]))∨(¬(d=1∧0<B∧B<A)∧H r=some (.lst []))
def FtQ(H:Hp)(r:Addr)(cx cy:Int)(qs:Crn)(k h:Int):Prop:=yF H r (h - k) (a8 (cnX qs k) (cnY qs k) (cnX qs (nx qs k)) (cnY qs (nx qs k))) (ftB cx cy (cnX qs k) (cnY qs k) (cnX qs (nx qs k)) (cnY qs (nx qs k))) (ftX cx cy (cnX qs k) (cnY qs k) (cnX qs (nx qs k)) (cnY qs (nx qs k)))
theorem x6{k h A B:Int}(hk:h=k∨h=k+1):(h - k=1∧0<B∧B<A)↔((k - k*1)*A<B*1∧B*1<(h - k*1)*A):=by
 rw[show k - k*1=0 by omega,Int.zero_mul,Int.mul_one];rcases hk with e|e
 ·rw[show h - k*1=0 by omega,Int.zero_mul]
  omega
 ·rw[show h - k*1=1 by omega,Int.one_mul]
  omega
inductive DE (vs:List V) (H:Hp) (Q:VK) (x_3:XK):Prop
 | mk:∀(pc l pw pn:Addr) (cx cy:Int) (qs:Crn) (k h u v:Int),(vs = [.ref pc,.ref l,.ref pw,.ref pn])->(Cn H pc cx cy)->(LineM H l qs)->((H pw=some (.tup [.int u,.int 1])∧H pn=some (.tup [.int v,.int 1])))->(((u=k∧v=h)∨(u=h∧v=k)))->((h=k∨h=k+1))->((0≤k∧h<(qs.length:Int)∧qs.length≤100))->(∀(r:Addr) (H':Hp),Same H H'->FtQ H' r cx cy qs k h->Q (.ref r) H')->DE vs H Q x_3
theorem wP{x:Str}{ps:List Str}{k:Nat}{sp sp':Sp}(F:Fn P w K mg base x ps k sp)(h:∀vs H Q E,sp' vs H Q E->sp vs H Q E):Fn P w K mg base x ps k sp':=by
 obtain⟨f,fd,o,h1,h2,h3,h4,h6⟩:=F.ex;exact⟨⟨f,fd,o,h1,h2,h3,h4,h6.imp h⟩⟩
theorem u8(F:Fn P w K mg base "_law_foot" ["corner","line","was","now"] 2 DE):Fn P w K mg base "_law_foot" ["corner","line","was","now"] 2 EH :=
 wP F fun vs H Q E ⟨pc,l,pw,pn,cx,cy,qs,k,e,cc,L,⟨ew,en⟩,⟨k0,kn,n100⟩,q⟩=>by
  obtain⟨⟨e0,el⟩,ee,ke⟩:=kA k0 kn;refine⟨pc,l,pw,pn,cx,cy,qs,k,nx qs k,k,nx qs k,e,cc,L,⟨ew,en⟩,.inl ⟨rfl,rfl⟩,ee.symm,⟨k0,el,n100⟩,fun r H' s f=>q r H' s ?_⟩;rcases f with⟨⟨_,h1,h2⟩,t,h⟩|⟨n,h⟩
  ·exact .inl ⟨h1,h2,t,h⟩
  ·refine .inr ⟨fun z=>n ⟨?_,z.1,z.2⟩,h⟩
   rcases ee with e|e
   ·omega
   ·rw[e]at z
    have:ftB cx cy (cnX qs k) (cnY qs k) (cnX qs k) (cnY qs k)=0:=by unfold ftB;grind
    omega
theorem yQ:yG ["corner","line","was","now","low","high","k","begin","end","along","off","length","dot","cross"] ["corner","line","was","now"] (ap (top 74)):=smk
theorem nq(BT:Df K mg "_law_foot" (top 74))(yT:Fn P w K mg base "_law_above" ["one","other"] 1 Da)(T:Txt mg):Fn P w K mg base "_law_foot" ["corner","line","was","now"] 2 DE:=by
 refine BT.fn yQ (fun _ _ _ _ _ _ us hl=>by obtain⟨_,_,_,_,rfl⟩:=qR hl;rfl) (fun vs H Q E h=>?_) (fun f cdv A outer s H vs Q E hr h=>?_)
 ·obtain⟨pc,l,pw,pn,cx,cy,qs,k,h,u,v,rfl,_⟩:=h
  rfl
 ·obtain⟨pc,l,pw,pn,cx,cy,qs,k,h,u,v,rfl,cc,L,⟨ew,en⟩,huv,hk,⟨k0,kn,n100⟩,q⟩:=h
  have kl:k<(qs.length:Int):=by omega
  have ek:k / 1=k:=Int.ediv_one k;obtain⟨⟨e0,el⟩,ee,ke⟩:=kA k0 kl;obtain⟨pb,ab,eb,bb1,bb2⟩:=dY L k0 kl;obtain⟨pe,ae,een,be1,be2⟩:=dY L e0 el;have bk:bits k≤10:=aV (by omega) (by omega);have bu:bits u≤10:=aV (by omega) (by omega);have bv:bits v≤10:=aV (by omega) (by omega);have b1:bits (1:Int)≤1:=by decide
  have R:∃uu:TS,PSs (bw CX0 P w K mg base ["corner","line","was","now","low","high","k","begin","end","along","off","length","dot","cross"] "_law_foot" (ap (top 74)) f cdv A outer s H E).nox ((aL (top 74)).drop 3) uu∧∀(pl ph:Addr),H pl=some (.tup [.int k,.int 1])->H ph=some (.tup [.int h,.int 1])->uu { nx:=fun _ H'=>Q .non H',rt:=Q } [some (.ref pc),some (.ref l),some (.ref pw),some (.ref pn),some (.ref pl),some (.ref ph),none,none,none,none,none,none,none,none] H:=by
   refine⟨_,(ag (ax (i:=6) yQ.nd rfl (Or.inl rfl) (ao cj (aj ai (pv 4) ad (fun _ _=>rfl)) (aj ai (pv 4) ad (fun _ _=>rfl)))) (ag (ax (i:=7) yQ.nd rfl (Or.inl rfl) (aj aM (pv 1) (pv 6) (fun _ _=>rfl))) (ag (ax (i:=8) yQ.nd rfl (Or.inl rfl) (aj aM (pv 1) (aF (dC rfl) (by rfl) T.z_min fF (aa (ao aP (pv 6) ad) (aa (ao aG (aF aI (by rfl) T.z_len bD (aa (pv 1) af)) ad) af))) (fun _ _=>rfl))) (ag (ax (i:=9) yQ.nd rfl (Or.inl rfl) (aB (aa (ao aG (aj ai (pv 8) ad (fun _ _=>rfl)) (aj ai (pv 7) ad (fun _ _=>rfl))) (aa (ao aG (aj ai (pv 8) ad (fun _ _=>rfl)) (aj ai (pv 7) ad (fun _ _=>rfl))) af)))) (ag (ax (i:=10) yQ.nd rfl (Or.inl rfl) (aB (aa (ao aG (aj ai (pv 0) ad (fun _ _=>rfl)) (aj ai (pv 7) ad (fun _ _=>rfl))) (aa (ao aG (aj ai (pv 0) ad (fun _ _=>rfl)) (aj ai (pv 7) ad (fun _ _=>rfl))) af)))) (ag (ax (i:=11) yQ.nd rfl (Or.inl rfl) (ao aP (ao ay (aj ai (pv 9) ad (fun _ _=>rfl)) (aj ai (pv 9) ad (fun _ _=>rfl))) (ao ay (aj ai (pv 9) ad (fun _ _=>rfl)) (aj ai (pv 9) ad (fun _ _=>rfl))))) (ag (ax (i:=12) yQ.nd rfl (Or.inl rfl) (ao aP (ao ay (aj ai (pv 9) ad (fun _ _=>rfl)) (aj ai (pv 10) ad (fun _ _=>rfl))) (ao ay (aj ai (pv 9) ad (fun _ _=>rfl)) (aj ai (pv 10) ad (fun _ _=>rfl))))) (ag (aQ (d7 (aC cY (ao ay (ao aG (aj ai (pv 4) ad (fun _ _=>rfl)) (ao ay (pv 6) (aj ai (pv 4) ad (fun _ _=>rfl)))) (pv 11)) (ao ay (pv 12) (aj ai (pv 4) ad (fun _ _=>rfl))) (aE _)) (dX (aC cY (ao ay (pv 12) (aj ai (pv 5) ad (fun _ _=>rfl))) (ao ay (ao aG (aj ai (pv 5) ad (fun _ _=>rfl)) (ao ay (pv 6) (aj ai (pv 5) ad (fun _ _=>rfl)))) (pv 11)) (aE _)))).pt (ag (ax (i:=13) yQ.nd rfl (Or.inl rfl) (ao aG (ao ay (aj ai (pv 9) ad (fun _ _=>rfl)) (aj ai (pv 10) ad (fun _ _=>rfl))) (ao ay (aj ai (pv 9) ad (fun _ _=>rfl)) (aj ai (pv 10) ad (fun _ _=>rfl))))) (ar (az (@bH _ _ _ _ (@aa _ _ _ _ _ (@aB _ _ _ _ _ (@aa _ _ _ _ _ (ao ay (pv 13) (pv 13)) (@aa _ _ _ _ _ (pv 11) af (by rfl)) (by rfl))) af (by rfl)))))) aH) (ar (az (bH af))))))))))),fun pl ph ew en=>?_⟩;refine⟨_,rfl,pl,_,_,_,rfl,rfl,SqT.of ew,rfl,_,rfl,pl,_,_,_,rfl,rfl,SqT.of ew,rfl,_,_,rfl,rfl,⟨by decide,by decide⟩,?_⟩;rw[ek];refine⟨_,rfl,_,rfl,l,_,_,_,rfl,rfl,SqL.of L.lst,ab,?_⟩;refine⟨_,rfl,_,rfl,_,_,rfl,rfl,_,rfl,l,_,rfl,.inl (SqL.of L.lst),_,_,rfl,rfl,_,_,rfl,l,_,_,_,rfl,rfl,SqL.of L.lst,ae,?_⟩;refine⟨_,rfl,pe,_,_,_,rfl,rfl,SqT.of een,rfl,_,rfl,pb,_,_,_,rfl,rfl,SqT.of eb,rfl,_,_,rfl,rfl,_,rfl,pe,_,_,_,rfl,rfl,SqT.of een,rfl,_,rfl,pb,_,_,_,rfl,rfl,SqT.of eb,rfl,_,_,rfl,rfl,sz (by simp),fun pa H1 s1 f1 n1=>?_⟩;have cc1:=s1 _ _ cc.at_;have eb1:=s1 _ _ eb;refine⟨_,rfl,pc,_,_,_,rfl,rfl,SqT.of cc1,rfl,_,rfl,pb,_,_,_,rfl,rfl,SqT.of eb1,rfl,_,_,rfl,rfl,_,rfl,pc,_,_,_,rfl,rfl,SqT.of cc1,rfl,_,rfl,pb,_,_,_,rfl,rfl,SqT.of eb1,rfl,_,_,rfl,rfl,sz (by simp),fun po H2 s2 f2 n2=>?_⟩;have f1':=s2 _ _ f1;have S2:=s1.trans s2;have w1:=aK be1 bb1;have w2:=aK be2 bb2;have o1:=aK cc.bx bb1;have o2:=aK cc.by_ bb2;refine⟨_,rfl,pa,_,_,_,rfl,rfl,SqT.of f1',rfl,_,rfl,pa,_,_,_,rfl,rfl,SqT.of f1',rfl,_,_,rfl,rfl,CM.b w1 w1 (by decide) (by decide),_,rfl,pa,_,_,_,rfl,rfl,SqT.of f1',rfl,_,rfl,pa,_,_,_,rfl,rfl,SqT.of f1',rfl,_,_,rfl,rfl,CM.b w2 w2 (by decide) (by decide),_,_,rfl,rfl,?_⟩;refine⟨_,rfl,pa,_,_,_,rfl,rfl,SqT.of f1',rfl,_,rfl,po,_,_,_,rfl,rfl,SqT.of f2,rfl,_,_,rfl,rfl,CM.b w1 o1 (by decide) (by decide),_,rfl,pa,_,_,_,rfl,rfl,SqT.of f1',rfl,_,rfl,po,_,_,_,rfl,rfl,SqT.of f2,rfl,_,_,rfl,rfl,CM.b w2 o2 (by decide) (by decide),_,_,rfl,rfl,?_⟩;have bA:=a7 (bits_mul w1 w1) (bits_mul w2 w2);have bB:=a7 (bits_mul w1 o1) (bits_mul w2 o2);have ew2:=S2 _ _ ew;have en2:=S2 _ _ en;have bd:bits (h - k*1)≤12:=aw (aV (by clear bA bB w1 w2 o1 o2 bb1 bb2 be1 be2 bk bu bv;omega) (by clear bA bB w1 w2 o1 o2 bb1 bb2 be1 be2 bk bu bv;omega)) (by decide);have bz:bits (k - k*1)≤12:=by rw[Int.mul_one,Int.sub_self];decide
   have zz:=x6 (A:=a8 (cnX qs k) (cnY qs k) (cnX qs (nx qs k)) (cnY qs (nx qs k))) (B:=ftB cx cy (cnX qs k) (cnY qs k) (cnX qs (nx qs k)) (cnY qs (nx qs k))) hk;refine⟨_,rfl,pl,_,_,_,rfl,rfl,SqT.of ew2,rfl,_,rfl,_,rfl,pl,_,_,_,rfl,rfl,SqT.of ew2,rfl,_,_,rfl,rfl,CM.b bk b1 (by decide) (by decide),_,_,rfl,rfl,_,rfl,_,_,rfl,rfl,CM.b bz bA (by decide) (by decide),_,rfl,_,rfl,pl,_,_,_,rfl,rfl,SqT.of ew2,rfl,_,_,rfl,rfl,CM.b bB b1 (by decide) (by decide),_,_,rfl,rfl,_,rfl,aY (fun c1=>?_) (fun c1=>?_)⟩
   ·refine⟨_,rfl,_,rfl,ph,_,_,_,rfl,rfl,SqT.of en2,rfl,_,_,rfl,rfl,CM.b bB b1 (by decide) (by decide),_,rfl,ph,_,_,_,rfl,rfl,SqT.of en2,rfl,_,rfl,_,rfl,ph,_,_,_,rfl,rfl,SqT.of en2,rfl,_,_,rfl,rfl,CM.b bk b1 (by decide) (by decide),_,_,rfl,rfl,_,rfl,_,_,rfl,rfl,CM.b bd bA (by decide) (by decide),_,_,rfl,rfl,_,rfl,aY (fun c2=>?_) (fun c2=>?_)⟩
    ·have hz:=zz.mpr ⟨cV c1,cV c2⟩
     have bX:=aK (bits_mul w1 o2) (bits_mul w2 o1);refine⟨_,rfl,pa,_,_,_,rfl,rfl,SqT.of f1',rfl,_,rfl,po,_,_,_,rfl,rfl,SqT.of f2,rfl,_,_,rfl,rfl,CM.b w1 o2 (by decide) (by decide),_,rfl,pa,_,_,_,rfl,rfl,SqT.of f1',rfl,_,rfl,po,_,_,_,rfl,rfl,SqT.of f2,rfl,_,_,rfl,rfl,CM.b w2 o1 (by decide) (by decide),_,_,rfl,rfl,?_⟩;exact⟨_,rfl,_,rfl,_,_,rfl,rfl,CM.b bX bX (by decide) (by decide),_,rfl,sz (by simp),fun t H3 s3 f3 n3=>⟨sz (by simp),fun r H4 s4 f4 n4=>q r H4 (S2.trans (s3.trans s4)) (.inl ⟨hz,t,f4,s4 _ _ f3⟩)⟩⟩
    ·exact⟨sz (by simp),fun r H3 s3 f3 n3=>q r H3 (S2.trans s3) (.inr ⟨fun z=>du c2 (zz.mp z).2,f3⟩)⟩
   ·exact⟨sz (by simp),fun r H3 s3 f3 n3=>q r H3 (S2.trans s3) (.inr ⟨fun z=>du c1 (zz.mp z).1,f3⟩)⟩
  obtain⟨uu,hu,hR⟩:=R;refine⟨_,(ag (ax (i:=4) yQ.nd rfl (Or.inl rfl) (pv 2)) (ag (ax (i:=5) yQ.nd rfl (Or.inl rfl) (pv 3)) (ag (aQ (bo (aA yT (hr.mono (by decide)) (by rfl) (aa (pv 2) (aa (pv 3) af)))) (ag (ax (i:=4) yQ.nd rfl (Or.inl rfl) (pv 3)) (ar (ax (i:=5) yQ.nd rfl (Or.inl rfl) (pv 2)))) aH) hu))),?_⟩;refine⟨_,rfl,_,rfl,?_⟩;refine⟨_,rfl,_,rfl,pw,pn,u,1,v,1,rfl,ew,en,⟨aw bu (by decide),by decide,aw bv (by decide),by decide⟩,?_⟩;refine⟨_,rfl,aY (fun c=>?_) (fun c=>?_)⟩
  ·have c:=cV c
   have e1:u=h:=by omega
   have e2:v=k:=by omega
   subst e1;subst e2;exact⟨_,rfl,_,rfl,hR pn pw en ew⟩
  ·have c:=du c
   have e1:u=k:=by omega
   have e2:v=h:=by omega
   subst e1;subst e2;exact hR pw pn ew en
def sqE(cx cy x y:Int):Int:=(cx - x)*(cx - x)+(cy - y)*(cy - y)
def bsT(cx cy bx by_ ex ey:Int):Int:=wB (a8 bx by_ ex ey) (rAl cx cy bx by_ ex ey) (sqE cx cy bx by_)
def bsB(cx cy bx by_ ex ey:Int):Int:=wC (a8 bx by_ ex ey) (rAl cx cy bx by_ ex ey)
theorem wb(cx cy x y:Int):0≤sqE cx cy x y:=Int.add_nonneg (sqx _) (sqx _)
theorem pD(bx by_ ex ey:Int):0≤a8 bx by_ ex ey:=Int.add_nonneg (sqx _) (sqx _)
theorem o6{z:Int}(h:z*z=0):z=0:=by
 rcases Int.mul_eq_zero.mp h with h|h <;> exact h
theorem vz{cx cy bx by_ ex ey:Int}(h:a8 bx by_ ex ey=0):rAl cx cy bx by_ ex ey=0:=by
 unfold a8 at h;have a:=sqx (ex - bx);have b:=sqx (ey - by_);have a1:=o6 (z:=ex - bx) (by omega);have b1:=o6 (z:=ey - by_) (by omega);unfold rAl;rw[a1,b1];omega
theorem uB(cx cy bx by_ ex ey:Int):a8 bx by_ ex ey - 2*rAl cx cy bx by_ ex ey+sqE cx cy bx by_=sqE cx cy ex ey:=by unfold a8 rAl sqE;grind
theorem yf{cx cy bx by_ ex ey:Int}(h:0<ftB cx cy bx by_ ex ey∧ftB cx cy bx by_ ex ey<a8 bx by_ ex ey):bsT cx cy bx by_ ex ey=ftX cx cy bx by_ ex ey*ftX cx cy bx by_ ex ey∧bsB cx cy bx by_ ex ey=a8 bx by_ ex ey:=by
 rw[oG]at h;unfold bsT bsB wB wC;rw[if_neg (by omega),if_neg (by omega),if_neg (by omega),if_neg (by omega)];refine⟨?_,rfl⟩;unfold a8 rAl sqE ftX
 grind
theorem xa{cx cy bx by_ ex ey m:Int}(h:¬(0<ftB cx cy bx by_ ex ey∧ftB cx cy bx by_ ex ey<a8 bx by_ ex ey))(mm:m=sqE cx cy bx by_∨m=sqE cx cy ex ey)(m1:m≤sqE cx cy bx by_)(m2:m≤sqE cx cy ex ey):bsT cx cy bx by_ ex ey=m∧bsB cx cy bx by_ ex ey=1:=by
 rw[oG]at h;have e:=uB cx cy bx by_ ex ey;have n:=pD bx by_ ex ey;have z:=vz (cx:=cx) (cy:=cy) (bx:=bx) (by_:=by_) (ex:=ex) (ey:=ey);unfold bsT bsB wB wC;generalize a8 bx by_ ex ey=A at *;generalize rAl cx cy bx by_ ex ey=B at *;generalize sqE cx cy bx by_=C at *;generalize sqE cx cy ex ey=D at *
 by_cases h1:A=0∨B≤0
 ·rw[if_pos h1,if_pos h1]
  refine⟨?_,rfl⟩;rcases h1 with h1|h1
  ·have:=z h1
   omega
  ·omega
 ·rw[if_neg h1,if_neg h1]
  by_cases h2:B≥A
  ·rw[if_pos h2,if_pos h2]
   exact⟨by omega,rfl⟩
  ·exact absurd ⟨by omega,by omega⟩ h
inductive Ec (vs:List V) (H:Hp) (Q:VK) (x_3:XK):Prop
 | mk:∀(pc l:Addr) (cx cy:Int) (qs:Crn) (k:Int),(vs = [.ref pc,.ref l,.int k])->(Cn H pc cx cy)->(LineM H l qs)->((0≤k∧k<(qs.length:Int)∧qs.length≤100))->(∀(p:Addr) (t u:Int) (H':Hp),Same H H'->H' p=some (.tup [.int t,.int u])->AR (bsT cx cy (cnX qs k) (cnY qs k) (cnX qs (nx qs k)) (cnY qs (nx qs k))) (bsB cx cy (cnX qs k) (cnY qs k) (cnX qs (nx qs k)) (cnY qs (nx qs k))) t u->0≤t->bits t≤208->bits u≤104->Q (.ref p) H')->Ec vs H Q x_3
theorem zB:yG ["corner","line","k","begin","end","foot","squares"] ["corner","line","k"] (ap (top 75)):=smk
theorem j4(A9:Df K mg "_law_beside" (top 75))(zt:Fn P w K mg base "_law_foot" ["corner","line","was","now"] 2 EH)(yY:Fn P w K mg base "_law_lowest" ["top","bottom"] 2 DB)(T:Txt mg):Fn P w K mg base "_law_beside" ["corner","line","k"] 3 Ec:=by
 refine A9.fn zB (fun _ _ _ _ _ _ us hl=>by obtain⟨_,_,_,rfl⟩:=gL hl;rfl) (fun vs H Q E h=>?_) (fun f cdv A outer s H vs Q E hr h=>?_)
 ·obtain⟨pc,l,cx,cy,qs,k,rfl,_⟩:=h
  rfl
 ·obtain⟨pc,l,cx,cy,qs,k,rfl,cc,L,⟨k0,kn,n100⟩,q⟩:=h
  have CN:Bx (bw CX0 P w K mg base ["corner","line","k","begin","end","foot","squares"] "_law_beside" (ap (top 75)) f cdv A outer s H E).nox (me ((aL (top 75)).getD 3 (.Pass ⟨0,0,0,0⟩))) [("corner",s.heap.objs.size+1)] "spot" [("corner",0)] :=
   ⟨by rfl,rfl,by decide +kernel,by decide +kernel,rfl,(fun p hp=>by simp only[List.mem_cons,List.not_mem_nil,or_false]at hp;rcases hp with rfl;rfl),by rfl,by decide +kernel,(fun p hp=>by simp only[List.mem_cons,List.not_mem_nil,or_false]at hp;rcases hp with rfl;exact⟨rfl,rfl,.inr (.inl rfl),rfl,rfl⟩),⟨rfl,rfl⟩,rfl⟩
  refine⟨_,(ag (ax (i:=3) zB.nd rfl (Or.inl rfl) (aj aM (pv 1) (pv 2) (fun _ _=>rfl))) (ag (ax (i:=4) zB.nd rfl (Or.inl rfl) (aj aM (pv 1) (aF (dC rfl) (by rfl) T.z_min fF (aa (ao aP (pv 2) ad) (aa (ao aG (aF aI (by rfl) T.z_len bD (aa (pv 1) af)) ad) af))) (fun _ _=>rfl))) (ag (ax (i:=5) zB.nd rfl (Or.inl rfl) (aA zt (hr.mono (by decide)) (by rfl) (aa (pv 0) (aa (pv 1) (aa (aB (aa (pv 2) (aa ad af))) (aa (aB (aa (aF (dC rfl) (by rfl) T.z_min fF (aa (ao aP (pv 2) ad) (aa (ao aG (aF aI (by rfl) T.z_len bD (aa (pv 1) af)) ad) af))) (aa ad af))) af)))))) (ag (mn (j:=6) rfl CN zB.nd rfl rfl (wn (aB (aa (pv 3) (aa (pv 4) af)))) (fun fp s₀ H₀=>(ao aP (ao ay (ao aG (aj (cC (K:=K) rfl) (pv 1) ad (fun _ _=>rfl)) (aj (cC (K:=K) rfl) (pv 0) ad (fun _ _=>rfl))) (ao aG (aj (cC (K:=K) rfl) (pv 1) ad (fun _ _=>rfl)) (aj (cC (K:=K) rfl) (pv 0) ad (fun _ _=>rfl)))) (ao ay (ao aG (aj (cC (K:=K) rfl) (pv 1) ad (fun _ _=>rfl)) (aj (cC (K:=K) rfl) (pv 0) ad (fun _ _=>rfl))) (ao aG (aj (cC (K:=K) rfl) (pv 1) ad (fun _ _=>rfl)) (aj (cC (K:=K) rfl) (pv 0) ad (fun _ _=>rfl))))))) (ag (aQ (aC (lg hr.units10) (pv 5) (bH af) (aE _)) (ar (az (aA yY (hr.mono (by decide)) (by rfl) (aa (aj ai (aj aM (pv 5) ad (fun _ _=>rfl)) ad (fun _ _=>rfl)) (aa (aj ai (aj aM (pv 5) ad (fun _ _=>rfl)) ad (fun _ _=>rfl)) af))))) aH) (ar (az (aB (aa (aF (rF rfl) (by rfl) T.z_min fF (aa (pv 6) af)) (aa ad af)))))))))),?_⟩;obtain⟨⟨e0,el⟩,ee,ke⟩:=kA k0 kn;obtain⟨pb,ab,eb,bb1,bb2⟩:=dY L k0 kn;obtain⟨pe,ae,een,be1,be2⟩:=dY L e0 el;refine⟨_,rfl,_,rfl,l,_,_,_,rfl,rfl,SqL.of L.lst,ab,?_⟩;refine⟨_,rfl,_,rfl,_,_,rfl,rfl,_,rfl,l,_,rfl,.inl (SqL.of L.lst),_,_,rfl,rfl,_,_,rfl,l,_,_,_,rfl,rfl,SqL.of L.lst,ae,?_⟩;refine⟨_,rfl,_,rfl,_,rfl,sz (by simp),fun pw H1 s1 f1 n1=>?_⟩;refine⟨_,rfl,_,_,rfl,rfl,_,rfl,l,_,rfl,.inl (SqL.of (L.mono s1).lst),_,_,rfl,rfl,_,_,rfl,sz (by simp),fun pn H2 s2 f2 n2=>?_⟩;have S2:=s1.trans s2;refine⟨pc,l,pw,pn,cx,cy,qs,k,rfl,cc.mono S2,L.mono S2,⟨s2 _ _ f1,f2⟩,⟨k0,kn,n100⟩,fun ft H3 s3 ftr=>?_⟩;have S3:=S2.trans s3;refine⟨_,rfl,_,rfl,sz (by simp),fun pt H4 s4 f4 n4=>?_⟩;have S4:=S3.trans s4;refine⟨pt,rfl,⟨_,SqT.of f4⟩,vm (SqT.of f4) (by simp) (fun i v H'=>∃y:Int,v = .int y∧((i=0∧y=sqE cx cy (cnX qs k) (cnY qs k))∨(i=1∧y=sqE cx cy (cnX qs (nx qs k)) (cnY qs (nx qs k))))) (fun _ _ _ _ _ h=>h) ?_ ?_⟩
  ·intro i x H5 Kc hx s5 kk
   obtain⟨a,x1,y1,rfl,ha,b1,b2,hi⟩:∃(a:Addr) (x1 y1:Int),x = .ref a∧H4 a=some (.tup [.int x1,.int y1])∧bits x1≤50∧bits y1≤50∧((i=0∧sqE cx cy x1 y1=sqE cx cy (cnX qs k) (cnY qs k))∨(i=1∧sqE cx cy x1 y1=sqE cx cy (cnX qs (nx qs k)) (cnY qs (nx qs k)))):=by
    match i,hx with
    | 0,hx=>cases hx;exact⟨pb,_,_,rfl,S4 _ _ eb,bb1,bb2,.inl ⟨rfl,rfl⟩⟩
    | 1,hx=>cases hx;exact⟨pe,_,_,rfl,S4 _ _ een,be1,be2,.inr ⟨rfl,rfl⟩⟩
    | n+2,hx=>simp at hx
   have c5:=s5 _ _ (S4 _ _ cc.at_);have a5:=s5 _ _ ha;have w1:=aK cc.bx b1;have w2:=aK cc.by_ b2;exact⟨_,rfl,pc,_,_,_,rfl,rfl,SqT.of c5,rfl,_,rfl,a,_,_,_,rfl,rfl,SqT.of a5,rfl,_,_,rfl,rfl,_,rfl,pc,_,_,_,rfl,rfl,SqT.of c5,rfl,_,rfl,a,_,_,_,rfl,rfl,SqT.of a5,rfl,_,_,rfl,rfl,_,_,rfl,rfl,CM.b w1 w1 (by decide) (by decide),_,rfl,pc,_,_,_,rfl,rfl,SqT.of c5,rfl,_,rfl,a,_,_,_,rfl,rfl,SqT.of a5,rfl,_,_,rfl,rfl,_,rfl,pc,_,_,_,rfl,rfl,SqT.of c5,rfl,_,rfl,a,_,_,_,rfl,rfl,SqT.of a5,rfl,_,_,rfl,rfl,_,_,rfl,rfl,CM.b w2 w2 (by decide) (by decide),_,_,rfl,rfl,kk _ H5 (Same.refl _) ⟨_,rfl,hi⟩⟩
  ·intro lr ys H5 nl s5 f5 hly hr
   obtain⟨ns,rfl,hns⟩:∃ns:List Int,ys=ns.map V.int∧ns = [sqE cx cy (cnX qs k) (cnY qs k),sqE cx cy (cnX qs (nx qs k)) (cnY qs (nx qs k))]:=by
    match ys,hly,hr with
    | [u,v],_,hr =>
     obtain⟨y0,rfl,h0⟩:=hr 0 _ rfl;obtain⟨y1,rfl,h1⟩:=hr 1 _ rfl;refine⟨[y0,y1],rfl,?_⟩;rcases h0 with⟨_,h0⟩|⟨h0,_⟩
     ·rcases h1 with⟨h1,_⟩|⟨_,h1⟩
      ·exact absurd h1 (by decide)
      ·rw[h0,h1]
     ·exact absurd h0 (by decide)
   refine⟨_,rfl,sz (by simp),fun e6 H6 s6 f6 n6=>?_⟩;have S6:=S4.trans (s5.trans s6);have S36:=s4.trans (s5.trans s6);rcases ftr with⟨h1,h2,t,g1,g2⟩|⟨h1,g1⟩
   ·have g1':=S36 _ _ g1
    have g2':=S36 _ _ g2;refine⟨_,_,Rp.l1 (n:=8) g1' (Rp.t2 (n:=7) g2' .int .int),Rp.l0 (n:=8) f6,?_⟩;refine⟨_,rfl,ce (by rfl) ?_⟩;have n:=pD (cnX qs k) (cnY qs k) (cnX qs (nx qs k)) (cnY qs (nx qs k));have w1:=aK be1 bb1;have w2:=aK be2 bb2;have o1:=aK cc.bx bb1;have o2:=aK cc.by_ bb2;have bA:bits (a8 (cnX qs k) (cnY qs k) (cnX qs (nx qs k)) (cnY qs (nx qs k)))≤103:=a7 (bits_mul w1 w1) (bits_mul w2 w2);have bX:bits (ftX cx cy (cnX qs k) (cnY qs k) (cnX qs (nx qs k)) (cnY qs (nx qs k)))≤103:=aK (bits_mul w1 o2) (bits_mul w2 o1);obtain⟨eT,eB⟩:=yf ⟨h1,h2⟩;rw[eT,eB]at q;refine⟨_,rfl,ft,_,_,_,rfl,rfl,SqL.of g1',rfl,t,_,_,_,rfl,rfl,SqT.of g2',rfl,_,rfl,ft,_,_,_,rfl,rfl,SqL.of g1',rfl,t,_,_,_,rfl,rfl,SqT.of g2',rfl,_,_,rfl,⟨sqx _,by omega⟩,aw bA (by decide),fun p t' u' H7 fr t1 u1 t0 s7 f7=>?_⟩;exact q p t' u' H7 (S6.trans s7) f7 fr t0 (aw (bQ t0 t1 (bits_mul bX bX)) (by decide)) (aw (bQ (by have:=fr.low.pos;omega) u1 bA) (by decide))
   ·refine⟨_,_,Rp.l0 (n:=8) (S36 _ _ g1),Rp.l0 (n:=8) f6,?_⟩
    refine⟨_,rfl,aR (by rfl) ?_⟩;refine⟨_,rfl,lr,ns,rfl,SqL.of (s6 _ _ f5),by rw[hns];simp,fun m mm ml=>⟨sz (by simp),fun p H7 s7 f7 n7=>?_⟩⟩;rw[hns]at mm ml;simp only[List.mem_cons,List.not_mem_nil,or_false]at mm;obtain⟨eT,eB⟩:=xa h1 mm (ml _ (by simp)) (ml _ (by simp));rw[eT,eB]at q;have m0:0≤m:=by rcases mm with rfl|rfl <;> exact wb _ _ _ _
    have bm:bits m≤103:=by
     rcases mm with rfl|rfl
     ·exact a7 (bits_mul (aK cc.bx bb1) (aK cc.bx bb1)) (bits_mul (aK cc.by_ bb2) (aK cc.by_ bb2))
     ·exact a7 (bits_mul (aK cc.bx be1) (aK cc.bx be1)) (bits_mul (aK cc.by_ be2) (aK cc.by_ be2))
    exact q p m 1 H7 (S6.trans s7) f7 ⟨⟨by decide,Int.gcd_one⟩,rfl⟩ m0 (aw bm (by decide)) (by decide)
inductive DT (vs:List V) (H:Hp) (Q:VK) (x_3:XK):Prop
 | mk:∀(p l1 l2:Addr) (n:Int) (qs rs:Crn),(vs = [.ref p,.ref l1,.ref l2])->(H p=some (.lst [.int n]))->(LineM H l1 qs)->(LineM H l2 rs)->((l1≠p∧l2≠p))->((1≤qs.length∧qs.length≤10))->((1≤rs.length∧rs.length≤10))->(∀(z:Addr) (a b:Int) (H':Hp),Pl p H H'->Sq H' z a b->CC a b->0≤a->Q (.ref z) H')->DT vs H Q x_3
theorem yX:yG ["pool","one","other","sort","mine","k","found"] ["pool","one","other"] (ap (top 76)):=smk
theorem jX(AZ:Df K mg "_law_square" (top 76))(yH:Fn P w K mg base "_law_take" ["pool","many"] 1 BG)(Af:Fn P w K mg base "_law_beside" ["corner","line","k"] 3 Ec)(yY:Fn P w K mg base "_law_lowest" ["top","bottom"] 2 DB)(T:Txt mg):Fn P w K mg base "_law_square" ["pool","one","other"] 4 DT:=by
 refine AZ.fn yX (fun _ _ _ _ _ _ us hl=>by obtain⟨_,_,_,rfl⟩:=gL hl;rfl) (fun vs H Q E h=>?_) (fun f cdv A outer s H vs Q E hr h=>?_)
 ·obtain⟨p,l1,l2,n,qs,rs,rfl,_⟩:=h
  rfl
 ·obtain⟨p,l1,l2,n,qs,rs,rfl,ep,La,Lb,⟨n1p,n2p⟩,⟨h1,h10⟩,⟨g1,g10⟩,q⟩:=h
  have hlq:(qs.map fun (q:Addr×Int×Int)=>V.ref q.1).length=qs.length:=List.length_map _;have hlr:(rs.map fun (q:Addr×Int×Int)=>V.ref q.1).length=rs.length:=List.length_map _;have e50:(10:Int)^(50:Int).toNat=100000000000000000000000000000000000000000000000000:=by decide +kernel
  have e20:(10:Int)^(20:Int).toNat=100000000000000000000:=by decide +kernel
  have R:∃u:TS,PSs (bw CX0 P w K mg base ["pool","one","other","sort","mine","k","found"] "_law_square" (ap (top 76)) f cdv A outer s H E).nox ((aL (top 76)).drop 9) u∧∀(H1:Hp) (so:Int) (mv kv:Option V) (z:Addr) (t v:Int),Pl p H H1->H1 z=some (.tup [.int t,.int v])->CC t v->0≤t->bits t≤208->bits v≤104->u { nx:=fun _ H'=>Q .non H',rt:=Q } [some (.ref p),some (.ref l1),some (.ref l2),some (.int so),mv,kv,some (.ref z)] H1:=by
   refine⟨_,(ag (aQ (aC bR (pv 3) ad (aE _)) (ar (ax (i:=6) yX.nd rfl (Or.inl rfl) (aA yY (hr.mono (by decide)) (by rfl) (aa (aF (fL rfl) (by rfl) T.z_max lU (aa ad (aa (ao aG (ao aP (ao ay (aj ai (pv 6) ad (fun _ _=>rfl)) ad) (aA yH (hr.mono (by decide)) (by rfl) (aa (pv 0) (aa ad af)))) ad) af))) (aa (ao ay (aj ai (pv 6) ad (fun _ _=>rfl)) ad) af))))) aH) (ar (az (pv 6)))),fun H1 so mv kv z t v P1 ez lw t0 bt bv=>?_⟩;obtain⟨n1,e1⟩:=P1.now;have b1:bits (1000:Int)≤10:=by decide
   have hv:=lw.pos;refine⟨_,rfl,rfl,_,rfl,aY (fun c=>?_) (fun c=>?_)⟩
   ·refine⟨_,rfl,z,_,_,_,rfl,rfl,SqT.of ez,rfl,_,_,rfl,rfl,CM.b bt b1 (by decide) (by decide),_,rfl,p,_,_,rfl,e1,⟨by decide,by decide⟩,fun r2 H2 a2 b2 P2=>?_⟩
    have ez2:=P2.t _ _ ez;refine⟨_,_,rfl,rfl,_,_,rfl,rfl,_,_,rfl,_,rfl,z,_,_,_,rfl,rfl,SqT.of ez2,rfl,_,_,rfl,rfl,CM.b bv b1 (by decide) (by decide),?_⟩;have hM:0≤(if t*1000+r2 - 1>0 then t*1000+r2 - 1 else 0)∧(if t*1000+r2 - 1>0 then t*1000+r2 - 1 else 0)≤t*1000+r2:=by split <;> omega
    generalize (if t*1000+r2 - 1>0 then t*1000+r2 - 1 else 0)=M at hM
    have bM:bits M≤219:=bQ hM.1 hM.2 (a7 (bits_mul bt b1) (aw (aV (by omega) (by omega)) (by decide)));have bV:bits (v*1000)≤114:=bits_mul bv b1;refine⟨M,v*1000,rfl,⟨hM.1,by omega⟩,aw bV (by decide),fun z' t' v' H3 fr t1 v1 t0' s3 f3=>⟨_,rfl,?_⟩⟩;exact q z' t' v' H3 ((P1.trans P2).grow s3) ⟨f3,aw (bQ t0' t1 bM) (by decide),aw (bQ (by have:=fr.low.pos;omega) v1 bV) (by decide)⟩ fr.low t0'
   ·exact⟨_,rfl,q z t v H1 P1 ⟨ez,aw bt (by decide),aw bv (by decide)⟩ lw t0⟩
  obtain⟨u,hu,hR⟩:=R;refine⟨_,(ag (ax (i:=3) yX.nd rfl (Or.inl rfl) (aA yH (hr.mono (by decide)) (by rfl) (aa (pv 0) (aa ad af)))) (ag (ax (i:=4) yX.nd rfl (Or.inl rfl) (aj aM (pv 1) (aA yH (hr.mono (by decide)) (by rfl) (aa (pv 0) (aa (aF aI (by rfl) T.z_len bD (aa (pv 1) af)) af))) (fun _ _=>rfl))) (ag (ax (i:=5) yX.nd rfl (Or.inl rfl) (aA yH (hr.mono (by decide)) (by rfl) (aa (pv 0) (aa (aF aI (by rfl) T.z_len bD (aa (pv 2) af)) af)))) (ag (aQ (aC bR (pv 3) ad (aE _)) (ar (az (aB (aa ad (aa ad af))))) aH) (ag (aQ (aC bR (pv 3) ad (aE _)) (ar (az (aA yY (hr.mono (by decide)) (by rfl) (aa (aA yH (hr.mono (by decide)) (by rfl) (aa (pv 0) (aa ad af))) (aa (ao aP ad (aA yH (hr.mono (by decide)) (by rfl) (aa (pv 0) (aa ad af)))) af))))) aH) (ag (aQ (aC bR (pv 3) ad (aE _)) (ar (az (aA yY (hr.mono (by decide)) (by rfl) (aa (aA yH (hr.mono (by decide)) (by rfl) (aa (pv 0) (aa (ao dQ ad ad) af))) (aa (ao aP ad (aA yH (hr.mono (by decide)) (by rfl) (aa (pv 0) (aa (ao dQ ad ad) af)))) af))))) aH) (ag (aQ (aC cY (pv 3) ad (aE _)) (ag (ax (i:=6) yX.nd rfl (Or.inl rfl) (ao aP (ao ay (ao aG (aj ai (pv 4) ad (fun _ _=>rfl)) (aj ai (aj aM (pv 2) (pv 5) (fun _ _=>rfl)) ad (fun _ _=>rfl))) (ao aG (aj ai (pv 4) ad (fun _ _=>rfl)) (aj ai (aj aM (pv 2) (pv 5) (fun _ _=>rfl)) ad (fun _ _=>rfl)))) (ao ay (ao aG (aj ai (pv 4) ad (fun _ _=>rfl)) (aj ai (aj aM (pv 2) (pv 5) (fun _ _=>rfl)) ad (fun _ _=>rfl))) (ao aG (aj ai (pv 4) ad (fun _ _=>rfl)) (aj ai (aj aM (pv 2) (pv 5) (fun _ _=>rfl)) ad (fun _ _=>rfl)))))) (ar (az (aB (aa (pv 6) (aa ad af)))))) aH) (ag (ax (i:=6) yX.nd rfl (Or.inl rfl) (aA Af (hr.mono (by decide)) (by rfl) (aa (pv 4) (aa (pv 2) (aa (pv 5) af))))) (ag (aQ (aC bR (pv 3) ad (aE _)) (ar (ax (i:=6) yX.nd rfl (Or.inl rfl) (aA Af (hr.mono (by decide)) (by rfl) (aa (aj aM (pv 2) (pv 5) (fun _ _=>rfl)) (aa (pv 1) (aa (aA yH (hr.mono (by decide)) (by rfl) (aa (pv 0) (aa (aF aI (by rfl) T.z_len bD (aa (pv 1) af)) af))) af)))))) aH) hu))))))))),?_⟩;refine⟨_,rfl,p,_,_,rfl,ep,⟨by decide,by decide⟩,fun so H1 a1 b1 P1=>?_⟩;obtain⟨n1,e1⟩:=P1.now;refine⟨_,rfl,_,rfl,_,rfl,l1,_,rfl,.inl (SqL.of (P1.line La n1p).lst),p,_,_,rfl,e1,⟨by rw[hlq];omega,by rw[hlq];exact aw (aV (by omega) (by omega)) (by decide)⟩,fun i H2 a2 b2 P2=>?_⟩;rw[hlq]at b2;have P12:=P1.trans P2;obtain⟨n2,e2⟩:=P12.now;obtain⟨pm,am,em,bm1,bm2⟩:=dY (P12.line La n1p) a2 b2;refine⟨l1,_,_,_,rfl,rfl,SqL.of (P12.line La n1p).lst,am,?_⟩;refine⟨_,rfl,_,rfl,l2,_,rfl,.inl (SqL.of (P12.line Lb n2p).lst),p,_,_,rfl,e2,⟨by rw[hlr];omega,by rw[hlr];exact aw (aV (by omega) (by omega)) (by decide)⟩,fun k H3 a3 b3 P3=>?_⟩;rw[hlr]at b3;have P13:=P12.trans P3;obtain⟨n3,e3⟩:=P13.now;have L3:=P13.line La n1p;have R3:=P13.line Lb n2p;obtain⟨pk,ak,ek,bk1,bk2⟩:=dY R3 a3 b3;have em3:=P3.t _ _ em;refine⟨_,rfl,rfl,_,rfl,aY (fun c=>?_) (fun c0=>?_)⟩
  ·exact⟨sz (by simp),fun z H4 s4 f4 n4=>q z 0 1 H4 (P13.grow s4) ⟨f4,by decide,by decide⟩ ⟨by decide,by decide⟩ (by decide)⟩
  refine⟨_,rfl,rfl,_,rfl,aY (fun c=>?_) (fun c1=>?_)⟩
  ·refine⟨_,rfl,p,_,_,rfl,e3,⟨by decide,by decide⟩,fun r4 H4 a4 b4 P4=>?_⟩
   have P14:=P13.trans P4;obtain⟨n4,e4⟩:=P14.now;refine⟨_,rfl,p,_,_,rfl,e4,⟨by decide,by decide⟩,fun r5 H5 a5 b5 P5=>⟨_,_,rfl,rfl,?_⟩⟩;refine⟨_,_,rfl,⟨a4,by omega⟩,aw (aV (by omega) (by omega)) (by decide),fun z t v H6 fr t1 v1 t0 s6 f6=>?_⟩;exact q z t v H6 ((P14.trans P5).grow s6) ⟨f6,aw (aV (by omega) (by omega)) (by decide),aw (aV (by have:=fr.low.pos;omega) (by omega)) (by decide)⟩ fr.low t0
  refine⟨_,rfl,rfl,_,rfl,aY (fun c=>?_) (fun c2=>?_)⟩
  ·refine⟨_,rfl,_,_,rfl,rfl,⟨by decide,by decide,by decide⟩,p,_,_,rfl,e3,⟨by decide,by decide⟩,fun r4 H4 a4 b4 P4=>?_⟩
   have P14:=P13.trans P4;obtain⟨n4,e4⟩:=P14.now;refine⟨_,rfl,_,_,rfl,rfl,⟨by decide,by decide,by decide⟩,p,_,_,rfl,e4,⟨by decide,by decide⟩,fun r5 H5 a5 b5 P5=>⟨_,_,rfl,rfl,?_⟩⟩;rw[e50]at b4;rw[e20]at b5;have x4:bits r4≤167:=cL (n:=167) (by show _<187072209578355573530071658587684226515959365500928;omega);have x5:bits (1+r5)≤67:=cL (n:=67) (by show _<147573952589676412928;omega);refine⟨_,_,rfl,⟨a4,by omega⟩,aw x5 (by decide),fun z t v H6 fr t1 v1 t0 s6 f6=>?_⟩;exact q z t v H6 ((P14.trans P5).grow s6) ⟨f6,aw (bQ t0 t1 x4) (by decide),aw (bQ (by have:=fr.low.pos;omega) v1 x5) (by decide)⟩ fr.low t0
  refine⟨_,rfl,_,_,rfl,rfl,_,rfl,aY (fun c=>?_) (fun c3=>?_)⟩
  ·have w1:=aK bm1 bk1
   have w2:=aK bm2 bk2;refine⟨_,rfl,pm,_,_,_,rfl,rfl,SqT.of em3,rfl,_,rfl,_,rfl,l2,_,_,_,rfl,rfl,SqL.of R3.lst,ak,pk,_,_,_,rfl,rfl,SqT.of ek,rfl,_,_,rfl,rfl,_,rfl,pm,_,_,_,rfl,rfl,SqT.of em3,rfl,_,rfl,_,rfl,l2,_,_,_,rfl,rfl,SqL.of R3.lst,ak,pk,_,_,_,rfl,rfl,SqT.of ek,rfl,_,_,rfl,rfl,_,_,rfl,rfl,CM.b w1 w1 (by decide) (by decide),_,rfl,pm,_,_,_,rfl,rfl,SqT.of em3,rfl,_,rfl,_,rfl,l2,_,_,_,rfl,rfl,SqL.of R3.lst,ak,pk,_,_,_,rfl,rfl,SqT.of ek,rfl,_,_,rfl,rfl,_,rfl,pm,_,_,_,rfl,rfl,SqT.of em3,rfl,_,rfl,_,rfl,l2,_,_,_,rfl,rfl,SqL.of R3.lst,ak,pk,_,_,_,rfl,rfl,SqT.of ek,rfl,_,_,rfl,rfl,_,_,rfl,rfl,CM.b w2 w2 (by decide) (by decide),_,_,rfl,rfl,?_⟩;have bs:=a7 (bits_mul w1 w1) (bits_mul w2 w2);exact⟨_,rfl,sz (by simp),fun z H4 s4 f4 n4=>q z _ 1 H4 (P13.grow s4) ⟨f4,aw bs (by decide),by decide⟩ ⟨by decide,Int.gcd_one⟩ (Int.add_nonneg (sqx _) (sqx _))⟩
  refine⟨_,rfl,_,rfl,_,rfl,pm,l2,_,_,rs,k,rfl,⟨em3,bm1,bm2⟩,R3,⟨a3,b3,by omega⟩,fun z t v H4 s4 f4 fr t0 bt bv=>?_⟩;refine⟨_,rfl,rfl,_,rfl,aY (fun c=>?_) (fun c4=>?_)⟩
  ·have P14:=P13.grow s4
   obtain⟨n4,e4⟩:=P14.now;refine⟨_,rfl,_,rfl,l2,_,_,_,rfl,rfl,SqL.of (R3.mono s4).lst,ak,_,rfl,_,rfl,_,rfl,l1,_,rfl,.inl (SqL.of (L3.mono s4).lst),p,_,_,rfl,e4,⟨by rw[hlq];omega,by rw[hlq];exact aw (aV (by omega) (by omega)) (by decide)⟩,fun j H5 a5 b5 P5=>?_⟩;rw[hlq]at b5;exact⟨pk,l1,_,_,qs,j,rfl,⟨P5.t _ _ (s4 _ _ ek),bk1,bk2⟩,P5.line (L3.mono s4) n1p,⟨a5,b5,by omega⟩,fun z' t' v' H6 s6 f6 fr' t0' bt' bv'=>hR H6 so _ _ z' t' v' ((P14.trans P5).grow s6) f6 fr'.low t0' bt' bv'⟩
  ·exact hR H4 so _ _ z t v (P13.grow s4) f4 fr.low t0 bt bv
def lpX(qs:Crn)(a b:Int):Int:=cnX qs (a / b)*b+(cnX qs (nx qs (a / b)) - cnX qs (a / b))*(a - a / b*b)
def lpY(qs:Crn)(a b:Int):Int:=cnY qs (a / b)*b+(cnY qs (nx qs (a / b)) - cnY qs (a / b))*(a - a / b*b)
def apT(qs rs:Crn)(a b c d:Int):Int:=(lpX qs a b*d - lpX rs c d*b)*(lpX qs a b*d - lpX rs c d*b)+(lpY qs a b*d - lpY rs c d*b)*(lpY qs a b*d - lpY rs c d*b)
def apB(b d:Int):Int:=b*b*d*d
structure DI(H:Hp)(p:Addr)(qs:Crn)(a b:Int):Prop where
 at_:H p=some (.tup [.int a,.int b])
 hb:0<b
 a0:0≤a
 a1:a≤((qs.length:Int) - 1)*b
 ba:bits a≤1500
 bb:bits b≤1500
theorem DI.t{H H':Hp}{p:Addr}{qs:Crn}{a b:Int}(h:DI H p qs a b)(s:SameT H H'):DI H' p qs a b:=⟨s _ _ h.at_,h.hb,h.a0,h.a1,h.ba,h.bb⟩
theorem DI.k{H:Hp}{p:Addr}{qs:Crn}{a b:Int}(h:DI H p qs a b):0≤a / b∧a / b<(qs.length:Int):=by
 have h1:=Int.ediv_nonneg h.a0 (show 0≤b by have:=h.hb;omega);have h2:a / b≤(qs.length:Int) - 1:=Int.ediv_le_of_le_mul h.hb h.a1;omega
theorem DI.r{H:Hp}{p:Addr}{qs:Crn}{a b:Int}(h:DI H p qs a b):bits (a - a / b*b)≤1500:=by
 have e:=Int.emod_add_mul_ediv a b;have e':a - a / b*b=a % b:=by rw[Int.mul_comm];omega
 have r0:=Int.emod_nonneg a (show b≠0 by have:=h.hb;omega);have r1:=Int.emod_lt_of_pos a h.hb;rw[e'];exact bQ r0 (Int.le_of_lt r1) h.bb
theorem DI.bits{H H':Hp}{p l:Addr}{qs:Crn}{a b:Int}(h:DI H p qs a b)(L:LineM H' l qs):L2.bits (lpX qs a b)≤1600∧L2.bits (lpY qs a b)≤1600:=by
 have hk:=h.k;obtain⟨⟨e0,el⟩,_,_⟩:=kA hk.1 hk.2;obtain⟨_,_,_,b1,b2⟩:=dY L hk.1 hk.2;obtain⟨_,_,_,c1,c2⟩:=dY L e0 el;have f:∀{x y z w:Int},L2.bits x≤50->L2.bits y≤1500->L2.bits z≤51->L2.bits w≤1500->L2.bits (x*y+z*w)≤1600:=fun hx hy hz hw=>aw (a7 (n:=1560) (aw (bits_mul hx hy) (by decide)) (aw (bits_mul hz hw) (by decide))) (by decide);exact⟨f b1 h.bb (aK c1 b1) h.r,f b2 h.bb (aK c2 b2) h.r⟩
inductive DX (vs:List V) (H:Hp) (Q:VK) (x_3:XK):Prop
 | mk:∀(l p:Addr) (qs:Crn) (a b:Int),(vs = [.ref l,.ref p])->(LineM H l qs)->(DI H p qs a b)->(qs.length≤100)->(∀(r:Addr) (H':Hp),Same H H'->H' r=some (.tup [.int (lpX qs a b),.int (lpY qs a b)])->Q (.ref r) H')->DX vs H Q x_3
inductive DG (vs:List V) (H:Hp) (Q:VK) (x_3:XK):Prop
 | mk:∀(l1 x l2 y:Addr) (qs rs:Crn) (a b c d:Int),(vs = [.ref l1,.ref x,.ref l2,.ref y])->(LineM H l1 qs)->(LineM H l2 rs)->(DI H x qs a b)->(DI H y rs c d)->((qs.length≤100∧rs.length≤100))->(∀(r:Addr) (H':Hp),Same H H'->H' r=some (.tup [.int (apT qs rs a b c d),.int (apB b d)])->(bits (apT qs rs a b c d)≤8000∧bits (apB b d)≤8000)->Q (.ref r) H')->DG vs H Q x_3
inductive EF (vs:List V) (H:Hp) (Q:VK) (x_3:XK):Prop
 | mk:∀a:Int,(vs = [.int a])->(Q (.bl true) H)->EF vs H Q x_3
inductive D4 (vs:List V) (H:Hp) (Q:VK) (x_3:XK):Prop
 | mk:∀(p:Addr) (a b:Int),(vs = [.ref p])->(H p=some (.tup [.int a,.int b]))->(CC a b)->(0≤a)->(Q (.bl true) H)->D4 vs H Q x_3
def mI(a b c d:Int):Prop:=∃i:Int,(i*b≤a∧a≤(i+1)*b)∧i*d≤c∧c≤(i+1)*d
inductive DA (vs:List V) (H:Hp) (Q:VK) (x_3:XK):Prop
 | mk:∀(p q:Addr) (a b c d:Int),(vs = [.ref p,.ref q])->(H p=some (.tup [.int a,.int b]))->(H q=some (.tup [.int c,.int d]))->((0<b∧0<d))->((bits a≤1500∧bits b≤1500∧bits c≤1500∧bits d≤1500))->(mI a b c d)->(Q (.bl true) H)->DA vs H Q x_3
theorem uR{a b c d i:Int}(hb:0<b)(hd:0<d)(h1:i*b≤a)(h2:c≤(i+1)*d):decide (c≤(a / b+1)*d)=true:=by
 have:i≤a / b:=(Int.le_ediv_iff_mul_le hb).mpr h1;have:=Int.mul_le_mul_of_nonneg_right (show i+1≤a / b+1 by omega) (show 0≤d by omega);exact decide_eq_true (by omega)
def inR(n:Nat)(a b:Int):Prop:=a≤((n:Int) - 1)*b
inductive Dz (vs:List V) (H:Hp) (Q:VK) (x_3:XK):Prop
 | mk:∀(l1 l2 l:Addr) (qs rs:Crn) (ps:List Pr),(vs = [.ref l1,.ref l2,.ref l])->(LineM H l1 qs)->(LineM H l2 rs)->(DJ H l ps)->((0<ps.length∧ps.length≤200))->((qs.length≤100∧rs.length≤100))->((∀q∈ps,inR qs.length q.a q.b∧inR rs.length q.c q.d))->(Q (.bl true) H)->Dz vs H Q x_3
theorem Dg:yG ["found"] ["found"] (ap (top 65)):=smk
theorem lG(Bp:Df K mg "_law_whole" (top 65))(T:Txt mg):Fn P w K mg base "_law_whole" ["found"] 1 EF:=by
 refine Bp.fn Dg (fun _ _ _ _ _ _ us hl=>by obtain⟨_,rfl⟩:=dA hl;rfl) (fun vs H Q E h=>?_) (fun f cdv A outer s H vs Q E hr h=>?_)
 ·obtain⟨a,rfl,_⟩:=h
  rfl
 ·obtain⟨a,rfl,q⟩:=h
  refine⟨_,(ar (az (d8 (aF bO (by rfl) T.z_isinstance a9 (aa (pv 0) (aa (fQ T.z_int oR) af))) (dO (oq (aF bO (by rfl) T.z_isinstance a9 (aa (pv 0) (aa (fQ T.z_bool ql) af)))))))),?_⟩;refine⟨_,rfl,_,_,"int",rfl,.int a,nice_int,_,rfl,ce (by decide) ?_⟩;refine⟨_,rfl,_,_,"bool",rfl,.int a,nice_bool,_,rfl,?_⟩;exact q
theorem B4:yG ["thing"] ["thing"] (ap (top 67)):=smk
theorem fW(zF:Df K mg "_law_is_fraction" (top 67))(Ay:Fn P w K mg base "_law_whole" ["found"] 1 EF)(zl:Fn P w K mg base "_law_common" ["one","other"] 1 DF)(T:Txt mg):Fn P w K mg base "_law_is_fraction" ["thing"] 2 D4:=by
 refine zF.fn B4 (fun _ _ _ _ _ _ us hl=>by obtain⟨_,rfl⟩:=dA hl;rfl) (fun vs H Q E h=>?_) (fun f cdv A outer s H vs Q E hr h=>?_)
 ·obtain⟨p,a,b,rfl,_⟩:=h
  rfl
 ·obtain⟨p,a,b,rfl,hp,lw,a0,q⟩:=h
  refine⟨_,(ag (aQ (cX (ca (bo (aF bO (by rfl) T.z_isinstance a9 (aa (pv 0) (aa (fQ T.z_tuple g7) af))))) (cX (aC gG (aF aI (by rfl) T.z_len bD (aa (pv 0) af)) ad (aE _)) (cX (ca (bo (aA Ay (hr.mono (by decide)) (by rfl) (aa (aj ai (pv 0) ad (fun _ _=>rfl)) af)))) (cT (ca (bo (aA Ay (hr.mono (by decide)) (by rfl) (aa (aj ai (pv 0) ad (fun _ _=>rfl)) af)))))))).pt (ar (az dJ)) aH) (ar (az (d8 (bY iB (aj ai (pv 0) ad (fun _ _=>rfl)) ad (aE _)) (dO (bY bR (aA zl (hr.mono (by decide)) (by rfl) (aa (aF fE (by rfl) T.z_abs jM (aa (aj ai (pv 0) ad (fun _ _=>rfl)) af)) (aa (aj ai (pv 0) ad (fun _ _=>rfl)) af))) ad (aE _))))))),?_⟩;refine⟨_,rfl,_,_,"tuple",rfl,.tup hp,nice_tuple,_,rfl,aR (by decide) ?_⟩;refine⟨_,rfl,p,_,rfl,.inr (SqT.of hp),rfl,_,rfl,aR rfl ?_⟩;refine⟨_,rfl,p,_,_,_,rfl,rfl,SqT.of hp,rfl,a,rfl,_,rfl,aR (by decide) ?_⟩;refine⟨_,rfl,p,_,_,_,rfl,rfl,SqT.of hp,rfl,b,rfl,_,rfl,aR (by decide) ?_⟩;have hb:(0:Int)<b:=lw.pos;refine⟨_,rfl,p,_,_,_,rfl,rfl,SqT.of hp,rfl,_,_,rfl,rfl,_,rfl,ce (decide_eq_true hb) ?_⟩;refine⟨_,rfl,p,_,_,_,rfl,rfl,SqT.of hp,rfl,a,rfl,?_⟩;rw[if_neg (show ¬a<0 by omega)];refine⟨_,rfl,p,_,_,_,rfl,rfl,SqT.of hp,rfl,a,b,rfl,a0,by omega,rfl,?_⟩;rw[show(Int.gcd a b:Int)=1 by rw[lw.one];rfl,decide_eq_true rfl];exact q
theorem zT:yG ["line","place","k","rest","begin","end"] ["line","place"] (ap (top 70)):=smk
theorem lI(Br:Df K mg "_law_point" (top 70))(T:Txt mg):Fn P w K mg base "_law_point" ["line","place"] 1 DX:=by
 refine Br.fn zT (fun _ _ _ _ _ _ us hl=>by obtain⟨_,_,rfl⟩:=dF hl;rfl) (fun vs H Q E h=>?_) (fun f cdv A outer s H vs Q E hr h=>?_)
 ·obtain⟨l,p,qs,a,b,rfl,_⟩:=h
  rfl
 ·obtain⟨l,p,qs,a,b,rfl,L,pl,n100,q⟩:=h
  refine⟨_,(ag (ax (i:=2) zT.nd rfl (Or.inl rfl) (ao cj (aj ai (pv 1) ad (fun _ _=>rfl)) (aj ai (pv 1) ad (fun _ _=>rfl)))) (ag (ax (i:=3) zT.nd rfl (Or.inl rfl) (ao aG (aj ai (pv 1) ad (fun _ _=>rfl)) (ao ay (pv 2) (aj ai (pv 1) ad (fun _ _=>rfl))))) (ag (ax (i:=4) zT.nd rfl (Or.inl rfl) (aj aM (pv 0) (pv 2) (fun _ _=>rfl))) (ag (ax (i:=5) zT.nd rfl (Or.inl rfl) (aj aM (pv 0) (aF (dC rfl) (by rfl) T.z_min fF (aa (ao aP (pv 2) ad) (aa (ao aG (aF aI (by rfl) T.z_len bD (aa (pv 0) af)) ad) af))) (fun _ _=>rfl))) (ar (az (aB (aa (ao aP (ao ay (aj ai (pv 4) ad (fun _ _=>rfl)) (aj ai (pv 1) ad (fun _ _=>rfl))) (ao ay (ao aG (aj ai (pv 5) ad (fun _ _=>rfl)) (aj ai (pv 4) ad (fun _ _=>rfl))) (pv 3))) (aa (ao aP (ao ay (aj ai (pv 4) ad (fun _ _=>rfl)) (aj ai (pv 1) ad (fun _ _=>rfl))) (ao ay (ao aG (aj ai (pv 5) ad (fun _ _=>rfl)) (aj ai (pv 4) ad (fun _ _=>rfl))) (pv 3))) af))))))))),?_⟩;have hk:=pl.k;have hr:=pl.r;have bb:=pl.bb;have hp:=pl.at_;obtain⟨⟨e0,el⟩,ee,ke⟩:=kA hk.1 hk.2;obtain⟨pb,ab,eb,bb1,bb2⟩:=dY L hk.1 hk.2;obtain⟨pe,ae,een,be1,be2⟩:=dY L e0 el;have bk:bits (a / b)≤10:=aV (by omega) (by omega);have w1:=aK be1 bb1;have w2:=aK be2 bb2;refine⟨_,rfl,p,_,_,_,rfl,rfl,SqT.of hp,rfl,_,rfl,p,_,_,_,rfl,rfl,SqT.of hp,rfl,_,_,rfl,rfl,⟨pl.hb,aw bb (by decide)⟩,?_⟩;refine⟨_,rfl,p,_,_,_,rfl,rfl,SqT.of hp,rfl,_,rfl,_,rfl,p,_,_,_,rfl,rfl,SqT.of hp,rfl,_,_,rfl,rfl,CM.b bk bb (by decide) (by decide),_,_,rfl,rfl,?_⟩;refine⟨_,rfl,_,rfl,l,_,_,_,rfl,rfl,SqL.of L.lst,ab,?_⟩;refine⟨_,rfl,_,rfl,_,_,rfl,rfl,_,rfl,l,_,rfl,.inl (SqL.of L.lst),_,_,rfl,rfl,_,_,rfl,l,_,_,_,rfl,rfl,SqL.of L.lst,ae,?_⟩;refine⟨_,rfl,pb,_,_,_,rfl,rfl,SqT.of eb,rfl,_,rfl,p,_,_,_,rfl,rfl,SqT.of hp,rfl,_,_,rfl,rfl,CM.b bb1 bb (by decide) (by decide),_,rfl,pe,_,_,_,rfl,rfl,SqT.of een,rfl,_,rfl,pb,_,_,_,rfl,rfl,SqT.of eb,rfl,_,_,rfl,rfl,_,rfl,_,_,rfl,rfl,CM.b w1 hr (by decide) (by decide),_,_,rfl,rfl,_,rfl,pb,_,_,_,rfl,rfl,SqT.of eb,rfl,_,rfl,p,_,_,_,rfl,rfl,SqT.of hp,rfl,_,_,rfl,rfl,CM.b bb2 bb (by decide) (by decide),_,rfl,pe,_,_,_,rfl,rfl,SqT.of een,rfl,_,rfl,pb,_,_,_,rfl,rfl,SqT.of eb,rfl,_,_,rfl,rfl,_,rfl,_,_,rfl,rfl,CM.b w2 hr (by decide) (by decide),_,_,rfl,rfl,sz (by simp),fun r H1 s1 f1 n1=>?_⟩;exact q r H1 s1 f1
theorem zU:yG ["one","x","other","y","mine","yours","east","north"] ["one","x","other","y"] (ap (top 71)):=smk
theorem lK(Bt:Df K mg "_law_apart" (top 71))(Az:Fn P w K mg base "_law_point" ["line","place"] 1 DX)(T:Txt mg):Fn P w K mg base "_law_apart" ["one","x","other","y"] 2 DG:=by
 refine Bt.fn zU (fun _ _ _ _ _ _ us hl=>by obtain⟨_,_,_,_,rfl⟩:=qR hl;rfl) (fun vs H Q E h=>?_) (fun f cdv A outer s H vs Q E hr h=>?_)
 ·obtain⟨l1,x,l2,y,qs,rs,a,b,c,d,rfl,_⟩:=h
  rfl
 ·obtain⟨l1,x,l2,y,qs,rs,a,b,c,d,rfl,La,Lb,px,py,⟨n1,n2⟩,q⟩:=h
  refine⟨_,(ag (ax (i:=4) zU.nd rfl (Or.inl rfl) (aA Az (hr.mono (by decide)) (by rfl) (aa (pv 0) (aa (pv 1) af)))) (ag (ax (i:=5) zU.nd rfl (Or.inl rfl) (aA Az (hr.mono (by decide)) (by rfl) (aa (pv 2) (aa (pv 3) af)))) (ag (ax (i:=6) zU.nd rfl (Or.inl rfl) (ao aG (ao ay (aj ai (pv 4) ad (fun _ _=>rfl)) (aj ai (pv 3) ad (fun _ _=>rfl))) (ao ay (aj ai (pv 5) ad (fun _ _=>rfl)) (aj ai (pv 1) ad (fun _ _=>rfl))))) (ag (ax (i:=7) zU.nd rfl (Or.inl rfl) (ao aG (ao ay (aj ai (pv 4) ad (fun _ _=>rfl)) (aj ai (pv 3) ad (fun _ _=>rfl))) (ao ay (aj ai (pv 5) ad (fun _ _=>rfl)) (aj ai (pv 1) ad (fun _ _=>rfl))))) (ar (az (aB (aa (ao aP (ao ay (pv 6) (pv 6)) (ao ay (pv 7) (pv 7))) (aa (ao ay (ao ay (ao ay (aj ai (pv 1) ad (fun _ _=>rfl)) (aj ai (pv 1) ad (fun _ _=>rfl))) (aj ai (pv 3) ad (fun _ _=>rfl))) (aj ai (pv 3) ad (fun _ _=>rfl))) af))))))))),?_⟩;refine⟨_,rfl,_,rfl,l1,x,qs,a,b,rfl,La,px,n1,fun rm H1 s1 f1=>?_⟩;refine⟨_,rfl,_,rfl,l2,y,rs,c,d,rfl,Lb.mono s1,py.t s1.t,n2,fun ry H2 s2 f2=>?_⟩;have g1:=s2 _ _ f1;have ex:=(s1.trans s2) _ _ px.at_;have ey:=(s1.trans s2) _ _ py.at_;obtain⟨mx,my⟩:=px.bits La;obtain⟨ux,uy⟩:=py.bits Lb;have bb:=px.bb;have bd:=py.bb;have w1:=aK (bits_mul mx bd) (bits_mul ux bb);have w2:=aK (bits_mul my bd) (bits_mul uy bb);have w3:=bits_mul bb bb;have w4:=bits_mul w3 bd;refine⟨_,rfl,rm,_,_,_,rfl,rfl,SqT.of g1,rfl,_,rfl,y,_,_,_,rfl,rfl,SqT.of ey,rfl,_,_,rfl,rfl,CM.b mx bd (by decide) (by decide),_,rfl,ry,_,_,_,rfl,rfl,SqT.of f2,rfl,_,rfl,x,_,_,_,rfl,rfl,SqT.of ex,rfl,_,_,rfl,rfl,CM.b ux bb (by decide) (by decide),_,_,rfl,rfl,?_⟩;refine⟨_,rfl,rm,_,_,_,rfl,rfl,SqT.of g1,rfl,_,rfl,y,_,_,_,rfl,rfl,SqT.of ey,rfl,_,_,rfl,rfl,CM.b my bd (by decide) (by decide),_,rfl,ry,_,_,_,rfl,rfl,SqT.of f2,rfl,_,rfl,x,_,_,_,rfl,rfl,SqT.of ex,rfl,_,_,rfl,rfl,CM.b uy bb (by decide) (by decide),_,_,rfl,rfl,?_⟩;refine⟨_,rfl,_,rfl,_,_,rfl,rfl,CM.b w1 w1 (by decide) (by decide),_,rfl,_,rfl,_,_,rfl,rfl,CM.b w2 w2 (by decide) (by decide),_,_,rfl,rfl,_,rfl,x,_,_,_,rfl,rfl,SqT.of ex,rfl,_,rfl,x,_,_,_,rfl,rfl,SqT.of ex,rfl,_,_,rfl,rfl,CM.b bb bb (by decide) (by decide),_,rfl,y,_,_,_,rfl,rfl,SqT.of ey,rfl,_,_,rfl,rfl,CM.b w3 bd (by decide) (by decide),_,rfl,y,_,_,_,rfl,rfl,SqT.of ey,rfl,_,_,rfl,rfl,CM.b w4 bd (by decide) (by decide),sz (by simp),fun r H3 s3 f3 n3=>?_⟩;exact q r H3 (s1.trans (s2.trans s3)) f3 ⟨aw (a7 (bits_mul w1 w1) (bits_mul w2 w2)) (by decide),aw (bits_mul w4 bd) (by decide)⟩
theorem Ah:yG ["one","other","low","high"] ["one","other"] (ap (top 72)):=smk
theorem ni(BR:Df K mg "_law_near" (top 72))(yT:Fn P w K mg base "_law_above" ["one","other"] 1 Da):Fn P w K mg base "_law_near" ["one","other"] 2 DA:=by
 refine BR.fn Ah (fun _ _ _ _ _ _ us hl=>by obtain⟨_,_,rfl⟩:=dF hl;rfl) (fun vs H Q E h=>?_) (fun f cdv A outer s H vs Q E hr h=>?_)
 ·obtain⟨p,q,a,b,c,d,rfl,_⟩:=h
  rfl
 ·obtain⟨p,q,a,b,c,d,rfl,ep,eq,⟨hb,hd⟩,⟨ba,bb,bc,bd⟩,⟨i,⟨i1,i2⟩,i3,i4⟩,k⟩:=h
  have R:∃u,PSs (bw CX0 P w K mg base ["one","other","low","high"] "_law_near" (ap (top 72)) f cdv A outer s H E).nox ((aL (top 72)).drop 3) u∧∀{lo hi:Addr} {a b c d:Int},H lo=some (.tup [.int a,.int b])->H hi=some (.tup [.int c,.int d])->(0<b∧bits a≤1500∧bits b≤1500)->(0<d∧bits d≤1500)->i*b≤a->c≤(i+1)*d->u { nx:=fun _ H'=>Q .non H',rt:=Q } [some (.ref p),some (.ref q),some (.ref lo),some (.ref hi)] H:=by
   refine⟨_,(ar (az (bY ku (aj ai (pv 3) ad (fun _ _=>rfl)) (ao ay (ao aP (ao cj (aj ai (pv 2) ad (fun _ _=>rfl)) (aj ai (pv 2) ad (fun _ _=>rfl))) ad) (aj ai (pv 3) ad (fun _ _=>rfl))) (aE _)))),fun {lo hi a b c d} elo ehi sa sd h1 h2=>?_⟩;have bf:bits (a / b+1)≤1501:=a7 (ix sa.1 sa.2.1) (aw (m:=1) (by decide) (by decide));have bdd:=sd.2;refine⟨_,rfl,hi,_,_,_,rfl,rfl,SqT.of ehi,rfl,_,rfl,lo,_,_,_,rfl,rfl,SqT.of elo,rfl,_,rfl,lo,_,_,_,rfl,rfl,SqT.of elo,rfl,_,_,rfl,rfl,⟨sa.1,aw sa.2.2 (by decide)⟩,_,_,rfl,rfl,_,rfl,hi,_,_,_,rfl,rfl,SqT.of ehi,rfl,_,_,rfl,rfl,CM.b bf bdd (by decide) (by decide),_,_,rfl,rfl,?_⟩;rw[uR sa.1 sd.1 h1 h2];exact k
  obtain⟨u,hu,fin⟩:=R;refine⟨_,(ag (ax (i:=2) Ah.nd rfl (Or.inl rfl) (pv 0)) (ag (ax (i:=3) Ah.nd rfl (Or.inl rfl) (pv 1)) (ag (aQ (bo (aA yT (hr.mono (by decide)) (by rfl) (aa (pv 0) (aa (pv 1) af)))) (ag (ax (i:=2) Ah.nd rfl (Or.inl rfl) (pv 1)) (ar (ax (i:=3) Ah.nd rfl (Or.inl rfl) (pv 0)))) aH) hu))),?_⟩;refine⟨_,rfl,_,rfl,?_⟩;refine⟨_,rfl,_,rfl,p,q,a,b,c,d,rfl,ep,eq,⟨aw ba (by decide),aw bb (by decide),aw bc (by decide),aw bd (by decide)⟩,_,rfl,aY (fun hc=>?_) (fun hc=>?_)⟩
  ·exact⟨_,rfl,_,rfl,fin eq ep ⟨hd,bc,bd⟩ ⟨hb,bb⟩ i3 i2⟩
  ·exact fin ep eq ⟨hb,ba,bb⟩ ⟨hd,bd⟩ i1 i4
theorem Be:yG ["one","other","pairs","pair"] ["one","other","pairs"] (ap (top 73)):=smk
theorem ip(Ac:Df K mg "_law_are_pairs" (top 73))(zd:Fn P w K mg base "_law_is_fraction" ["thing"] 2 D4)(T:Txt mg):Fn P w K mg base "_law_are_pairs" ["one","other","pairs"] 3 Dz:=by
 refine Ac.fn Be (fun _ _ _ _ _ _ us hl=>by obtain⟨_,_,_,rfl⟩:=gL hl;rfl) (fun vs H Q E h=>?_) (fun f cdv A outer s H vs Q E hr h=>?_)
 ·obtain⟨l1,l2,l,qs,rs,ps,rfl,_⟩:=h
  rfl
 ·obtain⟨l1,l2,l,qs,rs,ps,rfl,La,Lb,PP,⟨h0,h200⟩,⟨n1,n2⟩,hin,q⟩:=h
  refine⟨_,(ag (aQ (cX (ca (bo (aF bO (by rfl) T.z_isinstance a9 (aa (pv 2) (aa (fQ T.z_list g8) af))))) (cT (ca (sI cY ku ad (aF aI (by rfl) T.z_len bD (aa (pv 2) af)) ad)))).pt (ar (az dJ)) aH) (ag (cO PassesOwn.never rfl (cQ (pv 2)) (aU (i:=3) Be.nd rfl (Or.inl rfl)) (ag (aQ (cX (ca (bo (aF bO (by rfl) T.z_isinstance a9 (aa (pv 3) (aa (fQ T.z_tuple g7) af))))) (cT (aC gG (aF aI (by rfl) T.z_len bD (aa (pv 3) af)) ad (aE _)))).pt (ar (az dJ)) aH) (ag (aQ (cX (ca (bo (aA zd (hr.mono (by decide)) (by rfl) (aa (aj ai (pv 3) ad (fun _ _=>rfl)) af)))) (cT (ca (bo (aA zd (hr.mono (by decide)) (by rfl) (aa (aj ai (pv 3) ad (fun _ _=>rfl)) af)))))).pt (ar (az dJ)) aH) (ag (aQ (cX (aC cY (aj ai (aj ai (pv 3) ad (fun _ _=>rfl)) ad (fun _ _=>rfl)) ad (aE _)) (cT (aC iB (aj ai (aj ai (pv 3) ad (fun _ _=>rfl)) ad (fun _ _=>rfl)) (ao ay (ao aG (aF aI (by rfl) T.z_len bD (aa (pv 0) af)) ad) (aj ai (aj ai (pv 3) ad (fun _ _=>rfl)) ad (fun _ _=>rfl))) (aE _)))).pt (ar (az dJ)) aH) (ar (aQ (cX (aC cY (aj ai (aj ai (pv 3) ad (fun _ _=>rfl)) ad (fun _ _=>rfl)) ad (aE _)) (cT (aC iB (aj ai (aj ai (pv 3) ad (fun _ _=>rfl)) ad (fun _ _=>rfl)) (ao ay (ao aG (aF aI (by rfl) T.z_len bD (aa (pv 1) af)) ad) (aj ai (aj ai (pv 3) ad (fun _ _=>rfl)) ad (fun _ _=>rfl))) (aE _)))).pt (ar (az dJ)) aH)))))) (ar (az dJ)))),?_⟩;have hpl:(prs ps).length=ps.length:=de ps;have hlq:(qs.map fun (q:Addr×Int×Int)=>V.ref q.1).length=qs.length:=List.length_map _;have hlr:(rs.map fun (q:Addr×Int×Int)=>V.ref q.1).length=rs.length:=List.length_map _;refine⟨_,rfl,_,_,"list",rfl,.lst PP.lst,nice_list,_,rfl,aR (by decide) ?_⟩;refine⟨_,rfl,l,_,rfl,.inl (SqL.of PP.lst),?_⟩;refine⟨_,_,rfl,rfl,_,rfl,ce (decide_eq_true (by rw[hpl];omega)) ⟨_,_,rfl,rfl,_,rfl,aR (by rw[hpl];simp;omega) ?_⟩⟩;refine⟨_,rfl,l,rfl,⟨_,SqL.of PP.lst⟩,fw (K:=K) (xs:=prs ps) (fun i σ H2=>∃z,σ = [some (.ref l1),some (.ref l2),some (.ref l),z]∧H2=H)
   ⟨_,rfl,rfl⟩ (fun i σ H2 _ ⟨_,_,e⟩=>by rw[e];exact SqL.of PP.lst) ?_ ?_⟩
  ·rintro i x σ H2 hx ⟨z,rfl,rfl⟩
   obtain⟨u,hu,rfl⟩:=gy hx;have mu:=List.mem_of_getElem? hu;have pu:=PP.pr u mu;have hin:=hin u mu;refine⟨_,rfl,_,_,"tuple",rfl,.tup pu.p_,nice_tuple,_,rfl,aR (by decide) ?_⟩;refine⟨_,rfl,u.p,_,rfl,.inr (SqT.of pu.p_),rfl,_,rfl,aR rfl ?_⟩;refine⟨_,rfl,u.p,_,_,_,rfl,rfl,SqT.of pu.p_,rfl,u.x,_,_,rfl,pu.x_,pu.lx,pu.nx,_,rfl,aR (by decide) ?_⟩;refine⟨_,rfl,u.p,_,_,_,rfl,rfl,SqT.of pu.p_,rfl,u.y,_,_,rfl,pu.y_,pu.ly,pu.ny,_,rfl,aR (by decide) ?_⟩;refine⟨_,rfl,u.p,_,_,_,rfl,rfl,SqT.of pu.p_,rfl,u.x,_,_,_,rfl,rfl,SqT.of pu.x_,rfl,_,_,rfl,rfl,_,rfl,aR (decide_eq_false (by have:=pu.nx;omega)) ?_⟩;refine⟨_,rfl,u.p,_,_,_,rfl,rfl,SqT.of pu.p_,rfl,u.x,_,_,_,rfl,rfl,SqT.of pu.x_,rfl,_,rfl,l1,_,rfl,.inl (SqL.of La.lst),_,_,rfl,rfl,_,rfl,u.p,_,_,_,rfl,rfl,SqT.of pu.p_,rfl,u.x,_,_,_,rfl,rfl,SqT.of pu.x_,rfl,_,_,rfl,rfl,CM.l (sU (by omega) (by omega)),_,_,rfl,rfl,_,rfl,aR (decide_eq_false ?_) ?_⟩
   ·rw[List.length_map]
    have:inR _ _ _:=hin.1;unfold inR at this;omega
   refine⟨_,rfl,u.p,_,_,_,rfl,rfl,SqT.of pu.p_,rfl,u.y,_,_,_,rfl,rfl,SqT.of pu.y_,rfl,_,_,rfl,rfl,_,rfl,aR (decide_eq_false (by have:=pu.ny;omega)) ?_⟩;refine⟨_,rfl,u.p,_,_,_,rfl,rfl,SqT.of pu.p_,rfl,u.y,_,_,_,rfl,rfl,SqT.of pu.y_,rfl,_,rfl,l2,_,rfl,.inl (SqL.of Lb.lst),_,_,rfl,rfl,_,rfl,u.p,_,_,_,rfl,rfl,SqT.of pu.p_,rfl,u.y,_,_,_,rfl,rfl,SqT.of pu.y_,rfl,_,_,rfl,rfl,CM.l (sU (by omega) (by omega)),_,_,rfl,rfl,_,rfl,aR (decide_eq_false ?_) ?_⟩
   ·rw[List.length_map]
    have:inR _ _ _:=hin.2;unfold inR at this;omega
   exact⟨_,rfl,rfl⟩
  ·rintro σ H2 ⟨z,rfl,rfl⟩
   exact q
theorem lR{qs:Crn}(h:qs.length=1){i:Int}(hi:i=0∨i=1):cnX (dbl qs) i=cnX qs 0∧cnY (dbl qs) i=cnY qs 0:=by
 obtain⟨c,rfl⟩:=dA h;rcases hi with rfl|rfl <;> exact⟨rfl,rfl⟩
theorem gZ{qs:Crn}(h:2≤qs.length):dbl qs=qs:=by
 unfold dbl;rw[if_neg (by omega)]
theorem nI{qs:Crn}(h:qs.length=1):(dbl qs).length=2:=by
 unfold dbl;rw[if_pos h,List.length_append];omega
theorem sk(a b c d:Int):sqE a b c d=sqE c d a b:=by unfold sqE;grind
theorem vp{n m:Nat}{i j:Int}(h:dw n m i j=true):(0≤i∧i<n)∧0≤j∧j<m:=by
 unfold dw at h;simp only[Bool.and_eq_true,decide_eq_true_eq]at h;omega
theorem iD(qs:Crn)(i:Int):lpX qs i 1=cnX qs i∧lpY qs i 1=cnY qs i:=by
 unfold lpX lpY;rw[Int.ediv_one,Int.mul_one,Int.mul_one,Int.sub_self,Int.mul_zero,Int.mul_zero,Int.add_zero,Int.mul_one,Int.add_zero];exact⟨rfl,rfl⟩
theorem sV{qs:Crn}{i a b:Int}(h1:i+1<(qs.length:Int))(hb:0<b)(l1:i*b≤a)(l2:a≤(i+1)*b):lpX qs a b=cnX qs i*b+(cnX qs (i+1) - cnX qs i)*(a - i*b)∧lpY qs a b=cnY qs i*b+(cnY qs (i+1) - cnY qs i)*(a - i*b):=by
 rcases Int.lt_or_eq_of_le l2 with z|z
 ·have e:a / b=i:=by
   have e1:i≤a / b:=(Int.le_ediv_iff_mul_le hb).mpr l1;have e2:a / b<i+1:=(Int.ediv_lt_iff_lt_mul hb).mpr z;omega
  unfold lpX lpY;rw[e,vP h1];exact⟨rfl,rfl⟩
 ·have e:a / b=i+1:=by rw[z];exact Int.mul_ediv_cancel _ (by omega)
  unfold lpX lpY;rw[e,<- z,Int.sub_self,Int.mul_zero,Int.mul_zero,Int.add_zero,Int.add_zero,z];constructor <;> grind
def sqS(X Y b Z W d:Int):Int:=(X*d - Z*b)*(X*d - Z*b)+(Y*d - W*b)*(Y*d - W*b)
theorem xC{X Y b Z W d X' Y' b' Z' W' d':Int}(hx:X*b'=X'*b)(hy:Y*b'=Y'*b)(hz:Z*d'=Z'*d)(hw:W*d'=W'*d):sqS X Y b Z W d*(b'*b'*d'*d')=sqS X' Y' b' Z' W' d'*(b*b*d*d):=by
 have e1:(X*d - Z*b)*(b'*d')=(X'*d' - Z'*b')*(b*d):=by grind
 have e2:(Y*d - W*b)*(b'*d')=(Y'*d' - W'*b')*(b*d):=by grind
 unfold sqS;generalize X*d - Z*b=u at *;generalize Y*d - W*b=v at *;generalize X'*d' - Z'*b'=u' at *;generalize Y'*d' - W'*b'=v' at *;have f1:(u*u+v*v)*(b'*b'*d'*d')=(u*(b'*d'))*(u*(b'*d'))+(v*(b'*d'))*(v*(b'*d')):=by grind
 have f2:(u'*u'+v'*v')*(b*b*d*d)=(u'*(b*d))*(u'*(b*d))+(v'*(b*d))*(v'*(b*d)):=by grind
 rw[f1,f2,e1,e2]
theorem qp{b d:Int}(hb:0<b)(hd:0<d):0<apB b d:=Int.mul_pos (Int.mul_pos (Int.mul_pos hb hb) hd) hd
theorem xB{S T p q A B:Int}(hp:0<p)(e:S*q=T*p)(hq:0<q)(h:S*B≤A*p):T*B≤A*q:=by
 have h1:=Int.mul_le_mul_of_nonneg_right h (show 0≤q by omega);have h2:S*B*q=T*B*p:=by rw[Int.mul_assoc,Int.mul_comm B q,<- Int.mul_assoc,e,Int.mul_assoc,Int.mul_comm p B,<- Int.mul_assoc]
 have h3:A*p*q=A*q*p:=by rw[Int.mul_assoc,Int.mul_comm p q,<- Int.mul_assoc]
 rw[h2,h3]at h1;exact Int.le_of_mul_le_mul_right h1 hp
theorem vN{qs:Crn}{x a b a' b':Int}(h1:1≤qs.length)(hx:0≤x∧x<((aO qs:Nat):Int))(hb:0<b)(l1:x*b≤a)(l2:a≤(x+1)*b)(o:onB (decide (qs.length=1)) a b a' b'):0<b'∧lpX (dbl qs) a b*b'=lpX qs a' b'*b∧lpY (dbl qs) a b*b'=lpY qs a' b'*b:=by
 by_cases h:qs.length=1
 ·rw[decide_eq_true h]at o
  obtain⟨rfl,rfl⟩:a'=0∧b'=1:=o;have e:=nI h;have el:aO qs=1:=by unfold aO;omega
  have x0:x=0:=by omega
  subst x0;have p:=sV (qs:=dbl qs) (i:=0) (by omega) hb l1 l2;have c0:=lR h (i:=0) (.inl rfl);have c1:=lR h (i:=0+1) (.inr rfl);rw[p.1,p.2,c0.1,c0.2,c1.1,c1.2,(iD qs 0).1,(iD qs 0).2];exact⟨by decide,by grind,by grind⟩
 ·rw[decide_eq_false h]at o
  obtain⟨rfl,rfl⟩:a'=a∧b'=b:=o;rw[gZ (by omega)];exact⟨hb,rfl,rfl⟩
theorem vO{qs:Crn}{x a b a' b':Int}(h1:1≤qs.length)(hx:0≤x∧x<((aO qs:Nat):Int))(hb:0<b)(l2:a≤(x+1)*b)(o:onB (decide (qs.length=1)) a b a' b'):inR qs.length a' b':=by
 unfold inR
 by_cases h:qs.length=1
 ·rw[decide_eq_true h]at o
  obtain⟨rfl,rfl⟩:a'=0∧b'=1:=o;omega
 ·rw[decide_eq_false h]at o
  obtain⟨rfl,rfl⟩:a'=a∧b'=b:=o;have el:((aO qs:Nat):Int)=(qs.length:Int) - 1:=by unfold aO;rw[gZ (by omega)];omega
  have:=Int.mul_le_mul_of_nonneg_right (show x+1≤(qs.length:Int) - 1 by omega) (show 0≤b' by omega);omega
theorem pN{one:Bool}{x a b a' b' c d c' d':Int}(l1:x*b≤a∧a≤(x+1)*b)(l2:x*d≤c∧c≤(x+1)*d)(o1:onB one a b a' b')(o2:onB one c d c' d'):mI a' b' c' d':=by
 cases one with
 | true =>
  obtain⟨rfl,rfl⟩:a'=0∧b'=1:=o1;obtain⟨rfl,rfl⟩:c'=0∧d'=1:=o2;exact⟨0,by decide,by decide⟩
 | false =>
  obtain⟨rfl,rfl⟩:a'=a∧b'=b:=o1;obtain⟨rfl,rfl⟩:c'=c∧d'=d:=o2;exact⟨x,l1,l2⟩
structure DP(q:Pr)(x y:Int):Prop where
 hb:0<q.b
 hd:0<q.d
 x1:x*q.b≤q.a
 x2:q.a≤(x+1)*q.b
 y1:y*q.d≤q.c
 y2:q.c≤(y+1)*q.d
def okP(qs rs:Crn)(a b:Int)(q:Pr):Prop:=apT qs rs q.a q.b q.c q.d*b≤a*apB q.b q.d
theorem yc{qs rs:Crn}{a b i j t u:Int}(hb:0<b)(hj:j+1<(rs.length:Int))(t0:0≤t)(tu:t≤u)(hu:0<u):apT qs rs i 1 (j*u+t) u=wth (cnX qs i) (cnY qs i) (cnX rs j) (cnY rs j) (cnX rs (j+1)) (cnY rs (j+1)) t u∧apB 1 u=u*u:=by
 have p:=sV (qs:=rs) (i:=j) (a:=j*u+t) hj hu (by omega) (by rw[Int.add_mul];omega);have c:=iD qs i;have e:j*u+t - j*u=t:=by omega
 unfold apT apB;rw[p.1,p.2,c.1,c.2,e];refine⟨?_,by grind⟩;unfold wth a8 rAl
 grind
theorem yb{qs rs:Crn}{a b i j t u:Int}(hb:0<b)(hi:i+1<(qs.length:Int))(t0:0≤t)(tu:t≤u)(hu:0<u):apT qs rs (i*u+t) u j 1=wth (cnX rs j) (cnY rs j) (cnX qs i) (cnY qs i) (cnX qs (i+1)) (cnY qs (i+1)) t u∧apB u 1=u*u:=by
 have p:=sV (qs:=qs) (i:=i) (a:=i*u+t) hi hu (by omega) (by rw[Int.add_mul];omega);have c:=iD rs j;have e:i*u+t - i*u=t:=by omega
 unfold apT apB;rw[p.1,p.2,c.1,c.2,e];refine⟨?_,by grind⟩;unfold wth a8 rAl
 grind
theorem vi{qs rs:Crn}{a b k i j t u:Int}{lo hi:N4}{q:Pr}(hb:0<b)(hG:dh qs rs a b 0 k i j=some (lo,hi))(w:bL (some (lo,hi)) t u=true)(t0:0≤t)(tu:t≤u)(hu:0<u)(hd:ga k i j t u q)(hi0:k=1->i+1<(qs.length:Int))(hj0:k=0->j+1<(rs.length:Int)):okP qs rs a b q:=by
 unfold okP;rcases hd with⟨rfl,e1,e2,e3,e4⟩|⟨rfl,e1,e2,e3,e4⟩
 ·have g0:dh qs rs a b 0 0 i j=cR (cnX qs i) (cnY qs i) (cnX rs j) (cnY rs j) (cnX rs (j+1)) (cnY rs (j+1)) a b 0:=if_pos rfl
  rw[g0]at hG;have gw:=(ii (cx:=cnX qs i) (cy:=cnY qs i) (bx:=cnX rs j) (by_:=cnY rs j) (ex:=cnX rs (j+1)) (ey:=cnY rs (j+1)) (x:=a) hb t0 tu hu).1;rw[hG,w]at gw;have d:=yc (qs:=qs) (rs:=rs) (a:=a) (b:=b) (i:=i) hb (hj0 rfl) t0 tu hu;rw[e1,e2,e3,e4,d.1,d.2];exact of_decide_eq_true gw.symm
 ·have g0:dh qs rs a b 0 1 i j=cR (cnX rs j) (cnY rs j) (cnX qs i) (cnY qs i) (cnX qs (i+1)) (cnY qs (i+1)) a b 0:=if_neg (by decide)
  rw[g0]at hG;have gw:=(ii (cx:=cnX rs j) (cy:=cnY rs j) (bx:=cnX qs i) (by_:=cnY qs i) (ex:=cnX qs (i+1)) (ey:=cnY qs (i+1)) (x:=a) hb t0 tu hu).1;rw[hG,w]at gw;have d:=yb (qs:=qs) (rs:=rs) (a:=a) (b:=b) (j:=j) hb (hi0 rfl) t0 tu hu;rw[e1,e2,e3,e4,d.1,d.2];exact of_decide_eq_true gw.symm
theorem vV{qs rs:Crn}{a b:Int}{i j:Int}(hi:0≤i∧i<(qs.length:Int))(hj:0≤j∧j<(rs.length:Int)):fZ qs rs a b 0 i j=decide (a<sqE (cnX qs i) (cnY qs i) (cnX rs j) (cnY rs j)*b):=by
 rw[jI hi hj,sk];rfl
theorem uq{n m:Nat}{G:GF}{x y:Int}{e:aJ×Lb}{q:Pr}(he:e∈je n m G (ck x y))(hc:(0≤x∧x<n)∧0≤y∧y<m)(sp:fg G e q) :
  (∃x' y':Int,e.1=ck x' y'∧((0≤x'∧x'<n)∧0≤y'∧y'<m)∧DP q x y∧DP q x' y')∧∃(k i j t u:Int) (lo hi:N4),G k i j=some (lo,hi)∧bL (some (lo,hi)) t u=true∧0≤t∧t≤u∧0<u∧ga k i j t u q∧(k=1->i<n)∧(k=0->j<m):=by
 obtain⟨k,i,j,lo,hi,t,u,e2,hg,_,hw,t0,tu,lw,dp⟩:=sp;obtain⟨h1,h2⟩:=List.mem_filter.mp he;simp only[dU,List.mem_cons,List.not_mem_nil,or_false]at h1;have hu:=lw.pos;have cell:∀{x y k a b:Int},mD n m G (ck x y,Lb.key (dk k a b))=true->(0≤x∧x<n)∧0≤y∧y<m:=fun {x y k a b} h=>by
  have h:(dw n m x y && (G k a b).isSome)=true:=h;rw[Bool.and_eq_true]at h;exact vp h.1
 have v0:∀{i j x y:Int},ga 0 i j t u q->(x≤i∧i≤x+1)->y=j->DP q x y:=fun {i j x y} d hx hy=>by
  rcases d with⟨_,e1,e2,e3,e4⟩|⟨z,_⟩
  ·subst hy
   refine⟨by omega,by omega,?_,?_,?_,?_⟩
   ·rw[e1,e2];omega
   ·rw[e1,e2];omega
   ·rw[e3,e4];omega
   ·rw[e3,e4,Int.add_mul];omega
  ·cases z
 have v1:∀{i j x y:Int},ga 1 i j t u q->x=i->(y≤j∧j≤y+1)->DP q x y:=fun {i j x y} d hx hy=>by
  rcases d with⟨z,_⟩|⟨_,e1,e2,e3,e4⟩
  ·cases z
  ·subst hx
   refine⟨by omega,by omega,?_,?_,?_,?_⟩
   ·rw[e1,e2];omega
   ·rw[e1,e2,Int.add_mul];omega
   ·rw[e3,e4];omega
   ·rw[e3,e4];omega
 rcases h1 with rfl|rfl|rfl|rfl
 ·obtain⟨rfl,rfl,rfl⟩:=gb (Lb.key.inj e2)
  have c:=cell h2;exact⟨⟨x - 1,y,rfl,c,v0 dp (by omega) rfl,v0 dp (by omega) rfl⟩,_,_,_,t,u,lo,hi,hg,hw,t0,tu,hu,dp,by omega,by omega⟩
 ·obtain⟨rfl,rfl,rfl⟩:=gb (Lb.key.inj e2)
  have c:=cell h2;exact⟨⟨x,y - 1,rfl,c,v1 dp rfl (by omega),v1 dp rfl (by omega)⟩,_,_,_,t,u,lo,hi,hg,hw,t0,tu,hu,dp,by omega,by omega⟩
 ·obtain⟨rfl,rfl,rfl⟩:=gb (Lb.key.inj e2)
  have c:=cell h2;exact⟨⟨x+1,y,rfl,c,v0 dp (by omega) rfl,v0 dp (by omega) rfl⟩,_,_,_,t,u,lo,hi,hg,hw,t0,tu,hu,dp,by omega,by omega⟩
 ·obtain⟨rfl,rfl,rfl⟩:=gb (Lb.key.inj e2)
  have c:=cell h2;exact⟨⟨x,y+1,rfl,c,v1 dp rfl (by omega),v1 dp rfl (by omega)⟩,_,_,_,t,u,lo,hi,hg,hw,t0,tu,hu,dp,by omega,by omega⟩
theorem fK(qs rs:Crn)(i j:Int):apT qs rs i 1 j 1=sqE (cnX qs i) (cnY qs i) (cnX rs j) (cnY rs j)∧apB 1 1=1:=by
 unfold apT;rw[(iD qs i).1,(iD qs i).2,(iD rs j).1,(iD rs j).2];unfold sqE;exact⟨by grind,rfl⟩
theorem tO{qs rs:Crn}{a b i j:Int}{q:Pr}(hi:0≤i∧i<(qs.length:Int))(hj:0≤j∧j<(rs.length:Int))(c:prC q (i,j))(h:fZ qs rs a b 0 i j=false):okP qs rs a b q:=by
 obtain⟨e1,e2,e3,e4⟩:q.a=i∧q.b=1∧q.c=j∧q.d=1:=c;rw[vV hi hj]at h;have:=of_decide_eq_false h;unfold okP;rw[e1,e2,e3,e4,(fK qs rs i j).1,(fK qs rs i j).2];omega
structure FrW(n m:Nat)(ok:Pr->Prop)(ps:List Pr)(N:Nat):Prop where
 len:ps.length=N+1
 n1:1≤N
 cell:∀k,k<N->∃(x y:Int) (u v:Pr),((0≤x∧x<n)∧0≤y∧y<m)∧ps[k]? = some u∧ps[k+1]? = some v∧DP u x y∧DP v x y
 ok:∀q∈ps,ok q
 hd:∃q,ps[0]? = some q∧prC q (0,0)
 lst:∃q,ps[N]? = some q∧prC q ((n:Int),(m:Int))
theorem wN{qs rs:Crn}{a b:Int}{n m:Nat}{ps:List Pr}(hb:0<b)(hn:1≤n)(hm:1≤m)(en:qs.length=n+1)(em:rs.length=m+1)(h:nS n m (dh qs rs a b 0) (fZ qs rs a b 0) ps):∃N,FrW n m (okP qs rs a b) ps N∧N≤n*m:=by
 obtain⟨F0,F1,l,ps',q0,q1,rd,_,⟨_,hl⟩,rfl,c0,c1,pr⟩:=h;obtain⟨⟨s,r,rfl,hs⟩,st,⟨el,hlast,hfin⟩⟩:=rd;have hs:s=ck 0 0:=List.mem_singleton.mp hs;subst hs;have pl:=Paired.length pr;rw[List.tail_cons]at pl pr;have CE:∀k,k<((ck 0 0,Lb.no)::r).length->∃x y:Int,(∃e,((ck 0 0,Lb.no)::r)[k]? = some e∧e.1=ck x y)∧((0≤x∧x<n)∧0≤y∧y<m)∧(k=0->x=0∧y=0)∧∀k',k=k'+1->∃q,ps'[k']? = some q∧DP q x y∧okP qs rs a b q∧∃x0 y0:Int,(∃e0,((ck 0 0,Lb.no)::r)[k']? = some e0∧e0.1=ck x0 y0)∧DP q x0 y0:=by
  intro k
  induction k with
  | zero=>exact fun _=>⟨0,0,⟨_,rfl,rfl⟩,⟨by omega,by omega⟩,fun _=>⟨rfl,rfl⟩,fun k' h=>by omega⟩
  | succ k ih =>
   intro hk;obtain⟨x,y,⟨e,he,ee⟩,hr,_⟩:=ih (by omega);have he':=List.getElem?_eq_getElem hk;generalize ((ck 0 0,Lb.no)::r)[k+1]=e' at he';have hst:=st k e e' he he';rw[List.getElem?_cons_succ]at he';obtain⟨q,hq,sp⟩:=eQ pr k e' he';rw[ee]at hst;obtain⟨⟨x',y',ex,hr',i1,i2⟩,kk,i,j,t,u,lo,hi,hg,hw,t0,tu,hu,dp,k1,k0⟩:=uq hst hr sp;refine⟨x',y',⟨e',by rw[List.getElem?_cons_succ];exact he',ex⟩,hr',fun z=>by omega,fun k' hk'=>?_⟩;have:k'=k:=by omega
   subst this;exact⟨q,hq,i2,vi hb hg hw t0 tu hu dp (fun z=>by have:=k1 z;omega) (fun z=>by have:=k0 z;omega),x,y,⟨e,he,ee⟩,i1⟩
 have rl:((ck 0 0,Lb.no)::r).length=r.length+1:=rfl;have u1:((ck 0 0,Lb.no)::r).length≤n*m:=by
  rw[ug,Nat.sub_add_cancel hn,Nat.sub_add_cancel hm]at hl;exact hl
 have d0:DP q0 0 0:=by
  obtain⟨e1,e2,e3,e4⟩:q0.a=0∧q0.b=1∧q0.c=0∧q0.d=1:=c0;exact⟨by omega,by omega,by rw[e1,e2];decide,by rw[e1,e2];decide,by rw[e3,e4];decide,by rw[e3,e4];decide⟩
 have ckk:∀{k:Nat} {x y x' y':Int},(∃e,((ck 0 0,Lb.no)::r)[k]? = some e∧e.1=ck x y)->(∃e,((ck 0 0,Lb.no)::r)[k]? = some e∧e.1=ck x' y')->x=x'∧y=y':=fun ⟨e,h1,h2⟩ ⟨e',h1',h2'⟩=>by
  rw[h1]at h1';cases h1';exact fD (h2.symm.trans h2')
 refine⟨r.length+1,⟨by simp;omega,by omega,fun k hk=>?_,fun q hq=>?_,⟨q0,rfl,c0⟩,⟨q1,?_,c1⟩⟩,u1⟩
 ·obtain⟨x,y,hc,hr,hz,hp⟩:=CE k (by omega)
  have U:∃u,(q0::(ps'++[q1]))[k]? = some u∧DP u x y:=by
   cases k with
   | zero =>
    obtain⟨rfl,rfl⟩:=hz rfl;exact⟨q0,rfl,d0⟩
   | succ k =>
    obtain⟨q,hq,i2,_⟩:=hp k rfl;exact⟨q,by rw[List.getElem?_cons_succ,List.getElem?_append_left (List.getElem?_eq_some_iff.mp hq).1];exact hq,i2⟩
  have W:∃v,(q0::(ps'++[q1]))[k+1]? = some v∧DP v x y:=by
   rcases Nat.lt_or_ge (k+1) (r.length+1) with z|z
   ·obtain⟨x',y',_,_,_,hp'⟩:=CE (k+1) (by omega)
    obtain⟨q,hq,_,_,x0,y0,hc0,i1⟩:=hp' k rfl;obtain⟨rfl,rfl⟩:=ckk hc hc0;exact⟨q,by rw[List.getElem?_cons_succ,List.getElem?_append_left (List.getElem?_eq_some_iff.mp hq).1];exact hq,i1⟩
   ·have ek:k=r.length:=by omega
    obtain⟨e,he,ee⟩:=hc;rw[List.getLast?_eq_getElem?,rl,Nat.add_sub_cancel,<- ek,he]at hlast;cases hlast;rw[ee]at hfin;have hfin:(decide (x=(n:Int) - 1) && decide (y=(m:Int) - 1))=true:=hfin;rw[Bool.and_eq_true,decide_eq_true_eq,decide_eq_true_eq]at hfin;obtain⟨rfl,rfl⟩:=hfin;obtain⟨e1,e2,e3,e4⟩:q1.a=(n:Int)∧q1.b=1∧q1.c=(m:Int)∧q1.d=1:=c1;refine⟨q1,?_,by omega,by omega,by rw[e1,e2];omega,by rw[e1,e2];omega,by rw[e3,e4];omega,by rw[e3,e4];omega⟩;rw[List.getElem?_cons_succ,List.getElem?_append_right (by omega),show k - ps'.length=0 by omega];rfl
  obtain⟨u,hu,iu⟩:=U;obtain⟨v,hv,iv⟩:=W;exact⟨x,y,u,v,hr,hu,hv,iu,iv⟩
 ·rcases List.mem_cons.mp hq with rfl|hq
  ·exact tO (by omega) (by omega) c0 F0
  ·rcases List.mem_append.mp hq with hq|hq
   ·obtain⟨k,hk⟩:=List.mem_iff_getElem?.mp hq
    have:=(List.getElem?_eq_some_iff.mp hk).1;obtain⟨_,_,_,_,_,hp⟩:=CE (k+1) (by omega);obtain⟨q',hq',_,ok,_⟩:=hp k rfl;rw[hk]at hq';cases hq';exact ok
   ·rw[List.mem_singleton.mp hq]
    exact tO (by omega) (by omega) c1 F1
 ·rw[List.getElem?_cons_succ,List.getElem?_append_right (by omega),show r.length - ps'.length=0 by omega]
  rfl
structure Fb(qs rs:Crn)(a b:Int)(ps:List Pr):Prop where
 len:0<ps.length∧ps.length≤200
 rg:∀q∈ps,inR qs.length q.a q.b∧inR rs.length q.c q.d
 hd:∃q,ps[0]? = some q∧q.a=0∧q.b=1∧q.c=0∧q.d=1
 lst:∃q,ps[ps.length - 1]? = some q∧q.a=(qs.length:Int) - 1∧q.b=1∧q.c=(rs.length:Int) - 1∧q.d=1
 nr:∀(i:Nat) u v,ps[i]? = some u->ps[i+1]? = some v->mI u.a u.b v.a v.b∧mI u.c u.d v.c v.d
 sq:∀q∈ps,okP qs rs a b q
theorem dS{qs:Crn}(h:1≤qs.length):(dbl qs).length=aO qs+1∧1≤aO qs∧(qs.length=1->aO qs=1)∧(qs.length≠1->aO qs=qs.length - 1):=by
 by_cases h1:qs.length=1
 ·have:=nI h1
  unfold aO;exact⟨by omega,by omega,fun _=>by omega,fun z=>absurd h1 z⟩
 ·have:=gZ (qs:=qs) (by omega)
  unfold aO;rw[this];exact⟨by omega,by omega,fun z=>absurd z h1,fun _=>rfl⟩
theorem iZ{qs:Crn}{a b a' b':Int}(h1:1≤qs.length)(ea:a=((aO qs:Nat):Int))(eb:b=1)(o:onB (decide (qs.length=1)) a b a' b'):a'=(qs.length:Int) - 1∧b'=1:=by
 have d:=dS h1
 by_cases h:qs.length=1
 ·rw[decide_eq_true h]at o
  obtain⟨rfl,rfl⟩:a'=0∧b'=1:=o;exact⟨by omega,rfl⟩
 ·rw[decide_eq_false h]at o
  obtain⟨rfl,rfl⟩:a'=a∧b'=b:=o;have:=d.2.2.2 h;exact⟨by omega,eb⟩
theorem iY{o1:Bool}{a b a' b':Int}(ea:a=0)(eb:b=1)(o:onB o1 a b a' b'):a'=0∧b'=1:=by
 cases o1 with
 | true=>exact o
 | false =>
  obtain⟨rfl,rfl⟩:a'=a∧b'=b:=o;exact⟨ea,eb⟩
theorem tG{qs rs:Crn}{a b:Int}{ps':List Pr}(hb:0<b)(hq:1≤qs.length∧qs.length≤10)(hr:1≤rs.length∧rs.length≤10)(h:GoF qs rs a b true ps'):Fb qs rs a b ps':=by
 obtain⟨ps,pr,h⟩:=h;have d1:=dS hq.1;have d2:=dS hr.1;obtain⟨N,W,hN⟩:=wN hb d1.2.1 d2.2.1 d1.1 d2.1 h;have pl:=Paired.length pr;have wl:=W.len;have dq:=dZ hq;have dr:=dZ hr;have n9:aO qs≤9:=by omega
 have m9:aO rs≤9:=by omega
 have hN':N≤81:=Nat.le_trans hN (Nat.mul_le_mul n9 m9);have inc:∀(i:Nat) q,ps[i]? = some q->∃x y:Int,((0≤x∧x<((aO qs:Nat):Int))∧0≤y∧y<((aO rs:Nat):Int))∧DP q x y:=fun i q hi=>by
  have li:=(List.getElem?_eq_some_iff.mp hi).1;rcases Nat.lt_or_ge i N with z|z
  ·obtain⟨x,y,u,v,hr,hu,_,iu,_⟩:=W.cell i z
   rw[hi]at hu;cases hu;exact⟨x,y,hr,iu⟩
  ·obtain⟨x,y,u,v,hr,_,hv,_,iv⟩:=W.cell (i - 1) (by have:=W.n1;omega)
   rw[show i - 1+1=i by have:=W.n1;omega,hi]at hv;cases hv;exact⟨x,y,hr,iv⟩
 refine⟨⟨by omega,by omega⟩,fun q hq'=>?_,?_,?_,fun i u v hu hv=>?_,fun q hq'=>?_⟩
 ·obtain⟨i,hi⟩:=List.mem_iff_getElem?.mp hq'
  obtain⟨q0,h0,o1,o2⟩:=aX pr i q hi;obtain⟨x,y,hr',ic⟩:=inc i q0 h0;exact⟨vO hq.1 hr'.1 ic.hb ic.x2 o1,vO hr.1 hr'.2 ic.hd ic.y2 o2⟩
 ·obtain⟨q0,h0,c⟩:=W.hd
  obtain⟨q,hq',o1,o2⟩:=eQ pr 0 q0 h0;obtain⟨e1,e2,e3,e4⟩:q0.a=0∧q0.b=1∧q0.c=0∧q0.d=1:=c;have f1:=iY e1 e2 o1;have f2:=iY e3 e4 o2;exact⟨q,hq',f1.1,f1.2,f2.1,f2.2⟩
 ·obtain⟨q0,h0,c⟩:=W.lst
  obtain⟨q,hq',o1,o2⟩:=eQ pr N q0 h0;obtain⟨e1,e2,e3,e4⟩:q0.a=((aO qs:Nat):Int)∧q0.b=1∧q0.c=((aO rs:Nat):Int)∧q0.d=1:=c;have f1:=iZ hq.1 e1 e2 o1;have f2:=iZ hr.1 e3 e4 o2;exact⟨q,by rw[show ps'.length - 1=N by omega];exact hq',f1.1,f1.2,f2.1,f2.2⟩
 ·have li:=(List.getElem?_eq_some_iff.mp hv).1
  obtain⟨x,y,u0,v0,hr',hu0,hv0,iu,iv⟩:=W.cell i (by omega);obtain⟨u',hu',o1,o2⟩:=aX pr i u hu;rw[hu0]at hu';cases hu';obtain⟨v',hv',p1,p2⟩:=aX pr (i+1) v hv;rw[hv0]at hv';cases hv';exact⟨pN ⟨iu.x1,iu.x2⟩ ⟨iv.x1,iv.x2⟩ o1 p1,pN ⟨iu.y1,iu.y2⟩ ⟨iv.y1,iv.y2⟩ o2 p2⟩
 ·obtain⟨i,hi⟩:=List.mem_iff_getElem?.mp hq'
  obtain⟨q0,h0,o1,o2⟩:=aX pr i q hi;obtain⟨x,y,hr',ic⟩:=inc i q0 h0;obtain⟨b1,x1,y1⟩:=vN hq.1 hr'.1 ic.hb ic.x1 ic.x2 o1;obtain⟨b2,x2,y2⟩:=vN hr.1 hr'.2 ic.hd ic.y1 ic.y2 o2;exact xB (qp ic.hb ic.hd) (xC x1 y1 x2 y2) (qp b1 b2) (W.ok q0 (List.mem_of_getElem? h0))
theorem nQ{n m:Nat}{G:GF}{x y:Int}{e:aJ×Lb}(he:e∈fG n m G (ck x y)):∃k i j:Int,G k i j=none∧DIn n m k i j∧((e.1=ck x (y - 1)∧k=0∧i=x∧j=y - 1)∨(e.1=ck (x - 1) y∧k=1∧i=x - 1∧j=y)∨(e.1=ck x (y+1)∧k=0∧i=x∧j=y)∨(e.1=ck (x+1) y∧k=1∧i=x∧j=y)):=by
 obtain⟨h1,h2⟩:=List.mem_filter.mp he;simp only[dG,List.mem_cons,List.not_mem_nil,or_false]at h1;have sh:∀{s:aJ} {k a b:Int},ma n m G (s,Lb.key (dk k a b))=true->G k a b=none∧DIn n m k a b:=fun {s k a b} h=>by
  have h:(@decide (DIn n m k a b) (Classical.propDecidable _) && (G k a b).isNone)=true:=h;rw[Bool.and_eq_true]at h;refine⟨Option.isNone_iff_eq_none.mp h.2,?_⟩;exact @of_decide_eq_true _ (Classical.propDecidable _) h.1
 rcases h1 with rfl|rfl|rfl|rfl
 ·exact⟨_,_,_,(sh h2).1,(sh h2).2,.inl ⟨rfl,rfl,rfl,rfl⟩⟩
 ·exact⟨_,_,_,(sh h2).1,(sh h2).2,.inr (.inl ⟨rfl,rfl,rfl,rfl⟩)⟩
 ·exact⟨_,_,_,(sh h2).1,(sh h2).2,.inr (.inr (.inl ⟨rfl,rfl,rfl,rfl⟩))⟩
 ·exact⟨_,_,_,(sh h2).1,(sh h2).2,.inr (.inr (.inr ⟨rfl,rfl,rfl,rfl⟩))⟩
theorem wM{cx cy bx by_ ex ey a b:Int}(hb:0<b)(h:cR cx cy bx by_ ex ey a b 0=none)(B0:0<ftB cx cy bx by_ ex ey)(B1:ftB cx cy bx by_ ex ey<a8 bx by_ ex ey):a*a8 bx by_ ex ey<ftX cx cy bx by_ ex ey*ftX cx cy bx by_ ex ey*b:=by
 have s:=fh (t:=ftB cx cy bx by_ ex ey) (u:=a8 bx by_ ex ey) hb h (by omega) (by omega) (by omega);have e:wth cx cy bx by_ ex ey (ftB cx cy bx by_ ex ey) (a8 bx by_ ex ey)=a8 bx by_ ex ey*(ftX cx cy bx by_ ex ey*ftX cx cy bx by_ ex ey):=by
  rw[oG];unfold wth;have l:a8 bx by_ ex ey*((cx - bx)*(cx - bx)+(cy - by_)*(cy - by_)) - rAl cx cy bx by_ ex ey*rAl cx cy bx by_ ex ey=ftX cx cy bx by_ ex ey*ftX cx cy bx by_ ex ey:=by
   unfold a8 rAl ftX
   grind
  rw[<- l];generalize (cx - bx)*(cx - bx)+(cy - by_)*(cy - by_)=C
  grind
 rw[e]at s;generalize ftX cx cy bx by_ ex ey*ftX cx cy bx by_ ex ey=X at *;generalize a8 bx by_ ex ey=A at *;have s':a*A*A<X*b*A:=by
  have e1:a*A*A=a*(A*A):=Int.mul_assoc _ _ _;have e2:X*b*A=A*X*b:=by grind
  rw[e1,e2];exact s
 exact Int.lt_of_mul_lt_mul_right s' (by omega)
def FrP(cx cy:Int)(rs:Crn)(k h a b:Int):Prop:=(h - k=1->0<ftB cx cy (cnX rs k) (cnY rs k) (cnX rs (nx rs k)) (cnY rs (nx rs k))->ftB cx cy (cnX rs k) (cnY rs k) (cnX rs (nx rs k)) (cnY rs (nx rs k))<a8 (cnX rs k) (cnY rs k) (cnX rs (nx rs k)) (cnY rs (nx rs k))->a*a8 (cnX rs k) (cnY rs k) (cnX rs (nx rs k)) (cnY rs (nx rs k))<ftX cx cy (cnX rs k) (cnY rs k) (cnX rs (nx rs k)) (cnY rs (nx rs k))*ftX cx cy (cnX rs k) (cnY rs k) (cnX rs (nx rs k)) (cnY rs (nx rs k))*b)
def StP(cx cy:Int)(rs:Crn)(u v a b:Int):Prop:=∃k h:Int,((u=k∧v=h)∨(u=h∧v=k))∧(h=k∨h=k+1)∧(0≤k∧h<(rs.length:Int))∧FrP cx cy rs k h a b
structure rN(qs rs:Crn)(a b:Int)(ps:List Pr):Prop where
 len:0<ps.length∧ps.length≤200
 rg:∀q∈ps,inR qs.length q.a q.b∧inR rs.length q.c q.d
 co:∀q∈ps,q.b=1∧q.d=1∧0≤q.a∧0≤q.c
 hd:∃q,ps[0]? = some q∧(q.a=0∨q.c=(rs.length:Int) - 1)
 lst:∃q,ps[ps.length - 1]? = some q∧(q.a=(qs.length:Int) - 1∨q.c=0)
 st:∀(i:Nat) u v,ps[i]? = some u->ps[i+1]? = some v->(u.a=v.a∧StP (cnX qs u.a) (cnY qs u.a) rs u.c v.c a b)∨(u.a≠v.a∧u.c=v.c∧StP (cnX rs u.c) (cnY rs u.c) qs u.a v.a a b)
 sq:∀q∈ps,a*apB q.b q.d<apT qs rs q.a q.b q.c q.d*b
theorem kx{qs:Crn}{x a' b':Int}(h1:1≤qs.length)(hx:0≤x∧x≤((aO qs:Nat):Int))(o:onB (decide (qs.length=1)) x 1 a' b'):(b'=1∧(0≤a'∧a'<(qs.length:Int)))∧cnX qs a'=cnX (dbl qs) x∧cnY qs a'=cnY (dbl qs) x:=by
 have d:=dS h1
 by_cases h:qs.length=1
 ·rw[decide_eq_true h]at o
  obtain⟨rfl,rfl⟩:a'=0∧b'=1:=o;have:=d.2.2.1 h;have c:=lR h (i:=x) (by omega);exact⟨⟨rfl,by omega⟩,c.1.symm,c.2.symm⟩
 ·rw[decide_eq_false h]at o
  obtain⟨rfl,rfl⟩:a'=x∧b'=1:=o;have:=d.2.2.2 h;rw[gZ (by omega)];exact⟨⟨rfl,by omega⟩,rfl,rfl⟩
theorem pL{rs:Crn}{cx cy a b:Int}{k y y' c d c' d':Int}(hb:0<b)(h1:1≤rs.length)(hk:0≤k∧k<((aO rs:Nat):Int))(hg:cR cx cy (cnX (dbl rs) k) (cnY (dbl rs) k) (cnX (dbl rs) (k+1)) (cnY (dbl rs) (k+1)) a b 0=none)(hy:(y=k∧y'=k+1)∨(y=k+1∧y'=k))(o:onB (decide (rs.length=1)) y 1 c d)(o':onB (decide (rs.length=1)) y' 1 c' d'):StP cx cy rs c c' a b∧(rs.length=1->c=c')∧(rs.length≠1->c≠c'):=by
 have dd:=dS h1
 by_cases h:rs.length=1
 ·rw[decide_eq_true h]at o o'
  obtain⟨rfl,rfl⟩:c=0∧d=1:=o;obtain⟨rfl,rfl⟩:c'=0∧d'=1:=o';exact⟨⟨0,0,.inl ⟨rfl,rfl⟩,.inl rfl,⟨by omega,by omega⟩,fun z=>by omega⟩,fun _=>rfl,fun z=>absurd h z⟩
 ·rw[decide_eq_false h]at o o'
  obtain⟨rfl,rfl⟩:c=y∧d=1:=o;obtain⟨rfl,rfl⟩:c'=y'∧d'=1:=o';have e:=dd.2.2.2 h;rw[gZ (by omega)]at hg;have nn:=vP (qs:=rs) (k:=k) (by omega);refine⟨⟨k,k+1,by omega,.inr rfl,⟨by omega,by omega⟩,fun _ B0 B1=>?_⟩,fun z=>absurd z h,fun _=>by omega⟩;rw[nn]at B0 B1 ⊢;exact wM hb hg B0 B1
theorem q9{qs rs:Crn}{a b:Int}{ps':List Pr}(hb:0<b)(hq:1≤qs.length∧qs.length≤10)(hr:1≤rs.length∧rs.length≤10)(h:GoF qs rs a b false ps'):rN qs rs a b ps':=by
 obtain⟨ps,pr,_,l,rd,_,⟨_,hl⟩,pc⟩:=h;have d1:=dS hq.1;have d2:=dS hr.1;have dq:=dZ hq;have dr:=dZ hr;have n9:aO qs≤9:=by omega
 have m9:aO rs≤9:=by omega
 have pl:=Paired.length pr;have pcl:=Paired.length pc;have sf:=kH (qs:=qs) (rs:=rs) (a:=a) hb dq.1 dr.1;obtain⟨⟨s,r,rfl,hs⟩,st,⟨el,hlast,hfin⟩⟩:=rd;have ll:((s,Lb.no)::r).length≤100:=by
  refine Nat.le_trans hl ?_;rw[ug];exact Nat.le_trans (Nat.mul_le_mul (show aO qs+1≤10 by omega) (show aO rs+1≤10 by omega)) (by decide)
 obtain⟨p0,hp0,rfl⟩:=List.mem_map.mp hs;obtain⟨hf0,hb0⟩:=List.mem_filter.mp hp0;obtain⟨x0,y0⟩:=p0;have hf0:=dR.mp hf0;rw[Bool.or_eq_true,decide_eq_true_eq,decide_eq_true_eq]at hb0;dsimp only at hb0 hf0 st hlast pc pcl ll;have CE:∀k,k<((ck x0 y0,Lb.no)::r).length->∃x y:Int,(∃e,((ck x0 y0,Lb.no)::r)[k]? = some e∧e.1=ck x y)∧((0≤x∧x≤((aO qs:Nat):Int))∧0≤y∧y≤((aO rs:Nat):Int))∧fZ (dbl qs) (dbl rs) a b 0 x y=true:=by
  intro k
  induction k with
  | zero=>exact fun _=>⟨x0,y0,⟨_,rfl,rfl⟩,⟨⟨hf0.1,hf0.2.1⟩,hf0.2.2.1,hf0.2.2.2.1⟩,hf0.2.2.2.2⟩
  | succ k ih =>
   intro hk;obtain⟨x,y,⟨e,he,ee⟩,hr',_⟩:=ih (by omega);have he':=List.getElem?_eq_getElem hk;generalize ((ck x0 y0,Lb.no)::r)[k+1]=e' at he';have hst:=st k e e' he he';rw[ee]at hst;obtain⟨kk,i,j,hg,hd,hh⟩:=nQ hst;rcases hh with⟨e1,rfl,rfl,rfl⟩|⟨e1,rfl,rfl,rfl⟩|⟨e1,rfl,rfl,rfl⟩|⟨e1,rfl,rfl,rfl⟩
   ·have hd:(0≤i∧i≤((aO qs:Nat):Int))∧0≤y - 1∧y - 1<((aO rs:Nat):Int):=by
     rcases hd with⟨_,h⟩|⟨z,_⟩
     ·exact h
     ·cases z
    exact⟨_,_,⟨e',he',e1⟩,⟨hd.1,by omega,by omega⟩,(sf.1 _ _ hd.1 hd.2 hg).1⟩
   ·have hd:(0≤x - 1∧x - 1<((aO qs:Nat):Int))∧0≤j∧j≤((aO rs:Nat):Int):=by
     rcases hd with⟨z,_⟩|⟨_,h⟩
     ·cases z
     ·exact h
    exact⟨_,_,⟨e',he',e1⟩,⟨⟨by omega,by omega⟩,hd.2⟩,(sf.2 _ _ hd.1 hd.2 hg).1⟩
   ·have hd:(0≤i∧i≤((aO qs:Nat):Int))∧0≤j∧j<((aO rs:Nat):Int):=by
     rcases hd with⟨_,h⟩|⟨z,_⟩
     ·exact h
     ·cases z
    exact⟨_,_,⟨e',he',e1⟩,⟨hd.1,by omega,by omega⟩,(sf.1 _ _ hd.1 hd.2 hg).2⟩
   ·have hd:(0≤i∧i<((aO qs:Nat):Int))∧0≤j∧j≤((aO rs:Nat):Int):=by
     rcases hd with⟨z,_⟩|⟨_,h⟩
     ·cases z
     ·exact h
    exact⟨_,_,⟨e',he',e1⟩,⟨⟨by omega,by omega⟩,hd.2⟩,(sf.2 _ _ hd.1 hd.2 hg).2⟩
 have T:∀(i:Nat) q,ps'[i]? = some q->∃x y:Int,(∃e,((ck x0 y0,Lb.no)::r)[i]? = some e∧e.1=ck x y)∧((0≤x∧x≤((aO qs:Nat):Int))∧0≤y∧y≤((aO rs:Nat):Int))∧fZ (dbl qs) (dbl rs) a b 0 x y=true∧onB (decide (qs.length=1)) x 1 q.a q.b∧onB (decide (rs.length=1)) y 1 q.c q.d:=fun i q hi=>by
  have li:=(List.getElem?_eq_some_iff.mp hi).1;obtain⟨x,y,⟨e,he,ee⟩,hr',hf⟩:=CE i (by omega);obtain⟨q0,h0,o1,o2⟩:=aX pr i q hi;obtain⟨e',he',c⟩:=aX pc i q0 h0;rw[he]at he';cases he';rw[ee]at c;obtain⟨e1,e2,e3,e4⟩:q0.a=x∧q0.b=1∧q0.c=y∧q0.d=1:=c;rw[e1,e2]at o1;rw[e3,e4]at o2;exact⟨x,y,⟨e,he,ee⟩,hr',hf,o1,o2⟩
 have dA:0<ps'.length:=by rw[<- pl,<- pcl];exact Nat.succ_pos _
 have CO:∀q∈ps',(q.b=1∧q.d=1)∧(0≤q.a∧q.a<(qs.length:Int))∧0≤q.c∧q.c<(rs.length:Int):=fun q hq'=>by
  obtain⟨i,hi⟩:=List.mem_iff_getElem?.mp hq';obtain⟨x,y,_,hr',_,o1,o2⟩:=T i q hi;have c1:=kx hq.1 hr'.1 o1;have c2:=kx hr.1 hr'.2 o2;exact⟨⟨c1.1.1,c2.1.1⟩,c1.1.2,c2.1.2⟩
 refine⟨⟨dA,by omega⟩,fun q hq'=>?_,fun q hq'=>?_,?_,?_,fun i u v hu hv=>?_,fun q hq'=>?_⟩
 ·have c:=CO q hq'
  unfold inR;rw[c.1.1,c.1.2];omega
 ·have c:=CO q hq'
  exact⟨c.1.1,c.1.2,c.2.1.1,c.2.2.1⟩
 ·have h0:=List.getElem?_eq_getElem dA
  generalize ps'[0]=q at h0;refine⟨q,h0,?_⟩;obtain⟨x,y,⟨e,he,ee⟩,hr',_,o1,o2⟩:=T 0 q h0;cases he;obtain⟨rfl,rfl⟩:=fD ee;rcases hb0 with z|z
  ·exact .inr (iZ hr.1 z rfl o2).1
  ·exact .inl (iY z rfl o1).1
 ·have h0:=List.getElem?_eq_getElem (l:=ps') (i:=ps'.length - 1) (by omega)
  generalize ps'[ps'.length - 1]=q at h0;refine⟨q,h0,?_⟩;obtain⟨x,y,⟨e,he,ee⟩,hr',_,o1,o2⟩:=T _ q h0;rw[List.getLast?_eq_getElem?,show((ck x0 y0,Lb.no)::r).length - 1=ps'.length - 1 by omega,he]at hlast;cases hlast;rw[ee]at hfin;have hfin:(decide (y=0) || decide (x=((aO qs:Nat):Int)))=true:=hfin;rw[Bool.or_eq_true,decide_eq_true_eq,decide_eq_true_eq]at hfin;rcases hfin with z|z
  ·exact .inr (iY z rfl o2).1
  ·exact .inl (iZ hq.1 z rfl o1).1
 ·obtain⟨x,y,⟨e,he,ee⟩,hr',_,o1,o2⟩:=T i u hu
  obtain⟨x',y',⟨e',he',ee'⟩,hr2,_,p1,p2⟩:=T (i+1) v hv;have hst:=st i e e' he he';rw[ee]at hst;obtain⟨kk,i',j',hg,hd,hh⟩:=nQ hst;have same:∀{o:Bool} {x a b c d:Int},onB o x 1 a b->onB o x 1 c d->a=c:=fun {o x a b c d} h h'=>by
   cases o with
   | true =>
    obtain⟨rfl,_⟩:a=0∧b=1:=h;obtain⟨rfl,_⟩:c=0∧d=1:=h';rfl
   | false =>
    obtain⟨rfl,_⟩:a=x∧b=1:=h;obtain⟨rfl,_⟩:c=a∧d=1:=h';rfl
  have mu:=CO u (List.mem_of_getElem? hu);have A:∀j:Int,x'=x->((y=j∧y'=j+1)∨(y=j+1∧y'=j))->dh (dbl qs) (dbl rs) a b 0 0 x j=none->DIn (aO qs) (aO rs) 0 x j->(u.a=v.a∧StP (cnX qs u.a) (cnY qs u.a) rs u.c v.c a b):=fun j ex hy hg hd=>by
   subst ex;have hd:0≤j∧j<((aO rs:Nat):Int):=by
    rcases hd with⟨_,h⟩|⟨z,_⟩
    ·exact h.2
    ·cases z
   have g0:dh (dbl qs) (dbl rs) a b 0 0 x' j=cR (cnX (dbl qs) x') (cnY (dbl qs) x') (cnX (dbl rs) j) (cnY (dbl rs) j) (cnX (dbl rs) (j+1)) (cnY (dbl rs) (j+1)) a b 0:=if_pos rfl;have cn:=kx hq.1 hr'.1 o1;rw[g0,<- cn.2.1,<- cn.2.2]at hg;exact⟨same o1 p1,(pL hb hr.1 hd hg hy o2 p2).1⟩
  have B:∀j:Int,y'=y->((x=j∧x'=j+1)∨(x=j+1∧x'=j))->dh (dbl qs) (dbl rs) a b 0 1 j y=none->DIn (aO qs) (aO rs) 1 j y->(u.a=v.a∧StP (cnX qs u.a) (cnY qs u.a) rs u.c v.c a b)∨(u.a≠v.a∧u.c=v.c∧StP (cnX rs u.c) (cnY rs u.c) qs u.a v.a a b):=fun j ey hx hg hd=>by
   subst ey;have hd:0≤j∧j<((aO qs:Nat):Int):=by
    rcases hd with⟨z,_⟩|⟨_,h⟩
    ·cases z
    ·exact h.1
   have g0:dh (dbl qs) (dbl rs) a b 0 1 j y'=cR (cnX (dbl rs) y') (cnY (dbl rs) y') (cnX (dbl qs) j) (cnY (dbl qs) j) (cnX (dbl qs) (j+1)) (cnY (dbl qs) (j+1)) a b 0:=if_neg (by decide);have cn:=kx hr.1 hr'.2 o2;rw[g0,<- cn.2.1,<- cn.2.2]at hg;have S:=pL hb hq.1 hd hg hx o1 p1;have ec:=same o2 p2
   by_cases h1:qs.length=1
   ·exact .inl ⟨S.2.1 h1,u.c,u.c,.inl ⟨rfl,ec.symm⟩,.inl rfl,⟨mu.2.2.1,mu.2.2.2⟩,fun z=>absurd z (by rw[Int.sub_self];decide)⟩
   ·exact .inr ⟨S.2.2 h1,ec,S.1⟩
  rcases hh with⟨e1,rfl,rfl,rfl⟩|⟨e1,rfl,rfl,rfl⟩|⟨e1,rfl,rfl,rfl⟩|⟨e1,rfl,rfl,rfl⟩
  ·obtain⟨ex,ey⟩:=fD (ee'.symm.trans e1)
   exact .inl (A _ ex (.inr ⟨by omega,ey⟩) hg hd)
  ·obtain⟨ex,ey⟩:=fD (ee'.symm.trans e1)
   exact B _ ey (.inr ⟨by omega,ex⟩) hg hd
  ·obtain⟨ex,ey⟩:=fD (ee'.symm.trans e1)
   exact .inl (A _ ex (.inl ⟨rfl,ey⟩) hg hd)
  ·obtain⟨ex,ey⟩:=fD (ee'.symm.trans e1)
   exact B _ ey (.inl ⟨rfl,ex⟩) hg hd
 ·obtain⟨i,hi⟩:=List.mem_iff_getElem?.mp hq'
  obtain⟨x,y,_,hr',hf,o1,o2⟩:=T i q hi;have c1:=kx hq.1 hr'.1 o1;have c2:=kx hr.1 hr'.2 o2;rw[vV (by omega) (by omega)]at hf;have:=of_decide_eq_true hf;rw[c1.1.1,c2.1.1,(fK qs rs q.a q.c).1,(fK qs rs q.a q.c).2,c1.2.1,c1.2.2,c2.2.1,c2.2.2];omega
def lcE:Nat->Expr->List Scope
 | 0,_=>[]
 | n+1,e=>match e with
  | .ListComp _ _ sc _=>[sc]
  | .Call f as _ _=>lcE n f++as.flatMap (lcE n)
  | .BoolOp _ vs _=>vs.flatMap (lcE n)
  | .UnaryOp _ a _=>lcE n a
  | .Compare a _ bs _=>lcE n a++bs.flatMap (lcE n)
  | _=>[]
def lcS:Nat->Stmt->List Scope
 | 0,_=>[]
 | n+1,s=>match s with
  | .Return (some e) _=>lcE 6 e
  | .Assign _ e _=>lcE 6 e
  | .Expr e _=>lcE 6 e
  | .If c b e _=>lcE 6 c++(b.flatMap (lcS n)++e.flatMap (lcS n))
  | .For _ _ b _ _=>b.flatMap (lcS n)
  | _=>[]
def lcA(s:Stmt)(i:Nat):Scope:=((aL s).flatMap (lcS 4)).getD i { kind:=.function,names:=[],isGenerator:=false,isCoroutine:=false }
def dPr(q:Pr):D:=.tup [.tup [.int q.a,.int q.b],.tup [.int q.c,.int q.d]]
structure Cz(H:Hp)(v:V)(t u:Int):Prop where
 ex:∃p,v = .ref p∧H p=some (.tup [.int t,.int u])
 bt:bits t≤8000
 bu:bits u≤8000
theorem Cz.t{H H':Hp}{v:V}{x y:Int}(h:Cz H v x y)(s:SameT H H'):Cz H' v x y:=⟨let ⟨p,e,f⟩:=h.ex;⟨p,e,s _ _ f⟩,h.bt,h.bu⟩
inductive D9 (vs:List V) (H:Hp) (Q:VK) (x_3:XK):Prop
 | mk:∀(l1 l2 l:Addr) (qs rs:Crn) (ps:List Pr) (a b:Int),(vs = [.ref l1,.ref l2,.ref l])->(LineM H l1 qs)->(LineM H l2 rs)->((1≤qs.length∧qs.length≤10))->((1≤rs.length∧rs.length≤10))->(DJ H l ps)->(Fb qs rs a b ps)->(∀(r:Addr) (ys:List V) (H':Hp),Same H H'->H' r=some (.lst ys)->ys.length≤400->(∀y∈ys,∃t u,Cz H' y t u∧t*b≤a*u)->Q (.ref r) H')->D9 vs H Q x_3
inductive Ea (vs:List V) (H:Hp) (Q:VK) (x_3:XK):Prop
 | mk:∀(l1 l2 l:Addr) (qs rs:Crn) (ps:List Pr) (a b:Int),(vs = [.ref l1,.ref l2,.ref l])->(LineM H l1 qs)->(LineM H l2 rs)->((1≤qs.length∧qs.length≤10))->((1≤rs.length∧rs.length≤10))->(DJ H l ps)->(rN qs rs a b ps)->(∀(r:Addr) (ys:List V) (H':Hp),Same H H'->H' r=some (.lst ys)->ys.length≤400->(∀y∈ys,∃t u,Cz H' y t u∧a*u<t*b)->Q (.ref r) H')->Ea vs H Q x_3
theorem Ds.plx{H:Hp}{q:Pr}{qs:Crn}(h:Ds H q)(r:inR qs.length q.a q.b):DI H q.x qs q.a q.b:=⟨h.x_,h.lx.pos,h.nx,r,h.ba,h.bb⟩
theorem Ds.ply{H:Hp}{q:Pr}{qs:Crn}(h:Ds H q)(r:inR qs.length q.c q.d):DI H q.y qs q.c q.d:=⟨h.y_,h.ly.pos,h.ny,r,h.bc,h.bd⟩
theorem fj{ps:List Pr}{i:Nat}{q:Pr}(h:ps[i]? = some q):atI (prs ps) (i:Int)=some (.ref q.p):=d6 (by unfold prs;rw[List.getElem?_map,h];rfl)
theorem k7{ps:List Pr}{q:Pr}(h:ps[ps.length - 1]? = some q):atI (prs ps) (-1)=some (.ref q.p):=by
 have hl:=(List.getElem?_eq_some_iff.mp h).1;rw[<- fj h];unfold atI;rw[de]
 congr 1
 unfold ixN
 (repeat' split) <;> first|rfl|omega|(congr 1;omega)
theorem om{H:Hp}{q:Pr}{n:Nat}(h:Ds H q):Rp H (n+2) (.ref q.p) (dPr q):=Rp.t2 h.p_ (Rp.t2 h.x_ .int .int) (Rp.t2 h.y_ .int .int)
theorem zW:yG ["one","other","pairs","ends","k"] ["one","other","pairs"] (ap (top 77)):=smk
theorem io(Ab:Df K mg "_law_free_walk" (top 77))(yW:Fn P w K mg base "_law_are_pairs" ["one","other","pairs"] 3 Dz)(zg:Fn P w K mg base "_law_near" ["one","other"] 2 DA)(zw:Fn P w K mg base "_law_apart" ["one","x","other","y"] 2 DG)(T:Txt mg):Fn P w K mg base "_law_free_walk" ["one","other","pairs"] 4 D9:=by
 refine Ab.fn zW (fun _ _ _ _ _ _ us hl=>by obtain⟨_,_,_,rfl⟩:=gL hl;rfl) (fun vs H Q E h=>?_) (fun f cdv A outer s H vs Q E hr h=>?_)
 ·obtain⟨l1,l2,l,qs,rs,ps,a,b,rfl,_⟩:=h
  rfl
 ·obtain⟨l1,l2,l,qs,rs,ps,a,b,rfl,La,Lb,⟨h1,h10⟩,⟨g1,g10⟩,PP,W,q⟩:=h
  have CN:BE (bw CX0 P w K mg base ["one","other","pairs","ends","k"] "_law_free_walk" (ap (top 77)) f cdv A outer s H E).nox (lcA (top 77) 0) [("other",s.heap.objs.size+2),("one",s.heap.objs.size+1)] ["x","y"] [("one",0),("other",1)] :=
   ⟨by rfl,rfl,by decide +kernel,by decide +kernel,(fun x hx=>by simp only[List.mem_cons,List.not_mem_nil,or_false]at hx;rcases hx with rfl|rfl <;> exact rfl),(fun p hp=>by simp only[List.mem_cons,List.not_mem_nil,or_false]at hp;rcases hp with rfl|rfl <;> exact rfl),by rfl,by decide +kernel,(fun p hp=>by simp only[List.mem_cons,List.not_mem_nil,or_false]at hp;rcases hp with rfl|rfl <;> exact⟨rfl,rfl,.inr (.inl rfl),rfl,rfl⟩),⟨rfl,rfl⟩,rfl⟩
  refine⟨_,(ag (ax (i:=3) zW.nd rfl (Or.inl rfl) (@bH _ _ _ _ (@aa _ _ _ _ _ (@aB _ _ _ _ _ (@aa _ _ _ _ _ (@aB _ _ _ _ _ (@aa _ _ _ _ _ ad (@aa _ _ _ _ _ ad af (by rfl)) (by rfl))) (@aa _ _ _ _ _ (@aB _ _ _ _ _ (@aa _ _ _ _ _ ad (@aa _ _ _ _ _ ad af (by rfl)) (by rfl))) af (by rfl)) (by rfl))) (@aa _ _ _ _ _ (@aB _ _ _ _ _ (@aa _ _ _ _ _ (@aB _ _ _ _ _ (@aa _ _ _ _ _ (ao aG (aF aI (by rfl) T.z_len bD (aa (pv 0) af)) ad) (@aa _ _ _ _ _ ad af (by rfl)) (by rfl))) (@aa _ _ _ _ _ (@aB _ _ _ _ _ (@aa _ _ _ _ _ (ao aG (aF aI (by rfl) T.z_len bD (aa (pv 1) af)) ad) (@aa _ _ _ _ _ ad af (by rfl)) (by rfl))) af (by rfl)) (by rfl))) af (by rfl)) (by rfl)))) (ag (aQ (cX (ca (bo (aA yW (hr.mono (by decide)) (by rfl) (aa (pv 0) (aa (pv 1) (aa (pv 2) af)))))) (cT (aC (lg hr.units10) (bH (aa (aj aM (pv 2) ad (fun _ _=>rfl)) (aa (aj aM (pv 2) (dI cS ad) (fun _ _=>rfl)) af))) (pv 3) (aE _)))).pt (ar (az cb)) aH) (ag (cO PassesOwn.never rfl (hY rfl T.z_range (aa ad (aa (aF aI (by rfl) T.z_len bD (aa (pv 2) af)) af))) (aU (i:=4) zW.nd rfl (Or.inl rfl)) (ar (aQ (cX (ca (bo (aA zg (hr.mono (by decide)) (by rfl) (aa (aj ai (aj aM (pv 2) (ao aG (pv 4) ad) (fun _ _=>rfl)) ad (fun _ _=>rfl)) (aa (aj ai (aj aM (pv 2) (pv 4) (fun _ _=>rfl)) ad (fun _ _=>rfl)) af))))) (cT (ca (bo (aA zg (hr.mono (by decide)) (by rfl) (aa (aj ai (aj aM (pv 2) (ao aG (pv 4) ad) (fun _ _=>rfl)) ad (fun _ _=>rfl)) (aa (aj ai (aj aM (pv 2) (pv 4) (fun _ _=>rfl)) ad (fun _ _=>rfl)) af))))))).pt (ar (az cb)) aH))) (ar (az (js rfl CN (cQ (pv 2)) (fun fp s₀ H₀=>(pH (K:=K) (n:=2) rfl rfl (bW (aU (i:=0) CN.nd rfl (Or.inl rfl) (Or.inr rfl)) (bW (aU (i:=1) CN.nd rfl (Or.inl rfl) (Or.inr rfl)) eO)))) (fun fp s₀ H₀=>pF) (fun fp s₀ H₀=>(aA zw (hr.mono (by decide)) (by rfl) (aa (pv 2) (aa (pv 0) (aa (pv 3) (aa (pv 1) af)))))))))))),?_⟩;have hpl:(prs ps).length=ps.length:=de ps;have hlq:(qs.map fun (q:Addr×Int×Int)=>V.ref q.1).length=qs.length:=List.length_map _;have hlr:(rs.map fun (q:Addr×Int×Int)=>V.ref q.1).length=rs.length:=List.length_map _;have hl:=W.len;obtain⟨q0,e0,c1,c2,c3,c4⟩:=W.hd;obtain⟨qz,ez,d1,d2,d3,d4⟩:=W.lst;refine⟨sz (by simp),fun t1 H1 s1 f1 n1=>⟨sz (by simp),fun t2 H2 s2 f2 n2=>⟨sz (by simp),fun t3 H3 s3 f3 n3=>?_⟩⟩⟩;have S3:=s1.trans (s2.trans s3);refine⟨_,rfl,l1,_,rfl,.inl (SqL.of (La.mono S3).lst),_,_,rfl,rfl,sz (by simp),fun t4 H4 s4 f4 n4=>?_⟩;have S4:=S3.trans s4;refine⟨_,rfl,l2,_,rfl,.inl (SqL.of (Lb.mono S4).lst),_,_,rfl,rfl,sz (by simp),fun t5 H5 s5 f5 n5=>⟨sz (by simp),fun t6 H6 s6 f6 n6=>⟨sz (by simp),fun le H7 s7 f7 n7=>?_⟩⟩⟩;have S7:=S4.trans (s5.trans (s6.trans s7));have P7:=PP.mono S7;refine⟨_,rfl,_,rfl,_,rfl,l1,l2,l,qs,rs,ps,rfl,La.mono S7,Lb.mono S7,P7,hl,⟨by omega,by omega⟩,W.rg,_,rfl,aR (by decide) ?_⟩;refine⟨_,rfl,l,_,_,_,rfl,rfl,SqL.of P7.lst,fj (i:=0) e0,_,rfl,_,rfl,l,_,_,_,rfl,rfl,SqL.of P7.lst,k7 ez,sz (by simp),fun lp H8 s8 f8 n8=>?_⟩;have P8:=P7.mono s8;have S8:=S7.trans s8;have G:∀{p:Addr} {xs:List V} {Ha:Hp},Same Ha H7->Ha p=some (.tup xs)->H8 p=some (.tup xs):=fun s e=>s8 _ _ (s _ _ e);have r1:Rp H8 8 (.ref t3) (.tup [.tup [.int 0,.int 1],.tup [.int 0,.int 1]]):=Rp.t2 (G (s4.trans (s5.trans (s6.trans s7))) f3) (Rp.t2 (G (s2.trans (s3.trans (s4.trans (s5.trans (s6.trans s7))))) f1) .int .int) (Rp.t2 (G (s3.trans (s4.trans (s5.trans (s6.trans s7)))) f2) .int .int);have r2:Rp H8 8 (.ref t6) (.tup [.tup [.int ((((qs.map fun (q:Addr×Int×Int)=>V.ref q.1).length:Nat):Int) - 1),.int 1],.tup [.int ((((rs.map fun (q:Addr×Int×Int)=>V.ref q.1).length:Nat):Int) - 1),.int 1]]):=Rp.t2 (G s7 f6) (Rp.t2 (G (s5.trans (s6.trans s7)) f4) .int .int) (Rp.t2 (G (s6.trans s7) f5) .int .int);have x1:dPr q0 = .tup [.tup [.int 0,.int 1],.tup [.int 0,.int 1]]:=by unfold dPr;rw[c1,c2,c3,c4]
  have x2:dPr qz = .tup [.tup [.int ((((qs.map fun (q:Addr×Int×Int)=>V.ref q.1).length:Nat):Int) - 1),.int 1],.tup [.int ((((rs.map fun (q:Addr×Int×Int)=>V.ref q.1).length:Nat):Int) - 1),.int 1]]:=by unfold dPr;rw[d1,d2,d3,d4,hlq,hlr]
  refine⟨_,rfl,_,_,Rp.l2 f8 (om (P8.pr q0 (List.mem_of_getElem? e0))) (om (P8.pr qz (List.mem_of_getElem? ez))),Rp.l2 (s8 _ _ f7) r1 r2,_,rfl,aR (by rw[x1,x2,gY];rfl) ?_⟩;have e62:(2:Int)^62=4611686018427387904:=by decide
  refine⟨_,rfl,l,_,rfl,.inl (SqL.of P8.lst),_,_,rfl,?_⟩;rw[hpl];refine⟨by rw[e62];omega,dB (n:=((ps.length:Int) - 1).toNat) (lo:=1) (fun _ σ H'=>∃z,σ = [some (.ref l1),some (.ref l2),some (.ref l),some (.ref le),z]∧H'=H8) ⟨_,rfl,rfl⟩ ?_ ?_⟩
  ·rintro i σ H' hi ⟨z,rfl,rfl⟩
   have eu:=List.getElem?_eq_getElem (l:=ps) (i:=i) (by omega);have ev:=List.getElem?_eq_getElem (l:=ps) (i:=i+1) (by omega);generalize ps[i]=u at eu;generalize ps[i+1]=v at ev;have pu:=P8.pr u (List.mem_of_getElem? eu);have pv:=P8.pr v (List.mem_of_getElem? ev);have nr:=W.nr i u v eu ev;have au:atI (prs ps) (1+(i:Int) - 1)=some (.ref u.p):=by rw[show 1+(i:Int) - 1=(i:Int) by omega];exact fj eu
   have av:atI (prs ps) (1+(i:Int))=some (.ref v.p):=by rw[show 1+(i:Int)=((i+1:Nat):Int) by omega];exact fj ev
   refine⟨_,rfl,_,rfl,_,_,rfl,rfl,l,_,_,_,rfl,rfl,SqL.of P8.lst,au,u.p,_,_,_,rfl,rfl,SqT.of pu.p_,rfl,_,rfl,_,rfl,l,_,_,_,rfl,rfl,SqL.of P8.lst,av,v.p,_,_,_,rfl,rfl,SqT.of pv.p_,rfl,u.x,v.x,u.a,u.b,v.a,v.b,rfl,pu.x_,pv.x_,⟨pu.lx.pos,pv.lx.pos⟩,⟨pu.ba,pu.bb,pv.ba,pv.bb⟩,nr.1,_,rfl,aR (by decide) ?_⟩;refine⟨_,rfl,_,rfl,_,_,rfl,rfl,l,_,_,_,rfl,rfl,SqL.of P8.lst,au,u.p,_,_,_,rfl,rfl,SqT.of pu.p_,rfl,_,rfl,_,rfl,l,_,_,_,rfl,rfl,SqL.of P8.lst,av,v.p,_,_,_,rfl,rfl,SqT.of pv.p_,rfl,u.y,v.y,u.c,u.d,v.c,v.d,rfl,pu.y_,pv.y_,⟨pu.ly.pos,pv.ly.pos⟩,⟨pu.bc,pu.bd,pv.bc,pv.bd⟩,nr.2,_,rfl,aR (by decide) ?_⟩;exact⟨_,rfl,rfl⟩
  rintro σ H' ⟨z,rfl,rfl⟩;refine⟨_,rfl,l,rfl,⟨_,SqL.of P8.lst⟩,jL (K:=K) (k:=2) (SqL.of P8.lst) (by rw[de];omega) (fun i v H'=>∃q:Pr,ps[i]? = some q∧Cz H' v (apT qs rs q.a q.b q.c q.d) (apB q.b q.d)) (fun i v H H' st ⟨q,e,a⟩=>⟨q,e,a.t st⟩) ?_ ?_⟩
  ·intro i x H8 τ Kc hx s8 hτ kk
   obtain⟨τ0,τ1,rfl⟩:∃τ0 τ1,τ = [τ0,τ1]:=by
    match τ,hτ with
    | [a,b],_=>exact⟨a,b,rfl⟩
   obtain⟨q',hq,rfl⟩:=gy hx;have mq:=List.mem_of_getElem? hq;have pq:=(P8.mono s8).pr q' mq;have rq:=W.rg q' mq;have S8:=S8.trans s8;refine⟨q'.p,_,rfl,SqT.of pq.p_,rfl,_,_,rfl,_,_,rfl,rfl,⟨[some (.ref q'.x),some (.ref q'.y)],rfl,rfl⟩,?_⟩;refine⟨_,rfl,_,rfl,_,rfl,_,rfl,l1,q'.x,l2,q'.y,qs,rs,q'.a,q'.b,q'.c,q'.d,rfl,La.mono S8,Lb.mono S8,pq.plx rq.1,pq.ply rq.2,⟨by omega,by omega⟩,fun r H9 s9 f9 bs=>kk _ H9 s9 ⟨q',hq,⟨r,rfl,f9⟩,bs.1,bs.2⟩⟩
  ·intro r zs H9 nr s9 f9 hlz hz
   rw[hpl]at hlz;refine q r zs H9 (S8.trans s9) f9 (by omega) fun y hy=>?_;obtain⟨i,hi⟩:=List.mem_iff_getElem?.mp hy;obtain⟨u,hu,sa⟩:=hz i y hi;exact⟨_,_,sa,W.sq u (List.mem_of_getElem? hu)⟩
theorem u9{cx cy bx by_ ex ey:Int}(h1:bits cx≤50)(h2:bits cy≤50)(h3:bits bx≤50)(h4:bits by_≤50)(h5:bits ex≤50)(h6:bits ey≤50):bits (ftX cx cy bx by_ ex ey*ftX cx cy bx by_ ex ey)≤8000∧bits (a8 bx by_ ex ey)≤8000:=by
 have w1:=aK h5 h3;have w2:=aK h6 h4;have o1:=aK h1 h3;have o2:=aK h2 h4;have x:bits (ftX cx cy bx by_ ex ey)≤103:=aK (bits_mul w1 o2) (bits_mul w2 o1);exact⟨aw (bits_mul x x) (by decide),aw (a7 (bits_mul w1 w1) (bits_mul w2 w2)) (by decide)⟩
structure Ck(H H1:Hp)(r:Addr)(ys:List V)(n:Nat)(a b:Int):Prop where
 sm:Same H H1
 lst:H1 r=some (.lst ys)
 len:ys.length≤n
 sq:∀y∈ys,∃t u,Cz H1 y t u∧a*u<t*b
theorem Ck.mono{H H1 H2:Hp}{r:Addr}{ys:List V}{n:Nat}{a b:Int}(h:Ck H H1 r ys n a b)(s:Same H1 H2):Ck H H2 r ys n a b:=⟨h.sm.trans s,s _ _ h.lst,h.len,fun y hy=>let ⟨t,u,x,z⟩:=h.sq y hy;⟨t,u,x.t s.t,z⟩⟩
theorem Ck.foot{H H1 H2:Hp}{l:Addr}{r f:Addr}{ys:List V}{n:Nat}{a b cx cy:Int}{rs:Crn}{k h:Int}(J:Ck H H1 r ys n a b)(L:LineM H1 l rs)(s:Same H1 H2)(bc:bits cx≤50∧bits cy≤50)(kr:0≤k∧h<(rs.length:Int))(hk:h=k∨h=k+1)
  (F:FtQ H2 f cx cy rs k h) (fr:FrP cx cy rs k h a b):∃zs,H2 f=some (.lst zs)∧zs.length≤1∧∀y∈zs,∃t u,Cz H2 y t u∧a*u<t*b:=by
 rcases F with⟨⟨e,B0,B1⟩,t,h1,h2⟩|⟨_,h1⟩
 ·refine⟨_,h1,by simp,fun y hy=>?_⟩
  obtain⟨⟨e0,el⟩,_,_⟩:=kA (qs:=rs) kr.1 (show k<(rs.length:Int) by omega);obtain⟨_,_,_,b1,b2⟩:=dY L kr.1 (show k<(rs.length:Int) by omega);obtain⟨_,_,_,b3,b4⟩:=dY L e0 el;have fb:=u9 bc.1 bc.2 b1 b2 b3 b4;exact⟨_,_,⟨⟨t,List.mem_singleton.mp hy,h2⟩,fb.1,fb.2⟩,fr e B0 B1⟩
 ·exact⟨[],h1,by simp,fun y hy=>nomatch hy⟩
theorem Ck.cat{H H1 H2:Hp}{r p:Addr}{ys zs:List V}{n:Nat}{a b:Int}(J:Ck H H1 r ys n a b)(hz:zs.length≤1∧∀y∈zs,∃t u,Cz H1 y t u∧a*u<t*b)(s:Same H1 H2)(e:H2 p=some (.lst (ys++zs))):Ck H H2 p (ys++zs) (n+1) a b:=by
 refine⟨J.sm.trans s,e,?_,fun y hy=>?_⟩
 ·rw[List.length_append]
  have:=J.len;omega
 ·rcases List.mem_append.mp hy with hy|hy
  ·obtain⟨t,u,x,z⟩:=J.sq y hy
   exact⟨t,u,x.t s.t,z⟩
  ·obtain⟨t,u,x,z⟩:=hz.2 y hy
   exact⟨t,u,x.t s.t,z⟩
theorem lq{a b c d:Int}:(if true=true then !decide ([a,b] = [c,d]) else decide ([a,b] = [c,d])) = !decide (a=c∧b=d):=by
 rw[if_pos rfl];simp
theorem tQ{a b c d:Int}:(if false=true then !decide ([a,b] = [c,d]) else decide ([a,b] = [c,d]))=decide (a=c∧b=d):=by
 rw[if_neg (by decide)];simp
theorem pQ{k h u v:Int}(e:(u=k∧v=h)∨(u=h∧v=k))(hk:h=k∨h=k+1):mI u 1 v 1:=⟨k,by omega,by omega⟩
theorem yP:yG ["one","other","pairs","squares","k","was","now"] ["one","other","pairs"] (ap (top 78)):=smk
theorem gU(zP:Df K mg "_law_free_fence" (top 78))(yW:Fn P w K mg base "_law_are_pairs" ["one","other","pairs"] 3 Dz)(zg:Fn P w K mg base "_law_near" ["one","other"] 2 DA)(zw:Fn P w K mg base "_law_apart" ["one","x","other","y"] 2 DG)(zt:Fn P w K mg base "_law_foot" ["corner","line","was","now"] 2 DE)(T:Txt mg):Fn P w K mg base "_law_free_fence" ["one","other","pairs"] 4 Ea:=by
 refine zP.fn yP (fun _ _ _ _ _ _ us hl=>by obtain⟨_,_,_,rfl⟩:=gL hl;rfl) (fun vs H Q E h=>?_) (fun f cdv A outer s H vs Q E hr h=>?_)
 ·obtain⟨l1,l2,l,qs,rs,ps,a,b,rfl,_⟩:=h
  rfl
 ·obtain⟨l1,l2,l,qs,rs,ps,a,b,rfl,La,Lb,⟨h1,h10⟩,⟨g1,g10⟩,PP,W,q⟩:=h
  have CN:BE (bw CX0 P w K mg base ["one","other","pairs","squares","k","was","now"] "_law_free_fence" (ap (top 78)) f cdv A outer s H E).nox (lcA (top 78) 0) [("other",s.heap.objs.size+2),("one",s.heap.objs.size+1)] ["x","y"] [("one",0),("other",1)] :=
   ⟨by rfl,rfl,by decide +kernel,by decide +kernel,(fun x hx=>by simp only[List.mem_cons,List.not_mem_nil,or_false]at hx;rcases hx with rfl|rfl <;> exact rfl),(fun p hp=>by simp only[List.mem_cons,List.not_mem_nil,or_false]at hp;rcases hp with rfl|rfl <;> exact rfl),by rfl,by decide +kernel,(fun p hp=>by simp only[List.mem_cons,List.not_mem_nil,or_false]at hp;rcases hp with rfl|rfl <;> exact⟨rfl,rfl,.inr (.inl rfl),rfl,rfl⟩),⟨rfl,rfl⟩,rfl⟩
  have hpl:(prs ps).length=ps.length:=de ps;have hlq:(qs.map fun (q:Addr×Int×Int)=>V.ref q.1).length=qs.length:=List.length_map _;have hlr:(rs.map fun (q:Addr×Int×Int)=>V.ref q.1).length=rs.length:=List.length_map _;have hl:=W.len;have e62:(2:Int)^62=4611686018427387904:=by decide
  have R3:∃uu:TS,PSs (bw CX0 P w K mg base ["one","other","pairs","squares","k","was","now"] "_law_free_fence" (ap (top 78)) f cdv A outer s H E).nox ((aL (top 78)).drop 3) uu∧∀(H1:Hp),Same H H1->uu { nx:=fun _ H'=>Q .non H',rt:=Q } [some (.ref l1),some (.ref l2),some (.ref l),none,none,none,none] H1:=by
   refine⟨_,(ag (iA (j:=3) rfl CN yP.nd rfl rfl (cQ (pv 2)) (fun fp s₀ H₀=>(pH (K:=K) (n:=2) rfl rfl (bW (aU (i:=0) CN.nd rfl (Or.inl rfl) (Or.inr rfl)) (bW (aU (i:=1) CN.nd rfl (Or.inl rfl) (Or.inr rfl)) eO)))) (fun fp s₀ H₀=>pF) (fun fp s₀ H₀=>(aA zw (hr.mono (by decide)) (by rfl) (aa (pv 2) (aa (pv 0) (aa (pv 3) (aa (pv 1) af))))))) (ag (cO PassesOwn.never rfl (hY rfl T.z_range (aa ad (aa (aF aI (by rfl) T.z_len bD (aa (pv 2) af)) af))) (aU (i:=4) yP.nd rfl (Or.inl rfl)) (ag (ax (i:=5) yP.nd rfl (Or.inl rfl) (aj aM (pv 2) (ao aG (pv 4) ad) (fun _ _=>rfl))) (ag (ax (i:=6) yP.nd rfl (Or.inl rfl) (aj aM (pv 2) (pv 4) (fun _ _=>rfl))) (ar (aQ (d7 (aC (lj hr.units0) (aj ai (pv 5) ad (fun _ _=>rfl)) (aj ai (pv 6) ad (fun _ _=>rfl)) (aE _)) (d7 (aC bR (aj ai (aj ai (pv 5) ad (fun _ _=>rfl)) ad (fun _ _=>rfl)) ad (aE _)) (dX (bo (aA zg (hr.mono (by decide)) (by rfl) (aa (aj ai (pv 5) ad (fun _ _=>rfl)) (aa (aj ai (pv 6) ad (fun _ _=>rfl)) af))))))).pt (ar (ax (i:=3) yP.nd rfl (Or.inl rfl) (ao gH (pv 3) (aA zt (hr.mono (by decide)) (by rfl) (aa (aj aM (pv 0) (aj ai (aj ai (pv 5) ad (fun _ _=>rfl)) ad (fun _ _=>rfl)) (fun _ _=>rfl)) (aa (pv 1) (aa (aj ai (pv 5) ad (fun _ _=>rfl)) (aa (aj ai (pv 6) ad (fun _ _=>rfl)) af)))))))) (ar (aQ (d7 (aC (lj hr.units0) (aj ai (pv 5) ad (fun _ _=>rfl)) (aj ai (pv 6) ad (fun _ _=>rfl)) (aE _)) (d7 (aC bR (aj ai (aj ai (pv 5) ad (fun _ _=>rfl)) ad (fun _ _=>rfl)) ad (aE _)) (dX (bo (aA zg (hr.mono (by decide)) (by rfl) (aa (aj ai (pv 5) ad (fun _ _=>rfl)) (aa (aj ai (pv 6) ad (fun _ _=>rfl)) af))))))).pt (ar (ax (i:=3) yP.nd rfl (Or.inl rfl) (ao gH (pv 3) (aA zt (hr.mono (by decide)) (by rfl) (aa (aj aM (pv 1) (aj ai (aj ai (pv 5) ad (fun _ _=>rfl)) ad (fun _ _=>rfl)) (fun _ _=>rfl)) (aa (pv 0) (aa (aj ai (pv 5) ad (fun _ _=>rfl)) (aa (aj ai (pv 6) ad (fun _ _=>rfl)) af)))))))) (ar (az cb))))))))) (ar (az (pv 3))))),fun H1 S1=>?_⟩;have P1:=PP.mono S1;refine⟨_,rfl,l,rfl,⟨_,SqL.of P1.lst⟩,jL (K:=K) (k:=2) (SqL.of P1.lst) (by rw[de];omega) (fun i v H'=>∃q:Pr,ps[i]? = some q∧Cz H' v (apT qs rs q.a q.b q.c q.d) (apB q.b q.d)) (fun i v H H' st ⟨q,e,a⟩=>⟨q,e,a.t st⟩) ?_ ?_⟩
   ·intro i x H8 τ Kc hx s8 hτ kk
    obtain⟨τ0,τ1,rfl⟩:∃τ0 τ1,τ = [τ0,τ1]:=by
     match τ,hτ with
     | [a,b],_=>exact⟨a,b,rfl⟩
    obtain⟨q',hq,rfl⟩:=gy hx;have mq:=List.mem_of_getElem? hq;have pq:=(P1.mono s8).pr q' mq;have rq:=W.rg q' mq;have S8:=S1.trans s8;refine⟨q'.p,_,rfl,SqT.of pq.p_,rfl,_,_,rfl,_,_,rfl,rfl,⟨[some (.ref q'.x),some (.ref q'.y)],rfl,rfl⟩,?_⟩;refine⟨_,rfl,_,rfl,_,rfl,_,rfl,l1,q'.x,l2,q'.y,qs,rs,q'.a,q'.b,q'.c,q'.d,rfl,La.mono S8,Lb.mono S8,pq.plx rq.1,pq.ply rq.2,⟨by omega,by omega⟩,fun r H9 s9 f9 bs=>kk _ H9 s9 ⟨q',hq,⟨r,rfl,f9⟩,bs.1,bs.2⟩⟩
   ·intro r0 zs0 H6 nr6 s6 f6 hlz hz
    rw[hpl]at hlz;have S6:=S1.trans s6;have J0:Ck H H6 r0 zs0 (ps.length+0) a b:=⟨S6,f6,by omega,fun y hy=>by
     obtain⟨i,hi⟩:=List.mem_iff_getElem?.mp hy;obtain⟨u,hu,sa⟩:=hz i y hi;exact⟨_,_,sa,W.sq u (List.mem_of_getElem? hu)⟩⟩
    have P6:=P1.mono s6;refine⟨_,rfl,l,_,rfl,.inl (SqL.of P6.lst),_,_,rfl,?_⟩;rw[hpl];refine⟨by rw[e62];omega,dB (n:=((ps.length:Int) - 1).toNat) (lo:=1) (fun i σ H'=>∃(r:Addr) (ys:List V) (z4 z5 z6:Option V),σ = [some (.ref l1),some (.ref l2),some (.ref l),some (.ref r),z4,z5,z6]∧Ck H H' r ys (ps.length+i) a b) ⟨r0,zs0,_,_,_,rfl,J0⟩ ?_ ?_⟩
    ·rintro i σ H7 hi ⟨r,ys,z4,z5,z6,rfl,J⟩
     have S7:=J.sm;have P7:=PP.mono S7;have eu:=List.getElem?_eq_getElem (l:=ps) (i:=i) (by omega);have ev:=List.getElem?_eq_getElem (l:=ps) (i:=i+1) (by omega);generalize ps[i]=u at eu;generalize ps[i+1]=v at ev;have mu:=List.mem_of_getElem? eu;have mv:=List.mem_of_getElem? ev;have pu:=P7.pr u mu;have pv:=P7.pr v mv;obtain⟨ub,ud,ua0,uc0⟩:=W.co u mu;obtain⟨vb,vd,_,_⟩:=W.co v mv;have rgU:=W.rg u mu;unfold inR at rgU;rw[ub,ud,Int.mul_one,Int.mul_one]at rgU;have au:atI (prs ps) (1+(i:Int) - 1)=some (.ref u.p):=by rw[show 1+(i:Int) - 1=(i:Int) by omega];exact fj eu
     have av:atI (prs ps) (1+(i:Int))=some (.ref v.p):=by rw[show 1+(i:Int)=((i+1:Nat):Int) by omega];exact fj ev
     refine⟨_,rfl,_,rfl,_,_,rfl,rfl,l,_,_,_,rfl,rfl,SqL.of P7.lst,au,?_⟩;refine⟨_,rfl,_,rfl,l,_,_,_,rfl,rfl,SqL.of P7.lst,av,?_⟩;refine⟨_,rfl,u.p,_,_,_,rfl,rfl,SqT.of pu.p_,rfl,_,rfl,v.p,_,_,_,rfl,rfl,SqT.of pv.p_,rfl,u.x,v.x,[u.a,u.b],[v.a,v.b],rfl,rfl,SqT.of pu.x_,SqT.of pv.x_,?_⟩;rw[tQ];rcases W.st i u v eu ev with⟨ea,k,h,e1,e2,e3,fr⟩|⟨na,ec',k,h,e1,e2,e3,fr⟩
     ·refine⟨_,rfl,ce (decide_eq_true ⟨ea,by omega⟩) ?_⟩
      refine⟨_,rfl,u.p,_,_,_,rfl,rfl,SqT.of pu.p_,rfl,u.x,_,_,_,rfl,rfl,SqT.of pu.x_,rfl,rfl,_,rfl,ce (by rw[ub];decide) ?_⟩;have uy1:H7 u.y=some (.tup [.int u.c,.int 1]):=by rw[<- ud];exact pu.y_
      have vy1:H7 v.y=some (.tup [.int v.c,.int 1]):=by rw[<- vd];exact pv.y_
      refine⟨_,rfl,u.p,_,_,_,rfl,rfl,SqT.of pu.p_,rfl,_,rfl,v.p,_,_,_,rfl,rfl,SqT.of pv.p_,rfl,u.y,v.y,u.c,1,v.c,1,rfl,uy1,vy1,⟨by decide,by decide⟩,⟨pu.bc,by decide,pv.bc,by decide⟩,pQ e1 e2,_,rfl,ce rfl ?_⟩;have rgu:=ua0;obtain⟨pc,ac,ec,bc1,bc2⟩:=dY (La.mono S7) (k:=u.a) rgu (by omega);refine⟨_,rfl,_,rfl,_,rfl,u.p,_,_,_,rfl,rfl,SqT.of pu.p_,rfl,u.x,_,_,_,rfl,rfl,SqT.of pu.x_,rfl,l1,_,_,_,rfl,rfl,SqL.of (La.mono S7).lst,ac,_,rfl,_,rfl,u.p,_,_,_,rfl,rfl,SqT.of pu.p_,rfl,_,rfl,v.p,_,_,_,rfl,rfl,SqT.of pv.p_,rfl,pc,l2,u.y,v.y,_,_,rs,k,h,u.c,v.c,rfl,⟨ec,bc1,bc2⟩,Lb.mono S7,⟨uy1,vy1⟩,e1,e2,⟨e3.1,e3.2,by omega⟩,fun f H8 s8 F8=>?_⟩;obtain⟨zs,fz,hz1,hz2⟩:=Ck.foot J (Lb.mono S7) s8 ⟨bc1,bc2⟩ e3 e2 F8 fr;have J8:=J.mono s8;refine⟨r,f,ys,zs,rfl,rfl,J8.lst,fz,sz (by have:=J.len;omega),fun p H9 s9 f9 n9=>?_⟩;exact⟨p,ys++zs,_,_,_,rfl,J8.cat ⟨hz1,hz2⟩ s9 f9⟩
     ·refine⟨_,rfl,aR (decide_eq_false fun z=>na z.1) ?_⟩
      refine⟨_,rfl,u.p,_,_,_,rfl,rfl,SqT.of pu.p_,rfl,_,rfl,v.p,_,_,_,rfl,rfl,SqT.of pv.p_,rfl,u.y,v.y,[u.c,u.d],[v.c,v.d],rfl,rfl,SqT.of pu.y_,SqT.of pv.y_,?_⟩;rw[tQ];refine⟨_,rfl,ce (decide_eq_true ⟨ec',by omega⟩) ?_⟩;refine⟨_,rfl,u.p,_,_,_,rfl,rfl,SqT.of pu.p_,rfl,u.y,_,_,_,rfl,rfl,SqT.of pu.y_,rfl,rfl,_,rfl,ce (by rw[ud];decide) ?_⟩;have uy1:H7 u.x=some (.tup [.int u.a,.int 1]):=by rw[<- ub];exact pu.x_
      have vy1:H7 v.x=some (.tup [.int v.a,.int 1]):=by rw[<- vb];exact pv.x_
      refine⟨_,rfl,u.p,_,_,_,rfl,rfl,SqT.of pu.p_,rfl,_,rfl,v.p,_,_,_,rfl,rfl,SqT.of pv.p_,rfl,u.x,v.x,u.a,1,v.a,1,rfl,uy1,vy1,⟨by decide,by decide⟩,⟨pu.ba,by decide,pv.ba,by decide⟩,pQ e1 e2,_,rfl,ce rfl ?_⟩;have rgu:=uc0;obtain⟨pc,ac,ec,bc1,bc2⟩:=dY (Lb.mono S7) (k:=u.c) rgu (by omega);refine⟨_,rfl,_,rfl,_,rfl,u.p,_,_,_,rfl,rfl,SqT.of pu.p_,rfl,u.y,_,_,_,rfl,rfl,SqT.of pu.y_,rfl,l2,_,_,_,rfl,rfl,SqL.of (Lb.mono S7).lst,ac,_,rfl,_,rfl,u.p,_,_,_,rfl,rfl,SqT.of pu.p_,rfl,_,rfl,v.p,_,_,_,rfl,rfl,SqT.of pv.p_,rfl,pc,l1,u.x,v.x,_,_,qs,k,h,u.a,v.a,rfl,⟨ec,bc1,bc2⟩,La.mono S7,⟨uy1,vy1⟩,e1,e2,⟨e3.1,e3.2,by omega⟩,fun f H8 s8 F8=>?_⟩;obtain⟨zs,fz,hz1,hz2⟩:=Ck.foot J (La.mono S7) s8 ⟨bc1,bc2⟩ e3 e2 F8 fr;have J8:=J.mono s8;refine⟨r,f,ys,zs,rfl,rfl,J8.lst,fz,sz (by have:=J.len;omega),fun p H9 s9 f9 n9=>?_⟩;exact⟨p,ys++zs,_,_,_,rfl,J8.cat ⟨hz1,hz2⟩ s9 f9⟩
    ·rintro σ H7 ⟨r,ys,z4,z5,z6,rfl,J⟩
     exact⟨_,rfl,q r ys H7 J.sm J.lst (by have:=J.len;omega) J.sq⟩
  obtain⟨u3,hu3,h3⟩:=R3;have R2:∃uu:TS,PSs (bw CX0 P w K mg base ["one","other","pairs","squares","k","was","now"] "_law_free_fence" (ap (top 78)) f cdv A outer s H E).nox ((aL (top 78)).drop 2) uu∧∀(H1:Hp),Same H H1->uu { nx:=fun _ H'=>Q .non H',rt:=Q } [some (.ref l1),some (.ref l2),some (.ref l),none,none,none,none] H1:=by
   refine⟨_,ag (aQ (d7 (aC (ld hr.units0) (aj ai (aj aM (pv 2) (dI cS ad) (fun _ _=>rfl)) ad (fun _ _=>rfl)) (aB (aa (ao aG (aF aI (by rfl) T.z_len bD (aa (pv 0) af)) ad) (aa ad af))) (aE _)) (dX (aC (ld hr.units0) (aj ai (aj aM (pv 2) (dI cS ad) (fun _ _=>rfl)) ad (fun _ _=>rfl)) (aB (aa ad (aa ad af))) (aE _)))).pt (ar (az cb)) aH) hu3,fun H1 S1=>?_⟩;obtain⟨qz,ez,dz⟩:=W.lst;have mz:=List.mem_of_getElem? ez;have cz:=W.co qz mz;have P1:=PP.mono S1;have pz:=P1.pr qz mz;refine⟨_,rfl,_,rfl,l,_,_,_,rfl,rfl,SqL.of P1.lst,k7 ez,qz.p,_,_,_,rfl,rfl,SqT.of pz.p_,rfl,_,rfl,l1,_,rfl,.inl (SqL.of (La.mono S1).lst),_,_,rfl,rfl,sz (by simp),fun t2 H2 s2 f2 n2=>?_⟩;have P2:=P1.mono s2;have pz2:=P2.pr qz mz;refine⟨qz.x,t2,[qz.a,qz.b],[_,1],rfl,rfl,SqT.of pz2.x_,SqT.of f2,?_⟩;rw[lq,hlq];refine⟨_,rfl,aY (fun c=>?_) (fun c=>h3 H2 (S1.trans s2))⟩;refine⟨_,rfl,_,rfl,l,_,_,_,rfl,rfl,SqL.of P2.lst,k7 ez,qz.p,_,_,_,rfl,rfl,SqT.of pz2.p_,rfl,sz (by simp),fun t3 H3 s3 f3 n3=>?_⟩;refine⟨qz.y,t3,[qz.c,qz.d],[0,1],rfl,rfl,SqT.of ((P2.mono s3).pr qz mz).y_,SqT.of f3,?_⟩;rw[lq];refine⟨_,rfl,aR ?_ (h3 H3 (S1.trans (s2.trans s3)))⟩;rw[Bool.not_eq_false',decide_eq_true_eq];have c:¬(qz.a=(qs.length:Int) - 1∧qz.b=1):=by
    rw[Bool.not_eq_true',decide_eq_false_iff_not]at c;exact c
   rcases dz with z|z
   ·exact absurd ⟨z,cz.1⟩ c
   ·exact⟨z,cz.2.1⟩
  obtain⟨u2,hu2,h2⟩:=R2;have R1:∃uu:TS,PSs (bw CX0 P w K mg base ["one","other","pairs","squares","k","was","now"] "_law_free_fence" (ap (top 78)) f cdv A outer s H E).nox ((aL (top 78)).drop 1) uu∧∀(H1:Hp),Same H H1->uu { nx:=fun _ H'=>Q .non H',rt:=Q } [some (.ref l1),some (.ref l2),some (.ref l),none,none,none,none] H1:=by
   refine⟨_,ag (aQ (d7 (aC (ld hr.units0) (aj ai (aj aM (pv 2) ad (fun _ _=>rfl)) ad (fun _ _=>rfl)) (aB (aa ad (aa ad af))) (aE _)) (dX (aC (ld hr.units0) (aj ai (aj aM (pv 2) ad (fun _ _=>rfl)) ad (fun _ _=>rfl)) (aB (aa (ao aG (aF aI (by rfl) T.z_len bD (aa (pv 1) af)) ad) (aa ad af))) (aE _)))).pt (ar (az cb)) aH) hu2,fun H1 S1=>?_⟩;obtain⟨qz,ez,dz⟩:=W.hd;have mz:=List.mem_of_getElem? ez;have cz:=W.co qz mz;have P1:=PP.mono S1;have pz:=P1.pr qz mz;refine⟨_,rfl,l,_,_,_,rfl,rfl,SqL.of P1.lst,fj (i:=0) ez,qz.p,_,_,_,rfl,rfl,SqT.of pz.p_,rfl,sz (by simp),fun t2 H2 s2 f2 n2=>?_⟩;have P2:=P1.mono s2;have pz2:=P2.pr qz mz;refine⟨qz.x,t2,[qz.a,qz.b],[0,1],rfl,rfl,SqT.of pz2.x_,SqT.of f2,?_⟩;rw[lq];refine⟨_,rfl,aY (fun c=>?_) (fun c=>h2 H2 (S1.trans s2))⟩;refine⟨_,rfl,l,_,_,_,rfl,rfl,SqL.of P2.lst,fj (i:=0) ez,qz.p,_,_,_,rfl,rfl,SqT.of pz2.p_,rfl,_,rfl,l2,_,rfl,.inl (SqL.of (Lb.mono (S1.trans s2)).lst),_,_,rfl,rfl,sz (by simp),fun t3 H3 s3 f3 n3=>?_⟩;refine⟨qz.y,t3,[qz.c,qz.d],[_,1],rfl,rfl,SqT.of ((P2.mono s3).pr qz mz).y_,SqT.of f3,?_⟩;rw[lq,hlr];refine⟨_,rfl,aR ?_ (h2 H3 (S1.trans (s2.trans s3)))⟩;rw[Bool.not_eq_false',decide_eq_true_eq];have c:¬(qz.a=0∧qz.b=1):=by
    rw[Bool.not_eq_true',decide_eq_false_iff_not]at c;exact c
   rcases dz with z|z
   ·exact absurd ⟨z,cz.1⟩ c
   ·exact⟨z,cz.2.1⟩
  obtain⟨u1,hu1,h1'⟩:=R1;refine⟨_,(ag (aQ (ca (bo (aA yW (hr.mono (by decide)) (by rfl) (aa (pv 0) (aa (pv 1) (aa (pv 2) af)))))) (ar (az cb)) aH) hu1),?_⟩;exact⟨_,rfl,_,rfl,_,rfl,l1,l2,l,qs,rs,ps,rfl,La,Lb,PP,hl,⟨by omega,by omega⟩,W.rg,_,rfl,aR (by decide) (h1' H (Same.refl _))⟩
def wrd(wk:Bool):Str:=if wk=true then "walk" else "fence"
inductive DU (vs:List V) (H:Hp) (Q:VK) (x_3:XK):Prop
 | mk:∀(l1 l2 t r z:Addr) (qs rs:Crn) (a b:Int) (ps:List Pr) (wk:Bool),(vs = [.ref l1,.ref l2,.ref t,.ref z])->(LineM H l1 qs)->(LineM H l2 rs)->((1≤qs.length∧qs.length≤10))->((1≤rs.length∧rs.length≤10))->((Sq H z a b∧0<b))->((H t=some (.tup [.str (wrd wk),.ref r])∧DJ H r ps))->(GoF qs rs a b wk ps)->(∀H',Same H H'->Q (.bl true) H')->DU vs H Q x_3
theorem uc{ys:List V}{c:Bool}(h:∀(i:Nat) y,ys[i]? = some y->y = .bl c):∃bs:List Bool,ys=bs.map V.bl∧∀x∈bs,x=c:=by
 refine⟨List.replicate ys.length c,?_,fun x hx=>(List.mem_replicate.mp hx).2⟩;rw[List.map_replicate];refine List.ext_getElem? fun i=>?_;cases e:ys[i]? with
 | none=>rw[List.getElem?_eq_none (by simp;exact List.getElem?_eq_none_iff.mp e)]
 | some y =>
  rw[h i y e,List.getElem?_replicate,if_pos (List.getElem?_eq_some_iff.mp e).1]
theorem Bj:yG ["one","other","found","square","squares"] ["one","other","found","square"] (ap (top 79)):=smk
theorem lH(Bq:Df K mg "_law_shown" (top 79))(zY:Fn P w K mg base "_law_free_walk" ["one","other","pairs"] 4 D9)(zK:Fn P w K mg base "_law_free_fence" ["one","other","pairs"] 4 Ea)(yT:Fn P w K mg base "_law_above" ["one","other"] 1 Da)(T:Txt mg):Fn P w K mg base "_law_shown" ["one","other","found","square"] 5 DU:=by
 refine Bq.fn Bj (fun _ _ _ _ _ _ us hl=>by obtain⟨_,_,_,_,rfl⟩:=qR hl;rfl) (fun vs H Q E h=>?_) (fun f cdv A outer s H vs Q E hr h=>?_)
 ·obtain⟨l1,l2,t,r,z,qs,rs,a,b,ps,wk,rfl,_⟩:=h
  rfl
 ·obtain⟨l1,l2,t,r,z,qs,rs,a,b,ps,wk,rfl,La,Lb,hq,hr',⟨sq,hb⟩,⟨e,PP⟩,gf,q⟩:=h
  have CN:Bx (bw CX0 P w K mg base ["one","other","found","square","squares"] "_law_shown" (ap (top 79)) f cdv A outer s H E).nox (lcA (top 79) 0) [("square",s.heap.objs.size+1)] "one_square" [("square",3)] :=
   ⟨by rfl,rfl,by decide +kernel,by decide +kernel,rfl,(fun p hp=>by simp only[List.mem_cons,List.not_mem_nil,or_false]at hp;rcases hp with rfl <;> exact rfl),by rfl,by decide +kernel,(fun p hp=>by simp only[List.mem_cons,List.not_mem_nil,or_false]at hp;rcases hp with rfl <;> exact⟨rfl,rfl,.inr (.inl rfl),rfl,rfl⟩),⟨rfl,rfl⟩,rfl⟩
  refine⟨_,(ag (aQ (cX (ca (bo (aF bO (by rfl) T.z_isinstance a9 (aa (pv 2) (aa (fQ T.z_tuple g7) af))))) (cX (aC gG (aF aI (by rfl) T.z_len bD (aa (pv 2) af)) ad (aE _)) (cT (ca (bo (aF bO (by rfl) T.z_isinstance a9 (aa (aj ai (pv 2) ad (fun _ _=>rfl)) (aa (fQ T.z_str w5) af)))))))).pt (ar (az dJ)) aH) (ag (aQ (aC bR (aj ai (pv 2) ad (fun _ _=>rfl)) fk (aE _)) (ag (ax (i:=4) Bj.nd rfl (Or.inl rfl) (aA zY (hr.mono (by decide)) (by rfl) (aa (pv 0) (aa (pv 1) (aa (aj ai (pv 2) ad (fun _ _=>rfl)) af))))) (ar (az (d8 (bY gF (pv 4) cb (aE _)) (dO (oq (aF (t8 rfl) (by rfl) T.z_any w6 (aa (gD rfl CN (cQ (pv 4)) (fun fp s₀ H₀=>(aA yT (hr.mono (by decide)) (by rfl) (aa (pv 0) (aa (pv 1) af))))) af)))))))) aH) (ag (ax (i:=4) Bj.nd rfl (Or.inl rfl) (aA zK (hr.mono (by decide)) (by rfl) (aa (pv 0) (aa (pv 1) (aa (aj ai (pv 2) ad (fun _ _=>rfl)) af))))) (ar (az (d8 (bY bR (aj ai (pv 2) ad (fun _ _=>rfl)) fk (aE _)) (d8 (bY gF (pv 4) cb (aE _)) (dO (aF (ua rfl) (by rfl) T.z_all w9 (aa (gD rfl CN (cQ (pv 4)) (fun fp s₀ H₀=>(aA yT (hr.mono (by decide)) (by rfl) (aa (pv 0) (aa (pv 1) af))))) af)))))))))),?_⟩;refine⟨_,rfl,_,_,"tuple",rfl,.tup e,nice_tuple,_,rfl,aR (by decide) ?_⟩;refine⟨_,rfl,t,_,rfl,.inr (SqT.of e),rfl,_,rfl,aR rfl ?_⟩;refine⟨_,rfl,t,_,_,_,rfl,rfl,SqT.of e,rfl,_,_,"str",rfl,.str _,nice_str,_,rfl,aR (by decide) ?_⟩;refine⟨_,rfl,t,_,_,_,rfl,rfl,SqT.of e,rfl,rfl,_,rfl,?_⟩;cases wk with
  | true =>
   refine ce rfl ?_;refine⟨_,rfl,_,rfl,_,rfl,t,_,_,_,rfl,rfl,SqT.of e,rfl,l1,l2,r,qs,rs,ps,a,b,rfl,La,Lb,hq,hr',PP,tG hb hq hr' gf,fun rr ys H1 s1 f1 hl sq1=>?_⟩;refine⟨_,rfl,rfl,_,rfl,ce rfl ⟨_,rfl,rr,rfl,⟨_,SqL.of f1⟩,lQ (SqL.of f1) (by omega) (fun i v H'=>v = .bl false) (fun i v H H' st e=>e) ?_ ?_⟩⟩
   ·intro i x H2 Kc hx s2 kk
    obtain⟨t',u',⟨⟨p,rfl,e'⟩,bt,bu⟩,le⟩:=sq1 x (List.mem_of_getElem? hx);have sq2:=(sq.mono s1).mono s2;refine⟨_,rfl,_,rfl,p,z,t',u',a,b,rfl,s2 _ _ e',sq2.at_,⟨aw bt (by decide),aw bu (by decide),aw sq2.ba (by decide),aw sq2.bb (by decide)⟩,kk _ H2 (Same.refl _) ?_⟩;rw[decide_eq_false (by omega)]
   ·intro lr bs' H2 nl s2 f2 _ hv
    obtain⟨bs,rfl,hbs⟩:=uc hv;refine⟨lr,bs,rfl,SqL.of f2,_,rfl,?_⟩;rw[show bs.any id=false from List.any_eq_false.mpr fun x hx=>by rw[hbs x hx];decide];exact q H2 (s1.trans s2)
  | false =>
   refine aR (by decide +kernel) ?_;refine⟨_,rfl,_,rfl,_,rfl,t,_,_,_,rfl,rfl,SqT.of e,rfl,l1,l2,r,qs,rs,ps,a,b,rfl,La,Lb,hq,hr',PP,q9 hb hq hr' gf,fun rr ys H1 s1 f1 hl sq1=>?_⟩;refine⟨_,rfl,t,_,_,_,rfl,rfl,SqT.of (s1 _ _ e),rfl,rfl,_,rfl,ce (by decide +kernel) ?_⟩;refine⟨_,rfl,rfl,_,rfl,ce rfl ⟨_,rfl,rr,rfl,⟨_,SqL.of f1⟩,lQ (SqL.of f1) (by omega) (fun i v H'=>v = .bl true) (fun i v H H' st e=>e) ?_ ?_⟩⟩
   ·intro i x H2 Kc hx s2 kk
    obtain⟨t',u',⟨⟨p,rfl,e'⟩,bt,bu⟩,le⟩:=sq1 x (List.mem_of_getElem? hx);have sq2:=(sq.mono s1).mono s2;refine⟨_,rfl,_,rfl,p,z,t',u',a,b,rfl,s2 _ _ e',sq2.at_,⟨aw bt (by decide),aw bu (by decide),aw sq2.ba (by decide),aw sq2.bb (by decide)⟩,kk _ H2 (Same.refl _) ?_⟩;rw[decide_eq_true (by omega)]
   ·intro lr bs' H2 nl s2 f2 _ hv
    obtain⟨bs,rfl,hbs⟩:=uc hv;refine⟨lr,bs,rfl,SqL.of f2,?_⟩;rw[show bs.all id=true from List.all_eq_true.mpr fun x hx=>by rw[hbs x hx];rfl];exact q H2 (s1.trans s2)
theorem wy{H:Hp}:∀y∈([]:List V),∃t,Kn H y t:=fun y hy=>nomatch hy
theorem pP{H:Hp}{v:V}{vs:List V}{t:String}(k:Kn H v t)(h:∀y∈vs,∃t,Kn H y t):∀y∈v::vs,∃t,Kn H y t:=fun y hy=>by
 rcases List.mem_cons.mp hy with rfl|hy
 ·exact⟨t,k⟩
 ·exact h y hy
theorem o0{H:Hp}{t:Addr}{ls:List (Pos×Str)}(e:H t=some (.tbl #[])):Tab H t ls:=⟨#[],e,trivial,fun _ _=>.inl rfl⟩
theorem sj{H:Hp}{z:Addr}{a b:Int}(sq:Sq H z a b)(lw:lowB a b=true)(ha:0≤a):sqV H (.ref z)=true:=by
 simp only[sqV,sq.at_,lw,Bool.true_and,Bool.not_eq_true',decide_eq_false_iff_not];omega
theorem vE{H:Hp}{z:Addr}{a b:Int}(sq:Sq H z a b):Dd H (.ref z):=th_tup sq.at_ (pP (.int _) (pP (.int _) wy))
theorem mO{H H':Hp}{l x:Addr}{xs ys:List V}{qs:Crn}(L:LineM H l qs)(u:Dc H H' x xs ys)(n:l≠x):LineM H' l qs:=⟨u.at n L.lst,fun q hq=>⟨u.t _ _ (L.crn q hq).1,(L.crn q hq).2⟩⟩
theorem oZ{p t:Addr}{H H':Hp}{xs ys:List V}{ls:List (Pos×Str)}(x:Tab H t ls)(u:Dc H H' p xs ys):Tab H' t ls:=by
 obtain⟨ps,e,tr,al⟩:=x;have ne:∀{c:Addr} {o:HO},H c=some o->(∀xs,o≠.lst xs)->c≠p:=fun {c o} e n z=>by
  rw[z,u.was]at e;exact n _ (Option.some.inj e).symm
 refine⟨ps,u.at (ne e fun xs q=>by cases q) e,tr,fun l hl=>(al l hl).imp_right ?_⟩;rintro⟨c,e2,o,vs,t,e3,r⟩;exact⟨c,e2,o,vs,t,u.at (ne e3 fun xs q=>by cases q) e3,r⟩
theorem rW{p tw tf:Addr}{H H':Hp}{xs ys:List V}(x:C4 H tw tf)(u:Dc H H' p xs ys):C4 H' tw tf:=⟨oZ x.w u,oZ x.f u,x.ne⟩
theorem u4{l m:N4}(g:Ej l m):0<l.2.2.2:=by
 cases g with
 | flat=>decide
 | gate hL hU h1 h2 =>
  unfold d9
  split
  ·decide
  ·exact hL
theorem fg.uniq{G:GF}{e:aJ×Lb}{q q':Pr}(gg:GGk G)(h:fg G e q)(h':fg G e q'):q.a=q'.a∧q.b=q'.b∧q.c=q'.c∧q.d=q'.d:=by
 obtain⟨k,i,j,lo,hi,t,u,e1,g1,pf,_,_,_,_,dp⟩:=h;obtain⟨k',i',j',lo',hi',t',u',e1',g1',pf',_,_,_,_,dp'⟩:=h';rw[e1]at e1';obtain⟨rfl,rfl,rfl⟩:=gb (Lb.key.inj e1');rw[g1]at g1';cases g1';obtain⟨rfl,rfl⟩:=pf.uniq pf' (u4 (gg _ _ _ _ _ g1));rcases dp with⟨rfl,a1,a2,a3,a4⟩|⟨rfl,a1,a2,a3,a4⟩
 ·rcases dp' with⟨_,b1,b2,b3,b4⟩|⟨z,_⟩
  ·rw[a1,a2,a3,a4,b1,b2,b3,b4]
   exact⟨rfl,rfl,rfl,rfl⟩
  ·cases z
 ·rcases dp' with⟨z,_⟩|⟨_,b1,b2,b3,b4⟩
  ·cases z
  ·rw[a1,a2,a3,a4,b1,b2,b3,b4]
   exact⟨rfl,rfl,rfl,rfl⟩
def eqP(q q':Pr):Prop:=q.a=q'.a∧q.b=q'.b∧q.c=q'.c∧q.d=q'.d
theorem ko{α:Type}{R:α->Pr->Prop}(u:∀e q q',R e q->R e q'->eqP q q'):∀{l:List α} {ps ps':List Pr},Paired R l ps->Paired R l ps'->Paired eqP ps ps':=by
 intro l
 induction l with
 | nil=>intro ps ps' p p';cases p;cases p';exact .nil
 | cons c r ih =>
  intro ps ps' p p';cases p with
  | cons a b=>cases p' with
   | cons a' b'=>exact .cons (u _ _ _ a a') (ih b b')
theorem onB.eq{o:Bool}{a b a' b' c d c' d':Int}(e1:a=c)(e2:b=d)(h:onB o a b a' b')(h':onB o c d c' d'):a'=c'∧b'=d':=by
 subst e1;subst e2;cases o with
 | true =>
  have h:a'=0∧b'=1:=h;have h':c'=0∧d'=1:=h';exact⟨h.1.trans h'.1.symm,h.2.trans h'.2.symm⟩
 | false =>
  have h:a'=a∧b'=b:=h;have h':c'=a∧d'=b:=h';exact⟨h.1.trans h'.1.symm,h.2.trans h'.2.symm⟩
theorem pM{o1 o2:Bool}:∀{ps qs ps' qs':List Pr},Paired eqP ps qs->Paired (qJ o1 o2) ps ps'->Paired (qJ o1 o2) qs qs'->ps'.map dPr=qs'.map dPr:=by
 intro ps qs ps' qs' h
 induction h generalizing ps' qs' with
 | nil=>intro p p';cases p;cases p';rfl
 | cons a r ih =>
  intro p p';cases p with
  | cons x y=>cases p' with
   | cons x' y' =>
    rw[List.map_cons,List.map_cons,ih y y'];obtain⟨e1,e2⟩:=onB.eq a.1 a.2.1 x.1 x'.1;obtain⟨e3,e4⟩:=onB.eq a.2.2.1 a.2.2.2 x.2 x'.2;unfold dPr;rw[e1,e2,e3,e4]
theorem oo{c:Int×Int}{q q':Pr}(h:prC q c)(h':prC q' c):eqP q q':=by
 obtain⟨a1,a2,a3,a4⟩:=h;obtain⟨b1,b2,b3,b4⟩:=h';unfold eqP;rw[a1,a2,a3,a4,b1,b2,b3,b4];exact⟨rfl,rfl,rfl,rfl⟩
theorem oy{α β:Type}{R:α->β->Prop}:∀{a a':List α} {b b':List β},Paired R a b->Paired R a' b'->Paired R (a++a') (b++b'):=by
 intro a a' b b' h k
 induction h with
 | nil=>exact k
 | cons x _ ih=>exact .cons x ih
theorem qb{n m:Nat}{G:GF}{F:Int->Int->Bool}{ps:List Pr}(h:nS n m G F ps)(z:jP n m G F):False:=by
 obtain⟨f0,f1,l,_,_,_,rd,_⟩:=h;rcases z with z|z|⟨R,r0,r1,r2⟩
 ·rw[f0]at z;cases z
 ·rw[f1]at z;cases z
 ·obtain⟨e,he,hf⟩:=rd.2.2
  have hi:=kT rd r0 r1 (l.length - 1) e (by rw[<- List.getLast?_eq_getElem?];exact he);rw[r2 _ hi]at hf;cases hf
theorem tH{qs rs:Crn}{a b:Int}{wk wk':Bool}{ps ps':List Pr}(hb:0<b)(h:GoF qs rs a b wk ps)(h':GoF qs rs a b wk' ps'):wk=wk'∧ps.map dPr=ps'.map dPr:=by
 obtain⟨p0,o,h⟩:=h;obtain⟨p0',o',h'⟩:=h';have gg:GGk (dh (dbl qs) (dbl rs) a b 0):=mW (.inl rfl) hb;cases wk with
 | true=>cases wk' with
  | true =>
   refine⟨rfl,pM ?_ o o'⟩;obtain⟨_,_,l,x,q0,q1,_,fd,_,rfl,c0,c1,pr⟩:=h;obtain⟨_,_,l',x',q0',q1',_,fd',_,rfl,c0',c1',pr'⟩:=h';rw[fd'.uniq fd]at pr';exact .cons (oo c0 c0') (oy (ko (R:=fg (dh (dbl qs) (dbl rs) a b 0)) (fun e q q'=>fg.uniq gg) pr pr') (.cons (oo c1 c1') .nil))
  | false=>exact absurd h'.1 fun z=>qb h z
 | false=>cases wk' with
  | true=>exact absurd h.1 fun z=>qb h' z
  | false =>
   refine⟨rfl,pM ?_ o o'⟩;obtain⟨_,l,_,fd,_,pr⟩:=h;obtain⟨_,l',_,fd',_,pr'⟩:=h';rw[fd'.uniq fd]at pr';exact ko (R:=fun (e:aJ×Lb) q=>prC q (dec e.1)) (fun e q q'=>oo) pr pr'
theorem pG{H:Hp}{l:Addr}{ps:List Pr}(P:DJ H l ps):Rp H 8 (.ref l) (.lst (ps.map dPr)):=.lst P.lst (by rw[de,List.length_map]) fun j x d a b=>by
 obtain⟨q,hq,rfl⟩:=gy a;rw[List.getElem?_map,hq]at b;cases b;exact om (P.pr q (List.mem_of_getElem? hq))
theorem gK{H:Hp}{l:Addr}{qs:Crn}(L:LineM H l qs):Rp H 8 (.ref l) (.lst (qs.map fun q=>.tup [.int q.2.1,.int q.2.2])):=.lst L.lst (by simp) fun j x d a b=>by
 rw[List.getElem?_map]at a b;obtain⟨q,hq,rfl⟩:=Option.map_eq_some_iff.mp a;rw[hq]at b;cases b;exact Rp.t2 (L.crn q (List.mem_of_getElem? hq)).1 .int .int
theorem BD:yG ["script","pool","most","one","other","at","square","handed","found","kept"] ["script"] (ap (top 80)):=smk
theorem wO{C_NoSquare t_free_walk t_free_fence:Addr}(Eh:Df K mg "law" (top 80))(AP:t_free_walk≠t_free_fence)(Ao:Fn P w K mg base "_law_pool" ["script","at"] 2 (Dl K))(yH:Fn P w K mg base "_law_take" ["pool","many"] 1 BG)(zJ:Fn P w K mg base "_law_line" ["pool","most"] 2 DC)(AV:Fn P w K mg base "_law_second" ["pool","line","most"] 3 (Dk K))(AU:Fn P w K mg base "_law_square" ["pool","one","other"] 4 DT)(BB:Fx P w K mg base "go_free" ["one","other","square"] 9 [] (D3 C_NoSquare t_free_walk t_free_fence))(Bl:Fn P w K mg base "_law_shown" ["one","other","found","square"] 5 DU)(T:Txt mg):Fn P w K mg base "law" ["script"] 11 (nZ K [t_free_walk,t_free_fence]):=by
 refine Eh.fn BD (fun _ _ _ _ _ _ us hl=>by obtain⟨_,rfl⟩:=dA hl;rfl) (fun vs H Q E h=>?_) (fun f cdv A outer s H vs Q E hr h=>?_)
 ·obtain⟨sa,ss,rfl,_⟩:=h
  rfl
 ·obtain⟨sa,ss,rfl,hS,hlen,htab,fin⟩:=h
  refine⟨_,(ag (ax (i:=1) BD.nd rfl (Or.inl rfl) (aA Ao (hr.mono (by decide)) (by rfl) (aa (pv 0) (aa ad af)))) (ag (ax (i:=2) BD.nd rfl (Or.inl rfl) (aj aM (bH (aa ad (aa ad af))) (ej rG (by rfl) T.z_int oR (aa (bY bR (aA yH (hr.mono (by decide)) (by rfl) (aa (pv 1) (aa ad af))) ad (aE _)) af)) (fun _ _=>rfl))) (ag (ax (i:=3) BD.nd rfl (Or.inl rfl) (aA zJ (hr.mono (by decide)) (by rfl) (aa (pv 1) (aa (pv 2) af)))) (ag (ax (i:=4) BD.nd rfl (Or.inl rfl) (aA AV (hr.mono (by decide)) (by rfl) (aa (aA Ao (hr.mono (by decide)) (by rfl) (aa (pv 0) (aa ad af))) (aa (pv 3) (aa (pv 2) af))))) (ag (cO PassesOwn.never rfl (hY rfl T.z_range (aa ad (aa (aF (fL rfl) (by rfl) T.z_max lU (aa ad (aa (aF (dC rfl) (by rfl) T.z_min fF (aa (ao aG ad (ao cj (pv 2) ad)) (aa (aF aI (by rfl) T.z_len bD (aa (pv 0) af)) af))) af))) af))) (aU (i:=5) BD.nd rfl (Or.inl rfl)) (ag (ax (i:=6) BD.nd rfl (Or.inl rfl) (aA AU (hr.mono (by decide)) (by rfl) (aa (aA Ao (hr.mono (by decide)) (by rfl) (aa (pv 0) (aa (pv 5) af))) (aa (pv 3) (aa (pv 4) af))))) (ag (ax (i:=7) BD.nd rfl (Or.inl rfl) (bH (aa (ej dD (by rfl) T.z_list g8 (aa (pv 3) af)) (aa (ej dD (by rfl) T.z_list g8 (aa (pv 4) af)) af)))) (ag (ax (i:=8) BD.nd rfl (Or.inl rfl) (jq BB (hr.mono (by decide)) (by rfl) (aa (aj aM (pv 7) ad (fun _ _=>rfl)) (aa (aj aM (pv 7) ad (fun _ _=>rfl)) (aa (pv 6) af))))) (ag (aQ (cX (ca (bo (aA Bl (hr.mono (by decide)) (by rfl) (aa (pv 3) (aa (pv 4) (aa (pv 8) (aa (pv 6) af))))))) (cT (aC (lg hr.units10) (pv 7) (bH (aa (pv 3) (aa (pv 4) af))) (aE _)))).pt (ar (az dJ)) aH) (ag (ax (i:=9) BD.nd rfl (Or.inl rfl) (aB (aa (aj ai (pv 8) ad (fun _ _=>rfl)) (aa (ej dD (by rfl) T.z_list g8 (aa (aj ai (pv 8) ad (fun _ _=>rfl)) af)) af)))) (ag (cI (ot PySem.F.plainAttrs_list PySem.F.slot_list_clear PySem.F.type_list_clear qN (aj ai (pv 8) ad (fun _ _=>rfl)))) (ar (aQ (aC (lg hr.units10) (jq BB (hr.mono (by decide)) (by rfl) (aa (aj aM (pv 7) ad (fun _ _=>rfl)) (aa (aj aM (pv 7) ad (fun _ _=>rfl)) (aa (pv 6) af)))) (pv 9) (aE _)) (ar (az dJ)) aH))))))))) (ar (az dJ))))))),?_⟩;have hs63:(ss.map V.int).length≤63:=by rw[List.length_map];exact hlen
  have TB:C4 H t_free_walk t_free_fence:=⟨o0 (htab _ List.mem_cons_self),o0 (htab _ (List.mem_cons_of_mem _ List.mem_cons_self)),AP⟩;refine⟨_,rfl,sa,ss,0,rfl,hS,by decide,by decide,fun p0 m0 H0 s0 np0 f0=>?_⟩;refine⟨sz (by simp),fun pl Ha sa' fa na=>?_⟩;refine⟨_,rfl,p0,_,8,rfl,sa' _ _ f0,⟨by decide,by decide⟩,fun rt Hb ra rb Pb=>⟨rfl,.inr ⟨_,rfl,?_⟩⟩⟩;rw[di];obtain⟨mm,hmm,idx⟩:∃mm:Int,(mm=5∨mm=10)∧atI [V.int 5,V.int 10] (if decide (rt=7)=true then 1 else 0)=some (.int mm):=by
   by_cases c:rt=7
   ·exact⟨10,.inr rfl,by rw[if_pos (decide_eq_true c)];rfl⟩
   ·exact⟨5,.inl rfl,by rw[if_neg (by rw[decide_eq_true_eq];exact c)];rfl⟩
  have npl:pl≠p0:=fun z=>by rw[z,f0]at na;cases na
  refine⟨pl,_,_,_,rfl,rfl,SqL.of (Pb.lst npl fa),idx,?_⟩;obtain⟨nb,fb⟩:=Pb.now;refine⟨_,rfl,_,rfl,p0,_,mm,rfl,fb,⟨by omega,by omega⟩,fun l qs H1 L1 h1 h5 nl P1=>?_⟩;have S1:Same H H1:=(Pb.trans P1).same (s0.trans sa') np0;refine⟨_,rfl,sa,ss,1,rfl,S1.seq hS,by decide,by decide,fun p2 m2 H2 s2 np2 f2=>?_⟩;refine⟨_,rfl,_,rfl,p2,l,_,qs,mm,rfl,f2,L1.mono s2,aS L1.lst np2,⟨h1,h5⟩,by omega,fun r rs H6 R6 g1 g5 nr P3=>?_⟩;have S3:Same H1 H6:=P3.same s2 np2;have L6:=L1.mono S3;have S6:Same H H6:=S1.trans S3;have T6:=TB.same S6;have Q6:SqL K H6 sa (ss.map V.int):=S6.seq hS;refine⟨_,rfl,_,_,rfl,rfl,⟨by decide,by decide⟩,_,_,rfl,rfl,_,rfl,sa,_,rfl,.inl Q6,_,_,rfl,_,_,rfl,_,_,rfl,?_⟩;have hJ:3≤(if (if (((ss.map V.int).length:Nat):Int)<8 - mm / 2 then (((ss.map V.int).length:Nat):Int) else 8 - mm / 2)>3 then (if (((ss.map V.int).length:Nat):Int)<8 - mm / 2 then (((ss.map V.int).length:Nat):Int) else 8 - mm / 2) else 3)∧(if (if (((ss.map V.int).length:Nat):Int)<8 - mm / 2 then (((ss.map V.int).length:Nat):Int) else 8 - mm / 2)>3 then (if (((ss.map V.int).length:Nat):Int)<8 - mm / 2 then (((ss.map V.int).length:Nat):Int) else 8 - mm / 2) else 3)≤8:=by
   split <;> split <;> omega
  generalize (if (if (((ss.map V.int).length:Nat):Int)<8 - mm / 2 then (((ss.map V.int).length:Nat):Int) else 8 - mm / 2)>3 then (if (((ss.map V.int).length:Nat):Int)<8 - mm / 2 then (((ss.map V.int).length:Nat):Int) else 8 - mm / 2) else 3)=J at hJ
  have e62:(2:Int)^62=4611686018427387904:=by decide
  have b10:(1≤qs.length∧qs.length≤10)∧1≤rs.length∧rs.length≤10:=by omega
  refine⟨by rw[e62];omega,dB (n:=(J - 2).toNat) (lo:=2) (fun _ σ H7=>∃z5 z6 z7 z8 z9,σ = [some (.ref sa),some (.ref p0),some (.int mm),some (.ref l),some (.ref r),z5,z6,z7,z8,z9]∧cE H6 H7∧C4 H7 t_free_walk t_free_fence) ⟨_,_,_,_,_,rfl,cE.refl _,T6⟩ ?_ ?_⟩
  ·rintro i σ H7 hi ⟨z5,z6,z7,z8,z9,rfl,N7,T7⟩
   refine⟨_,rfl,_,rfl,sa,ss,_,rfl,N7.seq Q6,by omega,by omega,fun pp np H8 s8 n8 f8=>?_⟩;have L7:=N7.line L6;have R7:=N7.line R6;refine⟨_,rfl,_,rfl,pp,l,r,_,qs,rs,rfl,f8,L7.mono s8,R7.mono s8,⟨aS L7.lst n8,aS R7.lst n8⟩,b10.1,b10.2,fun z a b H9 P9 sq9 lw a0=>?_⟩;have S9:Same H7 H9:=P9.same s8 n8;have L9:=L7.mono S9;have R9:=R7.mono S9;have hb:=lw.pos;refine⟨_,rfl,l,_,rfl,.inl (SqL.of L9.lst),fun m1 H10 s10 f10 n10=>?_⟩;refine⟨_,rfl,r,_,rfl,.inl (SqL.of (R9.mono s10).lst),fun m2 H11 s11 f11 n11=>⟨sz (by simp),fun hd H12 s12 f12 n12=>?_⟩⟩;have S12:=s10.trans (s11.trans s12);have M1:LineM H12 m1 qs:=⟨(s11.trans s12) _ _ f10,(L9.mono S12).crn⟩;have M2:LineM H12 m2 rs:=⟨s12 _ _ f11,(R9.mono S12).crn⟩;have sq12:=sq9.mono S12;have N12:cE H7 H12:=.of (S9.trans S12);refine⟨_,rfl,hd,_,0,_,rfl,rfl,SqL.of f12,rfl,_,rfl,hd,_,1,_,rfl,rfl,SqL.of f12,rfl,_,rfl,m1,m2,qs,rs,.ref z,rfl,M1,M2,b10.1,b10.2,vE sq12,.inr ⟨sj sq12 (sW lw) a0,z,a,b,rfl,⟨sq12,hb,a0⟩,T7.same (S9.trans S12),fun t rr H13 ps wk nrr nt ntr N13 T13 PP e13 gof=>?_⟩⟩;have sq13:Sq H13 z a b:=⟨N13.t sq12.at_,sq12.ba,sq12.bb⟩;have L13:=(N12.trans N13).line L7;have R13:=(N12.trans N13).line R7;refine⟨_,rfl,_,rfl,_,rfl,_,rfl,l,r,t,rr,z,qs,rs,a,b,ps,wk,rfl,L13,R13,b10.1,b10.2,⟨sq13,hb⟩,⟨e13,PP⟩,gof,fun H14 s14=>⟨_,rfl,aR (by decide) ?_⟩⟩;have f14:=s14 _ _ (N13.l f12);have K1:=(N13.line M1).mono s14;have K2:=(N13.line M2).mono s14;refine⟨_,rfl,_,rfl,_,rfl,sz (by simp),fun r15 H15 s15 f15 n15=>?_⟩;have S15:=s14.trans s15;refine⟨_,_,Rp.l2 (s15 _ _ f14) (gK (K1.mono s15)) (gK (K2.mono s15)),Rp.l2 f15 (gK (L13.mono S15)) (gK (R13.mono S15)),_,rfl,aR (by rw[gY];rfl) ?_⟩;have e15:=S15 _ _ e13;have P15:=PP.mono S15;refine⟨_,rfl,t,_,_,_,rfl,rfl,SqT.of e15,rfl,_,rfl,t,_,_,_,rfl,rfl,SqT.of e15,rfl,rr,_,rfl,.inl (SqL.of P15.lst),fun k1 H16 s16 f16 n16=>⟨sz (by simp),fun kp H17 s17 f17 n17=>?_⟩⟩;have S17:=S15.trans (s16.trans s17);have e17:=S17 _ _ e13;have P17:=PP.mono S17;have k1rr:k1≠rr:=fun z=>by rw[z,P15.lst]at n16;cases n16
   refine⟨_,rfl,t,_,_,_,rfl,rfl,SqT.of e17,rfl,.inl ⟨rfl,_,SqL.of P17.lst⟩,rr,_,rfl,rfl,P17.lst,fun H18 u=>?_⟩;have m1r:m1≠rr:=aS M1.lst nrr;have m2r:m2≠rr:=aS M2.lst nrr;have hdr:hd≠rr:=aS f12 nrr;have K18:=mO (((N13.line M1).mono S17)) u m1r;have K28:=mO (((N13.line M2).mono S17)) u m2r;have h18:=u.at hdr (S17 _ _ (N13.l f12));have sq17:=sq13.mono S17;have sq18:Sq H18 z a b:=⟨u.t _ _ sq17.at_,sq17.ba,sq17.bb⟩;have T18:=rW (T13.same S17) u;refine⟨_,rfl,hd,_,0,_,rfl,rfl,SqL.of h18,rfl,_,rfl,hd,_,1,_,rfl,rfl,SqL.of h18,rfl,_,rfl,m1,m2,qs,rs,.ref z,rfl,K18,K28,b10.1,b10.2,vE sq18,.inr ⟨sj sq18 (sW lw) a0,z,a,b,rfl,⟨sq18,hb,a0⟩,T18,fun t' rr' H19 ps' wk' nrr' nt' ntr' N19 T19 PP' e19 gof'=>?_⟩⟩;obtain⟨ew,ed⟩:=tH hb gof gof';subst ew;have T16:∀{c:Addr} {xs:List V},H17 c=some (.tup xs)->H19 c=some (.tup xs):=fun e=>N19.t (u.t _ _ e);have k19:DJ H19 k1 ps:=⟨N19.l (u.at k1rr (s17 _ _ f16)),fun q hq=>(P17.pr q hq).t fun c xs e=>T16 e⟩;refine⟨_,rfl,_,_,Rp.t2 e19 .str (pG PP'),Rp.t2 (T16 f17) .str (pG k19),_,rfl,aR (by rw[ed,gY];rfl) ?_⟩;refine⟨_,_,_,_,_,rfl,N7.trans fun c o e m=>?_,T19⟩;have e12:=N12 c o e m;have ncr:=aS e12 nrr;exact N19 c o (u.at ncr (S17 _ _ (N13 c o e12 m))) m
  ·rintro σ H7 ⟨z5,z6,z7,z8,z9,rfl,N7,T7⟩
   exact fin _
end
theorem hLeft:W.LeftO Challenge.rw_oneleash_k31_free_walk_or_fence.prog hView hLoose (fun _=>true) (W.Hook.obs (Hd.hookT hFacts hGood)) (W.Hook.val (Hd.hookT hFacts hGood)) 100000:=yA
theorem hTabOk{K:W.Frag}(FK:hFacts K=hGood):hTabs.all (Hd.tabFact K)=true:=(congrArg Prod.fst (congrArg Prod.snd (congrArg Prod.snd FK)))
theorem all_of{P:Program}{w:World}{K0 K:W.Frag}(eK:K=Hd.strip K0)(FK0:hFacts K0=hGood){h:Heap}{mg:Str->Option Value}{fa:Addr}(X:K.In h)(G:h.Ns mainGlobals mg)(hfa:mg "law" = some (.ref fa)) :
  ∃fd:FuncData,(∀(s:Shared) (v:Value),BindsTo s fd ⟨[v],[]⟩ [("script",v)])∧∀base:Heap,K.In base->base.Ns mainGlobals mg->Bf P w K mg base CX0 11 fa fd ["script"] (nZ K (hTabs.map (Hd.tabP K0))):=by
 have FK:(hF0 K,hF1 K,hF2 K0)=hGood:=by
  rw[eK];exact FK0
 have H0:(ja.map (fun p=>Hd.fnFact K p.1):List (Option (Arguments×List Stmt×Scope×Value)))=ja.map (fun p=>some (br (top p.2),aL (top p.2),ap (top p.2),.none)):=(congrArg Prod.fst FK);have H1:(i9.map (fun p=>Hd.fnFactD K p.1):List (Option (Arguments×List Stmt×Scope×List V)))=i9.map (fun p=>some (br (top p.2.1),aL (top p.2.1),ap (top p.2.1),p.2.2)):=(congrArg Prod.fst (congrArg Prod.fst (congrArg Prod.snd FK)));have H2:(xW.all (Hd.excFact K):Bool)=true:=(congrArg Prod.fst (congrArg Prod.snd (congrArg Prod.fst (congrArg Prod.snd FK))));have H3:(hNo.all (Hd.noFact K):Bool)=true:=(congrArg Prod.fst (congrArg Prod.snd (congrArg Prod.snd (congrArg Prod.fst (congrArg Prod.snd FK)))));have H4:(uX.map (fun p=>Hd.tupFact K p.1):List (Option (List V)))=uX.map (fun p=>some p.2):=(congrArg Prod.fst (congrArg Prod.snd (congrArg Prod.snd (congrArg Prod.snd (congrArg Prod.fst (congrArg Prod.snd FK))))));have H5:(xT.all (Hd.ownFact K):Bool)=true:=(congrArg Prod.fst (congrArg Prod.snd (congrArg Prod.snd (congrArg Prod.snd (congrArg Prod.snd (congrArg Prod.fst (congrArg Prod.snd FK)))))));have H6:(hMt.map (fun p=>Hd.mtFact K p.1 p.2.1 p.2.2.1):List (Option (Arguments×List Stmt×Scope×Value)))=hMt.map (fun p=>some (br p.2.2.2,aL p.2.2.2,ap p.2.2.2,.none)):=(congrArg Prod.fst (congrArg Prod.snd (congrArg Prod.snd (congrArg Prod.snd (congrArg Prod.snd (congrArg Prod.snd (congrArg Prod.fst (congrArg Prod.snd FK))))))));have H7:(xZ K:List (Option (Option V)))=vT:=(congrArg Prod.fst (congrArg Prod.snd (congrArg Prod.snd (congrArg Prod.snd (congrArg Prod.snd (congrArg Prod.snd (congrArg Prod.snd (congrArg Prod.fst (congrArg Prod.snd FK)))))))));have H8:(xY K:List (Option (Option Value)))=vS:=(congrArg Prod.fst (congrArg Prod.snd (congrArg Prod.snd (congrArg Prod.snd (congrArg Prod.snd (congrArg Prod.snd (congrArg Prod.snd (congrArg Prod.snd (congrArg Prod.fst (congrArg Prod.snd FK))))))))));have H9:(xX K:List (Bool))=vR:=(congrArg Prod.snd (congrArg Prod.snd (congrArg Prod.snd (congrArg Prod.snd (congrArg Prod.snd (congrArg Prod.snd (congrArg Prod.snd (congrArg Prod.snd (congrArg Prod.fst (congrArg Prod.snd FK))))))))));have H10:(hTabs.all (Hd.tabFact K0):Bool)=true:=(congrArg Prod.fst (congrArg Prod.snd (congrArg Prod.snd FK)));have H11:(Hd.bltFact (Hd.strip K0):Bool)=true:=(congrArg Prod.fst (congrArg Prod.snd (congrArg Prod.snd (congrArg Prod.snd FK))));have H12:(Hd.apart (hTabs.map (Hd.tabP K0)):Bool)=true:=(congrArg Prod.snd (congrArg Prod.snd (congrArg Prod.snd (congrArg Prod.snd FK))));have BU:Df K mg "is_whole" (top 5):=Hd.df_of X G (Hd.at_map H0 0 rfl);have zQ:Df K mg "common_divisor" (top 6):=Hd.df_of X G (Hd.at_map H0 1 rfl);have Du:Df K mg "plus" (top 8):=Hd.df_of X G (Hd.at_map H0 2 rfl);have BV:Df K mg "is_ratio" (top 9):=Hd.df_of X G (Hd.at_map H0 3 rfl);have Cf:Df K mg "sign_of" (top 11):=Hd.df_of X G (Hd.at_map H0 4 rfl);have Aa:Df K mg "signed_square" (top 12):=Hd.df_of X G (Hd.at_map H0 5 rfl);have zM:Df K mg "sign_with_root" (top 13):=Hd.df_of X G (Hd.at_map H0 6 rfl);have zE:Df K mg "sign_with_roots" (top 14):=Hd.df_of X G (Hd.at_map H0 7 rfl);have AY:Df K mg "root_order" (top 15):=Hd.df_of X G (Hd.at_map H0 8 rfl);have Bb:Df K mg "floor_root" (top 16):=Hd.df_of X G (Hd.at_map H0 9 rfl);have Av:Df K mg "own_fraction" (top 17):=Hd.df_of X G (Hd.at_map H0 10 rfl);have As:Df K mg "scaled_floor" (top 18):=Hd.df_of X G (Hd.at_map H0 11 rfl);have Bw:Df K mg "below_all" (top 19):=Hd.df_of X G (Hd.at_map H0 12 rfl);have Ar:Df K mg "shared_terms" (top 20):=Hd.df_of X G (Hd.at_map H0 13 rfl);have zp:Df K mg "fraction_of_terms" (top 21):=Hd.df_of X G (Hd.at_map H0 14 rfl);have zG:Df K mg "fraction_within" (top 22):=Hd.df_of X G (Hd.at_map H0 15 rfl);have At:Df K mg "root_between" (top 23):=Hd.df_of X G (Hd.at_map H0 16 rfl);have zO:Df K mg "look_at_square" (top 27):=Hd.df_of X G (Hd.at_map H0 17 rfl);have AJ:Df K mg "leash_order" (top 28):=Hd.df_of X G (Hd.at_map H0 18 rfl);have BM:Df K mg "reach_of" (top 29):=Hd.df_of X G (Hd.at_map H0 19 rfl);have AH:Df K mg "part_within" (top 30):=Hd.df_of X G (Hd.at_map H0 20 rfl);have Cg:Df K mg "last_of" (top 32):=Hd.df_of X G (Hd.at_map H0 21 rfl);have zL:Df K mg "with_a_stretch" (top 36):=Hd.df_of X G (Hd.at_map H0 22 rfl);have BW:Df K mg "doors_of" (top 37):=Hd.df_of X G (Hd.at_map H0 23 rfl);have AL:Df K mg "far_corners" (top 38):=Hd.df_of X G (Hd.at_map H0 24 rfl);have Aw:Df K mg "begins_fence" (top 40):=Hd.df_of X G (Hd.at_map H0 25 rfl);have Bc:Df K mg "ends_fence" (top 41):=Hd.df_of X G (Hd.at_map H0 26 rfl);have zN:Df K mg "pair_at_corner" (top 42):=Hd.df_of X G (Hd.at_map H0 27 rfl);have Bo:Df K mg "part_from" (top 43):=Hd.df_of X G (Hd.at_map H0 28 rfl);have Au:Df K mg "pair_in_door" (top 44):=Hd.df_of X G (Hd.at_map H0 29 rfl);have BN:Df K mg "place_on" (top 45):=Hd.df_of X G (Hd.at_map H0 30 rfl);have BO:Df K mg "pairs_on" (top 46):=Hd.df_of X G (Hd.at_map H0 31 rfl);have Cy:Df K mg "row_to" (top 48):=Hd.df_of X G (Hd.at_map H0 32 rfl)
 have Dt:Df K mg "seek" (top 49):=Hd.df_of X G (Hd.at_map H0 33 rfl);have Ch:Df K mg "is_cell" (top 51):=Hd.df_of X G (Hd.at_map H0 34 rfl);have zZ:Df K mg "steps_through" (top 52):=Hd.df_of X G (Hd.at_map H0 35 rfl);have AI:Df K mg "pair_within" (top 53):=Hd.df_of X G (Hd.at_map H0 36 rfl);have Bv:EQ K mg "free_walk" (top 54) (Hd.tabP K0 "free_walk"):=by
  subst eK;exact Hd.dft_of X G (Hd.at_map H0 37 rfl) (Hd.at_all H10 0 rfl)
 have AG:Df K mg "steps_along" (top 55):=Hd.df_of X G (Hd.at_map H0 38 rfl);have Ba:EQ K mg "free_fence" (top 56) (Hd.tabP K0 "free_fence"):=by
  subst eK;exact Hd.dft_of X G (Hd.at_map H0 39 rfl) (Hd.at_all H10 1 rfl)
 have Ci:Df K mg "go_free" (top 57):=Hd.df_of X G (Hd.at_map H0 40 rfl);have AK:Df K mg "_law_cell_at" (top 59):=Hd.df_of X G (Hd.at_map H0 41 rfl);have BQ:Df K mg "_law_pool" (top 60):=Hd.df_of X G (Hd.at_map H0 42 rfl);have BP:Df K mg "_law_take" (top 61):=Hd.df_of X G (Hd.at_map H0 43 rfl);have BS:Df K mg "_law_line" (top 62):=Hd.df_of X G (Hd.at_map H0 44 rfl);have Bs:Df K mg "_law_moved" (top 63):=Hd.df_of X G (Hd.at_map H0 45 rfl);have A4:Df K mg "_law_second" (top 64):=Hd.df_of X G (Hd.at_map H0 46 rfl);have Bp:Df K mg "_law_whole" (top 65):=Hd.df_of X G (Hd.at_map H0 47 rfl);have A8:Df K mg "_law_common" (top 66):=Hd.df_of X G (Hd.at_map H0 48 rfl);have zF:Df K mg "_law_is_fraction" (top 67):=Hd.df_of X G (Hd.at_map H0 49 rfl);have A6:Df K mg "_law_lowest" (top 68):=Hd.df_of X G (Hd.at_map H0 50 rfl);have Bu:Df K mg "_law_above" (top 69):=Hd.df_of X G (Hd.at_map H0 51 rfl);have Br:Df K mg "_law_point" (top 70):=Hd.df_of X G (Hd.at_map H0 52 rfl);have Bt:Df K mg "_law_apart" (top 71):=Hd.df_of X G (Hd.at_map H0 53 rfl);have BR:Df K mg "_law_near" (top 72):=Hd.df_of X G (Hd.at_map H0 54 rfl);have Ac:Df K mg "_law_are_pairs" (top 73):=Hd.df_of X G (Hd.at_map H0 55 rfl);have BT:Df K mg "_law_foot" (top 74):=Hd.df_of X G (Hd.at_map H0 56 rfl);have A9:Df K mg "_law_beside" (top 75):=Hd.df_of X G (Hd.at_map H0 57 rfl);have AZ:Df K mg "_law_square" (top 76):=Hd.df_of X G (Hd.at_map H0 58 rfl);have Ab:Df K mg "_law_free_walk" (top 77):=Hd.df_of X G (Hd.at_map H0 59 rfl);have zP:Df K mg "_law_free_fence" (top 78):=Hd.df_of X G (Hd.at_map H0 60 rfl);have Bq:Df K mg "_law_shown" (top 79):=Hd.df_of X G (Hd.at_map H0 61 rfl);have Eh:Df K mg "law" (top 80):=Hd.df_of X G (Hd.at_map H0 62 rfl);have C9:ER K mg "ratio" (top 7) [.int 1]:=Hd.dfd_of X G (Hd.at_map H1 0 rfl);have zi:CG K mg "NoRatio" (Hd.cls K "NoRatio"):=Hd.exc_of X G (Hd.at_all H2 0 rfl);have BI:CG K mg "NoSquare" (Hd.cls K "NoSquare"):=Hd.exc_of X G (Hd.at_all H2 1 rfl);have Es:CG K mg "LeashError" (Hd.cls K "LeashError"):=Hd.exc_of X G (Hd.at_all H2 2 rfl);have T:Txt mg:=⟨W.mg_none_of X G (Hd.no_of (Hd.at_all H3 0 rfl)),W.mg_none_of X G (Hd.no_of (Hd.at_all H3 1 rfl)),W.mg_none_of X G (Hd.no_of (Hd.at_all H3 2 rfl)),W.mg_none_of X G (Hd.no_of (Hd.at_all H3 3 rfl)),W.mg_none_of X G (Hd.no_of (Hd.at_all H3 4 rfl)),W.mg_none_of X G (Hd.no_of (Hd.at_all H3 5 rfl)),W.mg_none_of X G (Hd.no_of (Hd.at_all H3 6 rfl)),W.mg_none_of X G (Hd.no_of (Hd.at_all H3 7 rfl)),W.mg_none_of X G (Hd.no_of (Hd.at_all H3 8 rfl)),W.mg_none_of X G (Hd.no_of (Hd.at_all H3 9 rfl)),W.mg_none_of X G (Hd.no_of (Hd.at_all H3 10 rfl)),W.mg_none_of X G (Hd.no_of (Hd.at_all H3 11 rfl)),W.mg_none_of X G (Hd.no_of (Hd.at_all H3 12 rfl)),W.mg_none_of X G (Hd.no_of (Hd.at_all H3 13 rfl)),W.mg_none_of X G (Hd.no_of (Hd.at_all H3 14 rfl))⟩;obtain⟨Er,od_BEGIN,its_BEGIN,n_BEGIN,sl_BEGIN,Dv,El,Dw⟩:=Hd.tup_of (Hd.at_map H4 0 rfl);obtain⟨EW,od_END,its_END,n_END,sl_END,Et,ES,Eu⟩:=Hd.tup_of (Hd.at_map H4 1 rfl);have AP_0_1:Hd.tabP K0 "free_walk"≠Hd.tabP K0 "free_fence":=Hd.apart_ne H12 (i:=0) (j:=1) rfl rfl (by decide);have BF:uj K mg:=by
  subst eK;exact Hd.blt_of X G H11
 have By:(W.nsIn K mainGlobals "UPRIGHT").map (fun o=>o.map Hd.bareV)=some (some (.int 0)):=Hd.at_two H7 0 rfl rfl;have C1:(W.nsIn K mainGlobals "LEVEL").map (fun o=>o.map Hd.bareV)=some (some (.int 1)):=Hd.at_two H7 1 rfl rfl;have sa_Field:W.findIn K (.ref (Hd.cls K "Field")) "__setattr__" = some (some (.builtin "object.__setattr__")):=Hd.at_two H8 0 rfl rfl;have n_room:W.findIn K (.ref (Hd.cls K "Field")) "room" = some none:=Hd.at_two H8 1 rfl rfl;have n_last:W.findIn K (.ref (Hd.cls K "Field")) "last" = some none:=Hd.at_two H8 2 rfl rfl;have n_doors:W.findIn K (.ref (Hd.cls K "Field")) "doors" = some none:=Hd.at_two H8 3 rfl rfl;have n_far:W.findIn K (.ref (Hd.cls K "Field")) "far" = some none:=Hd.at_two H8 4 rfl rfl;have sm:(K.lookup sysModules).isSome=true:=Hd.at_two H9 0 rfl rfl;have yJ:Cv K mg "Field" (Hd.cls K "Field"):=Hd.own_of X G (Hd.at_all H5 0 rfl) sa_Field;have Ax:E4 K (Hd.cls K "Field") "__init__" "Field.__init__" (uS 39 0):=Hd.dfm_of (Hd.at_map H6 0 rfl);refine wF h hfa fun base=>?_;have hB:∀H,SqT K H Er [.int 0,.int 0,.int 0,.int 1]:=fun H=>SqT.mod El rfl (Hd.vals_sz Dw (by decide)) Dw;have hE:∀H,SqT K H EW [.int 1,.int 0,.int 0,.int 1]:=fun H=>SqT.mod ES rfl (Hd.vals_sz Eu (by decide)) Eu;have zh:=nu (P:=P) (w:=w) (base:=base) BU T;have yV:=gW (P:=P) (w:=w) (base:=base) zQ T;have Ae:=tN (P:=P) (w:=w) (base:=base) C9 zi zh yV;have yL:=oI (P:=P) (w:=w) (base:=base) Cf;have yO:=im (P:=P) (w:=w) (base:=base) Aa T;have zH:=gR (P:=P) (w:=w) (base:=base) zM yL yO;have zC:=fV (P:=P) (w:=w) (base:=base) zE yL yO zH;have yM:=jW (P:=P) (w:=w) (base:=base) AY zC;have zm:=j6 (P:=P) (w:=w) (base:=base) Bb;have y3:=iL (P:=P) (w:=w) (base:=base) As zm;have Bn:=lO (P:=P) (w:=w) (base:=base) Bw y3;have Ak:=iK (P:=P) (w:=w) (base:=base) Ar T;have zn:=fA (P:=P) (w:=w) (base:=base) zp Ae T;have zD:=fX (P:=P) (w:=w) (base:=base) zG y3 Bn zn Ak;have An:=iO (P:=P) (w:=w) (base:=base) Av zi zm yL Ae;have Al:=iM (P:=P) (w:=w) (base:=base) At zi yM An zD;have C7:=ve (P:=P) (w:=w) (base:=base) Du Ae;have BK:=nA (P:=P) (w:=w) (base:=base) BV zh yV T;have zx:=oJ (P:=P) (w:=w) (base:=base) Cg T;have zc:=jF (P:=P) (w:=w) (base:=base) AJ yL;have BJ:=mY (P:=P) (w:=w) (base:=base) BM;have zI:=gT (P:=P) (w:=w) (base:=base) zO BI BK;have zR:=jD (P:=P) (w:=w) (base:=base) AH (W.mg_of X G Dv) (W.mg_of X G Et) hB hE zc BJ yL yM;have Cw:=rn (P:=P) (w:=w) (base:=base) Cy T;have Cd:=vc (P:=P) (w:=w) (base:=base) Dt Cw T;have Ap:=iP (P:=P) (w:=w) (base:=base) Aw;have AX:=j7 (P:=P) (w:=w) (base:=base) Bc;have yR:=gS (P:=P) (w:=w) (base:=base) zN;have AF:=jH (P:=P) (w:=w) (base:=base) AL zc T;have zk:=gQ (P:=P) (w:=w) (base:=base) zL T;have BL:=nB (P:=P) (w:=w) (base:=base) BW (Hd.int_of X G By) (Hd.int_of X G C1) zR zx T;have Aq:=iQ (P:=P) (w:=w) (base:=base) Ax yJ n_room n_last n_doors n_far zk zx BL AF T;have Bk:=lE (P:=P) (w:=w) (base:=base) Bo (W.mg_of X G Dv) (W.mg_of X G Et) hB hE yM Al;have Am:=iN (P:=P) (w:=w) (base:=base) Au (Hd.int_of X G By) C7;have Ce:=oK (P:=P) (w:=w) (base:=base) Ch yJ n_last n_doors n_far;have AD:=jE (P:=P) (w:=w) (base:=base) AI yJ n_last n_doors n_far Bk Am;have zX:=ik (P:=P) (w:=w) (base:=base) zZ yJ n_last n_doors n_far (Hd.int_of X G By) (Hd.int_of X G C1) Ce;have AC:=jC (P:=P) (w:=w) (base:=base) AG yJ n_last n_doors n_far (Hd.int_of X G By) (Hd.int_of X G C1);have Bm:=lM (P:=P) (w:=w) (base:=base) Bv yJ n_last n_doors n_far BF Cd zX yR AD T;have AW:=j5 (P:=P) (w:=w) (base:=base) Ba yJ n_last n_doors n_far BF Cd AC Ap AX yR T;have AS:=mZ (P:=P) (w:=w) (base:=base) BN T;have AT:=m6 (P:=P) (w:=w) (base:=base) BO AS T;have BB:=oM (P:=P) (w:=w) (base:=base) Ci yJ zI Aq Bm AW AT;have AE:=jG (P:=P) (w:=w) (base:=base) AK T;have Ao:=ng (P:=P) (w:=w) (base:=base) BQ AE T;have yH:=m8 (P:=P) (w:=w) (base:=base) BP;have zJ:=nj (P:=P) (w:=w) (base:=base) BS yH T;have AA:=lJ (P:=P) (w:=w) (base:=base) Bs yH T;have AV:=jY (P:=P) (w:=w) (base:=base) A4 yH AA zJ T;have zl:=j0 (P:=P) (w:=w) (base:=base) A8;have yY:=jZ (P:=P) (w:=w) (base:=base) A6 zl T;have yT:=lL (P:=P) (w:=w) (base:=base) Bu;have zt:=nq (P:=P) (w:=w) (base:=base) BT yT T;have Af:=j4 (P:=P) (w:=w) (base:=base) A9 (u8 zt) yY T;have AU:=jX (P:=P) (w:=w) (base:=base) AZ yH Af yY T;have Ay:=lG (P:=P) (w:=w) (base:=base) Bp T;have zd:=fW (P:=P) (w:=w) (base:=base) zF Ay zl T;have Az:=lI (P:=P) (w:=w) (base:=base) Br T;have zw:=lK (P:=P) (w:=w) (base:=base) Bt Az T;have zg:=ni (P:=P) (w:=w) (base:=base) BR yT;have yW:=ip (P:=P) (w:=w) (base:=base) Ac zd T;have zY:=io (P:=P) (w:=w) (base:=base) Ab yW zg zw T;have zK:=gU (P:=P) (w:=w) (base:=base) zP yW zg zw zt T;have Bl:=lH (P:=P) (w:=w) (base:=base) Bq zY zK yT T;exact wO Eh AP_0_1 Ao yH zJ AV AU BB Bl T
end K31
end
open PySem PySem.W PyProof.Rows
lay_quick Challenge.pw_oneleash_k31_free_walk_or_fence
set_option maxRecDepth 100000 in
set_option maxHeartbeats 0 in
theorem PySem.Challenge.cw_oneleash_k31_free_walk_or_fence_holds : PySem.Challenge.rw_oneleash_k31_free_walk_or_fence.Holds := by
 w_on;o_law
 refine holds_open (q:=K31.hView) (loose:=K31.hLoose) (Xt:=fun _=>true) (XP:=fun _ _=>True) (Yf:=Hook.obs (Hd.hookT K31.hFacts K31.hGood)) (Ya:=Hook.val (Hd.hookT K31.hFacts K31.hGood)) (YP:=Hook.says (Hd.hookT K31.hFacts K31.hGood)) (N:=100000) K31.hLeft (Hook.of _) (Hook.keeps _) (fun _ _=>trivial) (fun _ _ _ _ _=>trivial) (by rfl) (by rfl) (by rfl) (fun _ _=>recFacts_nil rfl) (by rfl) (by first|assumption|decide +kernel) (by decide +kernel) ⟨rfl,rfl,rfl,rfl,rfl,by decide +kernel⟩ ?hw ?hc
 case hw=>w_witness2
 exact Hd.law_walkT (names:=K31.hTabs) (l:=Challenge.rw_oneleash_k31_free_walk_or_fence) (k:=11) ⟨rfl,by decide,by decide,rfl⟩ rfl rfl (fun K FK=>K31.hTabOk FK) fun K FK w mg fa h KX G hmg=>K31.all_of rfl FK KX G hmg
