import PyProof.Rows.All
import Wide.All
import OpenK.AllK
import Wide.FinOn
import Lean
import PyProof.EqAt
import PyProof.EqKinds
import PyProof.TupleCall
import PyProof.ExcArgsOwn
import KE.KTryMore
import PyProof.NsDelKeeps
import PyProof.ConsumeWalk
import PyProof.ZipIter
import PyProof.WalksEnum
import PyProof.EnumMake
import PyProof.NeKinds
import PyProof.CompMap
import KE.KRevIter
import PyProof.ListRange
import KE.KSliceW
import KE.KIntText
import PyProof.StrWalks
import PySem.Challenge.RW_oneleash_k71_fences_judged
section
set_option Elab.async false
set_option linter.all false
set_option maxRecDepth 100000
namespace L2
open PySem PySem.Spec PyProof.Rows
abbrev Key:=Sum Int Str
def xf:Key->Value->Bool
 | .inl k,v=>Value.isInt k v
 | .inr x,v=>Value.isStrOf x v
def zF(w:World):Key->Int
 | .inl k=>hashInt k
 | .inr x=>hashStr w x
theorem cw:∀{k:Key} {v:Value},xf k v=true->(∃i t,k=Sum.inl i∧v=Value.int i t)∨(∃x t,k=Sum.inr x∧v=Value.str x t)
 | .inl i,v,h=>by
  obtain⟨t,e⟩:=Value.isInt_shape (k:=i) (v:=v) h;exact .inl ⟨i,t,rfl,e⟩
 | .inr x,v,h=>by
  obtain⟨t,e⟩:=Value.isStrOf_shape (x:=x) (v:=v) h;exact .inr ⟨x,t,rfl,e⟩
theorem ya(a b:Int):decide ((Sum.inl a:Key)=Sum.inl b)=(a == b):=by
 by_cases e:a=b
 ·subst e;simp
 ·have h:¬(Sum.inl a:Key)=Sum.inl b:=fun q=>e (Sum.inl.inj q)
  rw[decide_eq_false h];exact(beq_eq_false_iff_ne.mpr e).symm
theorem x6(a b:Str):decide ((Sum.inr a:Key)=Sum.inr b)=decide (a=b):=by
 by_cases e:a=b
 ·subst e;simp
 ·have h:¬(Sum.inr a:Key)=Sum.inr b:=fun q=>e (Sum.inr.inj q)
  rw[decide_eq_false h,decide_eq_false e]
theorem x9(a:Int)(b:Str):decide ((Sum.inl a:Key)=Sum.inr b)=false:=decide_eq_false (fun q=>nomatch q)
theorem x8(a:Str)(b:Int):decide ((Sum.inr a:Key)=Sum.inl b)=false:=decide_eq_false (fun q=>nomatch q)
def rl(prog:Program)(w:World):PySem.KeyKind prog w Key where
 is:=xf
 hash:=zF w
 inj:=fun v a b ha hb=>by
  rcases cw ha with⟨i,t,rfl,rfl⟩|⟨x,t,rfl,rfl⟩
  ·rcases cw hb with⟨j,u,rfl,e⟩|⟨y,u,rfl,e⟩
   ·injection e with e1 _;rw[e1]
   ·exact nomatch e
  ·rcases cw hb with⟨j,u,rfl,e⟩|⟨y,u,rfl,e⟩
   ·exact nomatch e
   ·injection e with e1 _;rw[e1]
 byValue:=fun k v h=>by
  rcases cw h with⟨i,t,rfl,rfl⟩|⟨x,t,rfl,rfl⟩ <;> rfl
 pyHash:=fun hv h=>by
  rcases cw hv with⟨i,t,rfl,rfl⟩|⟨x,t,rfl,rfl⟩
  ·exact wpAny_pyHash_int h
  ·exact wpAny_pyHash_str h
 eqBool:=fun hu hv h=>by
  rcases cw hu with⟨i,t,rfl,rfl⟩|⟨x,t,rfl,rfl⟩
  ·rcases cw hv with⟨j,u,rfl,rfl⟩|⟨y,u,rfl,rfl⟩
   ·rw[ya]at h;exact wpAny_eqBool_int h
   ·rw[x9]at h;exact SeqAt.EqAt.int_str i t y u _ _ _ _ h
  ·rcases cw hv with⟨j,u,rfl,rfl⟩|⟨y,u,rfl,rfl⟩
   ·rw[x8]at h;exact SeqAt.EqAt.str_int x t j u _ _ _ _ h
   ·rw[x6]at h;exact wpAny_eqBool_str h
 «strs»:=fun k x t v h=>by
  rcases cw h with⟨i,u,rfl,e⟩|⟨y,u,rfl,e⟩
  ·exact nomatch e
  ·injection e with e1 _
   subst e1;cases v <;> rfl
end L2
namespace L2
open PySem PySem.Spec PyProof.Rows
inductive V where
 | non|bl (b:Bool)|int (i:Int)|str (x:Str)|byt (b:Array UInt8)|flt (b:UInt64)|ref (a:Addr)|ty (n:String)
 deriving DecidableEq
def bO:V->Value->Prop
 | .non,u=>u=Value.none
 | .bl b,u=>u=Value.bool b
 | .int i,u=>∃t,u=Value.int i t
 | .str x,u=>∃t,u=Value.str x t
 | .byt b,u=>∃t,u=Value.bytes b t
 | .flt b,u=>∃t,u=Value.float b t
 | .ref a,u=>u=Value.ref a
 | .ty n,u=>u=Value.type n
abbrev aO:List V->List Value->Prop:=Paired bO
theorem aO.length{xs:List V}{us:List Value}(r:aO xs us):xs.length=us.length:=Paired.length r
theorem aO.get:∀{xs:List V} {us:List Value} {i:Nat} {x:V},aO xs us->xs[i]? = some x->∃u,us[i]? = some u∧bO x u
 | _,_,_,_,.nil,e=>by simp at e
 | _,_,0,_,.cons r _,e=>by simp at e;subst e;exact⟨_,rfl,r⟩
 | _,_,i+1,x,.cons _ t,e=>by
  obtain⟨u,h1,h2⟩:=aO.get (i:=i) (x:=x) t (by simpa using e);exact⟨u,by simpa using h1,h2⟩
theorem aO.set{x:V}{u:Value}(r:bO x u):∀{xs:List V} {us:List Value} (i:Nat),aO xs us->aO (xs.set i x) (us.set i u)
 | _,_,_,.nil=>.nil
 | _,_,0,.cons _ t=>.cons r t
 | _,_,i+1,.cons q t=>.cons q (aO.set r i t)
theorem aO.append:∀{xs ys:List V} {us ws:List Value},aO xs us->aO ys ws->aO (xs++ys) (us++ws)
 | _,_,_,_,.nil,s=>s
 | _,_,_,_,.cons r t,s=>.cons r (aO.append t s)
theorem aO.take:∀{xs:List V} {us:List Value} (n:Nat),aO xs us->aO (xs.take n) (us.take n)
 | _,_,0,_=>.nil
 | _,_,_+1,.nil=>.nil
 | _,_,n+1,.cons r t=>.cons r (aO.take n t)
theorem aO.drop:∀{xs:List V} {us:List Value} (n:Nat),aO xs us->aO (xs.drop n) (us.drop n)
 | _,_,0,r=>r
 | _,_,_+1,.nil=>.nil
 | _,_,n+1,.cons _ t=>aO.drop n t
def yw:Option V->Option Value->Prop
 | some v,some u=>bO v u
 | none,none=>True
 | _,_=>False
def KV{κ:Type}:List (κ×V)->List (κ×Value)->Prop:=Paired fun (p:κ×V) (q:κ×Value)=>p.1=q.1∧bO p.2 q.2
def kV:Key->V
 | .inl i=>.int i
 | .inr x=>.str x
inductive HO where
 /-- a list -/
 | lst (xs:List V)
 /-- a tuple (never changes) -/
 | tup (xs:List V)
 /-- a dict whose keys are ints and texts;one whose keys are tuples of ints and texts (the empty one is both) -/
 | dK (kvs:List (Key×V))|dT (kvs:List (List Key×V))
 /-- a set of ints: its members,its size -/
 | set (S:Int->Bool) (n:Nat)
 /-- an instance of the class at C,its dict at dx,its attributes -/
 | ins (C dx:Addr) (fs:List (Str×V))
 /-- the dict of the instance at x -/
 | own (x:Addr)
 /-- the dict of an exception -/
 | xd (fs:List (Str×V))
 /-- a bound method,f of x -/
 | met (f x:Addr)
 /-- a range object lo,lo+1,.. below hi -/
 | rng (lo hi:Int)
 /-- a thing that is known to the object (the script;a dict while a loop walks it): read,never written while it is so -/
 | frz (o:Obj) (u:HO)
 /-- a code object's table -/
 | tbl (ps:Array Value)
 /-- any other thing,by what is true of its one object (a def of one's own: SetO a S n:=HO.ext fun h=>..) -/
 | ext (φ:Heap->Prop)
abbrev Hp:=Addr->Option HO
def upd(H:Hp)(a:Addr)(o:HO):Hp:=fun b=>if b=a then some o else H b
theorem upd_same{H:Hp}{a:Addr}{o:HO}:upd H a o a=some o:=by unfold upd;rw[if_pos rfl]
theorem bi{H:Hp}{a b:Addr}{o:HO}(h:b≠a):upd H a o b=H b:=by unfold upd;rw[if_neg h]
theorem uq{H:Hp}{a b:Addr}{o u:HO}(h:H a=some o)(h':H b=some u)(d:o≠u):a≠b:=by
 intro e;subst e;rw[h]at h';exact d (Option.some.inj h')
theorem aS{H:Hp}{a b:Addr}{o:HO}(h:H a=some o)(h':H b=none):a≠b:=by
 intro e;subst e;rw[h]at h';cases h'
section
variable (P:Program) (w:World)
def cL(H:Hp)(h:Heap)(a:Addr):HO->Prop
 | .lst xs=>xs.length≤sizeLine∧∃(its:List Value) (n:Nat),aO xs its∧h.get? a=some { cls:=.type "list",data:=.seq its.toArray n }
 | .tup xs=>xs.length≤sizeLine∧∃its:List Value,aO xs its∧IsTup h a its.toArray
 | .dK kvs=>kvs.length≤sizeLine∧(a == sysModules)=false∧∃vs,KV kvs vs∧h.DictOf (rl P w) a vs
 | .dT kvs=>kvs.length≤sizeLine∧(a == sysModules)=false∧∃xs:List (List Key×Addr×Value),
   Paired (fun (p:List Key×V) (q:List Key×Addr×Value)=>p.1=q.1∧H q.2.1=some (.tup (p.1.map kV))∧bO p.2 q.2.2) kvs xs ∧
   ∃o es ep,h.get? a=some o∧o.ExactDict∧o.data = .dict es ep∧es.toList=xs.map (entryOfKey (tupleKind (rl P w)))∧(xs.map (·.1)).Nodup
 | .set S n=>h.SetOf (intKind P w) a S n
 | .ins C dx fs=>H dx=some (.own a)∧fs.length≤1000∧dx≠a∧h.get? a=some (W.instObj C dx) ∧
   ∃mA,h.Ns1 dx mA∧(∀f,yw (fs.lookup f) (mA f))∧PySem.Within mA (fs.map (·.1))
 | .own _=>∃o,h.get? a=some o
 | .xd fs=>∃mA,h.Ns1 a mA∧∀f,yw (fs.lookup f) (mA f)
 | .rng lo hi=>∃t u v,h.get? a=some { cls:=.type "range",data:=.fields #[.int lo t,.int hi u,.int 1 v] }
 | .frz o u=>h.get? a=some o∧cL H h a u
 | .tbl ps=>h.get? a=some { cls:=.none,data:=.fields ps }
 | .met f x=>h.get? a=some (W.methodObj (.ref f) (.ref x))
 | .ext φ=>φ h∧(∃o,h.get? a=some o)∧∀h1 h2:Heap,φ h1->(∀o,h1.get? a=some o->h2.get? a=some o)->φ h2
def HOk(H:Hp)(h:Heap):Prop:=∀a o,H a=some o->cL P w H h a o
end
section
variable {P:Program} {w:World} {H H':Hp} {h h':Heap} {a:Addr} {o:HO}
theorem cL.lt(x:cL P w H h a o):a<h.objs.size:=by
 cases o with
 | lst xs=>obtain⟨_,_,_,_,e⟩:=x;exact Heap.lt_size e
 | tup xs=>obtain⟨_,_,_,p⟩:=x;exact p.lt
 | dK kvs=>obtain⟨_,_,_,_,o,_,_,e,_⟩:=x;exact Heap.lt_size e
 | dT kvs=>obtain⟨_,_,_,_,o,_,_,e,_⟩:=x;exact Heap.lt_size e
 | set S n=>obtain⟨o,_,_,_,e,_⟩:=x;exact Heap.lt_size e
 | ins C dx fs=>obtain⟨_,_,_,e,_⟩:=x;exact Heap.lt_size e
 | own y=>obtain⟨_,e⟩:=x;exact Heap.lt_size e
 | xd fs=>obtain⟨_,⟨_,_,_,e,_⟩,_⟩:=x;exact Heap.lt_size e
 | rng lo hi=>obtain⟨_,_,_,e⟩:=x;exact Heap.lt_size e
 | frz ob u=>obtain⟨e,_⟩:=x;exact Heap.lt_size e
 | tbl ps=>exact Heap.lt_size (show h.get? a=some _ from x)
 | met f y=>exact Heap.lt_size (show h.get? a=some _ from x)
 | ext φ=>obtain⟨_,⟨_,e⟩,_⟩:=x;exact Heap.lt_size e
theorem Paired.mapP{α β:Type}{F G:α->β->Prop}:∀{l₁:List α} {l₂:List β},Paired F l₁ l₂->(∀a b,F a b->G a b)->Paired G l₁ l₂
 | _,_,.nil,_=>.nil
 | _,_,.cons r t,f=>.cons (f _ _ r) (Paired.mapP t f)
theorem cL.stay(x:cL P w H h a o)(k:∀b u,(b=a∨H b=some (.own a))->h.get? b=some u->h'.get? b=some u)
  (ho:∀b,H b=some (.own a)->H' b=some (.own a)) (ht:∀b xs,H b=some (.tup xs)->H' b=some (.tup xs)):cL P w H' h' a o:=by
 induction o with
 | lst xs=>obtain⟨z,its,n,r,e⟩:=x;exact⟨z,its,n,r,k _ _ (.inl rfl) e⟩
 | tup xs=>obtain⟨z,its,r,ob,e,c⟩:=x;exact⟨z,its,r,ob,k _ _ (.inl rfl) e,c⟩
 | dK kvs=>obtain⟨z,y,vs,r,ob,es,ep,e,c⟩:=x;exact⟨z,y,vs,r,ob,es,ep,k _ _ (.inl rfl) e,c⟩
 | dT kvs =>
  obtain⟨z,y,xs,r,ob,es,ep,e,c⟩:=x;exact⟨z,y,xs,Paired.mapP r fun p q z=>⟨z.1,ht _ _ z.2.1,z.2.2⟩,ob,es,ep,k _ _ (.inl rfl) e,c⟩
 | set S n=>obtain⟨ob,es,ep,t,e,c⟩:=x;exact⟨ob,es,ep,t,k _ _ (.inl rfl) e,c⟩
 | ins C dx fs =>
  obtain⟨d,z,ne,e,mA,⟨od,es,ep,e2,c⟩,r⟩:=x;exact⟨ho _ d,z,ne,k _ _ (.inl rfl) e,mA,⟨od,es,ep,k _ _ (.inr d) e2,c⟩,r⟩
 | own y=>obtain⟨ob,e⟩:=x;exact⟨ob,k _ _ (.inl rfl) e⟩
 | xd fs=>obtain⟨mA,⟨od,es,ep,e,c⟩,r⟩:=x;exact⟨mA,⟨od,es,ep,k _ _ (.inl rfl) e,c⟩,r⟩
 | rng lo hi=>obtain⟨t,u,v,e⟩:=x;exact⟨t,u,v,k _ _ (.inl rfl) e⟩
 | frz ob u ih=>obtain⟨e,q⟩:=x;exact⟨k _ _ (.inl rfl) e,ih q⟩
 | tbl ps =>
  have e:h.get? a=some { cls:=.none,data:=.fields ps }:=x;show h'.get? a=some { cls:=.none,data:=.fields ps };exact k a _ (.inl rfl) e
 | met f y =>
  have e:h.get? a=some (W.methodObj (.ref f) (.ref y)):=x;show h'.get? a=some (W.methodObj (.ref f) (.ref y));exact k a _ (.inl rfl) e
 | ext φ=>obtain⟨p,⟨o,e⟩,st⟩:=x;exact⟨st _ _ p fun o q=>k _ _ (.inl rfl) q,⟨o,k _ _ (.inl rfl) e⟩,st⟩
theorem HOk.lt(x:HOk P w H h)(e:H a=some o):a<h.objs.size:=(x a o e).lt
theorem HOk.fresh(x:HOk P w H h)(e:h.objs.size≤a):H a=none:=by
 cases q:H a with
 | none=>rfl
 | some u=>exact absurd (Nat.lt_of_lt_of_le (x.lt q) e) (Nat.lt_irrefl _)
theorem HOk.kept(x:HOk P w H h)(k:∀b u,h.get? b=some u->h'.get? b=some u):HOk P w H h':=fun a o e =>
 (x a o e).stay (fun b u _ q=>k b u q) (fun _ q=>q) fun _ _ q=>q
theorem HOk.laid(x:HOk P w H h)(k:∀b u,h.get? b=some u->h'.get? b=some u)(hp:h.objs.size≤a)(new:cL P w (upd H a o) h' a o):HOk P w (upd H a o) h':=fun b u e=>by
 have hn:=x.fresh hp
 by_cases hb:b=a
 ·subst hb;rw[upd_same]at e;cases e;exact new
 ·rw[bi hb]at e
  exact(x b u e).stay (fun c v _ q=>k c v q) (fun c q=>by rw[bi (aS q hn)];exact q) fun c xs q=>by rw[bi (aS q hn)];exact q
end
def Rd(H:Hp)(a:Addr)(u:HO):Prop:=H a=some u∨∃o,H a=some (.frz o u)
theorem Rd.ok{P:Program}{w:World}{H:Hp}{h:Heap}{a:Addr}{u:HO}(r:Rd H a u)(x:HOk P w H h):cL P w H h a u:=by
 rcases r with r|⟨o,r⟩
 ·exact x a u r
 ·obtain⟨_,q⟩:=x a _ r
  exact q
def Mut:Option HO->Prop
 | some (.lst _)=>True
 | some (.dK _)=>True
 | some (.dT _)=>True
 | some (.set _ _)=>True
 | some (.ins _ _ _)=>True
 | some (.ext _)=>True
 | _=>False
section
variable {P:Program} {w:World} {H:Hp} {h h':Heap} {x e:Addr} {o':HO}
theorem HOk.write(ok:HOk P w H h)(mu:Mut (H x))(he:e=x∨H e=some (.own x))(k:∀b u,b≠e->h.get? b=some u->h'.get? b=some u)(heo:∃u,h'.get? e=some u)
  (new:cL P w (upd H x o') h' x o'):HOk P w (upd H x o') h':=fun b u q=>by
 have nown:∀c y,H c=some (.own y)->c≠x:=fun c y r z=>by subst z;rw[r]at mu;exact mu
 have ntup:∀c xs,H c=some (.tup xs)->c≠x:=fun c xs r z=>by subst z;rw[r]at mu;exact mu
 by_cases hb:b=x
 ·subst hb;rw[upd_same]at q;cases q;exact new
 ·rw[bi hb]at q
  by_cases hbe:b=e
  ·have q':H b=some (.own x):=by
    rcases he with z|z
    ·exact absurd (hbe.trans z) hb
    ·rw[hbe];exact z
   rw[q]at q';cases q';obtain⟨v,hv⟩:=heo;exact⟨v,by rw[hbe];exact hv⟩
  ·refine(ok b u q).stay (fun c v hc r=>k c v ?_ r) (fun c r=>by rw[bi (nown c b r)];exact r) fun c xs r=>by rw[bi (ntup c xs r)];exact r
   rcases hc with rfl|hc
   ·exact hbe
   ·rintro rfl
    rcases he with z|z
    ·exact nown c b hc z
    ·rw[hc]at z;cases z;exact hb rfl
end
structure Un(fs ex:List Addr)(H H':Hp)(h h':Heap):Prop where
 keep:∀b o,h.get? b=some o->H b=none->b∉fs->b∉ex->h'.get? b=some o
 slot:∀b o,h.get? b=some o->H b=none->b∈fs->b∉ex->∃sl,h'.get? b=some { o with slots:=sl }
 free:∀b o,h.get? b=some o->H b=none->b∉ex->H' b=none
 there:∀b o,h.get? b=some o->b∉ex->∃o',h'.get? b=some o'
 tups:∀b xs,H b=some (.tup xs)->H' b=some (.tup xs)
 frzs:∀b o u,H b=some (.frz o u)->H' b=some (.frz o u)
 tbls:∀b ps,H b=some (.tbl ps)->∃more,H' b=some (.tbl (ps++more))
section
variable {fs fs' ex ex':List Addr} {H H1 H2:Hp} {h h1 h2 h':Heap} {a x e:Addr} {o:HO}
theorem Un.any(u:Un fs ex H H1 h h1){b:Addr}{ob:Obj}(q:h.get? b=some ob)(n:H b=none)(hx:b∉ex):∃sl,h1.get? b=some { ob with slots:=sl }:=by
 by_cases hb:b∈fs
 ·exact u.slot b ob q n hb hx
 ·exact⟨ob.slots,u.keep b ob q n hb hx⟩
theorem Un.kept(k:∀b u,h.get? b=some u->h'.get? b=some u):Un fs ex H H h h' :=
 ⟨fun b ob q _ _ _=>k b ob q,fun b ob q _ _ _=>⟨ob.slots,k b ob q⟩,fun _ _ _ n _=>n,fun b ob q _=>⟨ob,k b ob q⟩,fun _ _ q=>q,fun _ _ _ q=>q,fun _ ps q=>⟨#[],by rw[q];simp⟩⟩
theorem Un.refl:Un fs ex H H h h:=Un.kept fun _ _ q=>q
theorem Un.laid(k:∀b u,h.get? b=some u->h'.get? b=some u)(hp:h.objs.size≤a)(hn:H a=none):Un fs ex H (upd H a o) h h' where
 keep:=fun b u q _ _ _=>k b u q
 slot:=fun b u q _ _ _=>⟨u.slots,k b u q⟩
 free:=fun b u q n _=>by rw[bi (Nat.ne_of_lt (Nat.lt_of_lt_of_le (Heap.lt_size q) hp))];exact n
 there:=fun b u q _=>⟨u,k b u q⟩
 tups:=fun b xs q=>by rw[bi (aS q hn)];exact q
 frzs:=fun b u xs q=>by rw[bi (aS q hn)];exact q
 tbls:=fun b ps q=>⟨#[],by rw[bi (aS q hn),q];simp⟩
theorem Un.write(mu:Mut (H x))(he:e=x∨H e=some (.own x))(k:∀b u,b≠e->h.get? b=some u->h'.get? b=some u)(heo:∃u,h'.get? e=some u):Un fs ex H (upd H x o) h h':=by
 have hx:∀b,H b=none->b≠x:=fun b n z=>by subst z;rw[n]at mu;exact mu
 have hb:∀b,H b=none->b≠e:=fun b n z=>by
  subst z;rcases he with r|r
  ·exact hx b n r
  ·rw[n]at r;cases r
 have hm:∀b u,H b=some u->¬Mut (some u)->b≠x:=fun b u q nm z=>by subst z;rw[q]at mu;exact nm mu
 refine⟨fun b u q n _ _=>k b u (hb b n) q,fun b u q n _ _=>⟨u.slots,k b u (hb b n) q⟩,fun b u q n _=>by rw[bi (hx b n)];exact n,fun b u q _=>?_,
  fun b xs q=>by rw[bi (hm b _ q fun z=>z)];exact q,fun b u xs q=>by rw[bi (hm b _ q fun z=>z)];exact q,fun b ps q=>⟨#[],by rw[bi (hm b _ q fun z=>z),q];simp⟩⟩
 by_cases hbe:b=e
 ·subst hbe;exact heo
 ·exact⟨u,k b u hbe q⟩
end
def trk(h:Heap)(H:Hp):List Addr:=(List.range h.objs.size).filter fun a=>(H a).isSome
def mL(h:Heap)(H:Hp):Heap:=W.hideAll h (trk h H)
theorem sR(h:Heap)(H:Hp):(mL h H).objs.size=h.objs.size:=W.hideAll_size _ _
theorem uS{h:Heap}{H:Hp}{b:Addr}{o:Obj}(e:h.get? b=some o)(n:H b=none):(mL h H).get? b=some o :=
 W.hideAll_get _ e fun hm=>by
  have q:(H b).isSome=true:=(List.mem_filter.mp hm).2;rw[n]at q;simp at q
theorem vY{h:Heap}{H:Hp}{b:Addr}{o:Obj}(e:(mL h H).get? b=some o):h.get? b=some o∧H b=none:=by
 have e':h.get? b=some o:=W.of_hideAll (trk h H) e;refine⟨e',?_⟩;cases q:H b with
 | none=>rfl
 | some x =>
  have hm:b∈trk h H:=List.mem_filter.mpr ⟨List.mem_range.mpr (Heap.lt_size e'),by simp[q]⟩;have z:(mL h H).get? b=none:=W.hideAll_none (trk h H) hm;rw[z]at e;cases e
end L2
namespace L2
open PySem PySem.Spec PyProof.Rows
structure Mod(K:W.Frag)(mg:Str->Option Value)(base:Heap):Prop where
 kin:K.In base
 glob:base.Ns mainGlobals mg
 blt:∃mb,base.Ns builtinsNs mb∧∀x:Str,x≠"__name__"->mb x=bootBuiltins x
 nolimit:base.NoLimit
structure Cx where
 prog:Program
 w:World
 K:W.Frag
 mg:Str->Option Value
 base:Heap
 A:Around
 N:List Str
 s₀:Shared
 H₀:Hp
 env:Env
 outer:List Env
 stack:List Env
 ex:List Addr
 fn:Str->Bool
 calm:Bool
 pn:List (Addr×Obj)
 xe:Value->Shared->Prop
def frs(l:List Env):List Addr:=l.filterMap (·.frame)
abbrev Cx.fs(X:Cx):List Addr:=frs X.outer
def Vis(sc:Scope)(x:Str):Prop:=sc.names.lookup x=some .local∨sc.names.lookup x=some .cell∨sc.names.lookup x=some .free
def Loc(sc:Scope)(x:Str):Prop:=sc.names.lookup x=some .local∨sc.names.lookup x=some .cell
def zO(env:Env)(h:Heap)(m:Str->Option Value)(x:Str)(u:Value):Prop :=
 (env.kindOf x=some .local∧m x=some u)∨((env.kindOf x=some .cell∨env.kindOf x=some .free)∧∃c,env.cells.lookup x=some c∧h.IsCell c (some u))
structure Cx.Ok(X:Cx):Prop where
 mod:Mod X.K X.mg X.base
 kind:X.env.scope.kind = .function
 glob:X.env.globals=mainGlobals
 blt:X.env.builtins=builtinsNs
 above:X.s₀.heap.objs.size≤X.env.locals
 inj:∀x y c,X.env.cells.lookup x=some c->X.env.cells.lookup y=some c->x=y
 has:∀x,(X.env.kindOf x=some .cell∨X.env.kindOf x=some .free)->∃c,X.env.cells.lookup x=some c
 cab:∀x c,X.fn x=true->X.env.cells.lookup x=some c->X.s₀.heap.objs.size≤c
 hd:X.calm=true->X.A.handled=none
 frames:X.A.frames=some X.stack
 stk:X.stack=X.outer∨(X.stack=X.env::X.outer∧X.env.frame=some X.env.locals)
 exf:∀b∈X.ex,b≠X.env.locals∧∀x c,X.env.cells.lookup x=some c->c≠b
 bs:∀b o,X.base.get? b=some o->X.s₀.heap.get? b=some o∧X.H₀ b=none
 bsz:X.base.objs.size≤X.s₀.heap.objs.size
 noex:∀b o,X.base.get? b=some o->b∉X.ex
 exfs:∀b∈X.ex,b∉X.fs
 funs:X.s₀.heap.FunFrames X.base X.outer
 frf:∀b∈X.fs,X.H₀ b=none
structure zT(X:Cx)(pins:List (Addr×Obj))(σ:List (Option V))(H:Hp)(s:Shared):Prop where
 ok:X.Ok
 os:s.os=X.s₀.os
 bare:AllBare s.gens
 base:Un X.fs X.ex X.H₀ H X.s₀.heap s.heap
 loc:∃m,s.heap.Ns X.env.locals m∧∀(i:Nat) (x:Str) (v:V),X.N[i]? = some x->σ[i]? = some (some v)->Vis X.env.scope x->∃u,bO v u∧zO X.env s.heap m x u
 cell:∀x c,X.env.cells.lookup x=some c->∃v,s.heap.IsCell c v
 free:H X.env.locals=none
 freeC:∀x c,X.env.cells.lookup x=some c->H c=none
 pin:∀p∈X.pn++pins,s.heap.get? p.1=some p.2∧H p.1=none∧p.1≠X.env.locals∧p.1∉X.fs∧∀v,p.2.data≠.cell v
 hok:HOk X.prog X.w H s.heap
 len:σ.length=X.N.length
section
variable {X:Cx} {pins:List (Addr×Obj)} {σ:List (Option V)} {H H':Hp} {s:Shared} {h':Heap}
theorem Cx.Ok.nofr(ok:X.Ok){b:Addr}{o:Obj}(e:X.base.get? b=some o):b∉X.fs:=fun hb=>by
 have:=(ok.funs.mem hb).1;rw[e]at this;cases this
theorem zT.bs(I:zT X pins σ H s):∀b o,X.base.get? b=some o->s.heap.get? b=some o∧H b=none:=fun b o e =>
 ⟨I.base.keep b o (I.ok.bs b o e).1 (I.ok.bs b o e).2 (I.ok.nofr e) (I.ok.noex b o e),I.base.free b o (I.ok.bs b o e).1 (I.ok.bs b o e).2 (I.ok.noex b o e)⟩
theorem zT.bk(I:zT X pins σ H s):∀b o,X.base.get? b=some o->s.heap.get? b=some o:=fun b o e=>(I.bs b o e).1
theorem zT.mod(I:zT X pins σ H s):Mod X.K X.mg X.base:=I.ok.mod
theorem zT.kIn(I:zT X pins σ H s):X.K.In s.heap:=I.ok.mod.kin.keeps I.bk
theorem zT.lt(I:zT X pins σ H s):X.env.locals<s.heap.objs.size:=let ⟨_,hn,_⟩:=I.loc;hn.lt
theorem zT.sz(I:zT X pins σ H s):X.s₀.heap.objs.size≤s.heap.objs.size:=Nat.le_trans I.ok.above (Nat.le_of_lt I.lt)
theorem zT.nofs(I:zT X pins σ H s){a:Addr}(h:s.heap.objs.size≤a):a∉X.fs:=fun hb=>by
 obtain⟨_,o,ho,_⟩:=I.ok.funs.mem hb;exact absurd (Nat.lt_of_lt_of_le (Heap.lt_size ho) (Nat.le_trans I.sz h)) (Nat.lt_irrefl _)
theorem zT.cne(I:zT X pins σ H s):∀x c,X.env.cells.lookup x=some c->c≠X.env.locals:=fun x c e z=>by
 obtain⟨v,o,ho,hd⟩:=I.cell x c e;obtain⟨m,⟨o',es,ep,ho',hd',_⟩,_⟩:=I.loc;rw[z,ho']at ho;cases ho;rw[hd']at hd;cases hd
theorem zT.funs(I:zT X pins σ H s):s.heap.FunFrames X.base X.outer:=by
 have all:∀(l:List Env),(∀b∈frs l,b∈X.fs)->X.s₀.heap.FunFrames X.base l->s.heap.FunFrames X.base l:=by
  intro l
  induction l with
  | nil=>intro _ _;trivial
  | cons env r ih =>
   intro hs hl;obtain⟨hk,⟨L,o,hf,hn,ho,hd⟩,hr⟩:=hl;have hL:L∈X.fs:=hs L (by unfold frs;rw[List.filterMap_cons,hf];exact List.mem_cons_self);obtain⟨sl,e⟩:=I.base.slot L o ho (I.ok.frf L hL) hL fun z=>I.ok.exfs L z hL;exact⟨hk,⟨L,_,hf,hn,e,hd⟩,ih (fun b hb=>hs b (by unfold frs;rw[List.filterMap_cons,hf];exact List.mem_cons_of_mem _ hb)) hr⟩
 exact all X.outer (fun _ hb=>hb) I.ok.funs
theorem zT.stack(I:zT X pins σ H s):s.heap.FunFrames X.base X.stack:=by
 rcases I.ok.stk with e|⟨e,hf⟩
 ·rw[e];exact I.funs
 ·rw[e]
  obtain⟨m,hn,_⟩:=I.loc;refine .cons (by rw[I.ok.kind];decide) hf hn ?_ I.funs;exact Heap.get?_none_of_le (Nat.le_trans I.ok.bsz I.ok.above)
theorem zT.stkSub(I:zT X pins σ H s):∀b∈frs X.stack,b∈X.env.locals::X.fs:=fun b hb=>by
 rcases I.ok.stk with e|⟨e,hf⟩
 ·rw[e]at hb;exact List.mem_cons_of_mem _ hb
 ·rw[e]at hb
  unfold frs at hb;rw[List.filterMap_cons,hf]at hb;exact hb
theorem zT.stkFree(I:zT X pins σ H s):∀b∈frs X.stack,H b=none:=fun b hb=>by
 rcases List.mem_cons.mp (I.stkSub b hb) with e|hb
 ·rw[e];exact I.free
 ·obtain⟨_,o,ho,_⟩:=I.ok.funs.mem hb
  exact I.base.free b o ho (I.ok.frf b hb) fun z=>I.ok.exfs b z hb
theorem zT.step{g':Array GenState}{t':Nat}{d':Drawn}{ch:List Addr}(I:zT X pins σ H s)
  (hch:∀b∈ch,(b∈X.ex∨X.s₀.heap.objs.size≤b)∧b≠X.env.locals∧(∀x c,X.env.cells.lookup x=some c->c≠b)∧∀p∈X.pn++pins,p.1≠b)
  (keep:∀b o,b≠X.env.locals->b∉X.fs->b∉ch->s.heap.get? b=some o->H b=none->h'.get? b=some o)
  (slot:∀b o,b≠X.env.locals->b∈X.fs->b∉ch->s.heap.get? b=some o->H b=none->∃sl,h'.get? b=some { o with slots:=sl }) (free:∀b o,b∉ch->s.heap.get? b=some o->H b=none->H' b=none)
  (there:∀b o,b∉ch->s.heap.get? b=some o->∃o',h'.get? b=some o')
  (tups:∀b xs,H b=some (.tup xs)->H' b=some (.tup xs)) (frzs:∀b o u,H b=some (.frz o u)->H' b=some (.frz o u)) (tbls:∀b ps,H b=some (.tbl ps)->∃more,H' b=some (.tbl (ps++more)))
  (ns:∀m,s.heap.Ns X.env.locals m->h'.Ns X.env.locals m) (hok:HOk X.prog X.w H' h') (hg:AllBare g') :
  zT X pins σ H' { s with heap:=h',gens:=g',drawn:=d',toks:=t' }:=by
 have neL:∀b o,X.s₀.heap.get? b=some o->b≠X.env.locals:=fun b o e=>Nat.ne_of_lt (Nat.lt_of_lt_of_le (Heap.lt_size e) I.ok.above);have neC:∀b o,X.s₀.heap.get? b=some o->b∉X.ex->b∉ch:=fun b o e hx hb=>by
  rcases(hch b hb).1 with z|z
  ·exact hx z
  ·exact absurd (Nat.lt_of_lt_of_le (Heap.lt_size e) z) (Nat.lt_irrefl _)
 have cellK:∀x c,X.env.cells.lookup x=some c->∀v,s.heap.IsCell c v->h'.IsCell c v:=fun x c e v ⟨o,ho,hd⟩=>by
  have nch:c∉ch:=fun z=>(hch c z).2.2.1 x c e rfl
  by_cases hc:c∈X.fs
  ·obtain⟨sl,q⟩:=slot c o (I.cne x c e) hc nch ho (I.freeC x c e)
   exact⟨_,q,hd⟩
  ·exact⟨o,keep c o (I.cne x c e) hc nch ho (I.freeC x c e),hd⟩
 refine⟨I.ok,I.os,hg,⟨fun b o e n hb hx=>?_,fun b o e n hb hx=>?_,fun b o e n hx=>?_,fun b o e hx=>?_,fun b xs e=>tups b xs (I.base.tups b xs e),fun b o xs e=>frzs b o xs (I.base.frzs b o xs e),fun b ps e=>?_⟩,?_,fun x c e=>?_,?_,fun x c e=>?_,fun p hp=>?_,hok,I.len⟩
 ·exact keep b o (neL b o e) hb (neC b o e hx) (I.base.keep b o e n hb hx) (I.base.free b o e n hx)
 ·obtain⟨sl,e1⟩:=I.base.slot b o e n hb hx
  obtain⟨sl',e2⟩:=slot b _ (neL b o e) hb (neC b o e hx) e1 (I.base.free b o e n hx);exact⟨sl',e2⟩
 ·obtain⟨o',e1⟩:=I.base.there b o e hx
  exact free b o' (neC b o e hx) e1 (I.base.free b o e n hx)
 ·obtain⟨o',e1⟩:=I.base.there b o e hx
  exact there b o' (neC b o e hx) e1
 ·obtain⟨m1,e1⟩:=I.base.tbls b ps e
  obtain⟨m2,e2⟩:=tbls b _ e1;exact⟨m1++m2,by rw[e2,Array.append_assoc]⟩
 ·obtain⟨m,hn,hl⟩:=I.loc
  refine⟨m,ns m hn,fun i x v e1 e2 e3=>?_⟩;obtain⟨u,r,l⟩:=hl i x v e1 e2 e3;refine⟨u,r,?_⟩;rcases l with l|⟨k,c,e,z⟩
  ·exact .inl l
  ·exact .inr ⟨k,c,e,cellK x c e _ z⟩
 ·obtain⟨v,z⟩:=I.cell x c e
  exact⟨v,cellK x c e v z⟩
 ·obtain⟨m,⟨o,_,_,ho,_⟩,_⟩:=I.loc
  exact free _ o (fun z=>(hch _ z).2.1 rfl) ho I.free
 ·obtain⟨v,o,ho,hd⟩:=I.cell x c e
  exact free c o (fun z=>(hch c z).2.2.1 x c e rfl) ho (I.freeC x c e)
 ·obtain⟨e,n,ne,nf,d⟩:=I.pin p hp
  have nch:p.1∉ch:=fun z=>(hch p.1 z).2.2.2 p hp rfl;exact⟨keep p.1 p.2 ne nf nch e n,free p.1 p.2 nch e n,ne,nf,d⟩
theorem zT.un{t':Nat}(I:zT X pins σ H s)(u:Un X.fs [] H H' s.heap h')(hok:HOk X.prog X.w H' h'):zT X pins σ H' { s with heap:=h',toks:=t' }:=by
 obtain⟨m,⟨o,es,ep,ho,r⟩,_⟩:=id I.loc;obtain⟨sl,hL⟩:=u.any ho I.free (by simp);exact I.step (g':=s.gens) (d':=s.drawn) (ch:=[]) (fun _ z=>nomatch z) (fun b o _ hb _ e n=>u.keep b o e n hb (by simp)) (fun b o _ hb _ e n=>u.slot b o e n hb (by simp)) (fun b o _ e n=>u.free b o e n (by simp)) (fun b o _ e=>u.there b o e (by simp)) u.tups u.frzs u.tbls (fun m' hm=>by
  obtain⟨o',es',ep',ho',r'⟩:=hm;rw[ho]at ho';cases ho';exact⟨_,es',ep',hL,r'⟩) hok I.bare
theorem zT.call{g':Array GenState}{t':Nat}{d':Drawn}{ch:List Addr}(I:zT X pins σ H s)(u:Un (frs X.stack) ch H H' s.heap h')(hok:HOk X.prog X.w H' h')(hg:AllBare g')
  (hch:∀b∈ch,(b∈X.ex∨X.s₀.heap.objs.size≤b)∧b≠X.env.locals∧(∀x c,X.env.cells.lookup x=some c->c≠b)∧∀p∈X.pn++pins,p.1≠b) :
  zT X pins σ H' { s with heap:=h',gens:=g',drawn:=d',toks:=t' }:=by
 obtain⟨m,⟨o,es,ep,ho,r⟩,_⟩:=id I.loc;obtain⟨sl,hL⟩:=u.any ho I.free fun z=>(hch _ z).2.1 rfl;exact I.step (ch:=ch) hch (fun b o hL hb hc e n=>u.keep b o e n (fun z=>(List.mem_cons.mp (I.stkSub b z)).elim hL hb) hc) (fun b o _ _ hc e n=>u.any e n hc) (fun b o hc e n=>u.free b o e n hc) (fun b o hc e=>u.there b o e hc) u.tups u.frzs u.tbls (fun m' hm=>by
  obtain⟨o',es',ep',ho',r'⟩:=hm;rw[ho]at ho';cases ho';exact⟨_,es',ep',hL,r'⟩) hok hg
theorem zT.turned{t':Nat}{it:Addr}(I:zT X pins σ H s)(k:∀b o,b≠it->s.heap.get? b=some o->h'.get? b=some o)(hn:H it=none)(hL:it≠X.env.locals)
  (h1:it∈X.ex∨X.s₀.heap.objs.size≤it) (h2:∀x c,X.env.cells.lookup x=some c->c≠it) (h3:∀p∈X.pn++pins,p.1≠it):zT X pins σ H { s with heap:=h',toks:=t' }:=by
 have nit:∀b u,H b=some u->b≠it:=fun b u e z=>by rw[z,hn]at e;cases e
 refine I.step (g':=s.gens) (d':=s.drawn) (ch:=[it]) (fun b hb=>?_) (fun b o _ _ hc e _=>k b o (fun z=>hc (by simp[z])) e) (fun b o _ _ hc e _=>⟨o.slots,k b o (fun z=>hc (by simp[z])) e⟩) (fun _ _ _ _ n=>n)
  (fun b o hc e=>⟨o,k b o (fun z=>hc (by simp[z])) e⟩) (fun _ _ e=>e) (fun _ _ _ e=>e) (fun b ps e=>⟨#[],by rw[e];simp⟩) (fun m hm=>?_) (fun b u e=>?_) I.bare
 ·have e:b=it:=by simpa using hb
  subst e;exact⟨h1,hL,h2,h3⟩
 ·obtain⟨o,es,ep,ho,r⟩:=hm
  exact⟨o,es,ep,k _ o (Ne.symm hL) ho,r⟩
 ·refine(I.hok b u e).stay (fun c v hc q=>k c v ?_ q) (fun _ q=>q) fun _ _ q=>q
  rcases hc with z|z
  ·rw[z];exact nit b u e
  ·exact nit c _ z
theorem zT.tok(I:zT X pins σ H s)(t:Nat):zT X pins σ H { s with toks:=t }:=I.un (h':=s.heap) (t':=t) Un.refl I.hok
theorem zT.kept{t':Nat}(I:zT X pins σ H s)(k:∀b u,s.heap.get? b=some u->h'.get? b=some u):zT X pins σ H { s with heap:=h',toks:=t' }:=I.un (Un.kept k) (I.hok.kept k)
theorem zT.laid{a:Addr}{o:HO}{t':Nat}(I:zT X pins σ H s)(k:∀b u,s.heap.get? b=some u->h'.get? b=some u)(hp:s.heap.objs.size≤a)(new:cL X.prog X.w (upd H a o) h' a o) :
  zT X pins σ (upd H a o) { s with heap:=h',toks:=t' }:=I.un (Un.laid k hp (I.hok.fresh hp)) (I.hok.laid k hp new)
theorem zT.write{x e:Addr}{o:HO}{t':Nat}(I:zT X pins σ H s)(mu:Mut (H x))(he:e=x∨H e=some (.own x))(k:∀b u,b≠e->s.heap.get? b=some u->h'.get? b=some u)(heo:∃u,h'.get? e=some u)
  (new:cL X.prog X.w (upd H x o) h' x o):zT X pins σ (upd H x o) { s with heap:=h',toks:=t' }:=I.un (Un.write mu he k heo) (I.hok.write mu he k heo new)
theorem zT.pins_of{pins':List (Addr×Obj)}(I:zT X pins σ H s)(h:∀p∈pins',s.heap.get? p.1=some p.2∧H p.1=none∧p.1≠X.env.locals∧p.1∉X.fs∧∀v,p.2.data≠.cell v):zT X pins' σ H s :=
 ⟨I.ok,I.os,I.bare,I.base,I.loc,I.cell,I.free,I.freeC,fun p hp=>(List.mem_append.mp hp).elim (fun z=>I.pin p (List.mem_append_left _ z)) (h p),I.hok,I.len⟩
theorem j0{N:List Str}(hN:N.Nodup){i j:Nat}{x:Str}(a:N[i]? = some x)(b:N[j]? = some x):i=j:=by
 obtain⟨h1,e1⟩:=List.getElem?_eq_some_iff.mp a;obtain⟨h2,e2⟩:=List.getElem?_eq_some_iff.mp b;exact(List.getElem_inj hN).mp (e1.trans e2.symm)
theorem iO{M:Model}{A:Around}{E:Value->Shared->Prop}{i:Nat}{x:Str}{v:V}{u:Value}{Q:Unit->Shared->Prop}(I:zT X pins σ H s)(hN:X.N.Nodup)(hi:X.N[i]? = some x)(hx:Loc X.env.scope x)(r:bO v u)
  (h:∀s',zT X pins (σ.set i (some v)) H s'->(∃a,Heap.SameBut a s.heap s'.heap∧(a=X.env.locals∨X.env.cells.lookup x=some a))->Q () s') (hf:X.fn x=true∨X.env.scope.names.lookup x=some .local:=by first|exact .inl rfl|exact .inr rfl|assumption):wpAny M A (storeName X.env x u) Q E s:=by
 obtain⟨m,hn,hl⟩:=id I.loc;have hcls:(X.env.scope.kind == .class || (X.env.scope.kind == .module && X.env.locals != X.env.globals))=false:=by rw[I.ok.kind];rfl
 have hiσ:i<σ.length:=by rw[I.len];exact(List.getElem?_eq_some_iff.mp hi).1
 have cne:=I.cne;have tracked:∀{a:Addr} {h':Heap},(∃o,s.heap.get? a=some o∧H a=none)->Heap.SameBut a s.heap h'->HOk X.prog X.w H h':=fun {a h'} ha hs b ob e=>by
  obtain⟨_,_,hfree⟩:=ha;refine(I.hok b ob e).stay (fun c w' hc q=>(hs.2 c ?_).trans q) (fun _ q=>q) fun _ _ q=>q;rintro rfl;rcases hc with rfl|hc
  ·rw[hfree]at e;cases e
  ·rw[hfree]at hc;cases hc
 rcases hx with hk|hk
 ·refine wpAny_storeName_local hk hn (fun h' hn' hs=>?_) hcls
  obtain⟨oL,_,_,hoL,_⟩:=id hn;refine h _ ⟨I.ok,I.os,I.bare,⟨fun b o e n hb hx=>?_,fun b o e n hb hx=>?_,I.base.free,fun b o e hx=>?_,I.base.tups,I.base.frzs,I.base.tbls⟩,⟨_,hn',fun j y v' e1 e2 e3=>?_⟩,fun y c e=>?_,I.free,I.freeC,fun p hp=>?_,tracked ⟨oL,hoL,I.free⟩ hs,by simpa using I.len⟩ ⟨_,hs,.inl rfl⟩
  ·exact(hs.2 b (Nat.ne_of_lt (Nat.lt_of_lt_of_le (Heap.lt_size e) I.ok.above))).trans (I.base.keep b o e n hb hx)
  ·obtain⟨sl,e1⟩:=I.base.slot b o e n hb hx
   exact⟨sl,(hs.2 b (Nat.ne_of_lt (Nat.lt_of_lt_of_le (Heap.lt_size e) I.ok.above))).trans e1⟩
  ·obtain⟨o',e1⟩:=I.base.there b o e hx
   exact⟨o',(hs.2 b (Nat.ne_of_lt (Nat.lt_of_lt_of_le (Heap.lt_size e) I.ok.above))).trans e1⟩
  ·by_cases hj:j=i
   ·subst hj
    rw[hi]at e1;cases e1;rw[List.getElem?_set_self hiσ]at e2;cases e2;exact⟨u,r,.inl ⟨hk,by simp⟩⟩
   ·rw[List.getElem?_set_ne (Ne.symm hj)]at e2
    obtain⟨u',r',q⟩:=hl j y v' e1 e2 e3;refine⟨u',r',?_⟩;rcases q with⟨k,e⟩|⟨k,c,e,z⟩
    ·refine .inl ⟨k,?_⟩
     have:y≠x:=fun e=>hj (j0 hN e1 (e▸hi));simp[this,e]
    ·exact .inr ⟨k,c,e,z.sameBut hs (cne y c e)⟩
  ·obtain⟨w',z⟩:=I.cell y c e
   exact⟨w',z.sameBut hs (cne y c e)⟩
  ·obtain⟨e,n,ne,nf,d⟩:=I.pin p hp
   exact⟨(hs.2 p.1 ne).trans e,n,ne,nf,d⟩
 ·have hfn:X.fn x=true:=by
   rcases hf with z|z
   ·exact z
   ·rw[z]at hk;cases hk
  obtain⟨c,hc⟩:=I.ok.has x (.inl hk);obtain⟨w',z⟩:=I.cell x c hc;refine wpAny_storeName_cell I.ok.kind hk hc z (fun h' hc' hs=>?_);obtain⟨oc,hoc,hocd⟩:=id z;refine h { s with heap:=h' } ⟨I.ok,I.os,I.bare,⟨fun b o e n hb hx=>?_,fun b o e n hb hx=>?_,I.base.free,fun b o e hx=>?_,I.base.tups,I.base.frzs,I.base.tbls⟩,⟨m,hn.sameBut hs (Ne.symm (cne x c hc)),fun j y v' e1 e2 e3=>?_⟩,fun y c' e=>?_,I.free,I.freeC,fun p hp=>?_,tracked ⟨oc,hoc,I.freeC x c hc⟩ hs,by simpa using I.len⟩ ⟨c,hs,.inr hc⟩
  ·exact(hs.2 b (Nat.ne_of_lt (Nat.lt_of_lt_of_le (Heap.lt_size e) (I.ok.cab x c hfn hc)))).trans (I.base.keep b o e n hb hx)
  ·obtain⟨sl,e1⟩:=I.base.slot b o e n hb hx
   exact⟨sl,(hs.2 b (Nat.ne_of_lt (Nat.lt_of_lt_of_le (Heap.lt_size e) (I.ok.cab x c hfn hc)))).trans e1⟩
  ·obtain⟨o',e1⟩:=I.base.there b o e hx
   exact⟨o',(hs.2 b (Nat.ne_of_lt (Nat.lt_of_lt_of_le (Heap.lt_size e) (I.ok.cab x c hfn hc)))).trans e1⟩
  ·by_cases hj:j=i
   ·subst hj
    rw[hi]at e1;cases e1;rw[List.getElem?_set_self hiσ]at e2;cases e2;exact⟨u,r,.inr ⟨.inl hk,c,hc,hc'⟩⟩
   ·rw[List.getElem?_set_ne (Ne.symm hj)]at e2
    obtain⟨u',r',q⟩:=hl j y v' e1 e2 e3;refine⟨u',r',?_⟩;rcases q with q|⟨k,c',e,z'⟩
    ·exact .inl q
    ·refine .inr ⟨k,c',e,z'.sameBut hs ?_⟩
     rintro rfl;exact hj (j0 hN e1 (I.ok.inj _ _ _ e hc▸hi))
  ·by_cases hcc:c'=c
   ·subst hcc;exact⟨_,hc'⟩
   ·obtain⟨w2,z2⟩:=I.cell y c' e
    exact⟨w2,z2.sameBut hs hcc⟩
  ·obtain⟨e,n,ne,nf,d⟩:=I.pin p hp
   refine⟨(hs.2 p.1 ?_).trans e,n,ne,nf,d⟩;intro q;rw[q,hoc]at e;have q':oc=p.2:=Option.some.inj e;exact d w' (by rw[<- q'];exact hocd)
theorem fc{M:Model}{A:Around}{E:Value->Shared->Prop}{i:Nat}{x:Str}{v:V}{u:Value}{Q:Unit->Shared->Prop}(I:zT X pins σ H s)(hN:X.N.Nodup)(hi:X.N[i]? = some x)(hx:Loc X.env.scope x)(r:bO v u)
  (h:∀s',zT X pins (σ.set i (some v)) H s'->Q () s') (hf:X.fn x=true∨X.env.scope.names.lookup x=some .local:=by first|exact .inl rfl|exact .inr rfl|assumption):wpAny M A (storeName X.env x u) Q E s :=
 iO I hN hi hx r (fun s' I' _=>h s' I') hf
theorem zT.call'{s':Shared}{ch:List Addr}(I:zT X pins σ H s)(ho:s'.os=s.os)(u:Un (frs X.stack) ch H H' s.heap s'.heap)(hok:HOk X.prog X.w H' s'.heap)(hg:AllBare s'.gens)
  (hch:∀b∈ch,(b∈X.ex∨X.s₀.heap.objs.size≤b)∧b≠X.env.locals∧(∀x c,X.env.cells.lookup x=some c->c≠b)∧∀p∈X.pn++pins,p.1≠b):zT X pins σ H' s':=by
 obtain⟨h',g',d',t',o'⟩:=s';have e:o'=s.os:=ho;subst e;exact I.call (g':=g') (t':=t') (d':=d') u hok hg hch
end
abbrev XK:=Value->Option Addr->Hp->Prop
abbrev St:=List (Option V)
abbrev VK:=V->Hp->Prop
abbrev TE:=St->Hp->VK->Prop
abbrev TT:=St->Hp->(Bool->Hp->Prop)->Prop
abbrev TA:=St->Hp->(List V->Hp->Prop)->Prop
structure ee where
 nx:St->Hp->Prop
 rt:VK
 bk:St->Hp->Prop:=fun _ _=>False
 ct:St->Hp->Prop:=fun _ _=>False
abbrev TS:=ee->St->Hp->Prop
def EP(X:Cx)(pins:List (Addr×Obj))(σ:St)(Q:VK)(u:Value)(s':Shared):Prop:=∃v H',zT X pins σ H' s'∧bO v u∧Q v H'
def TP(X:Cx)(pins:List (Addr×Obj))(σ:St)(Q:Bool->Hp->Prop)(b:Bool)(s':Shared):Prop:=∃H',zT X pins σ H' s'∧Q b H'
def AP(X:Cx)(pins:List (Addr×Obj))(σ:St)(Q:List V->Hp->Prop)(us:List Value)(s':Shared):Prop:=∃vs H',zT X pins σ H' s'∧aO vs us∧Q vs H'
def SP(X:Cx)(pins:List (Addr×Obj))(D:ee)(f:Flow)(s':Shared):Prop :=
 match f with
 | .next=>∃σ' H',zT X pins σ' H' s'∧D.nx σ' H'
 | .brk=>∃σ' H',zT X pins σ' H' s'∧D.bk σ' H'
 | .cont=>∃σ' H',zT X pins σ' H' s'∧D.ct σ' H'
 | .ret u=>∃v σ' H',zT X pins σ' H' s'∧bO v u∧D.rt v H'
def PE(X:Cx)(e:Expr)(t:TE):Prop :=
 ∀(pins:List (Addr×Obj)) (s:Shared) (σ:St) (H:Hp) (Q:VK),zT X pins σ H s->t σ H Q->wpAny (model X.prog X.w) X.A (eval e X.env) (EP X pins σ Q) X.xe s
def PT(X:Cx)(e:Expr)(t:TT):Prop :=
 ∀(pins:List (Addr×Obj)) (s:Shared) (σ:St) (H:Hp) (Q:Bool->Hp->Prop),zT X pins σ H s->t σ H Q->wpAny (model X.prog X.w) X.A (isTrue e X.env (eval e X.env)) (TP X pins σ Q) X.xe s
def PW(X:Cx)(e:Expr)(t:TT):Prop :=
 ∀(whole:Sem Value) (pins:List (Addr×Obj)) (s:Shared) (σ:St) (H:Hp) (Q:Bool->Hp->Prop),zT X pins σ H s->t σ H Q->wpAny (model X.prog X.w) X.A (isTrue e X.env whole) (TP X pins σ Q) X.xe s
theorem PW.pt{X:Cx}{e:Expr}{t:TT}(h:PW X e t):PT X e t:=h _
def PA(X:Cx)(es:List Expr)(t:TA):Prop :=
 ∀(pos:Pos) (pins:List (Addr×Obj)) (s:Shared) (σ:St) (H:Hp) (Q:List V->Hp->Prop),zT X pins σ H s->t σ H Q->wpAny (model X.prog X.w) X.A (spliced (backTo pos (starEach es X.env))) (AP X pins σ Q) X.xe s
def PS(X:Cx)(st:Stmt)(t:TS):Prop :=
 ∀(pins:List (Addr×Obj)) (s:Shared) (σ:St) (H:Hp) (D:ee),zT X pins σ H s->t D σ H->wpAny (model X.prog X.w) X.A (exec st X.env) (SP X pins D) X.xe s
def PSs(X:Cx)(st:List Stmt)(t:TS):Prop :=
 ∀(pins:List (Addr×Obj)) (s:Shared) (σ:St) (H:Hp) (D:ee),zT X pins σ H s->t D σ H->wpAny (model X.prog X.w) X.A (execs st X.env) (SP X pins D) X.xe s
theorem thn{α:Type}{t:Sem α}{Q Q':α->Shared->Prop}{M:Model}{A:Around}{E:Value->Shared->Prop}{s:Shared}(h:wpAny M A t Q E s)(hQ:∀a s,Q a s->Q' a s):wpAny M A t Q' E s:=wpAny_mono h hQ fun _ _ x=>x
end L2
namespace L2
open PySem PySem.Spec PyProof.Rows
section
variable {X:Cx}
inductive CK (i:Nat) (σ:St) (H:Hp) (Q:VK):Prop
 | mk (v:V) (e:σ[i]? = some (some v)) (q:Q v H):CK i σ H Q
def tC(v:V):TE:=fun _ H Q=>Q v H
theorem xJ{i:Nat}{x:Str}{pos:Pos}(hN:X.N[i]? = some x)(hv:Vis X.env.scope x)(hd:(x == ("__debug__" : Str))=false:=by decide)(hcd:(x == ("__classdict__" : Str))=false:=by decide):PE X (.Name x pos) (CK i):=by
 intro pins s σ H Q I h;obtain⟨v,e,h⟩:=h;obtain⟨m,hn,hl⟩:=I.loc;obtain⟨u,r,l⟩:=hl i x v hN e hv;have fin:EP X pins σ Q u s:=⟨v,H,I,r,h⟩;rcases l with⟨hk,hm⟩|⟨hk,c,hc,hcell⟩
 ·exact wpAny_Name (wpAny_loadName_local I.ok.kind hk hn hm fin) hd
 ·rcases hk with hk|hk
  ·exact wpAny_Name (wpAny_loadName_cell I.ok.kind hk hc hcell fin) hd
  ·exact wpAny_Name (wpAny_loadName_free I.ok.kind hk hc hcell fin hcd) hd
theorem ac{i j pos}:PE X (.Constant (.int i) j pos) (tC (.int i)):=fun _ _ _ H _ I h=>wpAny_Constant_int ⟨.int i,H,I.tok _,⟨_,rfl⟩,h⟩
theorem bW{b j pos}:PE X (.Constant (.bool b) j pos) (tC (.bl b)):=fun _ _ _ H _ I h=>Constant_bool ⟨.bl b,H,I,rfl,h⟩
theorem xK{j pos}:PE X (.Constant .none j pos) (tC .non):=fun _ _ _ H _ I h=>Constant_none ⟨.non,H,I,rfl,h⟩
theorem aE{x j pos}:PE X (.Constant (.str x) j pos) (tC (.str x)):=fun _ _ _ H _ I h=>Calls.Constant_str ⟨.str x,H,I.tok _,⟨_,rfl⟩,h⟩
def Gl(X:Cx)(x:Str):Prop:=X.env.kindOf x=some .globalImplicit
theorem iw{E:Value->Shared->Prop}{pins:List (Addr×Obj)}{s:Shared}{σ:St}{H:Hp}{x:Str}{u:Value}{pos:Pos}{Q:Value->Shared->Prop}(I:zT X pins σ H s)(hg:Gl X x)(hm:X.mg x=some u)(h:Q u s)
  (hd:(x == ("__debug__" : Str))=false:=by decide):wpAny (model X.prog X.w) X.A (eval (.Name x pos) X.env) Q E s :=
 Calls.Name_function_global I.ok.kind hg (Calls.loadGlobal_global (by rw[I.ok.glob];exact I.mod.glob.keeps I.bk) hm h) hd
theorem fW{E:Value->Shared->Prop}{pins:List (Addr×Obj)}{s:Shared}{σ:St}{H:Hp}{x:Str}{u:Value}{pos:Pos}{Q:Value->Shared->Prop}(I:zT X pins σ H s)(hg:Gl X x)(hm:X.mg x=none)(hv:bootBuiltins x=some u)(h:Q u s)
  (hn:x≠"__name__":=by decide) (hd:(x == ("__debug__" : Str))=false:=by decide):wpAny (model X.prog X.w) X.A (eval (.Name x pos) X.env) Q E s:=by
 obtain⟨mb,h1,h2⟩:=I.mod.blt;exact Calls.Name_function_global I.ok.kind hg (Calls.loadGlobal_builtin (by rw[I.ok.glob];exact I.mod.glob.keeps I.bk) hm (by rw[I.ok.blt];exact h1.keeps I.bk) ((h2 x hn).trans hv) h) hd
theorem cC{x:Str}{v:V}{u:Value}{pos:Pos}(hg:Gl X x)(hm:X.mg x=some u)(r:bO v u)(hd:(x == ("__debug__" : Str))=false:=by decide):PE X (.Name x pos) (tC v) :=
 fun _ _ _ H _ I h=>iw I hg hm ⟨v,H,I,r,h⟩ hd
theorem vT{x:Str}{v:V}{u:Value}{pos:Pos}(hg:Gl X x)(hm:X.mg x=none)(hv:bootBuiltins x=some u)(r:bO v u)(hn:x≠"__name__":=by decide)(hd:(x == ("__debug__" : Str))=false:=by decide):PE X (.Name x pos) (tC v) :=
 fun _ _ _ H _ I h=>fW I hg hm hv ⟨v,H,I,r,h⟩ hn hd
variable {a b:Expr} {ta tb:TE} {pos:Pos}
def tB(t:TE):TT:=fun σ H Q=>t σ H fun x H1=>∃c,x = .bl c∧Q c H1
theorem aM{e:Expr}{t:TE}(h:PE X e t)(he:∀whole,isTrue e X.env whole=(do let v <- whole;standAt e.pos;holding [v] (truthy v)):=by intro _;rfl):PT X e (tB t):=by
 intro pins s σ H Q I hw;refine isTrue_plain (thn (h pins s σ H _ I hw) fun v s1 ⟨x,H1,I1,r1,q1⟩=>?_) (he _);obtain⟨d,rfl,q⟩:=q1;cases r1;exact wpAny_truthy_bool ⟨H1,I1,q⟩
variable {tA tB':TT} {rest:List Expr}
def zw(t u:TT):TT:=fun σ H Q=>t σ H fun c H1=>if c=true then u σ H1 Q else Q false H1
def tOr(t u:TT):TT:=fun σ H Q=>t σ H fun c H1=>if c=true then Q true H1 else u σ H1 Q
def zq(t:TT):TT:=fun σ H Q=>t σ H fun c H1=>Q (!c) H1
theorem bU(ha:PT X a tA):PW X (.BoolOp .And [a] pos) tA:=by
 intro wh pins s σ H Q I h;refine isTrue_and (thn (ha pins s σ H Q I h) fun c s1 e=>?_);cases c with
 | true=>exact isTrue_and_nil e
 | false=>exact e
theorem ce(ha:PT X a tA):PW X (.BoolOp .Or [a] pos) tA:=by
 intro wh pins s σ H Q I h;refine isTrue_or (thn (ha pins s σ H Q I h) fun c s1 e=>?_);cases c with
 | false=>exact isTrue_or_nil e
 | true=>exact e
theorem bR(ha:PT X a tA)(hb:PW X (.BoolOp .And (b::rest) pos) tB'):PW X (.BoolOp .And (a::b::rest) pos) (zw tA tB'):=by
 intro wh pins s σ H Q I h;refine isTrue_and (thn (ha pins s σ H _ I h) fun c s1 ⟨H1,I1,q1⟩=>?_);cases c with
 | true=>exact hb wh pins s1 σ H1 Q I1 q1
 | false=>exact⟨H1,I1,q1⟩
theorem cf(ha:PT X a tA)(hb:PW X (.BoolOp .Or (b::rest) pos) tB'):PW X (.BoolOp .Or (a::b::rest) pos) (tOr tA tB'):=by
 intro wh pins s σ H Q I h;refine isTrue_or (thn (ha pins s σ H _ I h) fun c s1 ⟨H1,I1,q1⟩=>?_);cases c with
 | true=>exact⟨H1,I1,q1⟩
 | false=>exact hb wh pins s1 σ H1 Q I1 q1
theorem bq(ha:PT X a tA):PT X (.UnaryOp .Not a pos) (zq tA):=by
 intro pins s σ H Q I h;exact isTrue_not (ha pins s σ H (fun c H1=>Q (!c) H1) I h)
def yH(ta tb:TE):TE:=fun σ H Q=>ta σ H fun x H1=>∃c,x = .bl c∧if c=true then tb σ H1 Q else Q (.bl false) H1
def zo(ta tb:TE):TE:=fun σ H Q=>ta σ H fun x H1=>∃c,x = .bl c∧if c=true then Q (.bl true) H1 else tb σ H1 Q
def yE(ta:TE):TE:=fun σ H Q=>ta σ H fun x H1=>∃c,x = .bl c∧Q (.bl (!c)) H1
theorem bJ{op}{t:TE}(h:PE X a t):PE X (.BoolOp op [a] pos) t:=fun pins s σ H Q I hw=>BoolOp_one (h pins s σ H Q I hw)
theorem bZ(ha:PE X a ta)(hb:PE X (.BoolOp .And (b::rest) pos) tb):PE X (.BoolOp .And (a::b::rest) pos) (yH ta tb):=by
 intro pins s σ H Q I h;refine BoolOp_and (thn (ha pins s σ H _ I h) fun v s1 ⟨x,H1,I1,r1,q1⟩=>?_);obtain⟨c,rfl,q1⟩:=q1;cases r1;refine wpAny_truthy_bool ?_;cases c with
 | true=>exact hb pins s1 σ H1 Q I1 q1
 | false=>exact⟨.bl false,H1,I1,rfl,q1⟩
theorem ic(ha:PE X a ta)(hb:PE X (.BoolOp .Or (b::rest) pos) tb):PE X (.BoolOp .Or (a::b::rest) pos) (zo ta tb):=by
 intro pins s σ H Q I h;refine BoolOp_or (thn (ha pins s σ H _ I h) fun v s1 ⟨x,H1,I1,r1,q1⟩=>?_);obtain⟨c,rfl,q1⟩:=q1;cases r1;refine wpAny_truthy_bool ?_;cases c with
 | false=>exact hb pins s1 σ H1 Q I1 q1
 | true=>exact⟨.bl true,H1,I1,rfl,q1⟩
theorem fF(ha:PE X a ta):PE X (.UnaryOp .Not a pos) (yE ta):=by
 intro pins s σ H Q I h;refine UnaryOp_ (thn (ha pins s σ H _ I h) fun v s1 ⟨x,H1,I1,r1,q1⟩=>?_);obtain⟨c,rfl,q1⟩:=q1;cases r1;exact not_of (wpAny_truthy_bool ⟨.bl (!c),H1,I1,rfl,q1⟩)
def tIf(t:TT)(ta tb:TE):TE:=fun σ H Q=>t σ H fun c H1=>if c=true then ta σ H1 Q else tb σ H1 Q
theorem jV{c:Expr}(hc:PT X c tA)(ha:PE X a ta)(hb:PE X b tb):PE X (.IfExp c a b pos) (tIf tA ta tb):=by
 intro pins s σ H Q I h;refine wpAny_IfExp (thn (hc pins s σ H _ I h) fun d s1 ⟨H1,I1,q1⟩=>?_);cases d with
 | true=>exact ha pins s1 σ H1 Q I1 q1
 | false=>exact hb pins s1 σ H1 Q I1 q1
end
end L2
namespace L2
open PySem PySem.Spec PyProof.Rows
def SqL(K:W.Frag)(H:Hp)(a:Addr)(xs:List V):Prop :=
 Rd H a (.lst xs) ∨
  ∃(o:Obj) (its:Array Value) (n:Nat),K.lookup a=some o∧o.cls = .type "list"∧o.dict=none∧o.data = .seq its n∧its.size≤sizeLine∧aO xs its.toList
def SqT(K:W.Frag)(H:Hp)(a:Addr)(xs:List V):Prop :=
 Rd H a (.tup xs) ∨
  ∃(o:Obj) (its:Array Value) (n:Nat),K.lookup a=some o∧o.cls = .type "tuple"∧o.data = .seq its n∧its.size≤sizeLine∧aO xs its.toList
def zN:Value->Option V
 | .none=>some .non
 | .bool b=>some (.bl b)
 | .int i _=>some (.int i)
 | .str x _=>some (.str x)
 | .bytes b _=>some (.byt b)
 | .float b _=>some (.flt b)
 | .ref a=>some (.ref a)
 | .type n=>some (.ty n)
 | _=>none
theorem bO.abs{x:V}{u:Value}(r:bO x u):zN u=some x:=by
 cases x with
 | non=>cases r;rfl
 | bl _=>cases r;rfl
 | int _=>obtain⟨t,rfl⟩:=r;rfl
 | str _=>obtain⟨t,rfl⟩:=r;rfl
 | byt _=>obtain⟨t,rfl⟩:=r;rfl
 | flt _=>obtain⟨t,rfl⟩:=r;rfl
 | ref _=>cases r;rfl
 | ty _=>cases r;rfl
theorem bO.inj{x y:V}{u:Value}(r:bO x u)(q:bO y u):x=y:=Option.some.inj (r.abs.symm.trans q.abs)
theorem aO.inj:∀{xs ys:List V} {us:List Value},aO xs us->aO ys us->xs=ys
 | _,_,_,.nil,.nil=>rfl
 | _,_,_,.cons r t,.cons r' t'=>by rw[r.inj r',aO.inj t t']
section
variable {X:Cx} {pins:List (Addr×Obj)} {σ:St} {H:Hp} {s:Shared} {a:Addr} {xs ys:List V}
theorem SqL.of{K:W.Frag}(h:H a=some (.lst xs)):SqL K H a xs:=.inl (.inl h)
theorem SqT.of{K:W.Frag}(h:H a=some (.tup xs)):SqT K H a xs:=.inl (.inl h)
theorem zT.list(I:zT X pins σ H s)(h:SqL X.K H a xs):∃its:List Value,aO xs its∧PlainL s.heap a its.toArray∧xs.length≤sizeLine:=by
 rcases h with h|⟨o,its,n,hk,hc,hd,hs,hz,r⟩
 ·obtain⟨z,its,n,r,e⟩:=h.ok I.hok
  exact⟨its,r,⟨_,n,e,rfl,rfl,rfl⟩,z⟩
 ·refine⟨its.toList,r,⟨o,n,I.kIn a o hk,hc,hd,by simpa using hs⟩,?_⟩
  have e:=r.length;simp only[Array.length_toList]at e;omega
theorem zT.tuple(I:zT X pins σ H s)(h:SqT X.K H a xs):∃its:List Value,aO xs its∧IsTup s.heap a its.toArray∧xs.length≤sizeLine:=by
 rcases h with h|⟨o,its,n,hk,hc,hs,hz,r⟩
 ·obtain⟨z,its,r,p⟩:=h.ok I.hok
  exact⟨its,r,p,z⟩
 ·refine⟨its.toList,r,⟨o,I.kIn a o hk,hc,n,by simpa using hs⟩,?_⟩
  have e:=r.length;simp only[Array.length_toList]at e;omega
theorem zT.list_inj(I:zT X pins σ H s)(h:SqL X.K H a xs)(h':SqL X.K H a ys):xs=ys:=by
 obtain⟨its,r,⟨o,n,e,_,_,d⟩,_⟩:=I.list h;obtain⟨its',r',⟨o',n',e',_,_,d'⟩,_⟩:=I.list h';rw[e]at e';cases e';rw[d]at d';injection d' with d1 _
 have:its=its':=by simpa using congrArg Array.toList d1
 subst this;exact r.inj r'
end
abbrev Cx.wish(X:Cx)(E:Value->Shared->Prop):Cx:={ X with xe:=E }
abbrev Cx.nox(X:Cx):Cx:=X.wish fun _ _=>False
theorem Cx.Ok.wish{X:Cx}(ok:X.Ok)(E:Value->Shared->Prop):(X.wish E).Ok :=
 ⟨ok.mod,ok.kind,ok.glob,ok.blt,ok.above,ok.inj,ok.has,ok.cab,ok.hd,ok.frames,ok.stk,ok.exf,ok.bs,ok.bsz,ok.noex,ok.exfs,ok.funs,ok.frf⟩
theorem Cx.Ok.unwish{X:Cx}{E:Value->Shared->Prop}(ok:(X.wish E).Ok):X.Ok :=
 ⟨ok.mod,ok.kind,ok.glob,ok.blt,ok.above,ok.inj,ok.has,ok.cab,ok.hd,ok.frames,ok.stk,ok.exf,ok.bs,ok.bsz,ok.noex,ok.exfs,ok.funs,ok.frf⟩
section
variable {X:Cx} {pins:List (Addr×Obj)} {σ:St} {H:Hp} {s:Shared} {E:Value->Shared->Prop}
theorem zT.wish(I:zT X pins σ H s)(E:Value->Shared->Prop):zT (X.wish E) pins σ H s:=⟨I.ok.wish E,I.os,I.bare,I.base,I.loc,I.cell,I.free,I.freeC,I.pin,I.hok,I.len⟩
theorem zT.unwish(I:zT (X.wish E) pins σ H s):zT X pins σ H s:=⟨I.ok.unwish,I.os,I.bare,I.base,I.loc,I.cell,I.free,I.freeC,I.pin,I.hok,I.len⟩
theorem SP.unwish{D:ee}{f:Flow}{s':Shared}(h:SP (X.wish E) pins D f s'):SP X pins D f s':=by
 cases f with
 | next=>obtain⟨σ',H',I,q⟩:=h;exact⟨σ',H',I.unwish,q⟩
 | brk=>obtain⟨σ',H',I,q⟩:=h;exact⟨σ',H',I.unwish,q⟩
 | cont=>obtain⟨σ',H',I,q⟩:=h;exact⟨σ',H',I.unwish,q⟩
 | ret u=>obtain⟨v,σ',H',I,r,q⟩:=h;exact⟨v,σ',H',I.unwish,r,q⟩
theorem PSs.nox{st:List Stmt}{t:TS}(h:PSs X.nox st t):PSs X st t:=fun pins s σ H D I hw =>
 wpAny_mono (h pins s σ H D (I.wish _) hw) (fun _ _ q=>q.unwish) fun _ _ z=>False.elim z
end
section
variable {X:Cx} {st:Stmt} {rest:List Stmt} {t u:TS} {e:Expr} {te:TE} {pos:Pos}
def yF:TS:=fun D σ H=>D.nx σ H
def xp(t u:TS):TS:=fun D σ H=>t { D with nx:=u D } σ H
theorem aw:PSs X [] yF:=fun _ _ σ H _ I h=>wpAny_execs_nil ⟨σ,H,I,h⟩
theorem af(h1:PS X st t)(h2:PSs X rest u):PSs X (st::rest) (xp t u):=by
 intro pins s σ H D I h;refine wpAny_execs_cons (thn (h1 pins s σ H { D with nx:=u D } I h) fun f s1 q=>?_);cases f with
 | next =>
  obtain⟨σ',H',I',q⟩:=q;exact h2 pins s1 σ' H' D I' q
 | ret v=>exact q
 | brk=>exact q
 | cont=>exact q
theorem ah(h1:PS X st t):PSs X [st] t:=by
 intro pins s σ H D I h;refine wpAny_execs_cons (thn (h1 pins s σ H D I h) fun f s1 q=>?_);cases f with
 | next=>exact wpAny_execs_nil q
 | ret v=>exact q
 | brk=>exact q
 | cont=>exact q
theorem zT.quiet{pins:List (Addr×Obj)}{σ:St}{H:Hp}{s:Shared}(I:zT X pins σ H s):interactive X.env=false:=by simp[interactive,I.ok.kind]
def wX(te:TE):TS:=fun D σ H=>te σ H fun _ H1=>D.nx σ H1
theorem eS(he:PE X e te)(hs:swapsWith e none pos.line X.env=pure false:=by rfl):PS X (.Expr e pos) (wX te):=by
 intro pins s σ H D I h;exact wpAny_Expr_any (thn (he pins s σ H _ I h) fun v s1 ⟨x,H1,I1,r1,q1⟩=>⟨σ,H1,I1,q1⟩) I.quiet hs
def vF(te:TE):TS:=fun D σ H=>te σ H D.rt
theorem am(he:PE X e te):PS X (.Return (some e) pos) (vF te):=by
 intro pins s σ H D I h;exact wpAny_Return_some (thn (he pins s σ H _ I h) fun v s1 ⟨x,H1,I1,r1,q1⟩=>⟨x,σ,H1,I1,r1,q1⟩)
def zr(c:TT)(t u:TS):TS:=fun D σ H=>c σ H fun b H1=>if b=true then t D σ H1 else u D σ H1
theorem aF{c:Expr}{a b:List Stmt}{tc:TT}(hc:PT X c tc)(ha:PSs X a t)(hb:PSs X b u):PS X (.If c a b pos) (zr tc t u):=by
 intro pins s σ H D I h;refine wpAny_If (thn (hc pins s σ H _ I h) fun d s1 ⟨H1,I1,q1⟩=>?_);cases d with
 | true=>exact ha pins s1 σ H1 D I1 q1
 | false=>exact hb pins s1 σ H1 D I1 q1
end
abbrev TG:=V->St->Hp->(St->Hp->Prop)->Prop
abbrev TGs:=List V->St->Hp->(St->Hp->Prop)->Prop
def PG(X:Cx)(target:Expr)(t:TG):Prop :=
 ∀(pins:List (Addr×Obj)) (s:Shared) (σ:St) (H:Hp) (v:V) (u:Value) (Q:St->Hp->Prop),zT X pins σ H s->bO v u->t v σ H Q ->
  wpAny (model X.prog X.w) X.A (assign target X.env u) (fun _ s'=>∃σ' H',zT X pins σ' H' s'∧Q σ' H') X.xe s
def PGs(X:Cx)(ts:List Expr)(t:TGs):Prop :=
 ∀(pins:List (Addr×Obj)) (s:Shared) (σ:St) (H:Hp) (vs:List V) (us:List Value) (Q:St->Hp->Prop),zT X pins σ H s->aO vs us->t vs σ H Q ->
  wpAny (model X.prog X.w) X.A (assignInOrder ((assignEach ts X.env).map (·.2)) us) (fun _ s'=>∃σ' H',zT X pins σ' H' s'∧Q σ' H') X.xe s
abbrev yv:=V->V->V->Hp->(Hp->Prop)->Prop
def yx(X:Cx)(t:yv):Prop :=
 ∀(pins:List (Addr×Obj)) (s:Shared) (σ:St) (H:Hp) (o i v:V) (ov iv u:Value) (Q:Hp->Prop),zT X pins σ H s->bO o ov->bO i iv->bO v u->t o i v H Q ->
  wpAny (model X.prog X.w) X.A (setItem ov iv u) (fun _ s'=>∃H',zT X pins σ H' s'∧Q H') X.xe s
section
variable {X:Cx} {pos:Pos}
def iz(i:Nat):TG:=fun v σ H Q=>Q (σ.set i (some v)) H
theorem aI{i:Nat}{x:Str}(hN:X.N.Nodup)(hi:X.N[i]? = some x)(hx:Loc X.env.scope x)(hf:X.fn x=true∨X.env.scope.names.lookup x=some .local:=by first|exact .inl rfl|exact .inr rfl|assumption):PG X (.Name x pos) (iz i):=by
 intro pins s σ H v u Q I r h;exact wpAny_assign_Name (fc I hN hi hx r (fun s' I'=>⟨_,H,I',h⟩) hf)
inductive Ji (vs:List V) (σ:St) (H:Hp) (Q:St->Hp->Prop):Prop
 | mk (e:vs = []) (q:Q σ H):Ji vs σ H Q
inductive IO (t:TG) (u:TGs) (vs:List V) (σ:St) (H:Hp) (Q:St->Hp->Prop):Prop
 | mk (v:V) (r:List V) (e:vs=v::r) (q:t v σ H fun σ' H'=>u r σ' H' Q):IO t u vs σ H Q
theorem cn:PGs X [] Ji:=by
 intro pins s σ H vs us Q I r h;obtain⟨e,h⟩:=h;subst e;cases r;exact assignInOrder_nil ⟨σ,H,I,h⟩
theorem aH{e:Expr}{es:List Expr}{t:TG}{u:TGs}(h1:PG X e t)(h2:PGs X es u)
  (hs:(assignEach (e::es) X.env).map (·.2)=assign e X.env::(assignEach es X.env).map (·.2):=by rfl):PGs X (e::es) (IO t u):=by
 intro pins s σ H vs us Q I r h;obtain⟨v,vr,e1,h⟩:=h;subst e1;cases r with
 | cons r rr =>
  rw[hs];refine assignInOrder_cons (thn (h1 pins s σ H _ _ _ I r h) fun _ s1 ⟨σ1,H1,I1,q1⟩=>?_);exact h2 pins s1 σ1 H1 _ _ Q I1 rr q1
inductive I0 (K:W.Frag) (n:Nat) (t:TGs) (v:V) (σ:St) (H:Hp) (Q:St->Hp->Prop):Prop
 | mk (a:Addr) (xs:List V) (e:v = .ref a) (s:SqT K H a xs) (l:xs.length=n) (q:t xs σ H Q):I0 K n t v σ H Q
theorem cJ{es:List Expr}{k:Nat}{t:TGs}{n:Nat}(hc:X.calm=true)(h:PGs X es t)
  (hn:(assignEach es X.env).length=n:=by rfl) (hst:(assignEach es X.env).findIdx? (·.1)=none:=by rfl):PG X (.Tuple es k pos) (I0 X.K n t):=by
 intro pins s σ H v u Q I r hw;obtain⟨a,xs,e1,hq,hl,hw⟩:=hw;subst e1;cases r;obtain⟨its,rv,ht,hz⟩:=I.tuple hq;refine assign_Tuple_tuple (I.ok.hd hc) ht (by simp[hn,<- hl,rv.length]) hst fun h' hx=>?_;have I1:zT X pins σ H { s with heap:=h' }:=I.kept (t':=s.toks) fun b o e=>hx b o (Nat.ne_of_lt (Heap.lt_size e)) e
 exact h pins _ σ H xs _ Q I1 (by simpa using rv) hw
def zJ(to ti:TE)(t:yv):TG:=fun v σ H Q=>to σ H fun o H1=>ti σ H1 fun i H2=>t o i v H2 fun H3=>Q σ H3
theorem jU{o i:Expr}{to ti:TE}{t:yv}(ho:PE X o to)(hi:PE X i ti)(hs:yx X t)
  (ha:∀v,assign (.Subscript o i pos) X.env v=(do
   let ov <- holding [v] (eval o X.env)
   let iv <- holding [v,ov] (eval i X.env)
   standAt pos
   holding [v,ov,iv] (setItem ov iv v)
   release [v,ov,iv] []):=by intro _;rfl):PG X (.Subscript o i pos) (zJ to ti t):=by
 intro pins s σ H v u Q I r h;rw[ha];refine wpAny_bind (wpAny_holding (thn (ho pins s σ H _ I h) fun ov s1 ⟨x,H1,I1,r1,q1⟩=>?_));refine wpAny_bind (wpAny_holding (thn (hi pins s1 σ H1 _ I1 q1) fun iv s2 ⟨y,H2,I2,r2,q2⟩=>?_));refine wpAny_bind (wpAny_standAt (wpAny_bind (wpAny_holding (thn (hs pins s2 σ H2 x y v ov iv u _ I2 r1 r2 r q2) fun _ s3 ⟨H3,I3,q3⟩=>?_))));exact wpAny_release ⟨σ,H3,I3,q3⟩
def pO(te:TE)(g:TG):TS:=fun D σ H=>te σ H fun x H1=>g x σ H1 D.nx
theorem cI{tg e:Expr}{te:TE}{g:TG}(he:PE X e te)(hg:PG X tg g)(hs:swapsWithSole [tg] e pos.line X.env=pure false:=by rfl)(hw:swappedStores [tg] e X.env=pure none:=by rfl)
  (h1:(assignEach [tg] X.env).map (·.2) = [assign tg X.env]:=by rfl):PS X (.Assign [tg] e pos) (pO te g):=by
 intro pins s σ H D I h;refine wpAny_Assign_stores (thn (he pins s σ H _ I h) fun v s1 ⟨x,H1,I1,r1,q1⟩=>?_) hs hw;rw[h1];exact thn (hg pins s1 σ H1 x v _ I1 r1 q1) fun _ s2 q=>q
theorem av{i:Nat}{x:Str}{e:Expr}{te:TE}{pos':Pos}(hN:X.N.Nodup)(hi:X.N[i]? = some x)(hx:Loc X.env.scope x)(he:PE X e te)(hs:swapsWith e (some (.Name x pos')) pos.line X.env=pure false:=by rfl)(hf:X.fn x=true∨X.env.scope.names.lookup x=some .local:=by first|exact .inl rfl|exact .inr rfl|assumption) :
  PS X (.Assign [.Name x pos'] e pos) (pO te (iz i)):=by
 intro pins s σ H D I h;refine wpAny_Assign_Name (thn (he pins s σ H _ I h) fun v s1 ⟨y,H1,I1,r1,q1⟩=>?_) hs;exact fc I1 hN hi hx r1 (fun s2 I2=>⟨_,H1,I2,q1⟩) hf
def zn(i j:Nat)(ta:TA):TS:=fun D σ H=>ta σ H fun vs H1=>∃v w,vs = [v,w]∧D.nx ((σ.set i (some v)).set j (some w)) H1
theorem xF{i j:Nat}{x y:Str}{a b:Expr}{ta:TA}{px py pt:Pos}{kt k2 pt2}(hc:X.calm=true)(hN:X.N.Nodup)(hi:X.N[i]? = some x)(hj:X.N[j]? = some y)(hij:i≠j)
  (hx:X.env.scope.names.lookup x=some .local) (hy:X.env.scope.names.lookup y=some .local) (ha:PA X [a,b] ta)
  (hw:swappedStores [.Tuple [.Name x px,.Name y py] kt pt] (.Tuple [a,b] k2 pt2) X.env=pure (some [x,y]))
  (hs:swapsWithSole [.Tuple [.Name x px,.Name y py] kt pt] (.Tuple [a,b] k2 pt2) pos.line X.env=pure false:=by rfl) :
  PS X (.Assign [.Tuple [.Name x px,.Name y py] kt pt] (.Tuple [a,b] k2 pt2) pos) (zn i j ta):=by
 intro pins s σ H D I h;rw[exec_Assign_arm];refine wpAny_bind (wpAny_standAt ?_);rw[hs];refine wpAny_bind (wpAny_pure ?_);rw[if_neg (by decide)];refine wpAny_bind (Tuple_ (thn (ha _ pins s σ H _ I h) fun us s1 ⟨vs,H1,I1,r1,q1⟩=>?_));obtain⟨v,w,e1,q1⟩:=q1;subst e1;obtain⟨u1,u2,rfl,rv,rw'⟩:∃u1 u2,us = [u1,u2]∧bO v u1∧bO w u2:=by
  cases r1 with
  | cons p q =>
   cases q with
   | cons p' q' =>
    cases q';exact⟨_,_,rfl,p,p'⟩
 refine wpAny_newObj_type ?_ (by show 2≤sizeLine;decide);have I2:zT X pins σ H1 { s1 with heap:=s1.heap.push { cls:=.type "tuple",data:=.seq [u1,u2].toArray } }:=I1.kept (t':=s1.toks) fun b o e=>Heap.get?_push_of_some _ e;rw[hw];refine wpAny_bind (wpAny_pure ?_);show wpAny (model X.prog X.w) X.A (do rule "assign.swapped-stores";let items <- unpackItems (.ref s1.heap.objs.size) 2 none;assignInOrder [fun v=>bindName X.env y v,fun v=>bindName X.env x v] items.reverse;pure Flow.next) _ _ _
 refine wpAny_bind (wpAny_rule (wpAny_bind (unpackItems_tuple (items:=#[u1,u2]) (I.ok.hd hc) (IsTup.new s1.heap _) fun h' hx'=>?_)));have I3:=I2.kept (h':=h') (t':=s1.toks) fun b o e=>hx' b o (Nat.ne_of_lt (Heap.lt_size e)) e;show wpAny _ _ (assignInOrder [fun v=>bindName X.env y v,fun v=>bindName X.env x v] [u2,u1] >>= fun _=>pure Flow.next) _ _ _;refine wpAny_bind (assignInOrder_cons (wpAny_bindName (fc I3 hN hj (.inl hy) rw' (fun s2 I4=>?_) (.inr hy))));refine assignInOrder_cons (wpAny_bindName (fc I4 hN hi (.inl hx) rv (fun s3 I5=>assignInOrder_nil (wpAny_pure ?_)) (.inr hx)));rw[List.set_comm _ _ (Ne.symm hij)]at I5;exact⟨_,H1,I5,q1⟩
end
section
variable {X:Cx} {pos:Pos}
def tO(c:TT)(tb:TS):TS:=fun D σ H=>∃W:Nat->St->Hp->Prop,(∃m,W m σ H)∧∀m σ H,W m σ H ->
 c σ H fun b H1=>if b=true then ∃N:St->Hp->Prop,(∀σ' H',N σ' H'->∃m',m'<m∧W m' σ' H')∧tb { D with nx:=N,ct:=N,bk:=D.nx } σ H1 else D.nx σ H1
theorem jQ{c:Expr}{body:List Stmt}{tc:TT}{tb:TS}(hp:PassesOwn (model X.prog X.w) X.A X.env X.xe)(hc:PT X c tc)(hb:PSs X body tb):PS X (.While c body [] pos) (tO tc tb):=by
 intro pins s σ H D I h;obtain⟨W,⟨m0,w0⟩,turn⟩:=h;refine wpAny_While (codeAny_whileLoop (fun n s'=>∃σ' H',zT X pins σ' H' s'∧W n σ' H') ?_ m0 ⟨σ,H,I,w0⟩);rintro n s1 ⟨σ1,H1,I1,w1⟩;refine wpAny_passesOwn hp (thn (hc pins s1 σ1 H1 _ I1 (turn n σ1 H1 w1)) fun b s2 ⟨H2,I2,q2⟩=>?_);cases b with
 | true =>
  obtain⟨N,hN,q2⟩:=q2;rw[if_pos rfl];refine wpAny_passesOwn hp (thn (hb pins s2 σ1 H2 _ I2 q2) fun f s3 q3=>?_);cases f with
  | next =>
   obtain⟨σ3,H3,I3,n3⟩:=q3;obtain⟨m',hm,w3⟩:=hN σ3 H3 n3;exact⟨m',hm,σ3,H3,I3,w3⟩
  | cont =>
   obtain⟨σ3,H3,I3,n3⟩:=q3;obtain⟨m',hm,w3⟩:=hN σ3 H3 n3;exact⟨m',hm,σ3,H3,I3,w3⟩
  | brk=>exact q3
  | ret v=>exact q3
 | false =>
  rw[if_neg Bool.false_ne_true];exact wpAny_execs_nil ⟨σ1,H2,I2,q2⟩
end
structure It where
 go:Nat->Hp->Prop
 yld:Nat->Hp->V->Hp->Prop
 stop:Nat->Hp->Prop
def eQ(X:Cx)(pins:List (Addr×Obj))(H:Hp)(b:Addr):Prop :=
 H b=none∧b≠X.env.locals∧b∉X.fs∧(b∈X.ex∨X.s₀.heap.objs.size≤b)∧(∀x c,X.env.cells.lookup x=some c->c≠b)∧∀p∈X.pn++pins,p.1≠b
theorem zT.fpOk{X:Cx}{pins:List (Addr×Obj)}{σ:St}{H H':Hp}{s:Shared}{b:Addr}(I:zT X pins σ H s)(hb:s.heap.objs.size≤b)(hn:H' b=none):eQ X pins H' b:=by
 refine⟨hn,Nat.ne_of_gt (Nat.lt_of_lt_of_le I.lt hb),I.nofs hb,.inr (Nat.le_trans I.sz hb),fun x c e z=>?_,fun p hp z=>?_⟩
 ·obtain⟨v,q⟩:=I.cell x c e
  exact absurd (Nat.lt_of_lt_of_le q.lt (by rw[z];exact hb)) (Nat.lt_irrefl _)
 ·exact absurd (Nat.lt_of_lt_of_le (Heap.lt_size (I.pin p hp).1) (by rw[z];exact hb)) (Nat.lt_irrefl _)
structure Gx(P:Program)(w:World)(K:W.Frag)(tg:Expr)(J:It)(fp:List Addr)(it:Addr)(tn:Nat->Heap->Prop):Prop where
 mem:it∈fp
 obj:∀i h,tn i h->∀b∈fp,∃o,h.get? b=some o∧∀v,o.data≠.cell v
 keep:∀i h h',tn i h->(∀b∈fp,∀o,h.get? b=some o->h'.get? b=some o)->tn i h'
 item:∀(X:Cx),X.prog=P->X.w=w->X.K=K->X.calm=true->∀(i:Nat) (pins:List (Addr×Obj)) (s:Shared) (σ:St) (H:Hp) (E:Value->Shared->Prop),zT X pins σ H s->(∀b∈fp,eQ X pins H b)->tn i s.heap->J.go i H ->
  wpAny (model P w) X.A (pyNext (.ref it)) (fun r s1=>∃u,r=some u ∧
   wpAny (model P w) X.A (letOwnedTupleGo tg (.ref it) u) (fun _ s2=>∃x H',zT X pins σ H' s2∧bO x u∧J.yld i H x H'∧tn (i+1) s2.heap∧∀b∈fp,H' b=none) E s1) E s
 done:∀(X:Cx),X.prog=P->X.w=w->X.K=K->X.calm=true->∀(i:Nat) (pins:List (Addr×Obj)) (s:Shared) (σ:St) (H:Hp) (E:Value->Shared->Prop),zT X pins σ H s->(∀b∈fp,eQ X pins H b)->tn i s.heap->J.stop i H ->
  wpAny (model P w) X.A (pyNext (.ref it)) (fun r s1=>r=none∧zT X pins σ H s1) E s
 self:∀(A:Around) (i:Nat) (s:Shared) (Q:Value->Shared->Prop) (E:Value->Shared->Prop),tn i s.heap->Q (.ref it) s->wpAny (model P w) A (pyIter (.ref it)) Q E s
abbrev TI:=St->Hp->(It->Hp->Prop)->Prop
def PIE(X:Cx)(pins:List (Addr×Obj))(σ:St)(tg:Expr)(R:It->Hp->Prop)(itv:Value)(s2:Shared):Prop :=
 ∃(it:Addr) (fp:List Addr) (tn:Nat->Heap->Prop) (J:It) (H':Hp),itv = .ref it∧zT X pins σ H' s2∧Gx X.prog X.w X.K tg J fp it tn∧tn 0 s2.heap∧(∀b∈fp,eQ X pins H' b)∧R J H'
def PI(X:Cx)(tg iter:Expr)(wi:TI):Prop :=
 ∀(pins:List (Addr×Obj)) (s:Shared) (σ:St) (H:Hp) (R:It->Hp->Prop),zT X pins σ H s->wi σ H R ->
  wpAny (model X.prog X.w) X.A (eval iter X.env) (fun v s1=>wpAny (model X.prog X.w) X.A (pyIter v) (PIE X pins σ tg R) X.xe s1) X.xe s
theorem uU{M:Model}{A:Around}{E:Value->Shared->Prop}{s:Shared}{tg:Expr}{it:Addr}{u:Value}{o:Obj}{n:String}{vs:Array Value}{Q:Unit->Shared->Prop}(ho:s.heap.get? it=some o)(hc:o.cls = .type n)(hd:o.data = .fields vs)
    (hn:["enumerate","zip","dict_itemiterator","dict_reverseitemiterator","odict_iterator","itertools.zip_longest","itertools.pairwise"].contains n=false) (hQ:Q () s):wpAny M A (letOwnedTupleGo tg (.ref it) u) Q E s:=by
  unfold letOwnedTupleGo;cases tg <;> first
    | exact wpAny_pure hQ
    | (cases u <;> first
        | exact wpAny_pure hQ
        | (refine wpAny_bind (wpAny_load ho ?_)
           rw[hc,hd];show wpAny M A (if (["enumerate","zip","dict_itemiterator","dict_reverseitemiterator","odict_iterator","itertools.zip_longest","itertools.pairwise"].contains n && vs[0]? == some (rawInt _))=true then _ else _) Q E s
           rw[if_neg (by intro h;rw[hn,Bool.false_and]at h;cases h)];exact wpAny_pure hQ))
def Itl(K:W.Frag)(a:Addr):It :=
 ⟨fun i H=>∃xs x,SqL K H a xs∧xs[i]? = some x,fun i H x H'=>H'=H∧∀xs,SqL K H a xs->xs[i]? = some x,fun i H=>∃xs,SqL K H a xs∧xs.length≤i⟩
def Itr(lo:Int)(n:Nat):It:=⟨fun i _=>i<n,fun i H x H'=>H'=H∧x = .int (lo+i),fun i _=>n≤i⟩
theorem sj{P:Program}{w:World}{K:W.Frag}{tg:Expr}(a it:Addr):Gx P w K tg (Itl K a) [it] it (fun i h=>h.IsListIter it a i) where
 mem:=by simp
 obj:=fun i h st b hb=>by
  have e:b=it:=by simpa using hb
  subst e;obtain⟨o,e,c,d⟩:=st;exact⟨o,e,fun v z=>by rw[d]at z;cases z⟩
 keep:=fun i h h' st k=>st.at fun o e=>k it (by simp) o e
 item:=by
  intro X hP hw hK hc i pins s σ H E I hf st hg;subst hP hw hK;obtain⟨xs,x,hq,hx⟩:=hg;obtain⟨its,rv,p,hz⟩:=I.list hq;obtain⟨u,hu,ru⟩:=rv.get hx;obtain⟨f0,f1,f2,f3,f4,f5⟩:=hf it (by simp);refine wpAny_pyNext_list_item st p.isList (x:=u) (by simpa using hu) fun h' st' sb=>?_;have I1:zT X pins σ H { s with heap:=h' }:=I.turned (t':=s.toks) (fun b o hb e=>(sb.2 b hb).trans e) f0 f1 f3 f4 f5;obtain⟨o,e,c,d⟩:=id st';exact⟨u,rfl,uU (s:={ s with heap:=h' }) e c d (by decide) ⟨x,H,I1,ru,⟨rfl,fun ys hy=>by rw[I.list_inj hy hq];exact hx⟩,st',fun b hb=>(hf b hb).1⟩⟩
 done:=by
  intro X hP hw hK hc i pins s σ H E I hf st hg;subst hP hw hK;obtain⟨xs,hq,hx⟩:=hg;obtain⟨its,rv,p,hz⟩:=I.list hq;obtain⟨f0,f1,f2,f3,f4,f5⟩:=hf it (by simp);have hl:=rv.length;exact wpAny_pyNext_list_end (I.ok.hd hc) st p.isList (by simp;omega) fun h' eb=>⟨rfl,I.turned (t':=s.toks) (fun b o hb e=>eb b o hb e) f0 f1 f3 f4 f5⟩
 self:=fun _ _ _ _ _ st h=>wpAny_pyIter_listiter st h
theorem pN{P:Program}{w:World}{K:W.Frag}{tg:Expr}(it:Addr)(lo:Int)(n:Nat):Gx P w K tg (Itr lo n) [it] it (fun i h=>IsRangeIter h it (lo+(i:Nat)*1) ((n:Int) - (i:Nat)) 1) where
 mem:=by simp
 obj:=fun i h st b hb=>by
  have e:b=it:=by simpa using hb
  subst e;exact⟨_,st,fun v z=>by
   have z':Data.fields _=Data.cell v:=z;cases z'⟩
 keep:=fun i h h' st k=>k it (by simp) _ st
 item:=by
  intro X hP hw hK hc i pins s σ H E I hf st hg;subst hP hw hK;obtain⟨f0,f1,f2,f3,f4,f5⟩:=hf it (by simp);have W:=Walks.range (prog:=X.prog) (w:=X.w) (I.ok.hd hc) it lo 1 n;refine W.item i s _ _ hg st fun v h' tk hv st' kk=>?_;obtain⟨t,rfl⟩:=hv;have I1:zT X pins σ H { s with heap:=h',toks:=tk }:=I.turned (fun b o hb e=>kk b o (by simpa using hb) e) f0 f1 f3 f4 f5;refine⟨_,rfl,uU (s:={ s with heap:=h',toks:=tk }) (n:="range_iterator") st' rfl rfl (by decide) ⟨.int (lo+i),H,I1,⟨t,?_⟩,⟨rfl,rfl⟩,st',fun b hb=>(hf b hb).1⟩⟩;rw[Int.mul_one]
 done:=by
  intro X hP hw hK hc i pins s σ H E I hf st hg;subst hP hw hK;obtain⟨f0,f1,f2,f3,f4,f5⟩:=hf it (by simp);exact wpAny_pyNext_range_end (I.ok.hd hc) st (by have:n≤i:=hg;omega) fun h' eb=>⟨rfl,I.turned (t':=s.toks) (fun b o hb e=>eb b o hb e) f0 f1 f3 f4 f5⟩
 self:=fun _ _ _ _ _ st h=>wpAny_pyIter_rangeiter st h
end L2
namespace L2
open PySem PySem.Spec PyProof.Rows
section
variable {X:Cx} {tg:Expr}
def yX(K:W.Frag)(tl:TE):TI:=fun σ H R=>tl σ H fun x H1=>∃a,x = .ref a∧(∃xs,SqL K H1 a xs)∧R (Itl K a) H1
theorem cW{l:Expr}{tl:TE}(hl:PE X l tl):PI X tg l (yX X.K tl):=by
 intro pins s σ H R I h;refine thn (hl pins s σ H _ I h) fun v s1 ⟨x,H1,I1,r1,q1⟩=>?_;obtain⟨a,e,⟨xs,hq⟩,q⟩:=q1;subst e;cases r1;obtain⟨its,rv,p,hz⟩:=I1.list hq;refine wpAny_pyIter_list p.isList ?_;refine⟨s1.heap.objs.size,[s1.heap.objs.size],_,_,H1,rfl,I1.kept (t':=s1.toks) fun b o e=>Heap.get?_push_of_some _ e,sj a _,⟨_,Heap.get?_push_size _ rfl,rfl,rfl⟩,fun b hb=>?_,q⟩;have e:b=s1.heap.objs.size:=by simpa using hb
 subst e;exact I1.fpOk (Nat.le_refl _) (I1.hok.fresh (Nat.le_refl _))
theorem t7{pins:List (Addr×Obj)}{σ:St}{H:Hp}{s:Shared}{R:It->Hp->Prop}{E:Value->Shared->Prop}{lo hi:Int}{t u v:Tok}{tk:Nat}(I:zT X pins σ H s)(h1:-(2^62)≤lo)(h2:lo<2^62)(h3:-(2^62)≤hi)(h4:hi<2^62)
  (q:R (Itr lo (hi - lo).toNat) H):wpAny (model X.prog X.w) X.A (pyIter (.ref s.heap.objs.size)) (PIE X pins σ tg R) E { s with heap:=s.heap.push { cls:=.type "range",data:=.fields #[.int lo t,.int hi u,.int 1 v] },toks:=tk }:=by
 refine wpAny_pyIter_range (IsRange.new ..) (small_one h1 h2 h3 h4) ?_;have I1:zT X pins σ H { s with heap:=s.heap.push { cls:=.type "range",data:=.fields #[.int lo t,.int hi u,.int 1 v] },toks:=tk }:=I.kept fun b o e=>Heap.get?_push_of_some _ e;refine⟨(s.heap.push { cls:=.type "range",data:=.fields #[.int lo t,.int hi u,.int 1 v] }).objs.size,[(s.heap.push { cls:=.type "range",data:=.fields #[.int lo t,.int hi u,.int 1 v] }).objs.size],_,_,H,rfl,
  I1.kept (t':=tk) fun b o e=>Heap.get?_push_of_some _ e,pN _ lo (hi - lo).toNat,?_,fun b hb=>?_,q⟩
 ·have e1:lo+((0:Nat):Int)*1=lo:=by simp
  have e2:(((hi - lo).toNat:Nat):Int) - ((0:Nat):Int)=Builtin.Range.rangeSize lo hi 1:=by rw[rangeSize_one];split <;> omega
  show IsRangeIter _ _ (lo+((0:Nat):Int)*1) ((((hi - lo).toNat:Nat):Int) - ((0:Nat):Int)) 1;rw[e1,e2];exact Heap.get?_push_size _ rfl
 ·have e:b=(s.heap.push { cls:=.type "range",data:=.fields #[.int lo t,.int hi u,.int 1 v] }).objs.size:=by simpa using hb
  subst e;exact I1.fpOk (Nat.le_refl _) (I1.hok.fresh (Nat.le_refl _))
def yW(ta:TA):TI:=fun σ H R=>ta σ H fun vs H1=>∃j:Int,vs = [.int j]∧-(2^62)≤j∧j<2^62∧R (Itr 0 j.toNat) H1
theorem iS{a:Expr}{ta:TA}{p pos:Pos}(hg:Gl X "range")(hm:X.mg "range" = none)(ha:PA X [a] ta)(hs:starEach [a] X.env = [(false,eval a X.env)]:=by rfl):PI X tg (.Call (.Name "range" p) [a] [] pos) (yW ta):=by
 intro pins s σ H R I h;refine Call_ (fW I hg hm boot_range (PyProof.Rows.callWith_type1 (thn (ha pos pins s σ H _ I h) fun us s1 ⟨vs,H1,I1,r1,q1⟩=>?_) hs rfl));obtain⟨j,e,q1,q2,q⟩:=q1;subst e;cases r1 with
 | cons r rr =>
  cases rr;obtain⟨t,rfl⟩:=r;exact call_range_1 (t7 I1 (by omega) (by omega) q1 q2 (by simpa using q))
def zt(wi:TI)(g:TG)(tb:TS):TS:=fun D σ H=>wi σ H fun J H1=>∃W:Nat->Nat->St->Hp->Prop,(∃m,W 0 m σ H1)∧∀i m σ H,W i m σ H ->
 (J.stop i H∧D.nx σ H)∨(J.go i H∧∃N:St->Hp->Prop,(∀σ' H',N σ' H'->∃m',m'<m∧W (i+1) m' σ' H')∧∀x H',J.yld i H x H'->g x σ H' fun σ2 H2=>tb { D with nx:=N,ct:=N,bk:=D.nx } σ2 H2)
def jT(fp:List Addr)(h:Heap):List (Addr×Obj):=fp.filterMap fun b=>(h.get? b).map fun o=>(b,o)
theorem cQ{fp:List Addr}{h:Heap}{b:Addr}{o:Obj}(hb:b∈fp)(e:h.get? b=some o):(b,o)∈jT fp h:=List.mem_filterMap.mpr ⟨b,hb,by rw[e];rfl⟩
theorem sI{fp:List Addr}{h:Heap}{p:Addr×Obj}(hp:p∈jT fp h):p.1∈fp∧h.get? p.1=some p.2:=by
 obtain⟨b,hb,e⟩:=List.mem_filterMap.mp hp;cases q:h.get? b with
 | none=>rw[q]at e;cases e
 | some o =>
  rw[q]at e;have e':(b,o)=p:=Option.some.inj e;subst e';exact⟨hb,q⟩
theorem zT.pinned{pins:List (Addr×Obj)}{σ:St}{H:Hp}{s:Shared}{fp:List Addr}(I:zT X pins σ H s)(hf:∀b∈fp,eQ X pins H b)(ho:∀b∈fp,∃o,s.heap.get? b=some o∧∀v,o.data≠.cell v):zT X (pins++jT fp s.heap) σ H s :=
 I.pins_of fun p hp=>(List.mem_append.mp hp).elim (fun z=>I.pin p (List.mem_append_right _ z)) fun z=>by
  obtain⟨hb,e⟩:=sI z;obtain⟨f0,f1,f2,_⟩:=hf p.1 hb;obtain⟨o,e',d⟩:=ho p.1 hb;rw[e]at e';cases e';exact⟨e,f0,f1,f2,d⟩
theorem zT.unpinned{pins pl:List (Addr×Obj)}{σ:St}{H:Hp}{s:Shared}(I:zT X (pins++pl) σ H s):zT X pins σ H s:=I.pins_of fun p hp=>I.pin p (List.mem_append_right _ (List.mem_append_left _ hp))
theorem eV{iter:Expr}{body:List Stmt}{wi:TI}{g:TG}{tb:TS}{pos:Pos}(hp:PassesOwn (model X.prog X.w) X.A X.env X.xe)(hc:X.calm=true)(hi:PI X tg iter wi)(hg:PG X tg g)(hb:PSs X body tb)
  (hs:∀x,foldedSetIterable iter X.env x=pure x:=by intro _;rfl):PS X (.For tg iter body [] pos) (zt wi g tb):=by
 intro pins s σ H D I h;refine wpAny_For (thn (hi pins s σ H _ I h) fun v s1 h1=>thn h1 fun itv s2 h2=>?_) hs;obtain⟨it,fp,tn,J,H2,e,I2,T,st2,f2,W,⟨m0,w0⟩,turn⟩:=h2;subst e;have stat:∀{H':Hp},(∀b∈fp,H' b=none)->∀b∈fp,eQ X pins H' b:=fun hn b hb=>⟨hn b hb,(f2 b hb).2⟩;refine codeAny_forLoop_any (fun n s'=>∃i σ' H',zT X pins σ' H' s'∧tn i s'.heap∧(∀b∈fp,H' b=none)∧W i n σ' H') ?_ m0 ⟨0,σ,H2,I2,st2,fun b hb=>(f2 b hb).1,w0⟩;rintro n s3 ⟨i,σ3,H3,I3,st3,fr3,w3⟩;rcases turn i n σ3 H3 w3 with⟨stop,qn⟩|⟨go,N,hN,step⟩
 ·refine wpAny_passesOwn hp (thn (T.done X rfl rfl rfl hc i pins s3 σ3 H3 X.xe I3 (stat fr3) st3 stop) fun r s4 ⟨hr,I4⟩=>?_)
  subst hr;exact wpAny_execs_nil ⟨σ3,H3,I4,qn⟩
 ·refine wpAny_passesOwn hp (thn (T.item X rfl rfl rfl hc i pins s3 σ3 H3 X.xe I3 (stat fr3) st3 go) fun r s4 ⟨u,hr,h4⟩=>?_)
  subst hr;refine wpAny_passesOwn hp (thn h4 fun _ s5 ⟨x,H5,I5,r5,y5,st5,fr5⟩=>?_);have I5':=I5.pinned (stat fr5) (T.obj _ _ st5);refine wpAny_passesOwn hp (thn (hg _ s5 σ3 H5 x u _ I5' r5 (step x H5 y5)) fun _ s6 ⟨σ6,H6,I6,q6⟩=>?_);refine wpAny_passesOwn hp (thn (hb _ s6 σ6 H6 _ I6 q6) fun f s7 q7=>?_);have again:∀{σ7:St} {H7:Hp},zT X (pins++jT fp s5.heap) σ7 H7 s7->N σ7 H7->∃m,m<n∧∃i σ' H',zT X pins σ' H' s7∧tn i s7.heap∧(∀b∈fp,H' b=none)∧W i m σ' H':=fun {σ7 H7} I7 n7=>by
   obtain⟨m',hm,w7⟩:=hN σ7 H7 n7;refine⟨m',hm,i+1,σ7,H7,I7.unpinned,T.keep _ _ _ st5 fun b hb o e=>(I7.pin (b,o) (List.mem_append_right _ (List.mem_append_right _ (cQ hb e)))).1,fun b hb=>?_,w7⟩;obtain⟨o,e,d⟩:=T.obj _ _ st5 b hb;exact(I7.pin (b,o) (List.mem_append_right _ (List.mem_append_right _ (cQ hb e)))).2.1
  cases f with
  | next=>obtain⟨σ7,H7,I7,n7⟩:=q7;exact again I7 n7
  | cont=>obtain⟨σ7,H7,I7,n7⟩:=q7;exact again I7 n7
  | brk=>obtain⟨σ7,H7,I7,q7⟩:=q7;exact⟨σ7,H7,I7.unpinned,q7⟩
  | ret v=>obtain⟨x7,σ7,H7,I7,r7,q7⟩:=q7;exact⟨x7,σ7,H7,I7.unpinned,r7,q7⟩
end
theorem oM{K:W.Frag}{a:Addr}{xs:List V}{g:TG}{tb:TS}{D:ee}{σ:St}{H:Hp}(Pv:Nat->St->Hp->Prop)(h0:Pv 0 σ H)(hl:∀i σ H,i≤xs.length->Pv i σ H->SqL K H a xs)
  (hs:∀i x σ H,xs[i]? = some x->Pv i σ H->g x σ H fun σ2 H2=>tb { D with nx:=Pv (i+1),ct:=Pv (i+1),bk:=D.nx } σ2 H2) (hd:∀σ H,Pv xs.length σ H->D.nx σ H) :
  ∃W:Nat->Nat->St->Hp->Prop,(∃m,W 0 m σ H)∧∀i m σ H,W i m σ H ->
   ((Itl K a).stop i H∧D.nx σ H)∨((Itl K a).go i H∧∃N:St->Hp->Prop,(∀σ' H',N σ' H'->∃m',m'<m∧W (i+1) m' σ' H')∧∀x H',(Itl K a).yld i H x H'->g x σ H' fun σ2 H2=>tb { D with nx:=N,ct:=N,bk:=D.nx } σ2 H2):=by
 refine⟨fun i m σ H=>m=xs.length - i∧i≤xs.length∧Pv i σ H,⟨xs.length,by simp,Nat.zero_le _,h0⟩,?_⟩;rintro i m σ H ⟨rfl,hi,p⟩;have q:=hl i σ H hi p
 by_cases hlt:i<xs.length
 ·refine .inr ⟨⟨xs,xs[i],q,by simp[hlt]⟩,Pv (i+1),fun σ' H' p'=>⟨xs.length - (i+1),by omega,rfl,hlt,p'⟩,fun x H' y=>?_⟩
  obtain⟨e,y⟩:=y;subst e;exact hs i x σ _ (y xs q) p
 ·have e:i=xs.length:=by omega
  subst e;exact .inl ⟨⟨xs,q,Nat.le_refl _⟩,hd σ H p⟩
theorem iX{lo:Int}{n:Nat}{g:TG}{tb:TS}{D:ee}{σ:St}{H:Hp}(Pv:Nat->St->Hp->Prop)(h0:Pv 0 σ H)
  (hs:∀i σ H,i<n->Pv i σ H->g (.int (lo+i)) σ H fun σ2 H2=>tb { D with nx:=Pv (i+1),ct:=Pv (i+1),bk:=D.nx } σ2 H2) (hd:∀σ H,Pv n σ H->D.nx σ H) :
  ∃W:Nat->Nat->St->Hp->Prop,(∃m,W 0 m σ H)∧∀i m σ H,W i m σ H ->
   ((Itr lo n).stop i H∧D.nx σ H)∨((Itr lo n).go i H∧∃N:St->Hp->Prop,(∀σ' H',N σ' H'->∃m',m'<m∧W (i+1) m' σ' H')∧∀x H',(Itr lo n).yld i H x H'->g x σ H' fun σ2 H2=>tb { D with nx:=N,ct:=N,bk:=D.nx } σ2 H2):=by
 refine⟨fun i m σ H=>m=n - i∧i≤n∧Pv i σ H,⟨n,by simp,Nat.zero_le _,h0⟩,?_⟩;rintro i m σ H ⟨rfl,hi,p⟩
 by_cases hlt:i<n
 ·refine .inr ⟨hlt,Pv (i+1),fun σ' H' p'=>⟨n - (i+1),by omega,rfl,hlt,p'⟩,fun x H' y=>?_⟩
  obtain⟨e,y⟩:=y;subst e y;exact hs i σ _ hlt p
 ·have e:i=n:=by omega
  subst e;exact .inl ⟨Nat.le_refl _,hd σ H p⟩
theorem jO{c:TT}{tb:TS}{D:ee}{σ:St}{H:Hp}(Pv:St->Hp->Prop)(μ:St->Hp->Nat)(h0:Pv σ H)
  (hs:∀σ H,Pv σ H->c σ H fun b H1=>if b=true then tb { D with nx:=fun σ' H'=>Pv σ' H'∧μ σ' H'<μ σ H,ct:=fun σ' H'=>Pv σ' H'∧μ σ' H'<μ σ H,bk:=D.nx } σ H1 else D.nx σ H1)
  (mono:∀σ H Q Q',(∀b H1,Q b H1->Q' b H1)->c σ H Q->c σ H Q'):tO c tb D σ H:=by
 refine⟨fun m σ H=>m=μ σ H∧Pv σ H,⟨_,rfl,h0⟩,?_⟩;rintro m σ H ⟨rfl,p⟩;refine mono σ H _ _ (fun b H1 q=>?_) (hs σ H p);cases b with
 | true=>exact⟨_,fun σ' H' ⟨p',l⟩=>⟨_,l,rfl,p'⟩,q⟩
 | false=>exact q
end L2
namespace L2
open PySem PySem.Spec PyProof.Rows
abbrev R2:=V->V->Hp->VK->Prop
def OpR(X:Cx)(f:Value->Value->Sem Value)(r:R2):Prop :=
 ∀(pins:List (Addr×Obj)) (s:Shared) (σ:St) (H:Hp) (x y:V) (v u:Value) (Q:VK),zT X pins σ H s->bO x v->bO y u->r x y H Q ->
  wpAny (model X.prog X.w) X.A (f v u) (EP X pins σ Q) X.xe s
def UnR(X:Cx)(f:Value->Sem Value)(r:V->Hp->VK->Prop):Prop :=
 ∀(pins:List (Addr×Obj)) (s:Shared) (σ:St) (H:Hp) (x:V) (v:Value) (Q:VK),zT X pins σ H s->bO x v->r x H Q ->
  wpAny (model X.prog X.w) X.A (f v) (EP X pins σ Q) X.xe s
def dX(X:Cx)(f:Value)(r:List V->Hp->VK->Prop):Prop :=
 ∀(pins:List (Addr×Obj)) (s:Shared) (σ:St) (H:Hp) (xs:List V) (us:List Value) (Q:VK),zT X pins σ H s->aO xs us->r xs H Q ->
  wpAny (model X.prog X.w) X.A (call f us) (EP X pins σ Q) X.xe s
def tOp(r:R2)(ta tb:TE):TE:=fun σ H Q=>ta σ H fun x H1=>tb σ H1 fun y H2=>r x y H2 Q
def tUn(r:V->Hp->VK->Prop)(ta:TE):TE:=fun σ H Q=>ta σ H fun x H1=>r x H1 Q
inductive rI (C:Int->Int->Prop) (g:Int->Int->V) (x y:V) (H:Hp) (Q:VK):Prop
 | mk (i j:Int) (e:x = .int i) (f:y = .int j) (c:C i j) (q:Q (g i j) H):rI C g x y H Q
inductive Ip (g:Int->Int->V) (x y:V) (H:Hp) (Q:VK):Prop
 | mk (i j:Int) (e:x = .int i) (f:y = .int j) (q:Q (g i j) H):Ip g x y H Q
def rU(g:Int->V):V->Hp->VK->Prop:=fun x H Q=>∃i,x = .int i∧Q (g i) H
section
variable {X:Cx} {a b c:Expr} {ta tb tc:TE} {pos:Pos}
theorem yo(ha:PE X a ta)(hb:PE X b tb){pins:List (Addr×Obj)}{s:Shared}{σ:St}{H:Hp}{R:V->V->Hp->Prop}(I:zT X pins σ H s)
  (h:ta σ H fun x H1=>tb σ H1 fun y H2=>R x y H2) {Q:Value->Shared->Prop} {f:Value->Value->Sem Value}
  (hf:∀v u s2 x y H2,zT X pins σ H2 s2->bO x v->bO y u->R x y H2->wpAny (model X.prog X.w) X.A (f v u) Q X.xe s2) :
  wpAny (model X.prog X.w) X.A (eval a X.env) (fun v s₁=>wpAny (model X.prog X.w) X.A (eval b X.env) (fun u s₂=>wpAny (model X.prog X.w) X.A (f v u) Q X.xe s₂) X.xe s₁) X.xe s:=by
 refine thn (ha pins s σ H _ I h) fun v s1 ⟨x,H1,I1,r1,q1⟩=>?_;refine thn (hb pins s1 σ H1 _ I1 q1) fun u s2 ⟨y,H2,I2,r2,q2⟩=>?_;exact hf v u s2 x y H2 I2 r1 r2 q2
theorem ap{op:Operator}{r:R2}(ho:OpR X (binaryOp op) r)(ha:PE X a ta)(hb:PE X b tb):PE X (.BinOp a op b pos) (tOp r ta tb):=by
 intro pins s σ H Q I h;exact wpAny_BinOp (yo ha hb I h fun v u s2 x y H2 I2 rx ry q=>ho pins s2 σ H2 x y v u Q I2 rx ry q)
theorem jh{op:UnaryOp}{r:V->Hp->VK->Prop}(ho:UnR X (unaryOp op) r)(ha:PE X a ta):PE X (.UnaryOp op a pos) (tUn r ta):=by
 intro pins s σ H Q I h;exact UnaryOp_ (thn (ha pins s σ H _ I h) fun v s1 ⟨x,H1,I1,r1,q1⟩=>ho pins s1 σ H1 x v Q I1 r1 q1)
theorem opI{f:Value->Value->Sem Value}{C:Int->Int->Prop}{g:Int->Int->Int}
  (rule:∀(i j:Int) (t u:Tok) (s:Shared) (Q:Value->Shared->Prop) (E:Value->Shared->Prop),C i j->Q (.int (g i j) s.toks) { s with toks:=s.toks+1 }->wpAny (model X.prog X.w) X.A (f (.int i t) (.int j u)) Q E s) :
  OpR X f (rI C fun i j=>.int (g i j)):=by
 intro pins s σ H x y v u Q I rx ry h;obtain⟨i,j,rfl,rfl,hc,q⟩:=h;obtain⟨t,rfl⟩:=rx;obtain⟨t',rfl⟩:=ry;exact rule i j t t' s _ _ hc ⟨.int (g i j),H,I.tok _,⟨_,rfl⟩,q⟩
theorem yO{f:Value->Value->Sem Value}{g:Int->Int->Int}
  (rule:∀(i j:Int) (t u:Tok) (s:Shared) (Q:Value->Shared->Prop) (E:Value->Shared->Prop),Q (.int (g i j) s.toks) { s with toks:=s.toks+1 }->wpAny (model X.prog X.w) X.A (f (.int i t) (.int j u)) Q E s) :
  OpR X f (Ip fun i j=>.int (g i j)):=by
 intro pins s σ H x y v u Q I rx ry h;obtain⟨i,j,rfl,rfl,q⟩:=h;obtain⟨t,rfl⟩:=rx;obtain⟨t',rfl⟩:=ry;exact rule i j t t' s _ _ ⟨.int (g i j),H,I.tok _,⟨_,rfl⟩,q⟩
theorem vW{f:Value->Value->Sem Value}{g:Int->Int->Bool}
  (rule:∀(i j:Int) (t u:Tok) (s:Shared) (Q:Value->Shared->Prop) (E:Value->Shared->Prop),Q (.bool (g i j)) s->wpAny (model X.prog X.w) X.A (f (.int i t) (.int j u)) Q E s) :
  OpR X f (Ip fun i j=>.bl (g i j)):=by
 intro pins s σ H x y v u Q I rx ry h;obtain⟨i,j,rfl,rfl,q⟩:=h;obtain⟨t,rfl⟩:=rx;obtain⟨t',rfl⟩:=ry;exact rule i j t t' s _ _ ⟨.bl (g i j),H,I,rfl,q⟩
def zP(i j:Int):Prop:=0≤j∧j≤1000000∧i.natAbs<2^64
def wU(i j:Int):Prop:=(-(2^64)<i∧i<2^64)∨(-(2^64)<j∧j<2^64)
theorem wU.ok{i j:Int}(h:wU i j):IntMulOk i j:=by
 rcases h with⟨h1,h2⟩|⟨h1,h2⟩
 ·exact .of_left (intBits_le_64 h1 h2)
 ·exact .of_right (intBits_le_64 h1 h2)
theorem bz:OpR X (binaryOp .Add) (Ip fun i j=>.int (i+j)):=yO fun _ _ _ _ _ _ _ q=>add_int q
theorem bE:OpR X (binaryOp .Sub) (Ip fun i j=>.int (i - j)):=yO fun _ _ _ _ _ _ _ q=>sub_int q
theorem dE:OpR X (binaryOp .Mod) (rI (fun _ j=>0<j) fun i j=>.int (i % j)):=opI fun i j _ _ _ _ _ hc q=>by
 have h1:(0:Int)<j:=hc;exact mod_int' (by omega) (by rw[Int.fmod_eq_emod_of_nonneg i (by omega)];exact q)
theorem jZ:OpR X (binaryOp .Pow) (rI zP fun i j=>.int (i^j.toNat)):=opI fun _ _ _ _ _ _ _ hc q=>pow_int_small hc.1 hc.2.1 hc.2.2 q
theorem unI{f:Value->Sem Value}{g:Int->Int}
  (rule:∀(i:Int) (t:Tok) (s:Shared) (Q:Value->Shared->Prop) (E:Value->Shared->Prop),Q (.int (g i) s.toks) { s with toks:=s.toks+1 }->wpAny (model X.prog X.w) X.A (f (.int i t)) Q E s) :
  UnR X f (rU fun i=>.int (g i)):=by
 intro pins s σ H x v Q I rx h;obtain⟨i,rfl,q⟩:=h;obtain⟨t,rfl⟩:=rx;exact rule i t s _ _ ⟨.int (g i),H,I.tok _,⟨_,rfl⟩,q⟩
theorem fP:UnR X (unaryOp .USub) (rU fun i=>.int (-i)):=unI fun _ _ _ _ _ q=>neg_int q
end
def yJ:V->V->Bool
 | .non,.non=>true | .non,.int _=>true | .int _,.non=>true | .non,.bl _=>true | .bl _,.non=>true | .non,.str _=>true | .str _,.non=>true
 | .int _,.int _=>true | .bl _,.bl _=>true | .str _,.str _=>true | .byt _,.byt _=>true
 | .int _,.str _=>true | .str _,.int _=>true | .bl _,.str _=>true | .str _,.bl _=>true
 | _,_=>false
inductive Jm (x y:V) (H:Hp) (Q:VK):Prop
 | mk (s:yJ x y=true) (q:Q (.bl (decide (x=y))) H):Jm x y H Q
inductive Jl (x y:V) (H:Hp) (Q:VK):Prop
 | mk (s:yJ x y=true) (q:Q (.bl (!decide (x=y))) H):Jl x y H Q
theorem rQ{i j:Int}:decide (V.int i=V.int j)=(i == j):=by
 rw[Bool.eq_iff_iff];simp
theorem vg{i j:Bool}:decide (V.bl i=V.bl j)=(i == j):=by
 rw[Bool.eq_iff_iff];simp
theorem rP{i j:Str}:decide (V.str i=V.str j)=(i == j):=by
 rw[Bool.eq_iff_iff];simp
theorem rR{i j:Array UInt8}:decide (V.byt i=V.byt j)=(i.toList == j.toList):=by
 rw[Bool.eq_iff_iff];cases i;cases j;simp
section
variable {X:Cx} {a b c:Expr} {ta tb tc:TE} {pos:Pos}
theorem bK{pins:List (Addr×Obj)}{σ:St}{H:Hp}{s:Shared}{Q:VK}{k k':Bool}(I:zT X pins σ H s)(q:Q (.bl k) H)(e:k=k'):EP X pins σ Q (.bool k') s:=by
 subst e;exact⟨.bl k,H,I,rfl,q⟩
theorem aW:OpR X (compareOp .Eq) Jm:=by
 intro pins s σ H x y v u Q I rx ry h;obtain⟨hs,q⟩:=h;cases x with
 | non =>
  cases rx;cases y with
  | non=>cases ry;exact PySem.EqNone.eq_none_none (bK I q (by simp))
  | bl j=>cases ry;exact PySem.EqNone.eq_none_bool (bK I q (by simp))
  | int j=>obtain⟨t',rfl⟩:=ry;exact PySem.EqNone.eq_none_int (bK I q (by simp))
  | str j=>obtain⟨t',rfl⟩:=ry;exact PySem.EqNone.eq_none_str (bK I q (by simp))
  | _=>exact absurd (show false=true from hs) Bool.false_ne_true
 | bl i =>
  cases rx;cases y with
  | non=>cases ry;exact PySem.EqNone.eq_bool_none (bK I q (by simp))
  | bl j=>cases ry;exact eq_bool (bK I q vg)
  | str j=>obtain⟨t',rfl⟩:=ry;exact PySem.EqMixed.eq_bool_str (bK I q (by simp))
  | _=>exact absurd (show false=true from hs) Bool.false_ne_true
 | int i =>
  obtain⟨t,rfl⟩:=rx;cases y with
  | non=>cases ry;exact PySem.EqNone.eq_int_none (bK I q (by simp))
  | int j=>obtain⟨t',rfl⟩:=ry;exact eq_int (bK I q rQ)
  | str j=>obtain⟨t',rfl⟩:=ry;exact PySem.EqMixed.eq_int_str (bK I q (by simp))
  | _=>exact absurd (show false=true from hs) Bool.false_ne_true
 | str i =>
  obtain⟨t,rfl⟩:=rx;cases y with
  | non=>cases ry;exact PySem.EqNone.eq_str_none (bK I q (by simp))
  | bl j=>cases ry;exact PySem.EqMixed.eq_str_bool (bK I q (by simp))
  | int j=>obtain⟨t',rfl⟩:=ry;exact PySem.EqMixed.eq_str_int (bK I q (by simp))
  | str j=>obtain⟨t',rfl⟩:=ry;exact eq_str (bK I q rP)
  | _=>exact absurd (show false=true from hs) Bool.false_ne_true
 | byt i =>
  obtain⟨t,rfl⟩:=rx;cases y with
  | byt j=>obtain⟨t',rfl⟩:=ry;exact W.eq_bytes (bK I q rR)
  | _=>exact absurd (show false=true from hs) Bool.false_ne_true
 | _=>cases y <;> exact absurd (show false=true from hs) Bool.false_ne_true
theorem dU:OpR X (compareOp .NotEq) Jl:=by
 intro pins s σ H x y v u Q I rx ry h;obtain⟨hs,q⟩:=h;cases x with
 | non =>
  cases rx;cases y with
  | non=>cases ry;exact PySem.EqNone.ne_none_none (bK I q (by simp))
  | bl j=>cases ry;exact PySem.EqNone.ne_none_bool (bK I q (by simp))
  | int j=>obtain⟨t',rfl⟩:=ry;exact PySem.EqNone.ne_none_int (bK I q (by simp))
  | str j=>obtain⟨t',rfl⟩:=ry;exact PySem.EqNone.ne_none_str (bK I q (by simp))
  | _=>exact absurd (show false=true from hs) Bool.false_ne_true
 | bl i =>
  cases rx;cases y with
  | non=>cases ry;exact PySem.EqNone.ne_bool_none (bK I q (by simp))
  | bl j=>cases ry;exact ne_bool (bK I q (congrArg not vg))
  | str j=>obtain⟨t',rfl⟩:=ry;exact PySem.EqMixed.ne_bool_str (bK I q (by simp))
  | _=>exact absurd (show false=true from hs) Bool.false_ne_true
 | int i =>
  obtain⟨t,rfl⟩:=rx;cases y with
  | non=>cases ry;exact PySem.EqNone.ne_int_none (bK I q (by simp))
  | int j=>obtain⟨t',rfl⟩:=ry;exact ne_int (bK I q (congrArg not rQ))
  | str j=>obtain⟨t',rfl⟩:=ry;exact PySem.EqMixed.ne_int_str (bK I q (by simp))
  | _=>exact absurd (show false=true from hs) Bool.false_ne_true
 | str i =>
  obtain⟨t,rfl⟩:=rx;cases y with
  | non=>cases ry;exact PySem.EqNone.ne_str_none (bK I q (by simp))
  | bl j=>cases ry;exact PySem.EqMixed.ne_str_bool (bK I q (by simp))
  | int j=>obtain⟨t',rfl⟩:=ry;exact PySem.EqMixed.ne_str_int (bK I q (by simp))
  | str j=>obtain⟨t',rfl⟩:=ry;exact ne_str (bK I q (congrArg not rP))
  | _=>exact absurd (show false=true from hs) Bool.false_ne_true
 | byt i =>
  obtain⟨t,rfl⟩:=rx;cases y with
  | byt j=>obtain⟨t',rfl⟩:=ry;exact W.ne_bytes (bK I q (congrArg not rR))
  | _=>exact absurd (show false=true from hs) Bool.false_ne_true
 | _=>cases y <;> exact absurd (show false=true from hs) Bool.false_ne_true
theorem lH:OpR X (compareOp .Lt) (Ip fun i j=>.bl (decide (i<j))):=vW fun _ _ _ _ _ _ _ q=>lt_int q
theorem dn:OpR X (compareOp .LtE) (Ip fun i j=>.bl (decide (i≤j))):=vW fun _ _ _ _ _ _ _ q=>le_int q
theorem dq:OpR X (compareOp .Gt) (Ip fun i j=>.bl (decide (j<i))):=vW fun _ _ _ _ _ _ _ q=>gt_int q
theorem qZ:OpR X (compareOp .GtE) (Ip fun i j=>.bl (decide (j≤i))):=vW fun _ _ _ _ _ _ _ q=>ge_int q
theorem aq(b:Expr){op:CmpOp}(h:op≠.In:=by decide)(h2:op≠.NotIn:=by decide):behindInMarks op b=false:=by
 have e1:(op == CmpOp.In)=false:=by cases op <;> first|rfl|exact absurd rfl h
 have e2:(op == CmpOp.NotIn)=false:=by cases op <;> first|rfl|exact absurd rfl h2
 cases b <;> simp[behindInMarks,e1,e2]
theorem aT{op:CmpOp}{r:R2}(ho:OpR X (compareOp op) r)(ha:PE X a ta)(hb:PE X b tb)(hm:behindInMarks op b=false):PE X (.Compare a [op] [b] pos) (tOp r ta tb):=by
 intro pins s σ H Q I h;exact wpAny_Compare1 (yo ha hb I h fun v u s2 x y H2 I2 rx ry q=>ho pins s2 σ H2 x y v u Q I2 rx ry q) hm
inductive Jn (x:V) (H:Hp) (Q:Bool->Hp->Prop):Prop
 | mk (k:Bool) (e:x = .bl k) (q:Q k H):Jn x H Q
def tQ(t:TE):TT:=fun σ H Q=>t σ H fun x H'=>Jn x H' Q
theorem ar{op:CmpOp}{r:R2}(ho:OpR X (compareOp op) r)(ha:PE X a ta)(hb:PE X b tb)(hm:behindInMarks op b=false):PT X (.Compare a [op] [b] pos) (tQ (tOp r ta tb)):=by
 intro pins s σ H Q I h;refine wpAny_isTrue_Compare1 (thn (ha pins s σ H _ I h) fun v s1 ⟨x,H1,I1,r1,q1⟩=>thn (hb pins s1 σ H1 _ I1 q1) fun u s2 ⟨y,H2,I2,r2,q2⟩ =>
  thn (ho pins s2 σ H2 x y v u _ I2 r1 r2 q2) fun c s3 ⟨z,H3,I3,r3,k,e,q3⟩=>?_) hm
 subst e;cases r3;exact wpAny_truthy_bool ⟨H3,I3,q3⟩
def tS(r r':R2)(ta tb tc:TE):TE:=fun σ H Q=>ta σ H fun x H1=>tb σ H1 fun y H2=>r x y H2 fun z H3=>∃k,z = .bl k ∧
 (if k=true then tc σ H3 fun w' H4=>r' y w' H4 Q else Q (.bl false) H3)
theorem jW{op op':CmpOp}{r r':R2}(ho:OpR X (compareOp op) r)(ho':OpR X (compareOp op') r')(ha:PE X a ta)(hb:PE X b tb)(hc:PE X c tc)
  (hm:lastMarks [op,op'] [b,c]=false:=by with_unfolding_all rfl):PE X (.Compare a [op,op'] [b,c] pos) (tS r r' ta tb tc):=by
 intro pins s σ H Q I h;refine Compare_chain (thn (ha pins s σ H _ I h) fun v s1 ⟨x,H1,I1,r1,q1⟩=>chain_link (thn (hb pins s1 σ H1 _ I1 q1) fun u s2 ⟨y,H2,I2,r2,q2⟩ =>
  thn (ho pins s2 σ H2 x y v u _ I2 r1 r2 q2) fun d s3 ⟨z,H3,I3,r3,k,e,q3⟩=>?_)) hm
 subst e;cases r3;refine wpAny_truthy_bool ?_;cases k with
 | false=>exact ite_ff ⟨.bl false,H3,I3,rfl,q3⟩
 | true=>exact ite_tt (chain_last (thn (hc pins s3 σ H3 _ I3 q3) fun w' s4 ⟨z',H4,I4,r4,q4⟩=>ho' pins s4 σ H4 y z' u w' Q I4 r2 r4 q4))
theorem jP{op op':CmpOp}{r r':R2}(ho:OpR X (compareOp op) r)(ho':OpR X (compareOp op') r')(ha:PE X a ta)(hb:PE X b tb)(hc:PE X c tc)
  (hm:lastMarks [op,op'] [b,c]=false:=by with_unfolding_all rfl):PT X (.Compare a [op,op'] [b,c] pos) (tQ (tS r r' ta tb tc)):=by
 intro pins s σ H Q I h;refine isTrue_chain (thn (ha pins s σ H _ I h) fun v s1 ⟨x,H1,I1,r1,q1⟩=>test_link (thn (hb pins s1 σ H1 _ I1 q1) fun u s2 ⟨y,H2,I2,r2,q2⟩ =>
  thn (ho pins s2 σ H2 x y v u _ I2 r1 r2 q2) fun d s3 ⟨z,H3,I3,r3,k,e,q3⟩=>?_)) hm
 subst e;cases r3;refine wpAny_truthy_bool ?_;cases k with
 | false =>
  obtain⟨k',e',q'⟩:=q3;cases e';exact ite_ff ⟨H3,I3,q'⟩
 | true =>
  refine ite_tt (test_last (thn (hc pins s3 σ H3 _ I3 q3) fun w' s4 ⟨z',H4,I4,r4,q4⟩=>thn (ho' pins s4 σ H4 y z' u w' _ I4 r2 r4 q4) fun d' s5 ⟨z2,H5,I5,r5,k2,e2,q5⟩=>?_));subst e2;cases r5;exact wpAny_truthy_bool ⟨H5,I5,q5⟩
theorem kb:(sizeLine:Nat)<2^63:=by rw[sizeLine_eq];decide
theorem bH:OpR X (binaryOp .Add) (fun x y H Q=>∃i j,x = .str i∧y = .str j∧i.length+j.length≤sizeLine∧Q (.str (i++j)) H):=by
 intro pins s σ H x y v u Q I rx ry h;obtain⟨i,j,rfl,rfl,hz,q⟩:=h;obtain⟨t,rfl⟩:=rx;obtain⟨t',rfl⟩:=ry;exact add_str (fun t' tk=>⟨.str (i++j),H,I.tok _,⟨_,rfl⟩,q⟩) hz
theorem cT{x:V}{us:List Value}(r:aO [x] us):∃u,us = [u]∧bO x u:=by
 cases r with
 | cons r1 r2=>cases r2;exact⟨_,rfl,r1⟩
theorem qM{x y:V}{us:List Value}(r:aO [x,y] us):∃u w',us = [u,w']∧bO x u∧bO y w':=by
 cases r with
 | cons r1 r2 =>
  cases r2 with
  | cons r3 r4=>cases r4;exact⟨_,_,rfl,r1,r3⟩
theorem gh:dX X (.builtin "abs") (fun xs H Q=>∃i,xs = [.int i]∧Q (.int (if i<0 then -i else i)) H):=by
 intro pins s σ H xs us Q I r h;obtain⟨i,rfl,q⟩:=h;obtain⟨u,rfl,t,rfl⟩:=cT r;exact call_abs_int fun u tk=>⟨.int (if i<0 then -i else i),H,I.tok _,⟨_,rfl⟩,q⟩
theorem l9(hc:X.calm=true):dX X (.builtin "max") (fun xs H Q=>∃i j,xs = [.int i,.int j]∧Q (.int (if j>i then j else i)) H):=by
 intro pins s σ H xs us Q I r h;obtain⟨i,j,rfl,q⟩:=h;obtain⟨u,w',rfl,⟨t,rfl⟩,⟨t',rfl⟩⟩:=qM r;refine max_two_ints (I.ok.hd hc) fun h' tk k=>⟨_,H,I.kept k,?_,q⟩
 by_cases hj:j>i
 ·rw[if_pos hj,if_pos hj];exact⟨_,rfl⟩
 ·rw[if_neg hj,if_neg hj];exact⟨_,rfl⟩
theorem je(hc:X.calm=true):dX X (.builtin "min") (fun xs H Q=>∃i j,xs = [.int i,.int j]∧Q (.int (if j<i then j else i)) H):=by
 intro pins s σ H xs us Q I r h;obtain⟨i,j,rfl,q⟩:=h;obtain⟨u,w',rfl,⟨t,rfl⟩,⟨t',rfl⟩⟩:=qM r;refine min_two_ints (I.ok.hd hc) fun h' tk k=>⟨_,H,I.kept k,?_,q⟩
 by_cases hj:j<i
 ·rw[if_pos hj,if_pos hj];exact⟨_,rfl⟩
 ·rw[if_neg hj,if_neg hj];exact⟨_,rfl⟩
theorem tm:dX X (.type "int") (fun xs H Q=>(∃i,xs = [.int i]∧Q (.int i) H)∨∃k,xs = [.bl k]∧Q (.int (if k then 1 else 0)) H):=by
 intro pins s σ H xs us Q I r h;rcases h with⟨i,rfl,q⟩|⟨k,rfl,q⟩
 ·obtain⟨u,rfl,t,rfl⟩:=cT r
  exact call_int_int ⟨.int i,H,I,⟨_,rfl⟩,q⟩
 ·obtain⟨u,rfl,r1⟩:=cT r
  cases r1;exact call_int_bool ⟨.int (if k then 1 else 0),H,I.tok _,⟨_,rfl⟩,q⟩
end
end L2
namespace L2
open PySem PySem.Spec PyProof.Rows
structure Jd(h:Heap)(x dx C:Addr)(mA:Str->Option Value):Prop where
 obj:h.get? x=some (W.instObj C dx)
 ns:h.Ns1 dx mA
 ne:dx≠x
theorem sL{h:Heap}{dx:Addr}{mA:Str->Option Value}(n:h.Ns1 dx mA):∃od,h.get? dx=some od∧∀name,W.lookIn name od=some (mA name):=by
 obtain⟨o,es,ep,ho,hd,hk,_,hm⟩:=n;refine⟨o,ho,fun name=>?_⟩;have e:=hm name;unfold nsFind findBy at e;rw[<- Array.find?_toList]at e;unfold W.lookIn;rw[hd];dsimp only
 split
 ·rename_i y q
  rw[q]at e;exact congrArg some e
 ·rename_i q
  rw[q]at e;have a:es.toList.any (·.refKey)=false:=by
   rw[List.any_eq_false];intro y hy;obtain⟨z,t,hkey⟩:=hk y (Array.mem_toList_iff.mp hy);simp[DictEntry.refKey,hkey]
  have a':¬es.toList.any (·.refKey)=true:=by rw[a];exact Bool.false_ne_true
  rw[if_neg a'];exact congrArg some e
theorem Jd.look{h:Heap}{x dx C:Addr}{mA:Str->Option Value}(I:Jd h x dx C mA):∃od,W.InstAt h x (W.instObj C dx) C (some od)∧∀name,W.lookIn name od=some (mA name) :=
 let ⟨od,ho,hl⟩:=sL I.ns
 ⟨od,⟨I.obj,rfl,rfl,ho⟩,hl⟩
section
variable {prog:Program} {w:World} {A:Around} {E:Value->Shared->Prop} {s:Shared} {K:W.Frag} {x dx C f:Addr} {mA:Str->Option Value} {name:Str} {v:Value}
end
section
variable {P:Program} {w:World} {H H':Hp} {h h':Heap} {a C dx:Addr} {fs fs':List (Str×V)}
theorem wg(hok:HOk P w H h)(e:H a=some (.ins C dx fs)):∃mA,Jd h a dx C mA∧(∀f,yw (fs.lookup f) (mA f))∧PySem.Within mA (fs.map (·.1))∧fs.length≤1000∧H dx=some (.own a):=by
 obtain⟨d,z,ne,ob,mA,n,r,q⟩:=(show cL P w H h a (.ins C dx fs) from hok a _ e);exact⟨mA,⟨ob,n,ne⟩,r,q,z,d⟩
end
structure Jk(K:W.Frag)(C:Addr):Prop where
 pg:W.plainGet K C Str.empty=true
 hd:W.hasDictIn K C=true
 po:W.plainOver K C=true
 sa:W.findIn K (.ref C) "__setattr__" = some (some (.builtin "object.__setattr__"))
theorem Jk.get{K:W.Frag}{C:Addr}(c:Jk K C)(f:Str):W.plainGet K C f=true:=c.pg
section
variable {X:Cx} {pins:List (Addr×Obj)} {σ:St} {H:Hp} {s:Shared} {a C dx:Addr} {fs:List (Str×V)} {f:Str} {v:V} {A:Around} {E:Value->Shared->Prop}
end
section
variable {X:Cx} {o e value:Expr} {f:Str} {pos pos' tpos:Pos} {ta tv:TE}
end
section
variable {X:Cx} {pins:List (Addr×Obj)} {σ:St} {H:Hp} {s:Shared} {A:Around} {E:Value->Shared->Prop} {Q:Value->Shared->Prop} {c:Value} {b:Bool}
inductive EX (K:W.Frag) (H:Hp):V->Value->Prop where
 | non:EX K H .non (.type "NoneType")
 | bl (x:Bool):EX K H (.bl x) (.type "bool")
 | int (i:Int):EX K H (.int i) (.type "int")
 | str (x:Str):EX K H (.str x) (.type "str")
 | flt (x:UInt64):EX K H (.flt x) (.type "float")
 | lst {a:Addr} {xs:List V} (e:H a=some (.lst xs)):EX K H (.ref a) (.type "list")
 | frz {a:Addr} {o:Obj} {xs:List V} (e:H a=some (.frz o (.lst xs))):EX K H (.ref a) (.type "list")
 | tup {a:Addr} {xs:List V} (e:H a=some (.tup xs)):EX K H (.ref a) (.type "tuple")
 | dK {a:Addr} {kvs:List (Key×V)} (e:H a=some (.dK kvs)):EX K H (.ref a) (.type "dict")
 | dT {a:Addr} {kvs:List (List Key×V)} (e:H a=some (.dT kvs)):EX K H (.ref a) (.type "dict")
 | ins {a C dx:Addr} {fs:List (Str×V)} (e:H a=some (.ins C dx fs)) (cl:Jk K C) (ha:W.findIn K (.ref C) "__class__" = some (some (.builtin "object.__class__")))
   (hn:W.specialIn K (.builtin "object.__class__") "__get__" = some (some (.builtin "getset_descriptor.__get__"))) (htk:W.takesIn K (.builtin "object.__class__")=some true)
   (hm:W.mroIn K C (.type "object")=some true):EX K H (.ref a) (.ref C)
theorem sP{x:V}{u t:Value}(I:zT X pins σ H s)(rx:bO x u)(ty:EX X.K H x t)(e:W.kitOne X.K t c=some b)(h:∀tk,Q (.bool b) { s with toks:=tk }) :
  wpAny (model X.prog X.w) A (call (.builtin "isinstance") [u,c]) Q E s:=by
 cases ty with
 | non=>cases (show u=Value.none from rx);exact W.kia_one W.kitx_none I.kIn True.intro e (fun z=>nomatch z) h
 | bl y=>cases (show u=Value.bool y from rx);exact W.kia_one W.kitx_bool I.kIn True.intro e (fun z=>nomatch z) h
 | int i=>obtain⟨t,q⟩:=(show ∃t,u=Value.int i t from rx);cases q;exact W.kia_one W.kitx_int I.kIn True.intro e (fun z=>nomatch z) h
 | str y=>obtain⟨t,q⟩:=(show ∃t,u=Value.str y t from rx);cases q;exact W.kia_one W.kitx_str I.kIn True.intro e (fun z=>nomatch z) h
 | flt y=>obtain⟨t,q⟩:=(show ∃t,u=Value.float y t from rx);cases q;exact W.kia_one W.kitx_float I.kIn True.intro e (fun z=>nomatch z) h
 | @lst a xs ea =>
  cases (show u=Value.ref a from rx);obtain⟨_,_,n,_,h1⟩:=(show cL X.prog X.w H s.heap a (.lst xs) from I.hok a _ ea);exact W.kia_one W.kitx_list I.kIn ⟨_,h1,rfl⟩ e (fun z=>nomatch z) h
 | @frz a ob xs ea =>
  cases (show u=Value.ref a from rx);obtain⟨_,_,_,n,_,h1⟩:=(show cL X.prog X.w H s.heap a (.frz ob (.lst xs)) from I.hok a _ ea);exact W.kia_one W.kitx_list I.kIn ⟨_,h1,rfl⟩ e (fun z=>nomatch z) h
 | @tup a xs ea =>
  cases (show u=Value.ref a from rx);obtain⟨_,_,_,p⟩:=(show cL X.prog X.w H s.heap a (.tup xs) from I.hok a _ ea);obtain⟨o,h1,h2,_⟩:=p;exact W.kia_one W.kitx_tuple I.kIn ⟨o,h1,h2⟩ e (fun z=>nomatch z) h
 | @dK a kvs ea =>
  cases (show u=Value.ref a from rx);obtain⟨_,_,vs,_,p⟩:=(show cL X.prog X.w H s.heap a (.dK kvs) from I.hok a _ ea);obtain⟨o,es,ep,h1,h2,_⟩:=p;exact W.kia_one W.kitx_dict I.kIn ⟨o,h1,h2.1⟩ e (fun z=>nomatch z) h
 | @dT a kvs ea =>
  cases (show u=Value.ref a from rx);obtain⟨_,_,xs,_,o,es,ep,h1,h2,_⟩:=(show cL X.prog X.w H s.heap a (.dT kvs) from I.hok a _ ea);exact W.kia_one W.kitx_dict I.kIn ⟨o,h1,h2.1⟩ e (fun z=>nomatch z) h
 | @ins a C dx fs ea cl ha hn htk hm =>
  cases (show u=Value.ref a from rx);obtain⟨mA,O,_⟩:=wg I.hok ea;obtain⟨od,J,_⟩:=O.look;exact W.kia_one (W.kitx_own (cl.get _) cl.hd ha hn htk hm) I.kIn J e (fun z=>nomatch z) h
end
end L2
namespace L2
open PySem PySem.Spec PyProof.Rows
structure A6(k:Nat)(A:Around):Prop where
 hd:A.handled=none
 dp:A.depth+3*k+5<recursionLimit
 un:A.units+16*k+200<cLine
 gd:A.guards=some []
theorem A6.mono{j k:Nat}{A:Around}(r:A6 k A)(h:j≤k):A6 j A:=⟨r.hd,by have:=r.dp;omega,by have:=r.un;omega,r.gd⟩
theorem A6.deeper{k:Nat}{A:Around}(r:A6 (k+1) A)(env:Env):A6 k (A.deeper env) :=
 ⟨r.hd,by have:=r.dp;show A.depth+1+3*k+5<_;omega,by have:=r.un;show A.units+3+16*k+200<_;omega,r.gd⟩
theorem A6.depth{k:Nat}{A:Around}(r:A6 k A):A.depth<recursionLimit:=by have:=r.dp;omega
theorem A6.units0{k:Nat}{A:Around}(r:A6 k A):A.units<cLine:=by have:=r.un;omega
def mj:TA:=fun _ H Q=>Q [] H
def dB(ta:TE)(tr:TA):TA:=fun σ H Q=>ta σ H fun x H1=>tr σ H1 fun xs H2=>Q (x::xs) H2
section
variable {X:Cx} {e:Expr} {es:List Expr} {te:TE} {t:TA} {pos:Pos}
theorem ae:PA X [] mj:=fun _ _ _ _ H Q I h=>Calls.spliced_nil ⟨[],H,I,.nil,h⟩
theorem aa(ha:PE X e te)(hr:PA X es t)(hs:starEach (e::es) X.env=(false,eval e X.env)::starEach es X.env:=by rfl):PA X (e::es) (dB te t):=by
 intro pos pins s σ H Q I h;rw[hs];show wpAny _ _ (spliced ((false,eval e X.env)::backTo pos (starEach es X.env))) _ _ s;refine Calls.spliced_cons (thn (ha pins s σ H _ I h) fun u s1 ⟨x,H1,I1,r1,q1⟩=>?_);exact thn (hr pos pins s1 σ H1 _ I1 q1) fun us s2 ⟨xs,H2,I2,r2,q2⟩=>⟨x::xs,H2,I2,.cons r1 r2,q2⟩
def zl(t:TA):TE:=fun σ H Q=>t σ H fun xs H1=>xs.length≤sizeLine∧∀p,H1 p=none->Q (.ref p) (upd H1 p (.tup xs))
theorem pZ{x1}(h:PA X es t):PE X (.Tuple es x1 pos) (zl t):=by
 intro pins s σ H Q I hq;refine wpAny_Tuple_spliced (thn (h pos pins s σ H _ I hq) fun us s1 ⟨xs,H1,I1,r,z,q⟩=>⟨by rw[<- r.length];exact z,?_⟩);have hf:H1 s1.heap.objs.size=none:=I1.hok.fresh (Nat.le_refl _);refine⟨.ref s1.heap.objs.size,upd H1 s1.heap.objs.size (.tup xs),I1.laid (t':=s1.toks) (fun b u e=>Heap.get?_push_of_some _ e) (Nat.le_refl _) ?_,rfl,q _ hf⟩;exact⟨z,us,r,⟨_,Heap.get?_push_size _ rfl,rfl,_,rfl⟩⟩
end
abbrev Sp:=List V->Hp->VK->XK->Prop
abbrev CXT:=List Env->Hp->Shared->XK->Value->Shared->Prop
structure IH(P:Program)(w:World)(K:W.Frag)(mg:Str->Option Value)(base:Heap)(A:Around)(outer:List Env)(s:Shared)(H:Hp):Prop where
 frames:A.frames=some outer
 mod:Mod K mg base
 bs:∀b o,base.get? b=some o->s.heap.get? b=some o∧H b=none
 bsz:base.objs.size≤s.heap.objs.size
 funs:s.heap.FunFrames base outer
 frf:∀b∈frs outer,H b=none
 hok:HOk P w H s.heap
 bare:AllBare s.gens
def CE(outer:List Env)(P:Program)(w:World)(H:Hp)(s:Shared)(Q:VK)(u:Value)(s':Shared):Prop :=
 ∃v H',s'.os=s.os∧AllBare s'.gens∧Un (frs outer) [] H H' s.heap s'.heap∧HOk P w H' s'.heap∧bO v u∧Q v H'
def CR(CX:CXT)(outer:List Env)(P:Program)(w:World)(H:Hp)(s:Shared)(Q:VK)(E:XK)(r:Result)(s':Shared):Prop :=
 match r with
 | .ok (.ret u)=>CE outer P w H s Q u s'
 | .ok _=>False
 | .error e=>CX outer H s E e s'
structure EK(P:Program)(w:World)(K:W.Frag)(mg:Str->Option Value)(base:Heap)(CX:CXT)(k:Nat)(f:Addr)(fd:FuncData)(ps:List Str)(sp:Sp):Prop where
 len:∀vs H Q E,sp vs H Q E->vs.length=ps.length
 run:∀(A:Around) (outer:List Env) (s:Shared) (H:Hp) (args:Args) (us:List Value) (vs:List V) (Q:VK) (E:XK),A6 k A->IH P w K mg base A outer s H->BindsTo s fd args (ps.zip us)->aO vs us->sp vs H Q E ->
  codeAny (model P w) A (.call (.ref f) args) (CR CX outer P w H s Q E) s
theorem EK.imp{P:Program}{w:World}{K:W.Frag}{mg:Str->Option Value}{base:Heap}{CX:CXT}{k:Nat}{f:Addr}{fd:FuncData}{ps:List Str}{sp sp':Sp}(F:EK P w K mg base CX k f fd ps sp)
  (h:∀vs H Q E,sp' vs H Q E->sp vs H Q E):EK P w K mg base CX k f fd ps sp' :=
 ⟨fun vs H Q E q=>F.len vs H Q E (h _ _ _ _ q),fun A outer s H args us vs Q E hr he hb hv hs=>F.run A outer s H args us vs Q E hr he hb hv (h _ _ _ _ hs)⟩
section
variable {X:Cx} {pins:List (Addr×Obj)} {σ:St} {H:Hp} {s s':Shared}
theorem zT.env0(I:zT X pins σ H s):IH X.prog X.w X.K X.mg X.base X.A X.stack s H :=
 ⟨I.ok.frames,I.ok.mod,I.bs,Nat.le_trans I.ok.bsz I.sz,I.stack,I.stkFree,I.hok,I.bare⟩
theorem zT.after{Q:VK}{u:Value}(I:zT X pins σ H s)(h:CE X.stack X.prog X.w H s Q u s'):EP X pins σ Q u s':=by
 obtain⟨v,H',os,bare,un,hok,r,q⟩:=h;obtain⟨hh,g,d,t,os'⟩:=s';obtain rfl:os'=s.os:=os;exact⟨v,H',I.call (h':=hh) (g':=g) (d':=d) (t':=t) (ch:=[]) un hok bare (fun b z=>absurd z (by simp)),r,q⟩
end
def gR(sp:Sp)(dvs:List V)(E:XK)(t:TA):TE:=fun σ H Q=>t σ H fun vs H1=>sp (vs++dvs) H1 Q E
def kH(K:W.Frag)(fd:FuncData)(ps:List Str)(ds:List Value):Prop :=
 ∀(s:Shared) (us:List Value),K.In s.heap->(us++ds).length=ps.length->BindsTo s fd ⟨us,[]⟩ (ps.zip (us++ds))
theorem kH.all{K:W.Frag}{fd:FuncData}{ps:List Str}(h:∀us:List Value,us.length=ps.length->bindArgs fd ⟨us,[]⟩=pure (ps.zip us)):kH K fd ps []:=fun s us _ hl=>by
 rw[List.append_nil]at hl ⊢;exact .of_eq (h us hl)
def kG(CX:CXT)(X:Cx)(E:XK):Prop:=∀(pins:List (Addr×Obj)) (σ:St) (H:Hp) (s:Shared) (e:Value) (s':Shared),zT X pins σ H s->CX X.stack H s E e s'->X.xe e s'
section
variable {X:Cx} {CX:CXT} {k:Nat} {f C:Addr} {fd:FuncData} {ps:List Str} {sp:Sp} {dvs:List V} {ds:List Value} {E:XK} {x m:Str} {p pos apos:Pos} {e o:Expr} {es:List Expr} {ta:TE} {t:TA}
theorem xw{pins:List (Addr×Obj)}{σ:St}{H:Hp}{s:Shared}{Q:VK}{us:List Value}{vs:List V}(F:EK X.prog X.w X.K X.mg X.base CX k f fd ps sp)(hr:A6 k X.A)(hb:kH X.K fd ps ds)(hd:aO dvs ds)(hx:kG CX X E)
  (I:zT X pins σ H s) (r:aO vs us) (h:sp (vs++dvs) H Q E):wpAny (model X.prog X.w) X.A (call (.ref f) us) (EP X pins σ Q) X.xe s:=by
 have r2:aO (vs++dvs) (us++ds):=r.append hd;have hl:(us++ds).length=ps.length:=by rw[<- r2.length];exact F.len _ _ _ _ h
 refine wpAny_call (codeAny_mono (F.run X.A X.stack s H ⟨us,[]⟩ (us++ds) (vs++dvs) Q E hr I.env0 (hb s us I.kIn hl) r2 h) fun r s' hq=>?_);cases r with
 | error e=>exact hx pins σ H s e s' I hq
 | ok fl =>
  cases fl with
  | ret u=>exact I.after hq
  | next=>exact False.elim hq
  | brk=>exact False.elim hq
  | cont=>exact False.elim hq
theorem ie(F:EK X.prog X.w X.K X.mg X.base CX k f fd ps sp)(hr:A6 k X.A)(hg:Gl X x)(hm:X.mg x=some (.ref f))(hk:W.keepIn X.K (.ref f)=true)(hb:kH X.K fd ps ds)(hd:aO dvs ds)(hx:kG CX X E)
  (ha:PA X (e::es) t) (hdb:(x == ("__debug__" : Str))=false:=by decide) (he:starEach (e::es) X.env=(false,eval e X.env)::starEach es X.env:=by rfl) (hpl:(backTo pos (starEach es X.env)).any (·.1)=false:=by rfl) :
  PE X (.Call (.Name x p) (e::es) [] pos) (gR sp dvs E t):=by
 intro pins s σ H Q I h;refine wpAny_Call_Name_kw (iw I hg hm ?_ hdb);refine W.callWith_K (h₀:=X.base) I.ok.mod.kin hk (thn (ha pos pins s σ H _ I h) fun us s1 ⟨vs,H1,I1,r,q⟩=>⟨I1.kIn,?_⟩) he hpl;exact xw F hr hb hd hx I1 r q
end
section
variable {X:Cx} {CX:CXT} {k:Nat} {f C:Addr} {fd:FuncData} {ps ks:List Str} {sp:Sp} {E:XK} {x m:Str} {p pos apos kpos:Pos} {e o:Expr} {es:List Expr} {kws:List Keyword} {te ta:TE} {t tk:TA} {nm:Option Str}
variable {g:List Value->List Value->List Value} {gV:List V->List V->List V}
end
structure zQ(N P:List Str)(sc:Scope):Prop where
 kind:sc.kind = .function
 co:sc.isCoroutine=false
 gen:sc.isGenerator=false
 nd:N.Nodup
 pre:N.take P.length=P
 par:∀x∈P,sc.names.lookup x=some .local∨sc.names.lookup x=some .cell
 nofree:∀y∈sc.names,y.2≠.free
theorem ma{kindOf:Str->Option NameKind}{x:Str}:∀{binds:List (Str×Value)} {m:Str->Option Value},(∀v,(x,v)∉binds)->bindL kindOf binds m x=m x
 | [],_,_=>rfl
 | (n,v)::r,m,h=>by
  unfold bindL;rw[ma fun w hw=>h w (List.mem_cons_of_mem _ hw)]
  split
  ·have:x≠n:=by rintro rfl;exact h v List.mem_cons_self
   simp[this]
  ·rfl
theorem me{kindOf:Str->Option NameKind}{x:Str}:∀{binds:List (Str×Value)} {m:Str->Option Value},(∀v,(x,v)∉binds)->bindC kindOf binds m x=m x
 | [],_,_=>rfl
 | (n,v)::r,m,h=>by
  unfold bindC;rw[me fun w hw=>h w (List.mem_cons_of_mem _ hw)]
  split
  ·rfl
  ·have:x≠n:=by rintro rfl;exact h v List.mem_cons_self
   simp[this]
theorem md{kindOf:Str->Option NameKind}{x:Str}{v:Value}:∀{P:List Str} {vs:List Value} {i:Nat} {m:Str->Option Value},P.Nodup->P[i]? = some x->vs[i]? = some v->kindOf x=some .local ->
  bindL kindOf (P.zip vs) m x=some v
 | [],_,_,_,_,h,_,_=>by simp at h
 | _::_,[],_,_,_,_,h,_=>by simp at h
 | p::P,w::vs,0,m,nd,h1,h2,hk=>by
  simp at h1 h2;subst h1;subst h2;show bindL kindOf ((p,w)::P.zip vs) m p=_;unfold bindL;rw[ma fun v hv=>(List.nodup_cons.mp nd).1 (List.of_mem_zip hv).1,if_pos hk];simp
 | p::P,w::vs,i+1,m,nd,h1,h2,hk=>by
  show bindL kindOf ((p,w)::P.zip vs) m x=_;unfold bindL;exact md (i:=i) (List.nodup_cons.mp nd).2 (by simpa using h1) (by simpa using h2) hk
theorem mf{kindOf:Str->Option NameKind}{x:Str}{v:Value}:∀{P:List Str} {vs:List Value} {i:Nat} {m:Str->Option Value},P.Nodup->P[i]? = some x->vs[i]? = some v->kindOf x≠some .local ->
  bindC kindOf (P.zip vs) m x=some v
 | [],_,_,_,_,h,_,_=>by simp at h
 | _::_,[],_,_,_,_,h,_=>by simp at h
 | p::P,w::vs,0,m,nd,h1,h2,hk=>by
  simp at h1 h2;subst h1;subst h2;show bindC kindOf ((p,w)::P.zip vs) m p=_;unfold bindC;rw[me fun v hv=>(List.nodup_cons.mp nd).1 (List.of_mem_zip hv).1,if_neg hk];simp
 | p::P,w::vs,i+1,m,nd,h1,h2,hk=>by
  show bindC kindOf ((p,w)::P.zip vs) m x=_;unfold bindC;exact mf (i:=i) (List.nodup_cons.mp nd).2 (by simpa using h1) (by simpa using h2) hk
def fQ(N:List Str)(vs:List V):St:=vs.map some++List.replicate (N.length - vs.length) none
def aN(CX:CXT)(P:Program)(w:World)(K:W.Frag)(mg:Str->Option Value)(base:Heap)(N:List Str)(qual:Str)(scope:Scope)(f:Addr)(cd:Value)(A:Around)(outer:List Env)(s:Shared)(H:Hp)(E:XK):Cx where
 prog:=P
 w:=w
 K:=K
 mg:=mg
 base:=base
 A:=A.deeper (envOfC qual scope s.heap.objs.size f cd)
 N:=N
 s₀:=s
 H₀:=H
 env:=envOfC qual scope s.heap.objs.size f cd
 outer:=outer
 stack:=envOfC qual scope s.heap.objs.size f cd::outer
 ex:=[]
 calm:=true
 fn:=fun _=>true
 pn:=[]
 xe:=fun e s'=>wpAny (model P w) (A.deeper (envOfC qual scope s.heap.objs.size f cd)) (leaving (envOfC qual scope s.heap.objs.size f cd) e) (fun _ s''=>CX outer H s E e s'') (fun e' s''=>CX outer H s E e' s'') s'
theorem pD{sc:Scope}{n:Nat}{x:Str}(h:sc.names.lookup x=some .cell):∃c,(cellsFrom n sc.names []).lookup x=some c:=by
 have q:=W.cellsFrom_some sc.names n [] (.inl h);exact Option.isSome_iff_exists.mp q
theorem sQ{CX:CXT}{P:Program}{w:World}{K:W.Frag}{mg:Str->Option Value}{base:Heap}{N ps:List Str}{qual:Str}{scope:Scope}{f:Addr}{cd:Value}{A:Around}{outer:List Env}{s s1:Shared}{H:Hp}{E:XK}{us:List Value}{vs:List V}
  (S:zQ N ps scope) (hd:A.handled=none) (e0:IH P w K mg base A outer s H) (hl:vs.length=ps.length) (r:aO vs us)
  (x:InCallC s s.heap.objs.size (bindL (envOfC qual scope s.heap.objs.size f cd).kindOf (ps.zip us) fun _=>none) (cellsFrom (s.heap.objs.size+1) scope.names []) (bindC (envOfC qual scope s.heap.objs.size f cd).kindOf (ps.zip us) fun _=>none) s1) :
  zT (aN CX P w K mg base N qual scope f cd A outer s H E) [] (fQ N vs) H s1:=by
 have hpl:ps.length≤N.length:=by have:=congrArg List.length S.pre;rw[List.length_take]at this;omega
 obtain⟨h1,tk,rfl,hk⟩:=x.done;have noA:∀b:Addr,b∉(aN CX P w K mg base N qual scope f cd A outer s H E).ex:=fun b z=>absurd (show b∈([]:List Addr) from z) (by simp);refine⟨⟨e0.mod,S.kind,rfl,rfl,Nat.le_refl _,fun y z c h1 h2=>?_,fun y hy=>?_,fun y c _ h=>?_,fun _=>hd,Around.frames_deeper e0.frames,.inr ⟨rfl,rfl⟩,fun b z=>absurd z (noA b),e0.bs,e0.bsz,fun b _ _=>noA b,fun b z=>absurd z (noA b),e0.funs,e0.frf⟩,
  rfl,e0.bare,Un.kept hk,⟨_,x.toInCall.ns,fun i y v h1 h2 h3=>?_⟩,fun y c h=>⟨_,x.cell y c h⟩,e0.hok.fresh (Nat.le_refl _),fun y c h=>?_,fun p hp=>absurd (show p∈([]:List (Addr×Obj)) from hp) (by simp),e0.hok.kept hk,?_⟩
 ·exact name_of_addr x.apart (PySem.mem_of_lookup h1) (PySem.mem_of_lookup h2)
 ·have hy:scope.names.lookup y=some .cell∨scope.names.lookup y=some .free:=hy
  rcases hy with hy|hy
  ·exact pD hy
  ·exact absurd rfl (S.nofree _ (PySem.mem_of_lookup hy))
 ·exact Nat.le_of_lt (x.above y c (PySem.mem_of_lookup h))
 ·have hi:i<vs.length:=by
   unfold fQ at h2
   by_cases hi:i<vs.length
   ·exact hi
   ·rw[List.getElem?_append_right (by simpa using hi)]at h2
    rw[List.getElem?_replicate]at h2
    split at h2 <;> cases h2
  have ha:vs[i]? = some v:=by
   unfold fQ at h2;rw[List.getElem?_append_left (by simpa using hi),List.getElem?_map]at h2;cases e:vs[i]? with
   | none=>rw[e]at h2;cases h2
   | some a=>rw[e]at h2;cases h2;rfl
  obtain⟨u,hu,rv⟩:=r.get ha;have hp:ps[i]? = some y:=by
   rw[<- S.pre,List.getElem?_take_of_lt (by omega)];exact h1
  have ndP:ps.Nodup:=by rw[<- S.pre];exact S.nd.sublist (List.take_sublist _ _)
  refine⟨u,rv,?_⟩;rcases S.par y (List.mem_of_getElem? hp) with k|k
  ·exact .inl ⟨k,md ndP hp hu k⟩
  ·obtain⟨c,e⟩:=pD (n:=s.heap.objs.size+1) k
   refine .inr ⟨.inl k,c,e,?_⟩;have q:=x.cell y c e;rw[mf ndP hp hu (by show scope.names.lookup y≠_;rw[k];decide)]at q;exact q
 ·exact e0.hok.fresh (Nat.le_of_lt (x.above y c (PySem.mem_of_lookup h)))
 ·unfold fQ
  show _=N.length;rw[List.length_append,List.length_map,List.length_replicate];omega
theorem rH{CX:CXT}{P:Program}{w:World}{K:W.Frag}{mg:Str->Option Value}{base:Heap}{k:Nat}{f:Addr}{name qual:Str}{params:Arguments}{body:List Stmt}{scope:Scope}{dV kV doc pm cdv ct oc:Value}{an od:Option Addr}
  {osl:Array (Option Value)} {N ps:List Str} {sp:Sp} (lk:K.lookup f=some ⟨oc,od,.func (W.fnOf name qual params body scope dV kV doc pm an cdv ct),osl⟩) (hcd:W.codeIn K cdv qual=true) (S:zQ N ps scope)
  (len:∀vs H Q E,sp vs H Q E->vs.length=ps.length)
  (hbody:∀(A:Around) (outer:List Env) (s:Shared) (H:Hp) (vs:List V) (Q:VK) (E:XK),A6 k (A.deeper (envOfC qual scope s.heap.objs.size f cdv))->sp vs H Q E ->
   ∃t,PSs (aN CX P w K mg base N qual scope f cdv A outer s H E) body t∧t { nx:=fun _ H'=>Q .non H',rt:=Q } (fQ N vs) H) :
  EK P w K mg base CX (k+1) f (W.fnOf name qual params body scope dV kV doc pm an cdv ct) ps sp:=by
 refine⟨len,fun A outer s H args us vs Q E hr e0 hb r hsp=>?_⟩;have hl:=len _ _ _ _ hsp;have KX:K.In s.heap:=e0.mod.kin.keeps fun b o e=>(e0.bs b o e).1;have lim:s.heap.NoLimit:=e0.mod.nolimit.keeps fun b o e=>(e0.bs b o e).1;have hkind:∀y∈ps.zip us,scope.names.lookup y.1=some .local∨(scope.names.lookup y.1=some .cell∧((cellsFrom (s.heap.objs.size+1) scope.names []).lookup y.1).isSome=true):=fun ⟨n,v⟩ hy=>by
  rcases S.par n (List.of_mem_zip hy).1 with q|q
  ·exact .inl q
  ·exact .inr ⟨q,W.cellsFrom_some _ _ _ (.inl q)⟩
 refine codeAny_call_function hr.depth (KX _ _ lk) rfl S.co S.gen rfl (W.codeRec_of KX hcd) (hb _ _ _ _ ?_);refine wpAny_newFunctionEnv_cells S.kind hkind fun env he s1 x=>?_;subst he;refine⟨lim.keeps x.toInCall.keep,codeAny_func ?_⟩;obtain⟨t,ht,hq⟩:=hbody A outer s H vs Q E (hr.deeper _) hsp;have I:zT (aN CX P w K mg base N qual scope f cdv A outer s H E) [] (fQ N vs) H s1:=sQ S hr.hd e0 hl r x;refine wpAny_mono (ht [] s1 (fQ N vs) H _ I hq) (fun fl s' hs=>?_) fun e s' hs=>hs;have fin:∀{σ':St} {H':Hp} {v:V} {u:Value},zT (aN CX P w K mg base N qual scope f cdv A outer s H E) [] σ' H' s'->bO v u->Q v H'->CE outer P w H s Q u s' :=
  fun {σ' H' v u} J rv q=>⟨v,H',J.os,J.bare,J.base,J.hok,rv,q⟩
 cases fl with
 | ret u =>
  obtain⟨v,σ',H',J,rv,q⟩:=hs;exact fin J rv q
 | next =>
  obtain⟨σ',H',J,q⟩:=hs;exact fin (v:=V.non) (u:=Value.none) J rfl q
 | brk =>
  obtain⟨_,_,_,q⟩:=hs;exact False.elim q
 | cont =>
  obtain⟨_,_,_,q⟩:=hs;exact False.elim q
end L2
namespace L2
open PySem PySem.Spec PyProof.Rows
section
variable {X:Cx} {x:Str} {p pos:Pos} {e:Expr} {es:List Expr} {t:TA} {id T:String} {r:List V->Hp->VK->Prop}
def tCB(r:List V->Hp->VK->Prop)(t:TA):TE:=fun σ H Q=>t σ H fun vs H1=>r vs H1 Q
theorem az(hc:dX X (.builtin id) r)(hg:Gl X x)(hm:X.mg x=none)(hv:bootBuiltins x=some (.builtin id))(ha:PA X (e::es) t)(hn:x≠"__name__":=by decide)(hdb:(x == ("__debug__" : Str))=false:=by decide)
  (he:starEach (e::es) X.env=(false,eval e X.env)::starEach es X.env:=by rfl) (hpl:(backTo pos (starEach es X.env)).any (·.1)=false:=by rfl):PE X (.Call (.Name x p) (e::es) [] pos) (tCB r t):=by
 intro pins s σ H Q I h;refine wpAny_Call_Name_kw (fW I hg hm hv ?_ hn hdb);exact PyProof.Rows.callWith_builtin1 (thn (ha pos pins s σ H _ I h) fun us s1 ⟨vs,H1,I1,r1,q1⟩=>hc pins s1 σ H1 vs us Q I1 r1 q1) he hpl
theorem cB(hc:dX X (.type T) r)(hg:Gl X x)(hm:X.mg x=none)(hv:bootBuiltins x=some (.type T))(ha:PA X (e::es) t)(hn:x≠"__name__":=by decide)(hdb:(x == ("__debug__" : Str))=false:=by decide)
  (he:starEach (e::es) X.env=(false,eval e X.env)::starEach es X.env:=by rfl) (hpl:(backTo pos (starEach es X.env)).any (·.1)=false:=by rfl):PE X (.Call (.Name x p) (e::es) [] pos) (tCB r t):=by
 intro pins s σ H Q I h;refine wpAny_Call_Name_kw (fW I hg hm hv ?_ hn hdb);exact PyProof.Rows.callWith_type1 (thn (ha pos pins s σ H _ I h) fun us s1 ⟨vs,H1,I1,r1,q1⟩=>hc pins s1 σ H1 vs us Q I1 r1 q1) he hpl
end
end L2
namespace HT
open PySem PyProof.Rows
section
open PySem.SeqAt
open PySem.AutoSeq1 (wpAny_loadPart')
open PySem.MeetsSeq PySem.MeetsSeq2 PySem.MeetsSeq3
end
section
variable {prog:Program} {w:World} {A:Around} {E:Value->Shared->Prop} {s:Shared}
def sIx(n d:Nat):Option Int->Nat
 | none=>d
 | some v=>if v<0 then (v+(n:Int)).toNat else min v.toNat n
theorem sIx_none(n d:Nat):sIx n d none=d:=rfl
theorem sIx_nat(n d k:Nat):sIx n d (some (k:Int))=min k n:=by
 show(if (k:Int)<0 then ((k:Int)+(n:Int)).toNat else min (k:Int).toNat n)=min k n
 rw[if_neg (by omega),Int.toNat_natCast]
end
end HT
namespace L2
open PySem PySem.Spec PyProof.Rows
abbrev TO:=St->Hp->(Option Int->Hp->Prop)->Prop
def PO(X:Cx)(e:Option Expr)(t:TO):Prop :=
 ∀(pins:List (Addr×Obj)) (s:Shared) (σ:St) (H:Hp) (Q:Option Int->Hp->Prop),zT X pins σ H s->t σ H Q ->
  wpAny (model X.prog X.w) X.A (evalPart e X.env) (fun u s'=>∃o H',zT X pins σ H' s'∧IsPart u o∧Q o H') X.xe s
def vG:TO:=fun _ H Q=>Q none H
def yD(t:TE):TO:=fun σ H Q=>t σ H fun x H1=>∃i,x = .int i∧Q (some i) H1
section
variable {X:Cx} {e:Expr} {te:TE} {lo hi:Option Expr} {tl th:TO} {pos p2:Pos}
theorem fE:PO X none vG:=by
 intro pins s σ H Q I h;rw[evalPart_none];exact wpAny_pure ⟨none,H,I,.none,h⟩
theorem dl(h:PE X e te):PO X (some e) (yD te):=by
 intro pins s σ H Q I hw;rw[evalPart_some];refine thn (h pins s σ H _ I hw) fun u s1 ⟨x,H1,I1,r1,q1⟩=>?_;obtain⟨i,rfl,q⟩:=q1;obtain⟨t,rfl⟩:=r1;exact⟨some i,H1,I1,.int i t,q⟩
def SlR(X:Cx)(r:V->Option Int->Option Int->Hp->VK->Prop):Prop :=
 ∀(pins:List (Addr×Obj)) (s:Shared) (σ:St) (H:Hp) (x:V) (v vl vu:Value) (lo hi:Option Int) (sl:Addr) (Q:VK),zT X pins σ H s->bO x v->s.heap.IsSliceOf sl vl vu .none->IsPart vl lo->IsPart vu hi->r x lo hi H Q ->
  ∃T id,typeLookup (.type T) "__getitem__" = pure (some (.builtin id))∧s.TypeIs v T∧wpAny (model X.prog X.w) X.A (getItem v (.ref sl)) (EP X pins σ Q) X.xe s
def tSl(r:V->Option Int->Option Int->Hp->VK->Prop)(te:TE)(tl th:TO):TE:=fun σ H Q=>te σ H fun x H1=>tl σ H1 fun l H2=>th σ H2 fun u H3=>r x l u H3 Q
theorem dR{r:V->Option Int->Option Int->Hp->VK->Prop}(hr:SlR X r)(he:PE X e te)(hl:PO X lo tl)(hu:PO X hi th):PE X (.Subscript e (.Slice lo hi none p2) pos) (tSl r te tl th):=by
 intro pins s σ H Q I h;refine Subscript_ (thn (he pins s σ H _ I h) fun v s1 ⟨x,H1,I1,r1,q1⟩=>?_);refine wpAny_Slice (thn (hl pins s1 σ H1 _ I1 q1) fun vl s2 ⟨l,H2,I2,pl,q2⟩=>thn (hu pins s2 σ H2 _ I2 q2) fun vu s3 ⟨u,H3,I3,pu,q3⟩=>?_);rw[evalPart_none];refine wpAny_pure ?_;have I4:zT X pins σ H3 { s3 with heap:=s3.heap.push { cls:=.type "slice",data:=.fields #[vl,vu,.none] } }:=I3.kept (t':=s3.toks) fun b ob q=>Heap.get?_push_of_some _ q;obtain⟨T,id,hT,ht,hg⟩:=hr pins { s3 with heap:=s3.heap.push { cls:=.type "slice",data:=.fields #[vl,vu,.none] } } σ H3 x v vl vu l u s3.heap.objs.size Q I4 r1 (Heap.IsSliceOf.new ..) pl pu q3;show wpAny (model X.prog X.w) X.A (subscriptTail e (.Slice lo hi none p2) v (.ref s3.heap.objs.size)) (EP X pins σ Q) X.xe { s3 with heap:=s3.heap.push { cls:=.type "slice",data:=.fields #[vl,vu,.none] } };exact tail_any (ops:=[.ref s3.heap.objs.size,v]) ht hT hg (by with_unfolding_all rfl)
def ja(xs:List V)(lo hi:Option Int):List V:=(xs.drop (HT.sIx xs.length 0 lo)).take (HT.sIx xs.length xs.length hi - HT.sIx xs.length 0 lo)
theorem pi(xs:List V)(lo hi:Option Int):(ja xs lo hi).length≤xs.length:=by
 unfold ja;rw[List.length_take,List.length_drop];omega
end
end L2
namespace L2
open PySem PySem.Spec PyProof.Rows
def ixN(n:Nat)(i:Int):Option Nat:=if 0≤i then (if i<n then some i.toNat else none) else if -(n:Int)≤i then some (i+n).toNat else none
def atI{α:Type}(xs:List α)(i:Int):Option α:=(ixN xs.length i).bind fun j=>xs[j]?
theorem mI{n:Nat}{i:Int}{j:Nat}(h:ixN n i=some j):seqIndex? i n=some j∧j<n∧-(n:Int)≤i∧i<n:=by
 unfold ixN at h
 by_cases h0:0≤i
 ·rw[if_pos h0]at h
  by_cases h1:i<n
  ·rw[if_pos h1]at h
   have e:i.toNat=j:=Option.some.inj h;exact⟨by rw[seqIndex_of h0 h1,e],by omega,by omega,h1⟩
  ·rw[if_neg h1]at h;cases h
 ·rw[if_neg h0]at h
  by_cases h1:-(n:Int)≤i
  ·rw[if_pos h1]at h
   have e:(i+n).toNat=j:=Option.some.inj h;exact⟨by rw[seqIndex_neg (by omega) h1,e],by omega,h1,by omega⟩
  ·rw[if_neg h1]at h;cases h
theorem rZ{α:Type}{xs:List α}{i:Int}{v:α}(h:atI xs i=some v):∃j,seqIndex? i xs.length=some j∧xs[j]? = some v∧j<xs.length∧-(xs.length:Int)≤i∧i<xs.length:=by
 unfold atI at h;cases e:ixN xs.length i with
 | none=>rw[e]at h;cases h
 | some j =>
  rw[e]at h;obtain⟨h1,h2,h3,h4⟩:=mI e;exact⟨j,h1,h,h2,h3,h4⟩
theorem dP{α:Type}{xs:List α}{j:Nat}{v:α}(h:xs[j]? = some v):atI xs (j:Int)=some v:=by
 have hj:j<xs.length:=(List.getElem?_eq_some_iff.mp h).1;have e:ixN xs.length (j:Int)=some j:=by
  unfold ixN;rw[if_pos (by omega),if_pos (by omega)];simp
 unfold atI;rw[e];exact h
theorem vC{α:Type}(xs:List α)(v:α):atI (xs++[v]) (-1)=some v:=by
 have hl:(xs++[v]).length=xs.length+1:=by simp
 have e:ixN (xs++[v]).length (-1)=some xs.length:=by
  unfold ixN;rw[hl,if_neg (by decide),if_pos (by omega)]
  congr 1
  omega
 unfold atI;rw[e];show(xs++[v])[xs.length]? = some v;simp
def wS(b:Expr):Prop:=∀o i,subscripted b false o i=operate [o,i] (getItem o i)
def IxR(X:Cx)(r:R2):Prop :=
 ∀(value slice:Expr) (pins:List (Addr×Obj)) (s:Shared) (σ:St) (H:Hp) (x y:V) (v u:Value) (Q:VK),zT X pins σ H s->bO x v->bO y u->r x y H Q ->
  subscripted slice false v u=operate [v,u] (getItem v u)->wpAny (model X.prog X.w) X.A (subscriptTail value slice v u) (EP X pins σ Q) X.xe s
def MtR(X:Cx)(id:String)(r:V->List V->Hp->VK->Prop):Prop :=
 ∀(pins:List (Addr×Obj)) (s:Shared) (σ:St) (H:Hp) (x:V) (xs:List V) (v:Value) (us:List Value) (Q:VK),zT X pins σ H s->bO x v->aO xs us->r x xs H Q ->
  wpAny (model X.prog X.w) X.A (call (.builtin id) (v::us)) (EP X pins σ Q) X.xe s
section
variable {X:Cx} {a b:Expr} {ta tb:TE} {pos:Pos}
theorem aj{r:R2}(hr:IxR X r)(ha:PE X a ta)(hb:PE X b tb)(hs:wS b):PE X (.Subscript a b pos) (tOp r ta tb):=by
 intro pins s σ H Q I h;exact Subscript_ (yo ha hb I h fun v u s2 x y H2 I2 rx ry q=>hr a b pins s2 σ H2 x y v u Q I2 rx ry q (hs _ _))
inductive Im (K:W.Frag) (x y:V) (H:Hp) (Q:VK):Prop
 | mk (p:Addr) (xs:List V) (i:Int) (v:V) (e:x = .ref p) (f:y = .int i) (s:SqL K H p xs) (a:atI xs i=some v) (q:Q v H):Im K x y H Q
inductive IA (K:W.Frag) (x y:V) (H:Hp) (Q:VK):Prop
 | mk (p:Addr) (xs:List V) (i:Int) (v:V) (e:x = .ref p) (f:y = .int i) (s:SqT K H p xs) (a:atI xs i=some v) (q:Q v H):IA K x y H Q
theorem aC:IxR X (Im X.K):=by
 intro value slice pins s σ H x y v u Q I rx ry h hs;obtain⟨p,xs,i,z,rfl,rfl,hq,he,q⟩:=h;cases rx;obtain⟨t,rfl⟩:=ry;obtain⟨its,r,pl,hz⟩:=I.list hq;obtain⟨j,h1,h2,h3,h4,h5⟩:=rZ he;obtain⟨w,ew,rw'⟩:=r.get h2;have hl:=r.length;have hn:=kb;have fin:EP X pins σ Q w s:=⟨z,H,I,rw',q⟩
 by_cases h0:0≤i
 ·have hj:i.toNat=j:=by
   rw[seqIndex_of h0 h5]at h1;exact Option.some.inj h1
  exact item_listR pl.isList h0 (by omega) (by rw[hj];simpa using ew) fin hs
 ·have hj:(i+(its.toArray.size:Int)).toNat=j:=by
   rw[seqIndex_neg (by omega) h4]at h1;rw[List.size_toArray,<- hl];exact Option.some.inj h1
  exact subscriptTail_builtinR (x:=w) pl.isList.typeIs slot_list_getitem.lookup
   (wpAny_getItem_list_neg (Q:=fun r s'=>r=w∧EP X pins σ Q r s') pl.isList (by omega) (by rw[List.size_toArray] <;> omega) (by omega) (by rw[hj];simpa using ew) ⟨rfl,fin⟩) hs
theorem ak:IxR X (IA X.K):=by
 intro value slice pins s σ H x y v u Q I rx ry h hs;obtain⟨p,xs,i,z,rfl,rfl,hq,he,q⟩:=h;cases rx;obtain⟨t,rfl⟩:=ry;obtain⟨its,r,pl,hz⟩:=I.tuple hq;obtain⟨j,h1,h2,h3,h4,h5⟩:=rZ he;obtain⟨w,ew,rw'⟩:=r.get h2;have hl:=r.length;have hn:=kb;have fin:EP X pins σ Q w s:=⟨z,H,I,rw',q⟩;exact subscriptTail_builtinR (x:=w) pl.typeIs slot_tuple_getitem.lookup
  (getItem_tuple (j:=j) (Q:=fun r s'=>r=w∧EP X pins σ Q r s') pl (by omega) (by omega) (by rw[List.size_toArray,<- hl];exact h1) (by simpa using ew) ⟨rfl,fin⟩) hs
theorem qm(its:List Value)(n j:Nat)(u:Value):Obj.mapSeq (·.setIfInBounds j u) { cls:=.type "list",data:=.seq its.toArray n }={ cls:=.type "list",data:=.seq (its.set j u).toArray n }:=by
 simp[Obj.mapSeq]
theorem zT.lst{pins:List (Addr×Obj)}{σ:St}{H:Hp}{s:Shared}{p:Addr}{xs:List V}(I:zT X pins σ H s)(h:H p=some (.lst xs)) :
  ∃(its:List Value) (n:Nat),aO xs its∧s.heap.get? p=some { cls:=.type "list",data:=.seq its.toArray n }∧xs.length≤sizeLine:=by
 obtain⟨z,its,n,r,e⟩:=I.hok p _ h;exact⟨its,n,r,e,z⟩
theorem zT.lstUpd{pins:List (Addr×Obj)}{σ:St}{H:Hp}{s:Shared}{p:Addr}{xs ys:List V}{its its':List Value}{n n':Nat}{f:Obj->Obj}(I:zT X pins σ H s)(h:H p=some (.lst xs))
  (ho:s.heap.get? p=some { cls:=.type "list",data:=.seq its.toArray n }) (hf:f { cls:=.type "list",data:=.seq its.toArray n }={ cls:=.type "list",data:=.seq its'.toArray n' }) (r:aO ys its') (hz:ys.length≤sizeLine) (t:Nat) :
  zT X pins σ (upd H p (.lst ys)) { s with heap:=s.heap.update p f,toks:=t }:=by
 have e:(s.heap.update p f).get? p=some { cls:=.type "list",data:=.seq its'.toArray n' }:=by
  rw[Heap.get?_update_self f ho (by rw[hf] <;> rfl),hf]
 refine I.write (x:=p) (e:=p) (by rw[h];trivial) (.inl rfl) (fun b u hb q=>(Heap.get?_update_other _ _ (Ne.symm hb)).trans q) ⟨_,e⟩ ?_;exact⟨hz,its',n',r,e⟩
def yK:V->V->V->Hp->(Hp->Prop)->Prop:=fun o i v H Q=>∃p xs k j,o = .ref p∧i = .int k∧H p=some (.lst xs)∧ixN xs.length k=some j∧Q (upd H p (.lst (xs.set j v)))
theorem tW:yx X yK:=by
 intro pins s σ H o i v ov iv u Q I ro ri rv h;obtain⟨p,xs,k,j,rfl,rfl,hp,hj,q⟩:=h;cases ro;obtain⟨t,rfl⟩:=ri;obtain⟨its,n,r,ho,hz⟩:=I.lst hp;obtain⟨h1,h2,h3,h4⟩:=mI hj;have hl:=r.length;have hn:=kb;have I':zT X pins σ (upd H p (.lst (xs.set j v))) { s with heap:=s.heap.update p (Obj.mapSeq (·.setIfInBounds j u)) } :=
  I.lstUpd hp ho (qm its n j u) (r.set rv j) (by rw[List.length_set];exact hz) s.toks
 by_cases h0:0≤k
 ·have hk:k.toNat=j:=by
   rw[seqIndex_of h0 h4]at h1;exact Option.some.inj h1
  exact W.ki_setAt ho h0 (by omega) (by rw[List.size_toArray,<- hl];exact h4) (by rw[hk];exact⟨_,I',q⟩)
 ·have hk:(k+(its.toArray.size:Int)).toNat=j:=by
   rw[seqIndex_neg (by omega) h3]at h1;rw[List.size_toArray,<- hl];exact Option.some.inj h1
  exact W.ki_setBack ho (by omega) (by rw[List.size_toArray,<- hl];exact h3) (by omega) (by rw[hk];exact⟨_,I',q⟩)
theorem my(lo hi:Option Int)(n:Nat):(sliceBounds lo hi none n).1=((HT.sIx n 0 lo:Nat):Int)∧(sliceBounds lo hi none n).2.1=((HT.sIx n n hi:Nat):Int)∧(sliceBounds lo hi none n).2.2=1:=by
 refine⟨?_,?_,rfl⟩
 ·cases lo with
  | none=>simp[sliceBounds,HT.sIx]
  | some i =>
   simp only[sliceBounds,HT.sIx,Option.getD_none,show(1:Int)>0 by decide,if_true]
   by_cases h:i<0
   ·simp only[h,if_true] <;> omega
   ·simp only[h,if_false] <;> omega
 ·cases hi with
  | none=>simp[sliceBounds,HT.sIx]
  | some i =>
   simp only[sliceBounds,HT.sIx,Option.getD_none,show(1:Int)>0 by decide,if_true]
   by_cases h:i<0
   ·simp only[h,if_true] <;> omega
   ·simp only[h,if_false] <;> omega
theorem kI(its:List Value)(lo hi:Option Int):slicePick its.toArray lo hi none=((its.drop (HT.sIx its.length 0 lo)).take (HT.sIx its.length its.length hi - HT.sIx its.length 0 lo)).toArray:=by
 obtain⟨h1,h2,h3⟩:=my lo hi its.toArray.size;unfold slicePick;rw[h1,h2,h3];simp only[sliceRange_one,pick_run,List.size_toArray] <;> rfl
def zC(K:W.Frag):V->Option Int->Option Int->Hp->VK->Prop:=fun x lo hi H Q=>∃a xs,x = .ref a∧SqL K H a xs∧∀p,H p=none->Q (.ref p) (upd H p (.lst (ja xs lo hi)))
theorem vL:SlR X (zC X.K):=by
 intro pins s σ H x v vl vu lo hi sl Q I rx hs pl pu h;obtain⟨a,xs,rfl,hx,q⟩:=h;cases rx;obtain⟨its,r,ht,hz⟩:=I.list hx;have hlen:=r.length;refine⟨"list",_,slot_list_getitem.lookup,ht.isList.typeIs,?_⟩;refine wpAny_getItem_list_slice ht.isList hs pl pu .none (by simp) ?_ (by rw[List.size_toArray] <;> omega);rw[kI,<- hlen];refine⟨.ref s.heap.objs.size,_,I.laid (t':=s.toks) (o:=.lst (ja xs lo hi)) (fun b ob q=>Heap.get?_push_of_some _ q) (Nat.le_refl _) ?_,rfl,q _ (I.hok.fresh (Nat.le_refl _))⟩;exact⟨Nat.le_trans (pi xs lo hi) hz,_,0,(r.drop (HT.sIx xs.length 0 lo)).take (HT.sIx xs.length xs.length hi - HT.sIx xs.length 0 lo),Heap.get?_push_size _ rfl⟩
def iF:V->Bool
 | .non=>true
 | .bl _=>true
 | .int _=>true
 | .str _=>true
 | _=>false
def eqV:V->V->Bool
 | .non,.non=>true
 | .bl a,.bl b=>a == b
 | .bl a,.int b=>(if a then 1 else 0) == b
 | .int a,.bl b=>a == (if b then 1 else 0)
 | .int a,.int b=>a == b
 | .str a,.str b=>a == b
 | _,_=>false
theorem vc{A:Around}{s:Shared}{y x:V}{u v:Value}(ry:bO y u)(rx:bO x v)(fy:iF y=true)(fx:iF x=true):SeqAt.EqAt A s u v (eqV y x):=by
 cases y with
 | non =>
  cases ry;cases x with
  | non=>cases rx;exact SeqAt.EqAt.same _
  | bl b=>cases rx;exact SeqAt.EqAt.none_bool b
  | int b=>obtain⟨t,rfl⟩:=rx;exact SeqAt.EqAt.none_int b t
  | str b=>obtain⟨t,rfl⟩:=rx;exact SeqAt.EqAt.none_str b t
  | _=>exact absurd (show false=true from fx) Bool.false_ne_true
 | bl a =>
  cases ry;cases x with
  | non=>cases rx;exact SeqAt.EqAt.bool_none a
  | bl b=>cases rx;exact SeqAt.EqAt.bool_bool a b
  | int b=>obtain⟨t,rfl⟩:=rx;exact SeqAt.EqAt.bool_int a b t
  | str b=>obtain⟨t,rfl⟩:=rx;exact SeqAt.EqAt.bool_str a b t
  | _=>exact absurd (show false=true from fx) Bool.false_ne_true
 | int a =>
  obtain⟨t',rfl⟩:=ry;cases x with
  | non=>cases rx;exact SeqAt.EqAt.int_none a t'
  | bl b=>cases rx;exact SeqAt.EqAt.int_bool a t' b
  | int b=>obtain⟨t,rfl⟩:=rx;exact SeqAt.EqAt.int_int a t' b t
  | str b=>obtain⟨t,rfl⟩:=rx;exact SeqAt.EqAt.int_str a t' b t
  | _=>exact absurd (show false=true from fx) Bool.false_ne_true
 | str a =>
  obtain⟨t',rfl⟩:=ry;cases x with
  | non=>cases rx;exact SeqAt.EqAt.str_none a t'
  | bl b=>cases rx;exact SeqAt.EqAt.str_bool a t' b
  | int b=>obtain⟨t,rfl⟩:=rx;exact SeqAt.EqAt.str_int a t' b t
  | str b=>obtain⟨t,rfl⟩:=rx;exact SeqAt.EqAt.str_str a t' b t
  | _=>exact absurd (show false=true from fx) Bool.false_ne_true
 | _=>exact absurd (show false=true from fy) Bool.false_ne_true
def eqU(x:V)(u:Value):Bool:=match u with
 | .none=>eqV .non x
 | .bool b=>eqV (.bl b) x
 | .int i _=>eqV (.int i) x
 | .str z _=>eqV (.str z) x
 | _=>false
theorem vb{x y:V}{u:Value}(r:bO y u)(f:iF y=true):eqU x u=eqV y x:=by
 cases y with
 | non=>cases r;rfl
 | bl b=>cases r;rfl
 | int i=>obtain⟨t,rfl⟩:=r;rfl
 | str z=>obtain⟨t,rfl⟩:=r;rfl
 | _=>exact absurd (show false=true from f) Bool.false_ne_true
theorem nQ{x:V}:∀{xs:List V} {us:List Value},aO xs us->xs.all iF=true->us.any (eqU x)=xs.any fun y=>eqV y x
 | _,_,.nil,_=>rfl
 | y::xs,u::us,.cons r t,f=>by
  rw[List.all_cons,Bool.and_eq_true]at f;rw[List.any_cons,List.any_cons,vb r f.1,nQ t f.2]
theorem j6{A:Around}{s:Shared}{x:V}{v:Value}(rx:bO x v)(fx:iF x=true):∀{xs:List V} {us:List Value},aO xs us->xs.all iF=true->∀u∈us,SeqAt.EqAt A s u v (eqU x u)
 | _,_,.nil,_=>fun u hu=>by cases hu
 | y::xs,u::us,.cons r t,f=>fun u' hu=>by
  rw[List.all_cons,Bool.and_eq_true]at f;rcases List.mem_cons.mp hu with rfl|hu
  ·rw[vb r f.1];exact vc r rx f.1 fx
  ·exact j6 rx fx t f.2 u' hu
def inV(x:V)(xs:List V):Bool:=xs.any fun y=>eqV y x
def rIn(K:W.Frag)(neg:Bool):R2:=fun x y H Q=>∃p xs,y = .ref p∧(SqL K H p xs∨SqT K H p xs)∧iF x=true∧xs.all iF=true∧Q (.bl (if neg then !inV x xs else inV x xs)) H
theorem fG:OpR X (compareOp .NotIn) (rIn X.K true):=by
 intro pins s σ H x y v u Q I rx ry h;obtain⟨p,xs,rfl,hq,fx,fs,q⟩:=h;cases ry;rcases hq with hq|hq
 ·obtain⟨its,r,pl,hz⟩:=I.list hq
  refine SeqAt.notIn_listAt (eqU x) pl.isList (fun w hw=>j6 rx fx r fs w (by simpa using hw)) ⟨.bl _,H,I,rfl,?_⟩;rw[show its.toArray.any (eqU x)=its.any (eqU x) by simp,nQ r fs];exact q
 ·obtain⟨its,r,pl,hz⟩:=I.tuple hq
  refine SeqAt.notIn_tupleAt (eqU x) pl (fun w hw=>j6 rx fx r fs w (by simpa using hw)) ⟨.bl _,H,I,rfl,?_⟩;rw[show its.toArray.any (eqU x)=its.any (eqU x) by simp,nQ r fs];exact q
inductive IL (K:W.Frag) (xs:List V) (H:Hp) (Q:VK):Prop
 | mk (p:Addr) (ys:List V) (e:xs = [.ref p]) (s:SqL K H p ys∨SqT K H p ys) (q:Q (.int ys.length) H):IL K xs H Q
theorem aK:dX X (.builtin "len") (IL X.K):=by
 intro pins s σ H xs us Q I r h;obtain⟨p,ys,rfl,hq,q⟩:=h;obtain⟨u,rfl,rx⟩:=cT r;cases rx;have hn:=kb;rcases hq with hq|hq
 ·obtain⟨its,r',pl,hz⟩:=I.list hq
  have hlen:=r'.length;exact Calls.call_len_list pl.isList (by simp only[List.size_toArray] <;> omega) ⟨.int ys.length,H,I.tok _,⟨s.toks+1,by rw[List.size_toArray,hlen]⟩,q⟩
 ·obtain⟨its,r',pl,hz⟩:=I.tuple hq
  have hlen:=r'.length;exact len_tuple pl (by simp only[List.size_toArray] <;> omega) ⟨.int ys.length,H,I.tok _,⟨s.toks+1,by rw[List.size_toArray,hlen]⟩,q⟩
theorem nF:dX X (.builtin "len") (fun xs H Q=>∃z,xs = [.str z]∧z.length≤sizeLine∧Q (.int z.length) H):=by
 intro pins s σ H xs us Q I r h;obtain⟨z,rfl,hz,q⟩:=h;obtain⟨u,rfl,t,rfl⟩:=cT r;have hn:=kb;exact len_str (by omega) ⟨.int z.length,H,I.tok _,⟨_,rfl⟩,q⟩
theorem nE:dX X (.type "list") (fun xs H Q=>∃p ys,xs = [.ref p]∧(SqL X.K H p ys∨SqT X.K H p ys)∧∀l,H l=none->Q (.ref l) (upd H l (.lst ys))):=by
 intro pins s σ H xs us Q I r h;obtain⟨p,ys,rfl,hq,q⟩:=h;obtain⟨u,rfl,rx⟩:=cT r;cases rx;have fin:∀(its:List Value),aO ys its->ys.length≤sizeLine->∀(h':Heap) (c':Nat),(∀b o',s.heap.get? b=some o'->h'.get? b=some o') ->
   h'.get? s.heap.objs.size=some { cls:=.type "list",dict:=none,data:=.seq its.toArray c',slots:=#[] }->EP X pins σ Q (.ref s.heap.objs.size) { s with heap:=h' }:=fun its r' hz h' c' kp e =>
  ⟨.ref s.heap.objs.size,_,I.laid (t':=s.toks) kp (Nat.le_refl _) (show cL X.prog X.w _ h' _ (.lst ys) from⟨hz,its,c',r',e⟩),rfl,q _ (I.hok.fresh (Nat.le_refl _))⟩
 rcases hq with hq|hq
 ·obtain⟨its,r',pl,hz⟩:=I.list hq
  have hlen:=r'.length;obtain⟨o,ho,hc,n,hd⟩:=pl.isList;exact call_list_seq p (.inl rfl) ho hc hd (fun h' c' kp e=>fin its r' hz h' c' kp e) (by simp only[List.size_toArray] <;> omega)
 ·obtain⟨its,r',pl,hz⟩:=I.tuple hq
  have hlen:=r'.length;obtain⟨o,ho,hc,n,hd⟩:=pl;exact call_list_seq p (.inr rfl) ho hc hd (fun h' c' kp e=>fin its r' hz h' c' kp e) (by simp only[List.size_toArray] <;> omega)
def tyV(K:W.Frag)(T:String)(x:V)(H:Hp):Prop:=match x with
 | .str _=>T = "str"
 | .int _=>T = "int"
 | .ref p=>(T = "list"∧∃xs,SqL K H p xs)∨(T = "tuple"∧∃o,K.lookup p=some o∧o.cls = .type "tuple"∧o.dict=none) ∨
   (T = "dict"∧((∃kvs,H p=some (.dK kvs))∨∃kvs,H p=some (.dT kvs)))∨(T = "set"∧∃S n,H p=some (.set S n))
 | _=>False
theorem tG{pins:List (Addr×Obj)}{σ:St}{H:Hp}{s:Shared}{T:String}{x:V}{v:Value}(I:zT X pins σ H s)(r:bO x v)(ty:tyV X.K T x H) :
  s.TypeIs v T∧∀a,v = .ref a->∃ob,s.heap.get? a=some ob∧ob.dict=none:=by
 cases x with
 | str z =>
  obtain⟨t,rfl⟩:=r;cases (show T = "str" from ty);exact⟨typeIs_str s z t,fun _ e=>nomatch e⟩
 | int i =>
  obtain⟨t,rfl⟩:=r;cases (show T = "int" from ty);exact⟨typeIs_int s i t,fun _ e=>nomatch e⟩
 | ref p =>
  cases r;rcases ty with⟨rfl,xs,hq⟩|⟨rfl,o,hk,hc,hd⟩|⟨rfl,hk⟩|⟨rfl,S,n,hk⟩
  ·obtain⟨its,_,pl,_⟩:=I.list hq
   refine⟨pl.isList.typeIs,fun a e=>?_⟩;cases e;obtain⟨o,n,e,c,hd,_⟩:=pl;exact⟨o,e,hd⟩
  ·refine⟨⟨o,I.kIn p o hk,hc⟩,fun a e=>?_⟩
   cases e;exact⟨o,I.kIn _ o hk,hd⟩
  ·have z:∃o,s.heap.get? p=some o∧o.ExactDict:=by
    rcases hk with⟨kvs,hk⟩|⟨kvs,hk⟩
    ·obtain⟨_,_,_,_,o,_,_,e,ex,_⟩:=I.hok p _ hk
     exact⟨o,e,ex⟩
    ·obtain⟨_,_,_,_,o,_,_,e,ex,_⟩:=I.hok p _ hk
     exact⟨o,e,ex⟩
   obtain⟨o,e,ex⟩:=z;refine⟨⟨o,e,ex.1⟩,fun a e2=>?_⟩;cases e2;exact⟨o,e,ex.2.1⟩
  ·obtain⟨o,_,_,_,e,ex,_⟩:=I.hok p _ hk
   refine⟨⟨o,e,ex.1⟩,fun a e2=>?_⟩;cases e2;exact⟨o,e,ex.2.1⟩
 | _=>exact False.elim ty
def zv(K:W.Frag)(T:String)(r:V->List V->Hp->VK->Prop)(to:TE):TE:=fun σ H Q=>to σ H fun x H1=>tyV K T x H1∧r x [] H1 Q
def tBM(K:W.Frag)(T:String)(r:V->List V->Hp->VK->Prop)(to:TE)(t:TA):TE:=fun σ H Q=>to σ H fun x H1=>tyV K T x H1∧t σ H1 fun xs H2=>r x xs H2 Q
variable {o e:Expr} {es:List Expr} {to:TE} {t:TA} {name:Str} {apos cpos:Pos} {T id:String} {r:V->List V->Hp->VK->Prop}
theorem xL(pa:PlainAttrs T)(slot:Slot T name id)(hty:typeOf (.builtin id)=pure (.type "method_descriptor"))(hm:MtR X id r)(ho:PE X o to)
  (hbase:attributeBase o name X.env (eval o X.env)=eval o X.env:=by rfl) (hline:(apos.endLine == cpos.line)=true:=by rfl):PE X (.Call (.Attribute o name apos) [] [] cpos) (zv X.K T r to):=by
 intro pins s σ H Q I h;refine wpAny_Call_method0_late hbase hline (thn (ho pins s σ H _ I h) fun v s1 ⟨x,H1,I1,r1,ty,q1⟩=>?_);obtain⟨h1,h2⟩:=tG I1 r1 ty;exact⟨T,id,pa,slot,hty,h1,h2,Calls.callWith_builtin rfl (PySem.evalArgs_none (hm pins s1 σ H1 x [] v [] Q I1 r1 .nil q1))⟩
theorem fg(pa:PlainAttrs T)(slot:Slot T name id)(hty:typeOf (.builtin id)=pure (.type "method_descriptor"))(hm:MtR X id r)(ho:PE X o to)(ha:PA X (e::es) t)
  (hbase:attributeBase o name X.env (eval o X.env)=eval o X.env:=by rfl)
  (hfew:((backTo cpos (starEach (e::es) X.env)).all (fun x=>!x.1) && (backToKw cpos (keywordEach [] X.env)).all (fun x=>x.1.isSome)
   && decide ((e::es).length+([]:List Keyword).length+(if ([]:List Keyword).isEmpty then 0 else 1)<30))=true:=by rfl)
  (hline:(apos.endLine == cpos.line)=true:=by rfl) (hs:starEach (e::es) X.env=(false,eval e X.env)::starEach es X.env:=by rfl) (hplain:(backTo cpos (starEach es X.env)).any (·.1)=false:=by rfl) :
  PE X (.Call (.Attribute o name apos) (e::es) [] cpos) (tBM X.K T r to t):=by
 intro pins s σ H Q I h;refine wpAny_Call_method_late hbase hfew hline rfl (thn (ho pins s σ H _ I h) fun v s1 ⟨x,H1,I1,r1,ty,q1⟩=>?_);obtain⟨h1,h2⟩:=tG I1 r1 ty;refine⟨T,id,pa,slot,hty,h1,h2,?_⟩;have hA:=ha cpos pins s1 σ H1 _ I1 q1;rw[hs]at hA ⊢;refine Calls.callWith_builtin (by show(false || (backTo cpos (starEach es X.env)).any (·.1))=false;rw[hplain] <;> rfl) (Calls.evalArgs_plain ?_);exact thn hA fun us s2 ⟨vs,H2,I2,r2,q2⟩=>hm pins s2 σ H2 x vs v us Q I2 r1 r2 q2
end
end L2
namespace L2
open PySem PySem.Spec PyProof.Rows
def MtM(X:Cx)(id:String)(r:V->List V->Hp->VK->Prop):Prop :=
 ∀(pins:List (Addr×Obj)) (s:Shared) (σ:St) (H:Hp) (x:V) (xs:List V) (v:Value) (us:List Value) (Q:VK),zT X pins σ H s->bO x v->aO xs us->r x xs H Q ->
  wpAny (model X.prog X.w) X.A (call (.builtin id) (v::us)) (EP X pins σ Q) X.xe s
theorem aO.one:∀{x:V} {us:List Value},aO [x] us->∃u,us = [u]∧bO x u
 | _,_,.cons r .nil=>⟨_,rfl,r⟩
theorem aO.eraseIdx:∀{xs:List V} {us:List Value} (i:Nat),aO xs us->aO (xs.eraseIdx i) (us.eraseIdx i)
 | _,_,_,.nil=>.nil
 | _,_,0,.cons _ t=>t
 | _,_,i+1,.cons r t=>.cons r (aO.eraseIdx i t)
theorem aO.reverse{xs:List V}{us:List Value}(h:aO xs us):aO xs.reverse us.reverse:=by
 induction h with
 | nil=>exact .nil
 | cons r t ih=>rw[List.reverse_cons,List.reverse_cons];exact aO.append ih (.cons r .nil)
theorem aO.rep{xs:List V}{us:List Value}(h:aO xs us):∀k:Nat,aO (List.replicate k xs).flatten (List.replicate k us).flatten
 | 0=>.nil
 | k+1=>by
  rw[List.replicate_succ,List.replicate_succ,List.flatten_cons,List.flatten_cons];exact aO.append h (aO.rep h k)
theorem lM{α:Type}:∀(l:List α) (i:Nat),(l.eraseIdx i).length≤l.length
 | [],_=>Nat.le_refl _
 | _::_,0=>Nat.le_succ _
 | _::r,i+1=>Nat.succ_le_succ (lM r i)
theorem lT(its:List Value):∀(k:Nat) (acc:List Value),
  List.foldl (fun x1 x2=>x1++x2) acc.toArray (List.replicate k its.toArray)=(acc++(List.replicate k its).flatten).toArray
 | 0,acc=>by simp
 | k+1,acc=>by
  have e:acc.toArray++its.toArray=(acc++its).toArray:=by simp
  have e2:(acc++its)++(List.replicate k its).flatten=acc++(List.replicate (k+1) its).flatten:=by
   rw[List.replicate_succ,List.flatten_cons,List.append_assoc]
  rw[<- e2,<- lT its k (acc++its),<- e,List.replicate_succ,List.foldl_cons]
section
variable {X:Cx} {pins:List (Addr×Obj)} {σ:St} {H:Hp} {s:Shared} {l b:Addr} {xs ys zs:List V}
theorem zT.lset{its its':List Value}{n:Nat}{f:Array Value->Array Value}{t':Nat}(I:zT X pins σ H s)(hH:H l=some (.lst xs))
  (e:s.heap.get? l=some { cls:=.type "list",data:=.seq its.toArray n }) (hf:f its.toArray=its'.toArray) (hv:aO ys its') (hz:ys.length≤sizeLine) :
  zT X pins σ (upd H l (.lst ys)) { s with heap:=s.heap.update l (Obj.mapSeq f),toks:=t' }:=by
 have q:=PySem.IsL.update e f;rw[hf]at q;refine I.write (x:=l) (e:=l) (by rw[hH];exact trivial) (.inl rfl) (fun b' u hb hu=>(Heap.get?_update_other s.heap (Obj.mapSeq f) (Ne.symm hb)).trans hu) ⟨_,q⟩ ?_;exact⟨hz,its',_,hv,q⟩
theorem zT.lnew{its:List Value}{t':Nat}(I:zT X pins σ H s)(hv:aO ys its)(hz:ys.length≤sizeLine) :
  zT X pins σ (upd H s.heap.objs.size (.lst ys)) { s with heap:=s.heap.push { cls:=.type "list",data:=.seq its.toArray },toks:=t' } :=
 I.laid (fun _ _ q=>Heap.get?_push_of_some _ q) (Nat.le_refl _) ⟨hz,its,0,hv,Heap.get?_push_size _ rfl⟩
theorem zT.fresh(I:zT X pins σ H s):H s.heap.objs.size=none:=I.hok.fresh (Nat.le_refl _)
theorem zT.lstM(I:zT X pins σ H s)(hH:H l=some (.lst xs)):xs.length≤sizeLine∧∃(its:List Value) (n:Nat),aO xs its∧xs.length=its.length∧s.heap.get? l=some { cls:=.type "list",data:=.seq its.toArray n }:=by
 obtain⟨z,its,n,r,e⟩:=I.hok l _ hH;exact⟨z,its,n,r,r.length,e⟩
theorem ow{n:Nat}(h:n≤sizeLine):Builtin.List.listTooLong n=false:=by
 unfold Builtin.List.listTooLong;exact decide_eq_false (by omega)
end
section
variable {X:Cx}
def vM:V->List V->Hp->VK->Prop:=fun x vs H Q=>∃l xs y,x = .ref l∧vs = [y]∧H l=some (.lst xs)∧xs.length<sizeLine∧Q .non (upd H l (.lst (xs++[y])))
theorem gB:MtM X "list.append" vM:=by
 intro pins s σ H x vs v us Q I rx rv h;obtain⟨l,xs,y,rfl,rfl,hH,hz,q⟩:=h;cases rx;obtain⟨u,rfl,ru⟩:=rv.one;obtain⟨z,its,n,r,hl,e⟩:=I.lstM hH;refine call_meets F.slot_list_append ⟨_,e,rfl⟩ F.entry_list_append (F.args_list_append_2 _ _) (PySem.list_append l its.toArray n u (by rw[List.size_toArray];omega)) ⟨e,?_⟩;refine⟨.non,_,I.lset (its':=its++[u]) hH e (by simp) (r.append (.cons ru .nil)) ?_,rfl,q⟩;rw[List.length_append,List.length_singleton];omega
def xC:V->List V->Hp->VK->Prop:=fun x vs H Q=>∃l xs i k y,x = .ref l∧vs = [.int i]∧H l=some (.lst xs)∧-(2^63)≤i∧i<2^63∧seqIndex? i xs.length=some k∧xs[k]? = some y∧Q y (upd H l (.lst (xs.eraseIdx k)))
theorem uu:MtM X "list.pop" xC:=by
 intro pins s σ H x vs v us Q I rx rv h;obtain⟨l,xs,i,k,y,rfl,rfl,hH,h1,h2,hk,hy,q⟩:=h;cases rx;obtain⟨u,rfl,ru⟩:=rv.one;obtain⟨t,rfl⟩:=ru;obtain⟨z,its,n,r,hl,e⟩:=I.lstM hH;obtain⟨w,hw,rw'⟩:=r.get hy;refine call_meets F.slot_list_pop ⟨_,e,rfl⟩ F.entry_list_pop (F.args_list_pop_2 _ _)
  (MeetsSeq.list_pop_at l its.toArray n i t k w (fitsIndex_both h1 h2) (by rw[List.size_toArray,<- hl];exact hk) (by rw[<- Array.getElem?_toList];exact hw) (by rw[List.size_toArray];omega)) ⟨e,?_⟩
 refine⟨y,_,I.lset (its':=its.eraseIdx k) hH e ?_ (r.eraseIdx k) ?_,rw',q⟩
 ·show its.toArray.eraseIdxIfInBounds k=(its.eraseIdx k).toArray
  rw[List.eraseIdxIfInBounds_toArray]
 ·have:=lM xs k
  omega
def zE:R2:=fun x y H Q=>∃l b xs zs,x = .ref l∧y = .ref b∧H l=some (.lst xs)∧H b=some (.lst zs)∧xs.length+zs.length≤sizeLine∧∀p,H p=none->Q (.ref p) (upd H p (.lst (xs++zs)))
theorem xO:OpR X (binaryOp .Add) zE:=by
 intro pins s σ H x y v u Q I rx ry h;obtain⟨l,b,xs,zs,rfl,rfl,hH,hB,hz,q⟩:=h;cases rx;cases ry;obtain⟨z,its,n,r,hl,e⟩:=I.lstM hH;obtain⟨z2,its2,n2,r2,hl2,e2⟩:=I.lstM hB;refine PySem.P.add_list e e2 ?_ (by rw[List.size_toArray,List.size_toArray];omega);have ea:its.toArray++its2.toArray=(its++its2).toArray:=by simp
 rw[ea];exact⟨.ref _,_,I.lnew (t':=s.toks) (r.append r2) (by rw[List.length_append];omega),rfl,q _ I.fresh⟩
def zD:R2:=fun x y H Q=>∃l k xs,x = .ref l∧y = .int k∧H l=some (.lst xs)∧-(2^63)≤k∧k<2^63∧xs.length*k.toNat≤sizeLine ∧
 ∀p,H p=none->Q (.ref p) (upd H p (.lst (List.replicate k.toNat xs).flatten))
theorem wb{α:Type}(xs:List α)(k:Nat):(List.replicate k xs).flatten.length=k*xs.length:=by
 induction k with
 | zero=>simp
 | succ k ih=>rw[List.replicate_succ,List.flatten_cons,List.length_append,ih,Nat.succ_mul,Nat.add_comm]
theorem xM:OpR X (binaryOp .Mult) zD:=by
 intro pins s σ H x y v u Q I rx ry h;obtain⟨l,k,xs,rfl,rfl,hH,h1,h2,hz,q⟩:=h;cases rx;obtain⟨t,rfl⟩:=ry;obtain⟨z,its,n,r,hl,e⟩:=I.lstM hH;have hlen:its.toArray.size*k.toNat≤sizeLine:=by rw[List.size_toArray,<- hl];exact hz
 have hcap:¬its.toArray.size*k.toNat>(2^63 - 1) / 8:=by
  have:(sizeLine:Nat)≤(2^63 - 1) / 8:=by decide
  omega
 have hfit:¬(!Builtin.List.listFitsIndex k)=true:=by
  rw[fitsIndex_both h1 h2];exact Bool.false_ne_true
 have hlong:¬Builtin.List.listTooLong (its.toArray.size*k.toNat)=true:=by
  rw[ow hlen];exact Bool.false_ne_true
 have hnew:List.foldl (fun x1 x2=>x1++x2) #[] (List.replicate (if its.toArray.isEmpty=true then 0 else k.toNat) its.toArray)=(List.replicate k.toNat its).flatten.toArray:=by
  have f0:∀m:Nat,List.foldl (fun x1 x2=>x1++x2) #[] (List.replicate m its.toArray)=(List.replicate m its).flatten.toArray:=fun m=>by
   have:=lT its m [];rw[List.nil_append]at this;exact this
  rw[f0];cases its with
  | nil=>simp
  | cons a r'=>rw[if_neg (by simp)]
 refine wpAny_binaryOp_repeat_ref (T:="list") (U:="int") (by decide) ⟨_,e,rfl⟩ (fun s'=>typeIs_int s' k t) noFill_list_mul F.fills_int_mul F.slot_int_rmul repeat_list F.slot_int_index.lookup
  (call_meets F.slot_int_rmul (typeIs_int s k t) F.entry_int_rmul (F.args_int_rmul_2 _ _) (int___rmul___int_list k t l its.toArray n)
   ⟨e,rfl,⟨_,e,rfl⟩,call_meets F.slot_list_mul ⟨_,e,rfl⟩ F.entry_list_mul (F.args_list_mul_2 _ _) (AutoListH.list___mul___list_int_3 l its.toArray n k t hfit hcap hlong) ⟨e,?_⟩⟩)
 rw[hnew];exact⟨.ref _,_,I.lnew (t':=s.toks) (r.rep k.toNat) (by rw[wb,Nat.mul_comm];exact hz),rfl,q _ I.fresh⟩
end
section
variable {prog:Program} {w:World} {A:Around} {E:Value->Shared->Prop} {s:Shared}
theorem sq(its its2:List Value)(a c:Nat):its.toArray.extract 0 a++its2.toArray++its.toArray.extract c its.toArray.size=(its.take a++its2++its.drop c).toArray:=by
  apply Array.toList_inj.mp
  first
    | (simp
       exact List.take_of_length_le (by simp))
    | simp[List.take_of_length_le]
    | simp
set_option maxRecDepth 100000 in
end
section
variable {X:Cx}
end
end L2
namespace Att
open PySem PySem.W PySem.Calls PyProof.Rows
theorem jo{P:Params}{h:Heap}:∀(ns:List Int) (vs:List Value),WellAll P h vs (ns.map WData.int)->IntsAre vs ns:=by
 intro ns
 induction ns with
 | nil =>
  intro vs w;rw[List.map_nil]at w;cases w;exact .nil
 | cons n ns ih =>
  intro vs w;rw[List.map_cons]at w;cases w with
  | cons a b =>
   cases a;exact .cons _ _ (ih _ b)
theorem su{l:OpenLaw}{n:Nat}(hn:l.most=some n){P:Params}{h:Heap}{args:List WData}{vals:List Value}
  (hpre:l.row.toRowW.claim.pre args=true) (hwl:WellAll P h vals args) :
  ∃a vs ns,vals = [Value.ref a]∧args = [WData.list (ns.map WData.int)]∧h.get? a=some { cls:=.type "list",data:=.seq vs.toArray }∧IntsAre vs ns∧ns.length≤n:=by
 have hsh:WShape.hasAll [] args [.list .int]=true:=(pre_splitW hpre).1;have hc:l.pre.holds [] { args:=args }=true:=(pre_splitW hpre).2;obtain⟨d,r,rfl,h1,h2⟩:=hasAllW_cons hsh;obtain rfl:=hasAllW_nil h2;obtain⟨xs,rfl,h3⟩:=hasW_list h1;obtain⟨ns,rfl⟩:=items_int h3;have hlen:ns.length≤n:=by
  unfold OpenLaw.pre at hc;have h4:(WTm.not (.lt (.lit (.int (n:Int))) (.len (.arg 0)))).holds [] { args:=[.list (ns.map .int)] }=true:=by
   have h4:=(holds_andW hc).1;rw[hn]at h4;exact h4
  have h5:=condW_of h4 (w_not (w_lt w_lit (w_len_list (w_arg rfl))));rw[List.length_map]at h5;refine Nat.le_of_not_lt fun q=>?_;have q':(n:Int)<((ns.length:Nat):Int):=by omega
  first
   | (rw[decide_eq_true q']at h5;exact absurd h5 (by decide))
   | (simp at h5;omega)
 cases hwl with
 | cons w1 w2 =>
  cases w2;cases w1 with
  | list ho hall=>exact⟨_,_,ns,rfl,rfl,ho,jo ns _ hall,hlen⟩
theorem sC(l:OpenLaw)(args:List WData):l.row.toRowW.claim.post args (.bool true) args=true :=
 postW_of (r:=l.row.toRowW) (X:=(true == true))
  (show WShape.has [] (.bool true) .bool=true by first|rfl|decide|simp[WShape.has,WShape.arms,WShape.armsAll])
  (show(WTm.eq .res (.lit (.bool true))).value [] { args:=args,res:=some (.bool true),after:=args }=some (.bool (true == true)) from w_eq_bool (w_res rfl) w_lit) rfl
theorem attach_call{l:OpenLaw}{n:Nat}{q:Program}{loose:List Str}{XP:(Str->Option Value)->Heap->Prop}{YP:World->Heap->Prop}{d:DefRec}
  (hn:l.most=some n) (hdf:d.params.defaults = [])
  (call:∀(w:World) (s₀ s₁:Shared) (mg mb:Str->Option Value) (fa:Addr) (o:Obj) (pm cd doc:Value) (a:Addr) (vs:List Value) (ns:List Int),
   Ground q loose [] XP w s₀ mg mb s₁.heap->YP w s₁.heap ->
   s₁.heap.get? fa=some o->o.data = .func (docDef d.name d.params d.body d.scope pm cd doc)->s₁.heap.CodeRec cd d.name->mg d.name=some (.ref fa) ->
   s₁.heap.get? a=some { cls:=.type "list",data:=.seq vs.toArray }->IntsAre vs ns->ns.length≤n->s₁.gens = #[] ->
   codeAny (model l.prog w) callerA (.call (.ref fa) ⟨[.ref a],[]⟩) (fun r s'=>r = .ok (.ret (.bool true))∧OldK s₁.heap s'.heap∧s'.os=s₁.os∧AllBare s'.gens) s₁) :
  WalkO q loose XP YP l.row.toRowW d [] (fun f vs=>PySem.call f vs):=by
 intro w s₀ s₁ mg mb G Y fa o pm cd doc dV kV ho hd hcd hD hmg hg args vals as hpre hlay hrd hwl hlo;obtain rfl:dV = .none:=Dflts.none hD hdf;obtain rfl:kV = .none:=Dflts.noKw hD;obtain⟨a,vs,ns,rfl,rfl,hobj,hints,hlen⟩:=su hn hpre hwl;refine enter_call (codeAny_mono (call w s₀ s₁ mg mb fa o pm cd doc a vs ns G Y ho (fd_plain hd) hcd hmg hobj hints hlen hg) fun r s' hq=>?_);obtain⟨rfl,h2,h3,h4⟩:=hq;exact⟨.inl ⟨.bool true,.bool true,[],rfl,fun _=>rfl,.bool true,sC l _,fun _=>⟨List.Pairwise.nil,fun _ hm=>(nomatch hm)⟩⟩,h2,h3,h4⟩
section
variable {prog:Program} {w:World} {A:Around} {E:Value->Shared->Prop} {s:Shared} {K:Frag}
end
end Att
namespace L2
open PySem PySem.Spec PyProof.Rows
theorem lj:∀{vs:List Value} {ns:List Int},IntsAre vs ns->aO (ns.map V.int) vs
 | _,_,.nil=>.nil
 | _,_,.cons n t h=>.cons ⟨t,rfl⟩ (lj h)
def yy(H:Hp):Prop:=∀b,H b=none∨∃o xs,H b=some (.frz o (.lst xs))
theorem uP{P:Program}{w:World}{K:W.Frag}{mg mb:Str->Option Value}{CX:CXT}{k:Nat}{fa a:Addr}{fd:FuncData}{x:Str}{sp:Sp}{s₁:Shared}{vs:List Value}{ns:List Int}
  (KX:K.In s₁.heap) (hns:s₁.heap.Ns mainGlobals mg) (hb:s₁.heap.Ns builtinsNs mb) (hbb:∀x:Str,x≠"__name__"->mb x=bootBuiltins x) (hlim:s₁.heap.NoLimit) (hg:s₁.gens = #[])
  (ha:s₁.heap.get? a=some { cls:=.type "list",data:=.seq vs.toArray }) (hi:IntsAre vs ns) (hl:ns.length≤sizeLine) (hr:A6 k callerA)
  (F:∀base:Heap,K.In base->base.Ns mainGlobals mg->EK P w K mg base CX k fa fd [x] sp) (hbind:∀(s:Shared) (u:Value),BindsTo s fd ⟨[u],[]⟩ [(x,u)])
  (hsp:∀H:Hp,yy H->SqL K H a (ns.map V.int)->sp [.ref a] H (fun v _=>v = .bl true) fun _ _ _=>False)
  (hCX:∀H e s',CX [] H s₁ (fun _ _ _=>False) e s'->False) :
  codeAny (model P w) callerA (.call (.ref fa) ⟨[.ref a],[]⟩) (fun r s'=>r = .ok (.ret (.bool true))∧OldK s₁.heap s'.heap∧s'.os=s₁.os∧AllBare s'.gens) s₁:=by
 have rv:=lj hi;have lenV:=hi.length;have core:∀H:Hp,yy H->SqL K H a (ns.map V.int)->HOk P w H s₁.heap->(∀b,H b≠none->b=a)->(H a≠none->K.lookup a=none) ->
   codeAny (model P w) callerA (.call (.ref fa) ⟨[.ref a],[]⟩) (fun r s'=>r = .ok (.ret (.bool true))∧OldK s₁.heap s'.heap∧s'.os=s₁.os∧AllBare s'.gens) s₁:=by
  intro H hO hS hok hA hK;have base_of:∀{b:Addr} {o:Obj},s₁.heap.get? b=some o->H b=none->(mL s₁.heap H).get? b=some o:=fun e n=>uS e n;have noA:∀{b:Addr} {o:Obj} {es:Array DictEntry} {ep:Nat},s₁.heap.get? b=some o->o.data = .dict es ep->H b=none:=fun {b o es ep} e d=>by
   cases q:H b with
   | none=>rfl
   | some u =>
    have e':b=a:=hA b (by rw[q];simp);subst e';rw[ha]at e;cases e;have d':Data.seq vs.toArray _=Data.dict es ep:=d;cases d'
  have nsK:∀{b:Addr} {m:Str->Option Value},s₁.heap.Ns b m->(mL s₁.heap H).Ns b m:=fun {b m} ⟨o,es,ep,e,d,r⟩=>⟨o,es,ep,base_of e (noA e d),d,r⟩;have hKb:K.In (mL s₁.heap H):=fun b o e=>base_of (KX b o e) (by
   cases q:H b with
   | none=>rfl
   | some u =>
    have e':b=a:=hA b (by rw[q];simp);subst e';rw[hK (by rw[q];simp)]at e;cases e)
  have hM:Mod K mg (mL s₁.heap H):=⟨hKb,nsK hns,⟨mb,nsK hb,hbb⟩,let ⟨mc,h1,h2⟩:=hlim;⟨mc,nsK h1,h2⟩⟩;have e0:IH P w K mg (mL s₁.heap H) callerA [] s₁ H:=⟨rfl,hM,fun b o e=>vY e,Nat.le_of_eq (sR _ _),trivial,fun b hb=>absurd (show b∈([]:List Addr) from hb) (by simp),hok,.of_eq hg⟩;refine codeAny_mono ((F _ hKb (nsK hns)).run callerA [] s₁ H ⟨[.ref a],[]⟩ [.ref a] [.ref a] _ _ hr e0 (hbind s₁ (.ref a)) (.cons rfl .nil) (hsp H hO hS)) fun r s' h=>?_;cases r with
  | error e=>exact(hCX H e s' h).elim
  | ok fl =>
   cases fl with
   | next=>exact False.elim h
   | brk=>exact False.elim h
   | cont=>exact False.elim h
   | ret u =>
    obtain⟨v,H',os,bare,un,hok',r',q⟩:=h;have q':v = .bl true:=q;subst q';obtain rfl:u=Value.bool true:=r';refine⟨rfl,OldK.of_keep fun b o e=>?_,os,bare⟩;cases q:H b with
    | none=>exact un.keep b o e q (by intro z;exact absurd (show b∈([]:List Addr) from z) (by simp)) (by simp)
    | some u =>
     rcases hO b with z|⟨ob,xs,z⟩
     ·rw[q]at z;cases z
     ·have z2:=un.frzs b ob _ z
      obtain⟨e1,_⟩:=hok b _ z;obtain⟨e2,_⟩:=hok' b _ z2;rw[e]at e1;cases e1;exact e2
 cases hk:K.lookup a with
 | some o =>
  have e:=KX a o hk;rw[ha]at e;cases e;refine core (fun _=>none) (fun _=>.inl rfl) (.inr ⟨_,vs.toArray,_,hk,rfl,rfl,rfl,by rw[List.size_toArray,lenV];exact hl,by simpa using rv⟩) (fun b u z=>by have z':(none:Option HO)=some u:=z;cases z') (fun b z=>absurd rfl z) fun z=>absurd rfl z
 | none =>
  refine core (fun b=>if b=a then some (.frz { cls:=.type "list",data:=.seq vs.toArray } (.lst (ns.map V.int))) else none) (fun b=>?_) (.inl (.inr ⟨{ cls:=.type "list",data:=.seq vs.toArray },if_pos rfl⟩)) (fun b u z=>?_) (fun b z=>?_) fun _=>hk
  ·by_cases hb:b=a
   ·exact .inr ⟨_,_,if_pos hb⟩
   ·exact .inl (if_neg hb)
  ·by_cases hb:b=a
   ·have z':=(if_pos hb).symm.trans z
    cases z';subst hb;exact⟨ha,by rw[List.length_map];exact hl,vs,_,rv,ha⟩
   ·have z':=(if_neg hb).symm.trans z
    cases z'
  ·by_cases hb:b=a
   ·exact hb
   ·exact absurd (if_neg hb) z
end L2
namespace L2
open PySem PySem.Spec PyProof.Rows
theorem walk_of{l:W.OpenLaw}{n k:Nat}{q:Program}{loose:List Str}{XP:(Str->Option Value)->Heap->Prop}{YP:World->Heap->Prop}{d:DefRec}{K:Params->W.Frag}{CX:World->CXT}{sp:World->Sp}{x:Str}
  (hn:l.most=some n) (hn2:n≤sizeLine) (hdf:d.params.defaults = []) (hr:A6 k callerA)
  (hY:∀(w:World) (h:Heap),YP w h->(K w.params).In h)
  (F:∀(w:World) (mg:Str->Option Value) (fa:Addr) (h:Heap),(K w.params).In h->h.Ns mainGlobals mg->mg d.name=some (.ref fa) ->
   ∃fd:FuncData,(∀(s:Shared) (u:Value),BindsTo s fd ⟨[u],[]⟩ [(x,u)]) ∧
    ∀base:Heap,(K w.params).In base->base.Ns mainGlobals mg->EK l.prog w (K w.params) mg base (CX w) k fa fd [x] (sp w))
  (hsp:∀(w:World) (H:Hp) (a:Addr) (ns:List Int),ns.length≤n->yy H->SqL (K w.params) H a (ns.map V.int)->sp w [.ref a] H (fun v _=>v = .bl true) fun _ _ _=>False)
  (hCX:∀(w:World) (H:Hp) (s:Shared) (e:Value) (s':Shared),CX w [] H s (fun _ _ _=>False) e s'->False) :
  W.WalkO q loose XP YP l.row.toRowW d [] (fun f vs=>PySem.call f vs):=by
 refine Att.attach_call hn hdf fun w s₀ s₁ mg mb fa o pm cd doc a vs ns G Y ho hd hcd hmg hobj hints hlen hg=>?_;have KX:=hY w _ Y;obtain⟨fd,hb,hF⟩:=F w mg fa _ KX G.T.g hmg;exact uP KX G.T.g G.T.b G.T.builtins G.T.nolimit hg hobj hints (Nat.le_trans hlen hn2) hr hF hb (fun H hO hS=>hsp w H a ns hlen hO hS) fun H e s'=>hCX w H s₁ e s'
end L2
namespace L2
open PySem PySem.Spec PyProof.Rows
def bj(s:Stmt):Arguments:=match s with
 | .FunctionDef _ a _ _ _ _ _ _ _ _=>a
 | _=>{ posonlyargs:=[],args:=[],vararg:=none,kwonlyargs:=[],kw_defaults:=[],kwarg:=none,defaults:=[] }
def aA(s:Stmt):List Stmt:=match s with
 | .FunctionDef _ _ b _ _ _ _ _ _ _=>b
 | _=>[]
def ag(s:Stmt):Scope:=match s with
 | .FunctionDef _ _ _ _ _ _ sc _ _ _=>sc
 | _=>{ kind:=.function,names:=[],isGenerator:=false,isCoroutine:=false }
abbrev CX0:CXT:=fun _ _ _ _ _ _=>False
abbrev E0:XK:=fun _ _ _=>False
theorem yN{X:Cx}:kG CX0 X E0:=fun _ _ _ _ _ _ _ h=>h.elim
section
variable {P:Program} {w:World} {K:W.Frag} {mg:Str->Option Value} {base:Heap}
end
theorem cG{n:Nat}(h:n≤1000):n<sizeLine:=Nat.lt_of_le_of_lt h (by decide)
section
variable {X:Cx}
theorem pv(i:Nat){x:Str}{pos:Pos}(hN:X.N[i]? = some x:=by rfl)(hv:Vis X.env.scope x:=by first|exact Or.inl rfl|exact Or.inr (Or.inl rfl)|exact Or.inr (Or.inr rfl))(hd:(x == ("__debug__" : Str))=false:=by decide)
  (hcd:(x == ("__classdict__" : Str))=false:=by decide):PE X (.Name x pos) (CK i):=xJ hN hv hd hcd
end
theorem jn{A B:Prop}(h:B):if false=true then A else B:=by
 rw[if_neg Bool.false_ne_true];exact h
theorem jm{A B:Prop}(h:A):if true=true then A else B:=by
 rw[if_pos rfl];exact h
def Same(H H':Hp):Prop:=∀b o,H b=some o->H' b=some o
theorem Same.refl(H:Hp):Same H H:=fun _ _ h=>h
theorem Same.trans{H H1 H2:Hp}(a:Same H H1)(b:Same H1 H2):Same H H2:=fun c o h=>b c o (a c o h)
theorem Same.free{H H':Hp}(e:Same H H'){l:Addr}(h:H' l=Option.none):H l=Option.none:=by
 cases q:H l with
 | none=>rfl
 | some o =>
  rw[e l o q]at h;cases h
theorem Same.seq{K:W.Frag}{H H':Hp}{a:Addr}{xs:List V}(e:Same H H')(h:SqL K H a xs):SqL K H' a xs:=by
 rcases h with(h|⟨o,h⟩)|h
 ·exact .inl (.inl (e _ _ h))
 ·exact .inl (.inr ⟨o,e _ _ h⟩)
 ·exact .inr h
end L2
end
section
set_option Elab.async false
set_option linter.all false
set_option maxRecDepth 100000
set_option maxHeartbeats 4000000
namespace Mth
theorem uW{a b:Int}(ha:0≤a)(hb:0<b):Int.gcd b (a % b)=Int.gcd a b:=by
 obtain⟨m,rfl⟩:=Int.eq_ofNat_of_zero_le ha;obtain⟨n,rfl⟩:=Int.eq_ofNat_of_zero_le (Int.le_of_lt hb);rw[<- Int.natCast_emod];show Nat.gcd (n:Int).natAbs ((m % n:Nat):Int).natAbs=Nat.gcd (m:Int).natAbs (n:Int).natAbs;simp only[Int.natAbs_natCast];rw[Nat.gcd_comm m n,Nat.gcd_comm n (m % n)];exact(Nat.gcd_rec n m).symm
theorem rF(a b:Int):Int.gcd (if a<0 then -a else a) b=Int.gcd a b:=by
 split
 ·exact Int.neg_gcd
 ·rfl
theorem uX(a b:Int):Int.gcd a (if b<0 then -b else b)=Int.gcd a b:=by
 rw[Int.gcd_comm,rF,Int.gcd_comm]
theorem gcd_zero{a:Int}(ha:0≤a):(Int.gcd a 0:Int)=a:=by
 rw[Int.gcd_zero];omega
structure AM(t b:Int):Prop where
 pos:1≤b
 one:Int.gcd t b=1
theorem dO{a b:Int}(h:b≠0):0<(Int.gcd a b:Int):=by
 have:=Int.gcd_pos_of_ne_zero_right a h;omega
theorem yh(a b:Int):a=a / (Int.gcd a b:Int)*(Int.gcd a b:Int):=(Int.ediv_mul_cancel (Int.gcd_dvd_left a b)).symm
theorem rM(a b:Int):b=b / (Int.gcd a b:Int)*(Int.gcd a b:Int):=(Int.ediv_mul_cancel (Int.gcd_dvd_right a b)).symm
theorem wG{a b:Int}(hb:0<b):AM (a / (Int.gcd a b:Int)) (b / (Int.gcd a b:Int)):=by
 have hg:=dO (a:=a) (b:=b) (by omega);refine⟨?_,?_⟩
 ·have h1:=rM a b
  have h2:0<b / (Int.gcd a b:Int):=Int.ediv_pos_of_pos_of_dvd hb (by omega) (Int.gcd_dvd_right a b);omega
 ·rw[Int.gcd_ediv (Int.gcd_dvd_left a b) (Int.gcd_dvd_right a b)]
  simp only[Int.natAbs_natCast];exact Nat.div_self (by omega)
theorem rz{t b t' b':Int}(h:AM t b)(e:t*b'=t'*b):b∣b':=by
 have h1:b.natAbs∣t.natAbs*b'.natAbs:=by
  rw[<- Int.natAbs_mul,e,Int.natAbs_mul];exact Nat.dvd_mul_left _ _
 have h2:Nat.Coprime b.natAbs t.natAbs:=by
  have:=h.one;unfold Nat.Coprime;rw[Nat.gcd_comm];exact this
 exact Int.natAbs_dvd_natAbs.mp (h2.dvd_of_dvd_mul_left h1)
theorem cj{t b t' b':Int}(h:AM t b)(h':AM t' b')(e:t*b'=t'*b):t=t'∧b=b':=by
 have d1:=rz h e;have d2:=rz h' e.symm;have p1:=h.pos;have p2:=h'.pos;have eb:b=b':=Int.le_antisymm (Int.le_of_dvd (by omega) d1) (Int.le_of_dvd (by omega) d2);subst eb;exact⟨Int.eq_of_mul_eq_mul_right (by omega) e,rfl⟩
structure zV(top bottom t b:Int):Prop where
 low:AM t b
 eq:top*b=t*bottom
theorem fZ{a b:Int}(hb:0<b):zV a b (a / (Int.gcd a b:Int)) (b / (Int.gcd a b:Int)):=by
 refine⟨wG hb,?_⟩;have h1:=yh a b;have h2:=rM a b;generalize a / (Int.gcd a b:Int)=x at *;generalize b / (Int.gcd a b:Int)=y at *;generalize (Int.gcd a b:Int)=g at *;subst h1 h2
 grind
theorem lR{a b:Int}(hb:b≠0)(d:Int)(hd:d=if b<0 then -(Int.gcd a b:Int) else (Int.gcd a b:Int)):zV a b (a.fdiv d) (b.fdiv d):=by
 have hg:=dO (a:=a) (b:=b) hb
 by_cases h:b<0
 ·rw[if_pos h]at hd
  have f:=fZ (a:=-a) (b:=-b) (by omega);rw[Int.gcd_neg,Int.neg_gcd]at f;subst hd;have e1:a.fdiv (-(Int.gcd a b:Int)) = -a / (Int.gcd a b:Int):=by
   rw[<- Int.neg_fdiv_neg,Int.neg_neg];exact Int.fdiv_eq_ediv_of_nonneg _ (by omega)
  have e2:b.fdiv (-(Int.gcd a b:Int)) = -b / (Int.gcd a b:Int):=by
   rw[<- Int.neg_fdiv_neg,Int.neg_neg];exact Int.fdiv_eq_ediv_of_nonneg _ (by omega)
  rw[e1,e2];exact⟨f.low,by have:=f.eq;grind⟩
 ·rw[if_neg h]at hd
  subst hd;rw[Int.fdiv_eq_ediv_of_nonneg _ (by omega),Int.fdiv_eq_ediv_of_nonneg _ (by omega)];exact fZ (by omega)
theorem jk{a b t u t' u':Int}(hb:b≠0)(h:zV a b t u)(h':zV a b t' u'):t=t'∧u=u':=by
 refine cj h.low h'.low ?_;have e1:=h.eq;have e2:=h'.eq;have:b*(t*u')=b*(t'*u):=by grind
 exact Int.eq_of_mul_eq_mul_left hb this
theorem sT{t u:Int}(h:AM t u):zV t u t u:=⟨h,rfl⟩
end Mth
namespace L2
open PySem PySem.Spec PyProof.Rows
abbrev au(i:Int):Nat:=Builtin.Int.intBits i
theorem d9{i:Int}{n:Nat}(h:i.natAbs<2^n):au i≤n:=intBits_le h
theorem dw{i:Int}{n:Nat}(h:au i≤n):i.natAbs<2^n:=by
 unfold au Builtin.Int.intBits at h
 by_cases h0:i=0
 ·subst h0
  exact Nat.pos_of_ne_zero (by simp)
 ·rw[if_neg (by simpa using h0)]at h
  have h1:i.natAbs≠0:=by omega
  exact(Nat.log2_lt h1).mp (by omega)
theorem gI{i j:Int}{n:Nat}(h:i.natAbs≤j.natAbs)(hj:au j≤n):au i≤n:=d9 (Nat.lt_of_le_of_lt h (dw hj))
theorem bits_mul{i j:Int}{m n:Nat}(hi:au i≤m)(hj:au j≤n):au (i*j)≤m+n:=by
 refine d9 ?_;rw[Int.natAbs_mul,Nat.pow_add];exact Nat.mul_lt_mul'' (dw hi) (dw hj)
theorem cF{i j:Int}{n:Nat}(hi:au i≤n)(hj:au j≤n):au (i+j)≤n+1:=by
 refine d9 ?_;have h1:=dw hi;have h2:=dw hj;have h3:(2:Nat)^(n+1)=2*2^n:=by rw[Nat.pow_succ,Nat.mul_comm]
 omega
theorem bG{i j:Int}{n:Nat}(hi:au i≤n)(hj:au j≤n):au (i - j)≤n+1:=by
 refine d9 ?_;have h1:=dw hi;have h2:=dw hj;have h3:(2:Nat)^(n+1)=2*2^n:=by rw[Nat.pow_succ,Nat.mul_comm]
 omega
theorem bits_neg{i:Int}{n:Nat}(hi:au i≤n):au (-i)≤n:=gI (by omega) hi
theorem cH{i j:Int}{n:Nat}(hj:0<j)(hi:au i≤n):au (i / j)≤n:=by
 refine gI ?_ hi;exact Int.natAbs_ediv_le_natAbs i j
theorem gJ{i j:Int}{n:Nat}(hi:au i≤n):au (i.fdiv j)≤n:=PySem.intBits_fdiv_le hi
theorem de{i b:Int}{n:Nat}(h0:0≤i)(h1:i≤b)(hb:au b≤n):au i≤n:=gI (by omega) hb
theorem ai{i:Int}{m n:Nat}(h:au i≤m)(hm:m≤n):au i≤n:=Nat.le_trans h hm
section
variable {X:Cx} {pos:Pos}
def CM(i j:Int):Prop:=IntMulOk i j
theorem CM.b{i j:Int}{m n:Nat}(hi:au i≤m)(hj:au j≤n)(hm:m≤2^20)(hn:n≤2^20):CM i j:=IntMulOk.of_bits (Nat.le_trans hi hm) (Nat.le_trans hj hn)
theorem CM.l{i j:Int}(h:-(2^64)<i∧i<2^64):CM i j:=wU.ok (.inl h)
theorem CM.r{i j:Int}(h:-(2^64)<j∧j<2^64):CM i j:=wU.ok (.inr h)
theorem aJ:OpR X (binaryOp .Mult) (rI CM fun i j=>.int (i*j)):=opI fun _ _ _ _ _ _ _ hc q=>mul_int q hc
def CD(_ j:Int):Prop:=0<j∧au j≤8000
theorem ip{j:Int}{n:Nat}(hj:j≠0)(h:au j≤n)(hn:n≤9000):j.natAbs.log2<9000:=by
 have h1:j.natAbs≠0:=by omega
 have h2:=(Nat.log2_lt h1).mpr (dw h);omega
theorem cv:OpR X (binaryOp .FloorDiv) (rI CD fun i j=>.int (i / j)):=opI fun i j _ _ _ _ _ hc q=>by
 have h1:(0:Int)<j:=hc.1;exact floordiv_int (by omega) (by rw[Int.fdiv_eq_ediv_of_nonneg i (by omega)];exact q) (.inl (PyProof.noPylong_of_log2 (ip (by omega) hc.2 (by decide))))
def CDZ(_ j:Int):Prop:=j≠0∧au j≤8000
theorem oq:OpR X (binaryOp .FloorDiv) (rI CDZ fun i j=>.int (i.fdiv j)):=opI fun i j _ _ _ _ _ hc q =>
 floordiv_int hc.1 q (.inl (PyProof.noPylong_of_log2 (ip hc.1 hc.2 (by decide))))
end
theorem nI:bootBuiltins "int" = some (.type "int"):=by decide +kernel
theorem rW:bootBuiltins "bool" = some (.type "bool"):=by decide +kernel
theorem gj:bootBuiltins "str" = some (.type "str"):=by decide +kernel
theorem gi:bootBuiltins "tuple" = some (.type "tuple"):=by decide +kernel
theorem gH:bootBuiltins "list" = some (.type "list"):=by decide +kernel
theorem aL:bootBuiltins "isinstance" = some (.builtin "isinstance"):=by decide +kernel
theorem kD:bootBuiltins "abs" = some (.builtin "abs"):=by decide +kernel
theorem ck:bootBuiltins "len" = some (.builtin "len"):=by decide +kernel
theorem qK:bootBuiltins "min" = some (.builtin "min"):=by decide +kernel
theorem vn:bootBuiltins "max" = some (.builtin "max"):=by decide +kernel
theorem eT{X:Cx}{x:Str}{T:String}{pos:Pos}(hm:X.mg x=none)(hv:bootBuiltins x=some (.type T))(hg:Gl X x:=by rfl)(hn:x≠"__name__":=by decide)(hd:(x == ("__debug__" : Str))=false:=by decide) :
  PE X (.Name x pos) (tC (.ty T)):=vT hg hm hv rfl hn hd
inductive Kn (H:Hp):V->String->Prop where
 | non:Kn H .non "NoneType"
 | bl (b:Bool):Kn H (.bl b) "bool"
 | int (i:Int):Kn H (.int i) "int"
 | str (x:Str):Kn H (.str x) "str"
 | lst {a:Addr} {xs:List V} (e:H a=some (.lst xs)):Kn H (.ref a) "list"
 | tup {a:Addr} {xs:List V} (e:H a=some (.tup xs)):Kn H (.ref a) "tuple"
 | dict {a:Addr} {kvs:List (Key×V)} (e:H a=some (.dK kvs)):Kn H (.ref a) "dict"
theorem Kn.ty{K:W.Frag}{H:Hp}{x:V}{t:String}(k:Kn H x t):EX K H x (.type t):=by
 cases k with
 | non=>exact .non
 | bl b=>exact .bl b
 | int i=>exact .int i
 | str x=>exact .str x
 | lst e=>exact .lst e
 | tup e=>exact .tup e
 | dict e=>exact .dK e
theorem Kn.mono{H H':Hp}{x:V}{t:String}(k:Kn H x t)(s:Same H H'):Kn H' x t:=by
 cases k with
 | non=>exact .non
 | bl b=>exact .bl b
 | int i=>exact .int i
 | str x=>exact .str x
 | lst e=>exact .lst (s _ _ e)
 | tup e=>exact .tup (s _ _ e)
 | dict e=>exact .dict (s _ _ e)
def fk(t T:String):Bool:=t == T || (t == "bool" && T == "int")
def qL(T:String):Prop:=T = "int"∨T = "bool"∨T = "tuple"∨T = "list"∨T = "str"
theorem x5(K:W.Frag){H:Hp}{x:V}{t T:String}(k:Kn H x t)(n:qL T):W.kitOne K (.type t) (.type T)=some (fk t T):=by
 rcases n with rfl|rfl|rfl|rfl|rfl <;> cases k <;> kernel_rfl
inductive Jh (xs:List V) (H:Hp) (Q:VK):Prop
 | mk (x:V) (t T:String) (e:xs = [x,.ty T]) (k:Kn H x t) (n:qL T) (q:Q (.bl (fk t T)) H):Jh xs H Q
theorem bI{X:Cx}:dX X (.builtin "isinstance") Jh:=by
 intro pins s σ H xs us Q I rs h;obtain⟨x,t,T,rfl,k,n,q⟩:=h;obtain⟨u,v,rfl,ru,rv⟩:=qM rs;cases (show v=Value.type T from rv);exact sP I ru k.ty (x5 X.K k n) fun tk=>⟨.bl _,H,I.tok _,rfl,q⟩
structure Fn(P:Program)(w:World)(K:W.Frag)(mg:Str->Option Value)(base:Heap)(x:Str)(ps:List Str)(k:Nat)(sp:Sp):Prop where
 ex:∃(f:Addr) (fd:FuncData) (o:Obj),mg x=some (.ref f)∧W.keepIn K (.ref f)=true∧(∀us:List Value,us.length=ps.length->bindArgs fd ⟨us,[]⟩=pure (ps.zip us))∧(K.lookup f=some o∧o.data = .func fd)∧EK P w K mg base CX0 k f fd ps sp
theorem ao{X:Cx}{x:Str}{ps:List Str}{k:Nat}{sp:Sp}{p pos:Pos}{e:Expr}{es:List Expr}{t:TA}(F:Fn X.prog X.w X.K X.mg X.base x ps k sp)(hr:A6 k X.A)(hg:Gl X x)(ha:PA X (e::es) t)
  (hdb:(x == ("__debug__" : Str))=false:=by decide) (he:starEach (e::es) X.env=(false,eval e X.env)::starEach es X.env:=by rfl) (hpl:(backTo pos (starEach es X.env)).any (·.1)=false:=by rfl) :
  PE X (.Call (.Name x p) (e::es) [] pos) (gR sp [] E0 t):=by
 obtain⟨f,fd,o,hm,hk,hb,_,G⟩:=F.ex;exact ie G hr hg hm hk (.all hb) .nil yN ha hdb he hpl
structure Df(K:W.Frag)(mg:Str->Option Value)(x:Str)(st:Stmt):Prop where
 ex:∃(f:Addr) (oc:Value) (od:Option Addr) (kV doc pm:Value) (an:Option Addr) (cdv ct:Value) (osl:Array (Option Value)),
  mg x=some (.ref f)∧K.lookup f=some ⟨oc,od,.func (W.fnOf x x (bj st) (aA st) (ag st) .none kV doc pm an cdv ct),osl⟩∧W.codeIn K cdv x=true∧W.keepIn K (.ref f)=true
theorem zj{K:W.Frag}{mg:Str->Option Value}{h:Heap}{x:Str}{st:Stmt}{f:Addr}{oc:Value}{od an:Option Addr}{osl:Array (Option Value)}{kV doc pm cdv ct:Value}(X:K.In h)(G:h.Ns mainGlobals mg)
  (a:W.nsIn K mainGlobals x=some (some (.ref f))) (l:K.lookup f=some ⟨oc,od,.func (W.fnOf x x (bj st) (aA st) (ag st) .none kV doc pm an cdv ct),osl⟩) (c:W.codeIn K cdv x=true) (k:W.keepIn K (.ref f)=true) :
  Df K mg x st:=⟨⟨f,oc,od,kV,doc,pm,an,cdv,ct,osl,W.mg_of X G a,l,c,k⟩⟩
theorem Df.fn{P:Program}{w:World}{K:W.Frag}{mg:Str->Option Value}{base:Heap}{x:Str}{st:Stmt}{N ps:List Str}{k:Nat}{sp:Sp}(D:Df K mg x st)(S:zQ N ps (ag st))
  (hbind:∀(kV doc pm:Value) (an:Option Addr) (cdv ct:Value) (us:List Value),us.length=ps.length->bindArgs (W.fnOf x x (bj st) (aA st) (ag st) .none kV doc pm an cdv ct) ⟨us,[]⟩=pure (ps.zip us))
  (len:∀vs H Q E,sp vs H Q E->vs.length=ps.length)
  (hbody:∀(f:Addr) (cdv:Value) (A:Around) (outer:List Env) (s:Shared) (H:Hp) (vs:List V) (Q:VK) (E:XK),A6 k (A.deeper (envOfC x (ag st) s.heap.objs.size f cdv))->sp vs H Q E ->
   ∃t,PSs (aN CX0 P w K mg base N x (ag st) f cdv A outer s H E).nox (aA st) t∧t { nx:=fun _ H'=>Q .non H',rt:=Q } (fQ N vs) H):Fn P w K mg base x ps (k+1) sp:=by
 obtain⟨f,oc,od,kV,doc,pm,an,cdv,ct,osl,hm,lk,hcd,hk⟩:=D.ex;refine⟨⟨f,_,_,hm,hk,hbind kV doc pm an cdv ct,⟨lk,rfl⟩,rH lk hcd S len fun A outer s H vs Q E hr hsp=>?_⟩⟩;obtain⟨t,h,q⟩:=hbody f cdv A outer s H vs Q E hr hsp;exact⟨t,h.nox,q⟩
theorem x0{P:Program}{w:World}{K:W.Frag}{mg:Str->Option Value}{fa:Addr}{k:Nat}{sp:Sp}(h:Heap)(hfa:mg "law" = some (.ref fa))(F:∀base:Heap,Fn P w K mg base "law" ["script"] k sp) :
  ∃fd:FuncData,(∀(s:Shared) (v:Value),BindsTo s fd ⟨[v],[]⟩ [("script",v)])∧∀base:Heap,K.In base->base.Ns mainGlobals mg->EK P w K mg base CX0 k fa fd ["script"] sp:=by
 obtain⟨f,fd,o,hm,_,hb,⟨hl,hd⟩,_⟩:=(F h).ex;rw[hfa]at hm;cases hm;refine⟨fd,fun s v=>.of_eq (hb [v] rfl),fun base _ _=>?_⟩;obtain⟨f',fd',o',hm',_,_,⟨hl',hd'⟩,G⟩:=(F base).ex;rw[hfa]at hm';cases hm';rw[hl]at hl';cases hl';rw[hd]at hd';cases hd';exact G
def nY(K:W.Frag):Sp:=fun vs H Q _=>∃(a:Addr) (ns:List Int),vs = [.ref a]∧SqL K H a (ns.map V.int)∧ns.length≤63∧∀H',Q (.bl true) H'
theorem law_walk{l:W.OpenLaw}{k:Nat}{q:Program}{loose:List Str}{XP:(Str->Option Value)->Heap->Prop}{YP:World->Heap->Prop}{d:DefRec}{K:Params->W.Frag}(hk:A6 k callerA)(hn:l.most=some 63)(hdf:d.params.defaults = [])
  (hY:∀(w:World) (h:Heap),YP w h->(K w.params).In h)
  (F:∀(w:World) (mg:Str->Option Value) (fa:Addr) (h:Heap),(K w.params).In h->h.Ns mainGlobals mg->mg d.name=some (.ref fa) ->
   ∃fd:FuncData,(∀(s:Shared) (u:Value),BindsTo s fd ⟨[u],[]⟩ [("script",u)])∧∀base:Heap,(K w.params).In base->base.Ns mainGlobals mg->EK l.prog w (K w.params) mg base CX0 k fa fd ["script"] (nY (K w.params))) :
  W.WalkO q loose XP YP l.row.toRowW d [] (fun f vs=>PySem.call f vs) :=
 L2.walk_of (n:=63) (k:=k) (x:="script") (CX:=fun _=>CX0) (sp:=fun w=>nY (K w.params)) hn (by decide) hdf hk hY F (fun _ _ a ns hl _ hS=>⟨a,ns,rfl,hS,hl,fun _=>rfl⟩) fun _ _ _ _ _ z=>z
theorem Same.new{H:Hp}{p:Addr}{o:HO}(h:H p=none):Same H (upd H p o):=fun b o' e=>by
 rw[bi (aS e h)];exact e
theorem aB{c:Bool}{A B:Prop}(h1:c=true->A)(h2:c=false->B):if c=true then A else B:=by
 cases c with
 | true=>exact jm (h1 rfl)
 | false=>exact jn (h2 rfl)
theorem aX{b:Bool}{A B:Prop}(hb:b=false)(h:B):if b=true then A else B:=by
 subst hb;exact jn h
theorem cZ{b:Bool}{A B:Prop}(hb:b=true)(h:A):if b=true then A else B:=by
 subst hb;exact jm h
def mK:V->Bool
 | .int _=>true
 | _=>false
end L2
namespace Sp1
open PySem PySem.Spec L2 Mth
inductive EG (vs:List V) (H:Hp) (Q:VK) (x_3:XK):Prop
 | mk:∀x t,(vs = [x])->(Kn H x t)->(Q (.bl (mK x)) H)->EG vs H Q x_3
inductive Hv (vs:List V) (H:Hp) (Q:VK) (x_3:XK):Prop
 | mk:∀a b:Int,(vs = [.int a,.int b])->(Q (.int (Int.gcd a b:Int)) H)->Hv vs H Q x_3
inductive Bh (vs:List V) (H:Hp) (Q:VK) (x_3:XK):Prop
 | mk:∀(p q:Addr) (a b c d:Int),(vs = [.ref p,.ref q])->(H p=some (.tup [.int a,.int b]))->(H q=some (.tup [.int c,.int d]))->((au a≤2000∧au b≤2000∧au c≤2000∧au d≤2000))->(Q (.bl (decide (a*d<c*b))) H)->Bh vs H Q x_3
inductive Fs (vs:List V) (H:Hp) (Q:VK) (x_3:XK):Prop
 | mk:∀(p:Addr) (a b:Int),(vs = [.ref p])->(H p=some (.tup [.int a,.int b]))->((0<b∧au b≤2000))->(Q (.int (a / b)) H)->Fs vs H Q x_3
def j9(a b:Int):Bool:=decide (1≤b) && decide (Int.gcd a b=1)
def kK:List V->Bool
 | [.int a,.int b]=>j9 a b
 | _=>false
def io(H:Hp):V->Bool
 | .ref p=>match H p with
  | some (.tup xs)=>kK xs
  | _=>false
 | _=>false
structure Ay(H:Hp)(x:V):Prop where
 kn:∃t,Kn H x t
 parts:∀p xs,x = .ref p->H p=some (.tup xs)->∀y∈xs,∃t,Kn H y t
inductive Ht (vs:List V) (H:Hp) (Q:VK) (x_3:XK):Prop
 | mk:∀x,(vs = [x])->(Ay H x)->(Q (.bl (io H x)) H)->Ht vs H Q x_3
theorem lh{H:Hp}{x:V}{t:String}(k:Kn H x t):(fk t "int" = true->(!fk t "bool")=mK x)∧(fk t "int" = false->mK x=false):=by
 cases k with
 | non=>exact⟨fun h=>absurd h (by decide),fun _=>rfl⟩
 | bl b=>exact⟨fun _=>(show(!fk "bool" "bool")=false by decide),fun h=>absurd h (by decide)⟩
 | int i=>exact⟨fun _=>(show(!fk "int" "bool")=true by decide),fun h=>absurd h (by decide)⟩
 | str x=>exact⟨fun h=>absurd h (by decide),fun _=>rfl⟩
 | lst e=>exact⟨fun h=>absurd h (by decide),fun _=>rfl⟩
 | tup e=>exact⟨fun h=>absurd h (by decide),fun _=>rfl⟩
 | dict e=>exact⟨fun h=>absurd h (by decide),fun _=>rfl⟩
theorem kF(a:Int):0≤(if a<0 then -a else a):=by split <;> omega
theorem Kn.cases_int{H:Hp}{y:V}{t:String}(k:Kn H y t):(∃a,y = .int a∧t = "int")∨((∀a,y≠.int a)∧mK y=false):=by
 cases k with
 | int a=>exact .inl ⟨a,rfl,rfl⟩
 | non=>exact .inr ⟨fun a e=>(nomatch e),rfl⟩
 | bl b=>exact .inr ⟨fun a e=>(nomatch e),rfl⟩
 | str x=>exact .inr ⟨fun a e=>(nomatch e),rfl⟩
 | lst e=>exact .inr ⟨fun a e=>(nomatch e),rfl⟩
 | tup e=>exact .inr ⟨fun a e=>(nomatch e),rfl⟩
 | dict e=>exact .inr ⟨fun a e=>(nomatch e),rfl⟩
theorem Kn.cases_tup{H:Hp}{y:V}{t:String}(k:Kn H y t):(∃p xs,y = .ref p∧H p=some (.tup xs)∧t = "tuple")∨(io H y=false∧fk t "tuple" = false):=by
 cases k with
 | tup e=>exact .inl ⟨_,_,rfl,e,rfl⟩
 | non=>exact .inr ⟨rfl,by decide⟩
 | bl b=>exact .inr ⟨rfl,by decide⟩
 | str x=>exact .inr ⟨rfl,by decide⟩
 | int a=>exact .inr ⟨rfl,by decide⟩
 | lst e=>exact .inr ⟨by simp only[io,e],by decide⟩
 | dict e=>exact .inr ⟨by simp only[io,e],by decide⟩
theorem uH{H:Hp}{p:Addr}{xs:List V}(e:H p=some (.tup xs)):io H (.ref p)=kK xs:=by simp only[io,e]
theorem uJ{xs:List V}(h:xs.length≠2):kK xs=false:=by
 unfold kK
 split
 ·exact absurd rfl h
 ·rfl
theorem uK{y z:V}(h:∀a,y≠.int a):kK [y,z]=false:=by
 unfold kK
 split
 ·rename_i a b e
  cases e;exact absurd rfl (h a)
 ·rfl
theorem uI{y z:V}(h:∀a,z≠.int a):kK [y,z]=false:=by
 unfold kK
 split
 ·rename_i a b e
  cases e;exact absurd rfl (h b)
 ·rfl
theorem sz{n:Nat}(h:n≤1000):n≤sizeLine:=Nat.le_of_lt (cG h)
theorem oI{H:Hp}{p:Addr}{o:HO}(h:H p=none):∃H1,upd H p o=H1∧Same H H1∧H1 p=some o:=⟨_,rfl,Same.new h,upd_same⟩
theorem atI_mem{α:Type}{xs:List α}{k:Int}(h0:0≤k)(h1:k<(xs.length:Int)):∃v,atI xs k=some v∧v∈xs:=by
 have hk:k.toNat<xs.length:=by omega
 have ek:k=((k.toNat:Nat):Int):=by omega
 have q:=dP (xs:=xs) (j:=k.toNat) (List.getElem?_eq_getElem hk);rw[<- ek]at q;exact⟨xs[k.toNat],q,List.getElem_mem hk⟩
theorem th_tup{H:Hp}{p:Addr}{xs:List V}(e:H p=some (.tup xs))(h:∀y∈xs,∃t,Kn H y t):Ay H (.ref p):=⟨⟨_,.tup e⟩,fun p' ys e1 e2=>by
 cases e1;rw[e]at e2;cases e2;exact h⟩
inductive Gm (C:Addr) (vs:List V) (H:Hp) (Q:VK) (E:XK):Prop
 | mk:∀a b:Int,(vs = [.int a,.int b])->((au a≤2000∧au b≤2000))->((b=0->E (.ref C) none H))->((b≠0->∀(p:Addr) (t u:Int),zV a b t u->au t≤2000->au u≤2000->H p=none->Q (.ref p) (upd H p (.tup [.int t,.int u]))))->Gm C vs H Q E
theorem lQ{a b:Int}{n:Nat}(hb:b≠0)(h:au b≤n):au (Int.gcd a b:Int)≤n:=by
 refine gI ?_ h;have h1:(Int.gcd a b)∣b.natAbs:=Int.gcd_dvd_natAbs_right a b;have h2:=Nat.le_of_dvd (by omega) h1;omega
end Sp1
namespace L2
open PySem PySem.Spec PyProof.Rows
theorem pJ(ns ms:List Int):((List.range (min ns.length ms.length)).all (fun j=>decide (ns[j]? = ms[j]?)) && ns.length == ms.length)=decide (ns=ms):=by
 rw[Bool.eq_iff_iff];simp only[Bool.and_eq_true,List.all_eq_true,List.mem_range,decide_eq_true_eq,beq_iff_eq];constructor
 ·rintro⟨h1,h2⟩
  refine List.ext_getElem? fun j=>?_
  by_cases hj:j<ns.length
  ·exact h1 j (by omega)
  ·rw[List.getElem?_eq_none (by omega),List.getElem?_eq_none (by omega)]
 ·rintro rfl
  exact⟨fun _ _=>rfl,rfl⟩
theorem tE{ns:List Int}{us:List Value}{j:Nat}(r:aO (ns.map V.int) us)(h:j<us.length):∃a,ns[j]? = some a∧bO (.int a) us[j]:=by
 have hl:=r.length;rw[List.length_map]at hl;have hj:j<ns.length:=by omega
 obtain⟨u,e,q⟩:=r.get (i:=j) (x:=.int ns[j]) (by rw[List.getElem?_map,List.getElem?_eq_getElem hj];rfl);rw[List.getElem?_eq_getElem h]at e;cases e;exact⟨ns[j],List.getElem?_eq_getElem hj,q⟩
section
variable {X:Cx}
inductive IW (K:W.Frag) (neg:Bool) (x:V) (y:V) (H:Hp) (Q:VK):Prop
 | mk:∀(p q:Addr) (ns ms:List Int),(x = .ref p)->(y = .ref q)->(SqT K H p (ns.map V.int))->(SqT K H q (ms.map V.int))->(Q (.bl (if neg then !decide (ns=ms) else decide (ns=ms))) H)->IW K neg x y H Q
theorem oH{A:Around}{s:Shared}{ns ms:List Int}{us vs:List Value}(r:aO (ns.map V.int) us)(r':aO (ms.map V.int) vs)(j:Nat)(h1:j<us.toArray.size)(h2:j<vs.toArray.size) :
  SeqAt.EqAt A s us.toArray[j] vs.toArray[j] (decide (ns[j]? = ms[j]?)):=by
 rw[List.size_toArray]at h1 h2;obtain⟨a,ea,ra⟩:=tE r h1;obtain⟨b,eb,rb⟩:=tE r' h2;have q:=vc (A:=A) (s:=s) ra rb rfl rfl;have e:eqV (.int a) (.int b)=decide (ns[j]? = ms[j]?):=by
  rw[ea,eb];show(a == b)=decide (some a=some b);rw[Bool.eq_iff_iff];simp
 rw[e]at q;exact q
theorem eW(hu:X.A.units<cLine):OpR X (compareOp .Eq) (IW X.K false):=by
 intro pins s σ H x y v u Q I rx ry h;obtain⟨p,q,ns,ms,rfl,rfl,hp,hq,k⟩:=h;cases rx;cases ry;obtain⟨its,r,pl,_⟩:=I.tuple hp;obtain⟨jts,r',pl',_⟩:=I.tuple hq;refine SeqAt.eq_tupleAt pl pl' hu (oH r r') ⟨.bl _,H,I,rfl,?_⟩;have e1:=r.length;have e2:=r'.length;rw[List.length_map]at e1 e2;rw[List.size_toArray,List.size_toArray,<- e1,<- e2,pJ];exact k
theorem iU(hu:X.A.units<cLine):OpR X (compareOp .NotEq) (IW X.K true):=by
 intro pins s σ H x y v u Q I rx ry h;obtain⟨p,q,ns,ms,rfl,rfl,hp,hq,k⟩:=h;cases rx;cases ry;obtain⟨its,r,pl,_⟩:=I.tuple hp;obtain⟨jts,r',pl',_⟩:=I.tuple hq;refine SeqAt.RcNeAt.tuples pl pl' hu (oH r r') _ _ _ _ ⟨.bl _,H,I,rfl,?_⟩;have e1:=r.length;have e2:=r'.length;rw[List.length_map]at e1 e2;rw[List.size_toArray,List.size_toArray,<- e1,<- e2,pJ];exact k
end
end L2
namespace L2
open PySem PySem.Spec PyProof.Rows
section
variable {prog:Program} {w:World} {A:Around} {E:Value->Shared->Prop}
end
end L2
namespace L2
open PySem PySem.Spec PyProof.Rows
theorem cL.has{P:Program}{w:World}{H:Hp}{h:Heap}{a:Addr}{o:HO}(x:cL P w H h a o):∃ob,h.get? a=some ob:=by
 cases o with
 | lst xs=>obtain⟨_,_,_,_,e⟩:=x;exact⟨_,e⟩
 | tup xs=>obtain⟨_,_,_,ob,e,_⟩:=x;exact⟨_,e⟩
 | dK kvs=>obtain⟨_,_,_,_,ob,_,_,e,_⟩:=x;exact⟨_,e⟩
 | dT kvs=>obtain⟨_,_,_,_,ob,_,_,e,_⟩:=x;exact⟨_,e⟩
 | set S n=>obtain⟨ob,_,_,_,e,_⟩:=x;exact⟨_,e⟩
 | ins C dx fs=>obtain⟨_,_,_,e,_⟩:=x;exact⟨_,e⟩
 | own y=>obtain⟨ob,e⟩:=x;exact⟨_,e⟩
 | xd fs=>obtain⟨_,⟨od,_,_,e,_⟩,_⟩:=x;exact⟨_,e⟩
 | rng lo hi=>obtain⟨_,_,_,e⟩:=x;exact⟨_,e⟩
 | frz ob u=>obtain⟨e,_⟩:=x;exact⟨_,e⟩
 | tbl ps=>exact⟨_,(show h.get? a=some _ from x)⟩
 | met f y=>exact⟨_,(show h.get? a=some _ from x)⟩
 | ext φ=>obtain⟨_,⟨ob,e⟩,_⟩:=x;exact⟨_,e⟩
structure Jf(B:Heap)(fs:List Addr)(H':Hp)(h:Heap):Prop where
 tr:∀b o,H' b=some o->∃ob,B.get? b=some ob
 old:∀b o,h.get? b=some o->b∉fs->∃ob,B.get? b=some ob
section
variable {P:Program} {w:World} {fs fs':List Addr} {H H1 H':Hp} {h h1 h2 B:Heap}
theorem Un.fly(un:Un fs [] H H' h h1)(big:Jf B fs H' h)(st1:B.StaysIn h1)(st2:B.StaysIn h2)(sl:h1.UpToSlots h2)
  (fr:∀b∈fs,H b=none∧∀o,h1.get? b=some o->∀vs,o.data≠.fields vs):Un fs [] H H' h h2 where
 keep:=fun b o e n hb hx=>by
  have e1:=un.keep b o e n hb hx;obtain⟨ob,eb⟩:=big.old b o e hb;have e2:=st1 b ob eb;rw[e1]at e2;cases e2;exact st2 b _ eb
 slot:=fun b o e n hb hx=>by
  obtain⟨s1,e1⟩:=un.slot b o e n hb hx;obtain⟨s2,e2⟩:=sl b _ e1 ((fr b hb).2 _ e1);exact⟨s2,e2⟩
 free:=un.free
 there:=fun b o e hx=>by
  by_cases hb:b∈fs
  ·obtain⟨s1,e1⟩:=un.slot b o e (fr b hb).1 hb hx
   obtain⟨s2,e2⟩:=sl b _ e1 ((fr b hb).2 _ e1);exact⟨_,e2⟩
  ·obtain⟨ob,eb⟩:=big.old b o e hb
   exact⟨_,st2 b ob eb⟩
 tups:=un.tups
 frzs:=un.frzs
 tbls:=un.tbls
theorem HOk.fly(hok:HOk P w H' h1)(big:Jf B fs H' h)(st1:B.StaysIn h1)(st2:B.StaysIn h2):HOk P w H' h2:=fun a o e=>by
 refine(hok a o e).stay (fun b u hb q=>?_) (fun _ q=>q) fun _ _ q=>q;have hb':∃ob,B.get? b=some ob:=by
  rcases hb with z|z
  ·rw[z]
   exact big.tr a o e
  ·exact big.tr b _ z
 obtain⟨ob,eb⟩:=hb';have e2:=st1 b ob eb;rw[q]at e2;cases e2;exact st2 b _ eb
theorem Un.shed(a:Un fs [] H H1 h h1)(b:Un fs' [] H1 H' h1 h2)(sub:∀x∈fs,x∈fs')(out:∀x o,h.get? x=some o->x∈fs'->x∈fs):Un fs [] H H' h h2 where
 keep:=fun x o e n hx hn=>b.keep x o (a.keep x o e n hx hn) (a.free x o e n hn) (fun z=>hx (out x o e z)) hn
 slot:=fun x o e n hx hn=>by
  obtain⟨s1,e1⟩:=a.slot x o e n hx hn;obtain⟨s2,e2⟩:=b.slot x _ e1 (a.free x o e n hn) (sub x hx) hn;exact⟨s2,e2⟩
 free:=fun x o e n hn=>by
  obtain⟨o1,e1⟩:=a.there x o e hn;exact b.free x o1 e1 (a.free x o e n hn) hn
 there:=fun x o e hn=>by
  obtain⟨o1,e1⟩:=a.there x o e hn;exact b.there x o1 e1 hn
 tups:=fun x xs e=>b.tups x xs (a.tups x xs e)
 frzs:=fun x o xs e=>b.frzs x o xs (a.frzs x o xs e)
 tbls:=fun x ps e=>by
  obtain⟨m1,e1⟩:=a.tbls x ps e;obtain⟨m2,e2⟩:=b.tbls x _ e1;exact⟨m1++m2,by rw[e2,Array.append_assoc]⟩
end
def CXE(P:Program)(w:World):CXT:=fun outer H s E e s'=>∃(ea t:Addr) (cls:Value) (H':Hp) (B:Heap),
 e = .ref ea∧s'.os=s.os∧AllBare s'.gens∧Un (frs outer) [] H H' s.heap s'.heap∧HOk P w H' s'.heap∧Heap.FlyingW B outer ea cls (.ref t) s'.heap∧Jf B (frs outer) H' s.heap∧E cls none H'
section
variable {P:Program} {w:World} {K:W.Frag} {mg:Str->Option Value} {base:Heap} {N:List Str} {qual:Str} {scope:Scope} {f:Addr} {cdv:Value} {A:Around} {outer:List Env} {s₀:Shared} {H₀:Hp} {E:XK}
theorem oK{env:Env}{L:Addr}(hf:env.frame=some L)(l:List Env):frs (env::l)=L::frs l:=by
 unfold frs;rw[List.filterMap_cons,hf]
theorem xB{pins:List (Addr×Obj)}{σ:St}{H:Hp}{s:Shared}{h':Heap}{e:Addr}{cls:Value}{vs:List Value}(I:zT (aN (CXE P w) P w K mg base N qual scope f cdv A outer s₀ H₀ E) pins σ H s)
  (hx:Heap.MadeExcOf s.heap h' e cls vs) (q:E cls none H):(aN (CXE P w) P w K mg base N qual scope f cdv A outer s₀ H₀ E).xe (.ref e) { s with heap:=h' }:=by
 have hin:∀env∈(aN (CXE P w) P w K mg base N qual scope f cdv A outer s₀ H₀ E).stack,∀a,env.frame=some a->a∈frs (aN (CXE P w) P w K mg base N qual scope f cdv A outer s₀ H₀ E).stack :=
  fun env he a ha=>List.mem_filterMap.mpr ⟨env,he,ha⟩
 have neL:∀b o,s₀.heap.get? b=some o->b∉frs outer->b∉frs (aN (CXE P w) P w K mg base N qual scope f cdv A outer s₀ H₀ E).stack:=fun b o eb hb hm=>by
  rcases List.mem_cons.mp (I.stkSub b hm) with z|z
  ·exact absurd z (Nat.ne_of_lt (Nat.lt_of_lt_of_le (Heap.lt_size eb) I.ok.above))
  ·exact hb z
 refine wpAny_leaves_madeW (base:=W.hideAll s.heap (frs (aN (CXE P w) P w K mg base N qual scope f cdv A outer s₀ H₀ E).stack)) (h:=s.heap) (L:=s₀.heap.objs.size) I.ok.frames rfl (fun b o z=>W.of_hideAll _ z) (W.funFrames_hide I.stack hin) hx fun h'' t fl _ _ up=>?_;have big:Jf (W.hideAll s.heap (frs (aN (CXE P w) P w K mg base N qual scope f cdv A outer s₀ H₀ E).stack)) (frs outer) H s₀.heap:=by
  refine⟨fun b o eb=>?_,fun b o eb hb=>?_⟩
  ·obtain⟨ob,z⟩:=(I.hok b o eb).has
   refine⟨ob,W.hideAll_get _ z fun hm=>?_⟩;rw[I.stkFree b hm]at eb;cases eb
  ·obtain⟨ob,z⟩:=I.base.there b o eb (by intro z;cases z)
   exact⟨ob,W.hideAll_get _ z (neL b o eb hb)⟩
 have st1:(W.hideAll s.heap (frs (aN (CXE P w) P w K mg base N qual scope f cdv A outer s₀ H₀ E).stack)).StaysIn s.heap:=fun b o z=>W.of_hideAll _ z;have sl:s.heap.UpToSlots h'':=(Heap.UpToSlots.of_keeps hx.keeps).trans up;exact⟨e,t,cls,H,_,rfl,I.os,I.bare,Un.fly I.base big st1 fl.1 sl fun b hb=>⟨I.ok.frf b hb,fun o eo=>by
   obtain⟨_,o',eo',nf⟩:=I.funs.mem hb;rw[eo]at eo';cases eo';exact nf⟩,HOk.fly I.hok big st1 fl.1,fl,big,q⟩
theorem vU{E1:XK}(hE:∀c o H',E1 c o H'->E c o H'):kG (CXE P w) (aN (CXE P w) P w K mg base N qual scope f cdv A outer s₀ H₀ E) E1:=by
 intro pins σ H s e s' I h;obtain⟨ea,t,cls,H',B,rfl,os,bare,un,hok,fl,big,q⟩:=h;refine wpAny_leaves_onW (L:=s₀.heap.objs.size) I.ok.frames rfl fl fun h'' fl' up=>?_;have out:∀x o,s₀.heap.get? x=some o->x∈frs (aN (CXE P w) P w K mg base N qual scope f cdv A outer s₀ H₀ E).stack->x∈frs outer:=fun x o ex hm=>by
  rcases List.mem_cons.mp (I.stkSub x hm) with z|z
  ·exact absurd z (Nat.ne_of_lt (Nat.lt_of_lt_of_le (Heap.lt_size ex) I.ok.above))
  ·exact z
 have sub:∀x∈frs outer,x∈frs (aN (CXE P w) P w K mg base N qual scope f cdv A outer s₀ H₀ E).stack:=fun x hx=>by
  show x∈frs (_::outer);rw[oK (L:=s₀.heap.objs.size) rfl];exact List.mem_cons_of_mem _ hx
 have un1:Un (frs outer) [] H₀ H' s₀.heap s'.heap:=Un.shed I.base un sub out;have big1:Jf B (frs outer) H' s₀.heap:=by
  refine⟨big.tr,fun b o eb hb=>?_⟩;obtain⟨ob,z⟩:=I.base.there b o eb (by intro z;cases z);exact big.old b ob z fun hm=>hb (out b o eb hm)
 refine⟨ea,t,cls,H',B,rfl,os.trans I.os,bare,Un.fly un1 big1 fl.1 fl'.1 up fun b hb=>⟨I.ok.frf b hb,fun o eo=>?_⟩,HOk.fly hok big1 fl.1 fl'.1,fl',big1,hE _ _ _ q⟩;obtain⟨_,o',eo',nf⟩:=fl'.2.2.1.mem hb;obtain⟨_,o2,eo2,nf2⟩:=fl.2.2.1.mem (sub b hb);rw[eo]at eo2;cases eo2;exact nf2
end
structure AW(K:W.Frag)(mg:Str->Option Value)(x:Str)(C:Addr):Prop where
 bound:mg x=some (.ref C)
 obj:∀h:Heap,K.In h->∃bm N nm qn bs hd sn sub ab col dd k0 k1 k2 k3 k5 mN,h.get? C=some (excClassObj nm qn C N bs bm hd sn sub ab col dd k0 k1 k2 k3 k5 "ValueError.__new__")∧h.Ns N mN∧mN "__init__" = none ∧
  OwnTail h [.type "ValueError",.type "Exception",.type "BaseException",.type "object"] bm
theorem wD{K:W.Frag}{h:Heap}{C:Addr}{bmB:List Value}{newId:String}(X:K.In h)(q:W.excIn K C bmB newId=true) :
  ∃bm N nm qn bs hd sn sub ab col dd k0 k1 k2 k3 k5 mN,h.get? C=some (excClassObj nm qn C N bs bm hd sn sub ab col dd k0 k1 k2 k3 k5 newId)∧h.Ns N mN∧mN "__init__" = none∧OwnTail h bmB bm:=by
 unfold W.excIn at q
 split at q
 next dct cl sls look =>
  split at q
  next C2 bms a0 a1 a2 a3 nid a5 hmro hsls =>
   simp only[Bool.not_eq_true',beq_iff_eq,Bool.and_eq_true]at q;obtain⟨⟨⟨⟨⟨q1,q2⟩,q3⟩,q4⟩,q5⟩,q6⟩:=q;subst q1 q2;obtain⟨c1,c2,c3,c4,c5,c6,c7,c8,c9,c10,c11⟩:=cl;dsimp only at hmro q3 q5 q6;subst hmro q3;obtain⟨lst⟩:=sls;simp only at hsls;subst hsls;exact⟨bms,c4,c1,c5,c2,c6,c7,c8,c9,c10,dct,a0,a1,a2,a3,a5,_,X _ _ look,.of_isNs (W.isNs_of_in X q5),W.nsMap_none_of_in X q5 q6,W.tail_of_in X q4⟩
  next=>cases q
 next=>cases q
theorem yf{K:W.Frag}{mg:Str->Option Value}{h:Heap}{x:Str}{C:Addr}(X:K.In h)(G:h.Ns mainGlobals mg)(a:W.nsIn K mainGlobals x=some (some (.ref C)))
  (q:W.excIn K C [.type "ValueError",.type "Exception",.type "BaseException",.type "object"] "ValueError.__new__" = true):AW K mg x C:=⟨W.mg_of X G a,fun _ Y=>wD Y q⟩
section
variable {P:Program} {w:World} {K:W.Frag} {mg:Str->Option Value} {base:Heap} {N:List Str} {qual:Str} {scope:Scope} {f:Addr} {cdv:Value} {A:Around} {outer:List Env} {s₀:Shared} {H₀:Hp} {E:XK}
theorem cU{x:Str}{C:Addr}{np cpos pos:Pos}(O:AW K mg x C)(hg:Gl (aN (CXE P w) P w K mg base N qual scope f cdv A outer s₀ H₀ E) x)(hdb:(x == ("__debug__" : Str))=false:=by decide) :
  PS (aN (CXE P w) P w K mg base N qual scope f cdv A outer s₀ H₀ E) (.Raise (some (.Call (.Name x np) [] [] cpos)) none pos) (fun _ _ H=>E (.ref C) none H):=by
 intro pins s σ H D I h;obtain⟨bm,N',nm,qn,bs,hd,sn,sub,ab,col,dd,k0,k1,k2,k3,k5,mN,hC,hN,hni,T⟩:=O.obj s.heap I.kIn;refine wpAny_Raise_call_subT (C:=C) (nm:=nm) (q:=qn) (N:=N') (bs:=bs) (bm:=bm) (hdct:=hd) (sn:=sn) (sub:=sub) (ab:=ab) (col:=col) (dd:=dd) (k0:=k0) (k1:=k1) (k2:=k2) (k3:=k3) (k5:=k5) F.excBase_ValueError (mN:=mN) (T.hasType (by decide +kernel)) (I.ok.hd rfl) rfl hni (iw I hg O.bound ⟨rfl,?_⟩ hdb);exact evalArgs_empty ⟨rfl,Nat.zero_le _,hC,hN,T,fun h' e hx=>xB I hx h⟩
end
abbrev Cx.inH(X:Cx)(e:Addr):Cx:={ X with A:=X.A.mark (some (.ref e)),calm:=false,xe:=fun _ _=>False }
theorem zT.inH{X:Cx}{pins:List (Addr×Obj)}{σ:St}{H:Hp}{s:Shared}(I:zT X pins σ H s)(e:Addr):zT (X.inH e) pins σ H s :=
 ⟨⟨I.ok.mod,I.ok.kind,I.ok.glob,I.ok.blt,I.ok.above,I.ok.inj,I.ok.has,I.ok.cab,(fun z=>by cases z),I.ok.frames,I.ok.stk,I.ok.exf,I.ok.bs,I.ok.bsz,I.ok.noex,I.ok.exfs,I.ok.funs,I.ok.frf⟩,
  I.os,I.bare,I.base,I.loc,I.cell,I.free,I.freeC,I.pin,I.hok,I.len⟩
theorem zT.outH{X:Cx}{e:Addr}{pins:List (Addr×Obj)}{σ:St}{H:Hp}{s:Shared}(ok:X.Ok)(I:zT (X.inH e) pins σ H s):zT X pins σ H s :=
 ⟨ok,I.os,I.bare,I.base,I.loc,I.cell,I.free,I.freeC,I.pin,I.hok,I.len⟩
section
variable {X:Cx}
end
abbrev TX:=(Value->St->Hp->Prop)->TS
def XP(X:Cx)(pins:List (Addr×Obj))(R:Value->St->Hp->Prop)(ev:Value)(s':Shared):Prop :=
 ∃(s₁:Shared) (σ₁:St) (H₁:Hp) (E1:XK),zT X pins σ₁ H₁ s₁∧CXE X.prog X.w X.stack H₁ s₁ E1 ev s'∧∀c o H',E1 c o H'->R c σ₁ H'
def PX(X:Cx)(st:Stmt)(t:TX):Prop :=
 ∀(pins:List (Addr×Obj)) (s:Shared) (σ:St) (H:Hp) (D:ee) (R:Value->St->Hp->Prop),zT X pins σ H s->t R D σ H->wpAny (model X.prog X.w) X.A (exec st X.env) (SP X pins D) (XP X pins R) s
def PXs(X:Cx)(st:List Stmt)(t:TX):Prop :=
 ∀(pins:List (Addr×Obj)) (s:Shared) (σ:St) (H:Hp) (D:ee) (R:Value->St->Hp->Prop),zT X pins σ H s->t R D σ H->wpAny (model X.prog X.w) X.A (execs st X.env) (SP X pins D) (XP X pins R) s
structure Fx(P:Program)(w:World)(K:W.Frag)(mg:Str->Option Value)(base:Heap)(x:Str)(ps:List Str)(k:Nat)(ds:List V)(sp:Sp):Prop where
 ex:∃(f:Addr) (fd:FuncData) (its:List Value),mg x=some (.ref f)∧W.keepIn K (.ref f)=true∧kH K fd ps []∧kH K fd ps its∧aO ds its∧EK P w K mg base (CXE P w) k f fd ps sp
structure HN(K:W.Frag)(mg:Str->Option Value)(x:Str)(st:Stmt)(ds:List V):Prop where
 ex:∃(f T:Addr) (oT:Obj) (n:Nat) (its:List Value) (oc:Value) (od:Option Addr) (kV doc pm:Value) (an:Option Addr) (cdv ct:Value) (osl:Array (Option Value)),
  mg x=some (.ref f)∧K.lookup f=some ⟨oc,od,.func (W.fnOf x x (bj st) (aA st) (ag st) (.ref T) kV doc pm an cdv ct),osl⟩∧W.codeIn K cdv x=true∧W.keepIn K (.ref f)=true∧K.lookup T=some oT∧oT.data = .seq its.toArray n∧aO ds its
theorem yi{K:W.Frag}{mg:Str->Option Value}{h:Heap}{x:Str}{st:Stmt}{ds:List V}{its:List Value}{f T:Addr}{oT:Obj}{n:Nat}{oc:Value}{od an:Option Addr}{osl:Array (Option Value)}{kV doc pm cdv ct:Value}(X:K.In h)(G:h.Ns mainGlobals mg)
  (a:W.nsIn K mainGlobals x=some (some (.ref f))) (l:K.lookup f=some ⟨oc,od,.func (W.fnOf x x (bj st) (aA st) (ag st) (.ref T) kV doc pm an cdv ct),osl⟩) (c:W.codeIn K cdv x=true) (k:W.keepIn K (.ref f)=true)
  (t:K.lookup T=some oT) (d:oT.data = .seq its.toArray n) (v:aO ds its):HN K mg x st ds:=⟨⟨f,T,oT,n,its,oc,od,kV,doc,pm,an,cdv,ct,osl,W.mg_of X G a,l,c,k,t,d,v⟩⟩
theorem HN.fx{P:Program}{w:World}{K:W.Frag}{mg:Str->Option Value}{base:Heap}{x:Str}{st:Stmt}{ds:List V}{N ps:List Str}{k:Nat}{sp:Sp}(D:HN K mg x st ds)(S:zQ N ps (ag st))
  (hb:∀(T:Addr) (kV doc pm:Value) (an:Option Addr) (cdv ct:Value) (us its:List Value) (oT:Obj) (n:Nat) (s:Shared),aO ds its->us.length=ps.length->s.heap.get? T=some oT->oT.data = .seq its.toArray n ->
   BindsTo s (W.fnOf x x (bj st) (aA st) (ag st) (.ref T) kV doc pm an cdv ct) ⟨us,[]⟩ (ps.zip us))
  (hd:∀(T:Addr) (kV doc pm:Value) (an:Option Addr) (cdv ct:Value) (us its:List Value) (oT:Obj) (n:Nat) (s:Shared),aO ds its->(us++its).length=ps.length->s.heap.get? T=some oT->oT.data = .seq its.toArray n ->
   BindsTo s (W.fnOf x x (bj st) (aA st) (ag st) (.ref T) kV doc pm an cdv ct) ⟨us,[]⟩ (ps.zip (us++its)))
  (len:∀vs H Q E,sp vs H Q E->vs.length=ps.length)
  (hbody:∀(f:Addr) (cdv:Value) (A:Around) (outer:List Env) (s:Shared) (H:Hp) (vs:List V) (Q:VK) (E:XK),A6 k (A.deeper (envOfC x (ag st) s.heap.objs.size f cdv))->sp vs H Q E ->
   ∃t,PSs (aN (CXE P w) P w K mg base N x (ag st) f cdv A outer s H E) (aA st) t∧t { nx:=fun _ H'=>Q .non H',rt:=Q } (fQ N vs) H):Fx P w K mg base x ps (k+1) ds sp:=by
 obtain⟨f,T,oT,n,its,oc,od,kV,doc,pm,an,cdv,ct,osl,hm,lk,hcd,hk,hT,hs,hv⟩:=D.ex;refine⟨⟨f,_,its,hm,hk,fun s us KX hl=>?_,fun s us KX hl=>hd T kV doc pm an cdv ct us its oT n s hv hl (KX _ _ hT) hs,hv,rH lk hcd S len fun A outer s H vs Q E hr hsp=>hbody f cdv A outer s H vs Q E hr hsp⟩⟩;rw[List.append_nil]at hl ⊢;exact hb T kV doc pm an cdv ct us its oT n s hv hl (KX _ _ hT) hs
theorem Df.fx{P:Program}{w:World}{K:W.Frag}{mg:Str->Option Value}{base:Heap}{x:Str}{st:Stmt}{N ps:List Str}{k:Nat}{sp:Sp}(D:Df K mg x st)(S:zQ N ps (ag st))
  (hbind:∀(kV doc pm:Value) (an:Option Addr) (cdv ct:Value) (us:List Value),us.length=ps.length->bindArgs (W.fnOf x x (bj st) (aA st) (ag st) .none kV doc pm an cdv ct) ⟨us,[]⟩=pure (ps.zip us))
  (len:∀vs H Q E,sp vs H Q E->vs.length=ps.length)
  (hbody:∀(f:Addr) (cdv:Value) (A:Around) (outer:List Env) (s:Shared) (H:Hp) (vs:List V) (Q:VK) (E:XK),A6 k (A.deeper (envOfC x (ag st) s.heap.objs.size f cdv))->sp vs H Q E ->
   ∃t,PSs (aN (CXE P w) P w K mg base N x (ag st) f cdv A outer s H E) (aA st) t∧t { nx:=fun _ H'=>Q .non H',rt:=Q } (fQ N vs) H):Fx P w K mg base x ps (k+1) [] sp:=by
 obtain⟨f,oc,od,kV,doc,pm,an,cdv,ct,osl,hm,lk,hcd,hk⟩:=D.ex;have hb:kH K (W.fnOf x x (bj st) (aA st) (ag st) .none kV doc pm an cdv ct) ps []:=.all (hbind kV doc pm an cdv ct);exact⟨⟨f,_,[],hm,hk,hb,hb,.nil,rH lk hcd S len fun A outer s H vs Q E hr hsp=>hbody f cdv A outer s H vs Q E hr hsp⟩⟩
theorem dj{P:Program}{w:World}{K:W.Frag}{mg:Str->Option Value}{base:Heap}{N:List Str}{qual:Str}{scope:Scope}{f:Addr}{cdv:Value}{A:Around}{outer:List Env}{s₀:Shared}{H₀:Hp}{E:XK}
  {x:Str} {ps:List Str} {k:Nat} {ds:List V} {sp:Sp} {p pos:Pos} {e:Expr} {es:List Expr} {t:TA} (F:Fx P w K mg base x ps k ds sp) (hr:A6 k (aN (CXE P w) P w K mg base N qual scope f cdv A outer s₀ H₀ E).A) (hg:Gl (aN (CXE P w) P w K mg base N qual scope f cdv A outer s₀ H₀ E) x)
  (ha:PA (aN (CXE P w) P w K mg base N qual scope f cdv A outer s₀ H₀ E) (e::es) t)
  (hdb:(x == ("__debug__" : Str))=false:=by decide) (he:starEach (e::es) (aN (CXE P w) P w K mg base N qual scope f cdv A outer s₀ H₀ E).env=(false,eval e (aN (CXE P w) P w K mg base N qual scope f cdv A outer s₀ H₀ E).env)::starEach es (aN (CXE P w) P w K mg base N qual scope f cdv A outer s₀ H₀ E).env:=by rfl)
  (hpl:(backTo pos (starEach es (aN (CXE P w) P w K mg base N qual scope f cdv A outer s₀ H₀ E).env)).any (·.1)=false:=by rfl) :
  PE (aN (CXE P w) P w K mg base N qual scope f cdv A outer s₀ H₀ E) (.Call (.Name x p) (e::es) [] pos) (gR sp [] E t):=by
 obtain⟨g,fd,its,hm,hk,hb,_,_,G⟩:=F.ex;exact ie G hr hg hm hk hb .nil (vU fun _ _ _ z=>z) ha hdb he hpl
theorem lB{P:Program}{w:World}{X:Cx}:kG (CXE P w) X E0:=fun _ _ _ _ _ _ _ h=>by
 obtain⟨_,_,_,_,_,_,_,_,_,_,_,_,q⟩:=h;exact q.elim
theorem gZ{X:Cx}{x:Str}{ps:List Str}{k:Nat}{ds:List V}{sp:Sp}{p pos:Pos}{e:Expr}{es:List Expr}{t:TA}(F:Fx X.prog X.w X.K X.mg X.base x ps k ds sp)(hr:A6 k X.A)(hg:Gl X x)(ha:PA X (e::es) t)
  (hdb:(x == ("__debug__" : Str))=false:=by decide) (he:starEach (e::es) X.env=(false,eval e X.env)::starEach es X.env:=by rfl) (hpl:(backTo pos (starEach es X.env)).any (·.1)=false:=by rfl) :
  PE X (.Call (.Name x p) (e::es) [] pos) (gR sp [] E0 t):=by
 obtain⟨g,fd,its,hm,hk,hb,_,_,G⟩:=F.ex;exact ie G hr hg hm hk hb .nil lB ha hdb he hpl
theorem vS{X:Cx}{x:Str}{ps:List Str}{k:Nat}{ds:List V}{sp:Sp}{p pos:Pos}{e:Expr}{es:List Expr}{t:TA}(F:Fx X.prog X.w X.K X.mg X.base x ps k ds sp)(hr:A6 k X.A)(hg:Gl X x)(ha:PA X (e::es) t)
  (hdb:(x == ("__debug__" : Str))=false:=by decide) (he:starEach (e::es) X.env=(false,eval e X.env)::starEach es X.env:=by rfl) (hpl:(backTo pos (starEach es X.env)).any (·.1)=false:=by rfl) :
  PE X (.Call (.Name x p) (e::es) [] pos) (gR sp ds E0 t):=by
 obtain⟨g,fd,its,hm,hk,_,hb,hv,G⟩:=F.ex;exact ie G hr hg hm hk hb hv lB ha hdb he hpl
section
variable {X:Cx}
theorem xv{pins:List (Addr×Obj)}{s:Shared}{σ:St}{H:Hp}{Q:VK}{R:Value->St->Hp->Prop}{x:Str}{ps:List Str}{k:Nat}{ds:List V}{sp:Sp}{p pos:Pos}{e:Expr}{es:List Expr}{t:TA}(I:zT X pins σ H s)
  (F:Fx X.prog X.w X.K X.mg X.base x ps k ds sp) (hr:A6 k X.A) (hg:Gl X x) (ha:PA X.nox (e::es) t) (q:t σ H fun vs H1=>sp vs H1 Q fun c _ H2=>R c σ H2)
  (hdb:(x == ("__debug__" : Str))=false) (he:starEach (e::es) X.env=(false,eval e X.env)::starEach es X.env) (hpl:(backTo pos (starEach es X.env)).any (·.1)=false) :
  wpAny (model X.prog X.w) X.A (eval (.Call (.Name x p) (e::es) [] pos) X.env) (EP X pins σ Q) (XP X pins R) s:=by
 obtain⟨f,fd,its,hm,hk,hb,_,_,G⟩:=F.ex;refine wpAny_Call_Name_kw (iw I hg hm ?_ hdb);refine W.callWith_K (h₀:=X.base) I.ok.mod.kin hk (wpAny_mono (ha pos pins s σ H _ (I.wish _) q) (fun us s1 ⟨vs,H1,J1,r,q1⟩=>?_) fun _ _ z=>False.elim z) he hpl;have I1:zT X pins σ H1 s1:=J1.unwish;refine⟨I1.kIn,?_⟩;have hl:(us++[]).length=ps.length:=by rw[List.append_nil,<- r.length];exact G.len _ _ _ _ q1
 have hbb:=hb s1 us I1.kIn hl;rw[List.append_nil]at hbb;refine wpAny_call (codeAny_mono (G.run X.A X.stack s1 H1 ⟨us,[]⟩ us vs Q _ hr I1.env0 hbb r q1) fun rr s' hq=>?_);cases rr with
 | error ev=>exact⟨s1,σ,H1,(fun c _ H2=>R c σ H2),I1,hq,fun c o H' z=>z⟩
 | ok flw =>
  cases flw with
  | ret u=>exact I1.after hq
  | next=>exact False.elim hq
  | brk=>exact False.elim hq
  | cont=>exact False.elim hq
variable {x fn:Str} {i:Nat} {ps:List Str} {k:Nat} {ds:List V} {sp:Sp} {e:Expr} {es:List Expr} {ta:TA} {px pf cpos pos:Pos}
theorem xD(hN:X.N.Nodup)(hi:X.N[i]? = some x)(hx:Loc X.env.scope x)(F:Fx X.prog X.w X.K X.mg X.base fn ps k ds sp)(hr:A6 k X.A)(hg:Gl X fn)(ha:PA X.nox (e::es) ta)
  (hs:swapsWith (.Call (.Name fn pf) (e::es) [] cpos) (some (.Name x px)) pos.line X.env=pure false:=by rfl) (hf:X.fn x=true∨X.env.scope.names.lookup x=some .local:=by first|exact .inl rfl|exact .inr rfl|assumption)
  (hdb:(fn == ("__debug__" : Str))=false:=by decide) (he:starEach (e::es) X.env=(false,eval e X.env)::starEach es X.env:=by rfl) (hpl:(backTo cpos (starEach es X.env)).any (·.1)=false:=by rfl) :
  PX X (.Assign [.Name x px] (.Call (.Name fn pf) (e::es) [] cpos) pos) (fun R D σ H=>ta σ H fun vs H1=>sp vs H1 (fun v H2=>D.nx (σ.set i (some v)) H2) fun c _ H2=>R c σ H2):=by
 intro pins s σ H D R I h;refine wpAny_Assign_Name (thn (xv I F hr hg ha h hdb he hpl) fun v s1 ⟨y,H1,I1,r1,q1⟩=>?_) hs;exact fc I1 hN hi hx r1 (fun s2 I2=>⟨_,H1,I2,q1⟩) hf
theorem vN{st:Stmt}{t:TX}(h1:PX X st t):PXs X [st] t:=by
 intro pins s σ H D R I h;refine wpAny_execs_cons (thn (h1 pins s σ H D R I h) fun f s1 q=>?_);cases f with
 | next=>exact wpAny_execs_nil q
 | ret v=>exact q
 | brk=>exact q
 | cont=>exact q
end
end L2
namespace Sp2
open PySem PySem.Spec L2 Mth Sp1
def pY(n:Int):List V->Bool
 | [.int a,.int b]=>j9 a b && (decide (0≤a) && decide (a≤n*b))
 | _=>false
def aU(n:Int)(H:Hp):V->Bool
 | .ref p=>match H p with
  | some (.tup xs)=>pY n xs
  | _=>false
 | _=>false
theorem oA{H:Hp}{x:V}(h:io H x=true):∃p a b,x = .ref p∧H p=some (.tup [.int a,.int b])∧AM a b:=by
 unfold io at h
 split at h
 ·split at h
  ·rename_i p _ xs e
   unfold kK at h
   split at h
   ·rename_i a b
    unfold j9 at h;rw[Bool.and_eq_true,decide_eq_true_eq,decide_eq_true_eq]at h;exact⟨p,a,b,rfl,e,h.1,h.2⟩
   ·cases h
  ·cases h
 ·cases h
theorem eI{n:Int}{H:Hp}{p:Addr}{a b:Int}(e:H p=some (.tup [.int a,.int b])):aU n H (.ref p)=(j9 a b && (decide (0≤a) && decide (a≤n*b))):=by
 simp only[aU,e,pY]
theorem j8{H:Hp}{p:Addr}{a b:Int}(e:H p=some (.tup [.int a,.int b])):io H (.ref p)=j9 a b:=by
 simp only[io,e,kK]
theorem jS{n:Int}{H:Hp}{x:V}(h:io H x=false):aU n H x=false:=by
 unfold aU
 split
 ·split
  ·rename_i p _ xs e
   unfold pY
   split
   ·rename_i a b
    rw[j8 e]at h;rw[h,Bool.false_and]
   ·rfl
  ·rfl
 ·rfl
theorem oz{a b:Int}(h:AM a b):j9 a b=true:=by
 unfold j9;rw[decide_eq_true h.pos,decide_eq_true h.one];rfl
theorem gu{n:Int}{H:Hp}{p:Addr}{a b:Int}(e:H p=some (.tup [.int a,.int b]))(h:AM a b)(h0:0≤a)(h1:a≤n*b):aU n H (.ref p)=true:=by
 rw[eI e,oz h,decide_eq_true h0,decide_eq_true h1];rfl
theorem gY{n:Int}{H:Hp}{x:V}(h:aU n H x=true):∃p a b,x = .ref p∧H p=some (.tup [.int a,.int b])∧AM a b∧0≤a∧a≤n*b:=by
 cases hl:io H x with
 | false =>
  rw[jS hl]at h;cases h
 | true =>
  obtain⟨p,a,b,rfl,e,lw⟩:=oA hl;rw[eI e,oz lw,Bool.true_and,Bool.and_eq_true,decide_eq_true_eq,decide_eq_true_eq]at h;exact⟨p,a,b,rfl,e,lw,h.1,h.2⟩
inductive FA (vs:List V) (H:Hp) (Q:VK) (x_3:XK):Prop
 | mk:∀(p:Addr) (xs:List V),(vs = [.ref p])->(H p=some (.lst xs))->(Q (.int ((xs.length:Int) - 1)) H)->FA vs H Q x_3
inductive D7 (vs:List V) (H:Hp) (Q:VK) (x_3:XK):Prop
 | mk:∀(p:Addr) (xs:List V) (x:V),(vs = [.ref p,x])->(H p=some (.lst xs))->(xs.length≤100)->(Ay H x)->(Q (.bl (aU ((xs.length:Int) - 1) H x)) H)->D7 vs H Q x_3
inductive GX (C:Addr) (vs:List V) (H:Hp) (Q:VK) (E:XK):Prop
 | mk:∀(p:Addr) (xs:List V) (x:V),(vs = [.ref p,x])->(H p=some (.lst xs))->(xs.length≤100)->(Ay H x)->((aU ((xs.length:Int) - 1) H x=false->E (.ref C) none H))->((aU ((xs.length:Int) - 1) H x=true->Q .non H))->GX C vs H Q E
def bD(a b c d:Int):Bool:=if c*b<a*d then !decide ((c / d+1)*b<a*1) else !decide ((a / b+1)*d<c*1)
structure Ea(a b:Int):Prop where
 pos:0<b
 ba:au a≤1000
 bb:au b≤1000
inductive Gh (vs:List V) (H:Hp) (Q:VK) (x_3:XK):Prop
 | mk:∀(p q:Addr) (a b c d:Int),(vs = [.ref p,.ref q])->(H p=some (.tup [.int a,.int b]))->(H q=some (.tup [.int c,.int d]))->(Ea a b)->(Ea c d)->(∀H',Same H H'->Q (.bl (bD a b c d)) H')->Gh vs H Q x_3
structure zW(H:Hp)(l:Addr)(qs:List (Addr×Int×Int)):Prop where
 lst:H l=some (.lst (qs.map fun q=>V.ref q.1))
 crn:∀q∈qs,H q.1=some (.tup [.int q.2.1,.int q.2.2])∧au q.2.1≤50∧au q.2.2≤50
theorem zW.mono{H H':Hp}{l:Addr}{qs:List (Addr×Int×Int)}(L:zW H l qs)(s:Same H H'):zW H' l qs:=⟨s _ _ L.lst,fun q h=>⟨s _ _ (L.crn q h).1,(L.crn q h).2⟩⟩
theorem uE{n:Int}(h0:-1000≤n)(h1:n≤1000):-(2^64)<n∧n<2^64:=by
 have e:(2:Int)^64=18446744073709551616:=by decide
 rw[e];omega
theorem vB{ns:List Int}{k:Int}(j:Nat)(e:k=(j:Int))(h:j<ns.length):atI (ns.map V.int) k=some (.int ns[j]):=by
 subst e;exact dP (by rw[List.getElem?_map,List.getElem?_eq_getElem h];rfl)
theorem jL(x:V)(xs:List V):atI (x::xs) 0=some x:=dP (j:=0) rfl
theorem vi{ns:List Int}(k:Nat):ja (ns.map V.int) (some (k:Int)) none=(ns.drop k).map V.int:=by
 unfold ja;rw[HT.sIx_nat,HT.sIx_none,List.length_map,<- List.map_drop]
 by_cases h:k≤ns.length
 ·rw[Nat.min_eq_left h,List.take_of_length_le (by rw[List.length_map,List.length_drop];exact Nat.le_refl _)]
 ·rw[Nat.min_eq_right (by omega),List.drop_eq_nil_of_le (Nat.le_refl _),List.drop_eq_nil_of_le (by omega)]
  simp
theorem bV{n:Int}(h0:-1000≤n)(h1:n≤1000):au n≤10:=by
 refine d9 (n:=10) ?_;show _<1024;omega
theorem dC{a b:Int}(hb:0<b):a / b*b≤a:=by
 have h1:=Int.emod_nonneg a (show b≠0 by omega);have h2:=Int.emod_add_mul_ediv a b;rw[Int.mul_comm]at h2;omega
theorem d7{a b:Int}(hb:0<b):a<(a / b+1)*b:=by
 have h1:=Int.emod_lt_of_pos a hb;have h2:=Int.emod_add_mul_ediv a b;rw[Int.add_mul,Int.one_mul,Int.mul_comm];omega
theorem rK{a b k:Int}(hb:0<b)(h:k*b≤a):k≤a / b:=(Int.le_ediv_iff_mul_le hb).mpr h
theorem lV{a b:Int}(hb:0<b)(h:0≤a):0≤a / b:=Int.ediv_nonneg h (by omega)
end Sp2
namespace L2
open PySem PySem.Spec PyProof.Rows
end L2
namespace L2
open PySem PySem.Spec PyProof.Rows
abbrev Cx.blk(X:Cx)(N':List Str)(scope:Scope)(cl:List (Str×Addr))(fp:List Addr)(s₀:Shared)(H₀:Hp):Cx :=
 { X with N:=N',s₀:=s₀,H₀:=H₀,env:=compEnvC scope cl s₀.heap.objs.size X.env,outer:=X.stack,ex:=fp,fn:=fun _=>false,pn:=[],xe:=fun _ _=>False }
theorem cE{α:Type}{y:Str}{c:α}:∀{l:List (Str×α)},l.lookup y=some c->(y,c)∈l
 | [],h=>by simp at h
 | (n,d)::r,h=>by
  rw[List.lookup_cons]at h;cases e:y == n with
  | true =>
   rw[e]at h;cases h;rw[beq_iff_eq.mp e];exact List.mem_cons_self
  | false =>
   rw[e]at h;exact List.mem_cons_of_mem _ (cE h)
structure AX(X:Cx)(scope:Scope)(cl:List (Str×Addr))(x:Str)(fv:List (Str×Nat)):Prop where
 clos:closureFor scope X.env=pure cl
 kind:scope.kind = .function
 cell:∀y∈scope.names,y.2≠.cell
 names:∀y∈scope.names,y.2 = .local->scope.names.lookup y.1=some .local
 own:scope.names.lookup x=some .local
 cells:∀p∈cl,X.env.cells.lookup p.1=some p.2
 has:((relabel scope X.env).names.all fun q=>!(q.2 == .cell || q.2 == .free) || (cl.lookup q.1).isSome)=true
 nd:(x::fv.map (·.1)).Nodup
 slot:∀p∈fv,X.N[p.2]? = some p.1∧X.env.kindOf p.1=some .cell∧Vis X.env.scope p.1∧(cl.lookup p.1).isSome=true∧((relabel scope X.env).names.lookup p.1=some .cell)
 stk:X.stack=X.env::X.outer∧X.env.frame=some X.env.locals
 noex:X.ex = []
def fvs(fv:List (Str×Nat))(σ:St):St:=fv.map fun p=>(σ[p.2]?).join
def wY(wi:TI)(fv:List (Str×Nat))(te:TE):TE:=fun σ H Q=>wi σ H fun J H1=>∀p,H1 p=none->∃W:Nat->Nat->List V->Hp->Prop,(∃m,W 0 m [] (upd H1 p (.lst [])))∧∀i m acc H2,W i m acc H2 ->
 H2 p=some (.lst acc)∧acc.length<sizeLine∧((J.stop i H2∧Q (.ref p) H2)∨(J.go i H2∧∀x H3,J.yld i H2 x H3->te (some x::fvs fv σ) H3 fun y H4=>H4 p=some (.lst acc)∧∃m',m'<m∧W (i+1) m' (acc++[y]) (upd H4 p (.lst (acc++[y])))))
section
variable {X:Cx} {scope:Scope} {cl:List (Str×Addr)} {x:Str} {fv:List (Str×Nat)} {elt iter:Expr} {px pos:Pos} {te:TE}
theorem yn{pins:List (Addr×Obj)}{σ:St}{H:Hp}{s:Shared}{fp:List Addr}(C:AX X scope cl x fv)(I:zT X pins σ H s)(hf:∀b∈fp,eQ X pins H b)(ho:∀b∈fp,b<s.heap.objs.size):(X.blk (x::fv.map (·.1)) scope cl fp s H).Ok:=by
 have hcl:∀y c,cl.lookup y=some c->X.env.cells.lookup y=some c:=fun y c h=>C.cells _ (cE h);have old:∀b∈fp,X.s₀.heap.objs.size≤b:=fun b hb=>by
  rcases(hf b hb).2.2.2.1 with z|z
  ·rw[C.noex]at z
   cases z
  ·exact z
 refine⟨I.ok.mod,by show(relabel scope X.env).kind=_;exact C.kind,I.ok.glob,I.ok.blt,Nat.le_refl _,fun y z c h1 h2=>I.ok.inj y z c (hcl y c h1) (hcl z c h2),fun y hy=>?_,(fun y c h=>by cases h),I.ok.hd,I.ok.frames,.inl rfl,fun b hb=>?_,fun b o e=>I.bs b o e,Nat.le_trans I.ok.bsz I.sz,fun b o e hb=>?_,fun b hb hm=>?_,I.stack,I.stkFree⟩
 ·have q:=C.has
  rw[List.all_eq_true]at q;have hm:∃k,(y,k)∈(relabel scope X.env).names∧(k = .cell∨k = .free):=by
   rcases hy with hy|hy
   ·exact⟨_,cE hy,.inl rfl⟩
   ·exact⟨_,cE hy,.inr rfl⟩
  obtain⟨k,hk,hk2⟩:=hm;have q2:=q _ hk;have q3:(cl.lookup y).isSome=true:=by
   rcases hk2 with rfl|rfl
   ·simpa using q2
   ·simpa using q2
  exact Option.isSome_iff_exists.mp q3
 ·obtain⟨f0,f1,f2,f3,f4,f5⟩:=hf b hb
  refine⟨?_,fun y c h=>f4 y c (hcl y c h)⟩;exact Nat.ne_of_lt (ho b hb)
 ·have z:=Heap.lt_size e
  have z2:=old b hb;exact absurd (Nat.lt_of_lt_of_le z (Nat.le_trans I.ok.bsz z2)) (Nat.lt_irrefl _)
 ·obtain⟨f0,f1,f2,f3,f4,f5⟩:=hf b hb
  rcases List.mem_cons.mp (I.stkSub b hm) with z|z
  ·exact f1 z
  ·exact f2 z
theorem rY{pins:List (Addr×Obj)}{σ:St}{H:Hp}{s s4:Shared}{fp:List Addr}(C:AX X scope cl x fv)(I:zT X pins σ H s)(hf:∀b∈fp,eQ X pins H b)(ho:∀b∈fp,b<s.heap.objs.size)
  (hs:s4.os=s.os∧s4.gens=s.gens) (ns:s4.heap.Ns s.heap.objs.size fun _=>none) (kp:∀b o,s.heap.get? b=some o->s4.heap.get? b=some o) :
  zT (X.blk (x::fv.map (·.1)) scope cl fp s H) [] (none::fvs fv σ) H s4:=by
 have hcl:∀y c,cl.lookup y=some c->X.env.cells.lookup y=some c:=fun y c h=>C.cells _ (cE h);refine⟨yn C I hf ho,hs.1,by rw[hs.2];exact I.bare,Un.kept kp,⟨_,ns,fun i y v e1 e2 e3=>?_⟩,fun y c h=>?_,I.hok.fresh (Nat.le_refl _),fun y c h=>I.freeC y c (hcl y c h),fun p hp=>by simp at hp,I.hok.kept kp,by simp[fvs]⟩
 ·cases i with
  | zero=>simp at e2
  | succ j =>
   have e1':(fv.map (·.1))[j]? = some y:=by simpa using e1
   have e2':(fvs fv σ)[j]? = some (some v):=by simpa using e2
   rw[List.getElem?_map]at e1';unfold fvs at e2';rw[List.getElem?_map]at e2';cases hq:fv[j]? with
   | none =>
    rw[hq]at e1';cases e1'
   | some q =>
    rw[hq]at e1' e2';have ey:q.1=y:=Option.some.inj e1';have ev:(σ[q.2]?).join=some v:=Option.some.inj e2';have hm:q∈fv:=List.mem_of_getElem? hq;obtain⟨s1,s2,s3,s4',s5⟩:=C.slot q hm;have ev2:σ[q.2]? = some (some v):=by
     cases hz:σ[q.2]? with
     | none =>
      rw[hz]at ev;cases ev
     | some z =>
      rw[hz]at ev;have ev':z=some v:=ev;rw[ev']
    obtain⟨m,hn,hl⟩:=I.loc;obtain⟨u,r,lk⟩:=hl q.2 q.1 v s1 ev2 s3;obtain⟨c,hc⟩:=Option.isSome_iff_exists.mp s4';refine⟨u,r,.inr ⟨.inl (by rw[<- ey];exact s5),c,by rw[<- ey];exact hc,?_⟩⟩;rcases lk with⟨k,_⟩|⟨_,c',hc',z⟩
    ·rw[s2]at k
     cases k
    ·rw[hcl _ _ hc]at hc'
     cases hc';obtain⟨o,ho',hd⟩:=z;exact⟨o,kp _ _ ho',hd⟩
 ·obtain⟨v,o,ho',hd⟩:=I.cell y c (hcl y c h)
  exact⟨v,o,kp _ _ ho',hd⟩
theorem rX{pins:List (Addr×Obj)}{σ:St}{H2:Hp}{s2:Shared}{it:Addr}{fp:List Addr}{tn:Nat->Heap->Prop}{J:It}{RR:Value->Addr->Result->Shared->Prop}{E:Value->Shared->Prop}{Qf:V->Hp->Prop}
  (hcalm:X.calm=true) (C:AX X scope cl x fv) (I2:zT X pins σ H2 s2) (T:Gx X.prog X.w X.K (.Name x px) J fp it tn) (st:tn 0 s2.heap) (f2:∀b∈fp,eQ X pins H2 b)
  (rd:∀p,H2 p=none->∃W:Nat->Nat->List V->Hp->Prop,(∃m,W 0 m [] (upd H2 p (.lst [])))∧∀i m acc H2,W i m acc H2 ->
   H2 p=some (.lst acc)∧acc.length<sizeLine∧((J.stop i H2∧Qf (.ref p) H2)∨(J.go i H2∧∀x H3,J.yld i H2 x H3->te (some x::fvs fv σ) H3 fun y H4=>H4 p=some (.lst acc)∧∃m',m'<m∧W (i+1) m' (acc++[y]) (upd H4 p (.lst (acc++[y]))))))
  (he:∀(s₀:Shared) (H₀:Hp),PE (X.blk (x::fv.map (·.1)) scope cl fp s₀ H₀) elt te)
  (hRR:∀(p C:Addr) (H':Hp) (s':Shared),(∃m,s'.heap.Ns C m)->C≠X.env.locals->H' C=none->X.s₀.heap.objs.size≤C->(∀y c,X.env.cells.lookup y=some c->c≠C)->(∀q∈X.pn++pins,q.1≠C)->zT X pins σ H' s'->Qf (.ref p) H'->RR (.ref p) C (.ok .next) s') :
  wpAny (model X.prog X.w) X.A (newList []) (fun acc s₃=>wpAny (model X.prog X.w) X.A (newFunctionEnv scope X.env.globals cl [] X.env.qual none .none (some X.env)) (fun cenv s₄ =>
   codeAny (model X.prog X.w) X.A (.compStart (.ListComp elt [⟨.Name x px,iter,[],0⟩] scope pos) 0 (.ref it) acc { cenv with scope:=relabel scope X.env }) (RR acc cenv.locals) s₄) E s₃) E s2:=by
 refine wpAny_newObj_type ?_;have hfresh:=I2.fresh;have I3:zT X pins σ (upd H2 s2.heap.objs.size (.lst [])) { s2 with heap:=s2.heap.push { cls:=.type "list",data:=.seq ([]:List Value).toArray } } :=
  I2.laid (t':=s2.toks) (fun b u q=>Heap.get?_push_of_some _ q) (Nat.le_refl _) ⟨Nat.zero_le _,[],0,.nil,Heap.get?_push_size _ rfl⟩
 generalize hs3:({ s2 with heap:=s2.heap.push { cls:=.type "list",data:=.seq ([]:List Value).toArray } }:Shared)=s3 at I3 ⊢;have hp3:s2.heap.objs.size<s3.heap.objs.size:=by rw[<- hs3];exact Nat.lt_of_lt_of_le (Nat.lt_succ_self _) (Nat.le_of_eq (Heap.size_push _ _).symm)
 have k23:∀b o,s2.heap.get? b=some o->s3.heap.get? b=some o:=fun b o e=>by rw[<- hs3];exact Heap.get?_push_of_some _ e
 have fpo:∀b∈fp,b<s2.heap.objs.size:=fun b hb=>by
  obtain⟨o,e,_⟩:=T.obj 0 _ st b hb;exact Heap.lt_size e
 have f3:∀b∈fp,eQ X pins (upd H2 s2.heap.objs.size (.lst [])) b:=fun b hb=>⟨by rw[bi (Nat.ne_of_lt (fpo b hb))];exact(f2 b hb).1,(f2 b hb).2⟩;refine wpAny_newFunctionEnv C.cell (by intro y hy;simp at hy) (fun h1 hns1 hsb1=>?_) C.kind;have kp:∀b o,s3.heap.get? b=some o->h1.get? b=some o:=fun b o e=>(hsb1.2 b (Nat.ne_of_lt (Heap.lt_size e))).trans (Heap.get?_push_of_some _ e);have I4:=rY (s4:={ s3 with heap:=h1,toks:=s3.toks+([]:List (Str×Value)).length }) C I3 f3 (fun b hb=>Nat.lt_trans (fpo b hb) hp3) ⟨rfl,rfl⟩ hns1 kp;have st4:tn 0 h1:=T.keep 0 _ _ st fun b _ o e=>kp b o (k23 b o e);obtain⟨W,⟨m0,w0⟩,step⟩:=rd _ hfresh;have loop:codeAny (model X.prog X.w) X.A (.compLoop (.ListComp elt [⟨.Name x px,iter,[],0⟩] scope pos) 0 (.ref it) (.ref s2.heap.objs.size) (compEnvC scope cl s3.heap.objs.size X.env)) (RR (.ref s2.heap.objs.size) s3.heap.objs.size)
   { s3 with heap:=h1,toks:=s3.toks+([]:List (Str×Value)).length }:=by
  refine codeAny_compLoop_list (fun n s=>∃i acc σv H',zT (X.blk (x::fv.map (·.1)) scope cl fp s3 (upd H2 s2.heap.objs.size (.lst []))) [] (σv::fvs fv σ) H' s∧tn i s.heap∧(∀b∈fp,H' b=none)∧W i n acc H') ?_ m0 ⟨0,[],none,_,I4,st4,fun b hb=>(f3 b hb).1,w0⟩;rintro n s ⟨i,acc,σv,H',I',st',fr',w'⟩;obtain⟨hp,hlen,alt⟩:=step i n acc H' w';have fpk:∀{H5:Hp},(∀b∈fp,H5 b=none)->∀b∈fp,eQ (X.blk (x::fv.map (·.1)) scope cl fp s3 (upd H2 s2.heap.objs.size (.lst []))) [] H5 b:=fun h5 b hb =>
   ⟨h5 b hb,(I'.ok.exf b hb).1,I'.ok.exfs b hb,.inl hb,fun y c e=>(I'.ok.exf b hb).2 y c e,fun q hq=>by simp at hq⟩
  rcases alt with⟨stop,qf⟩|⟨go,turn⟩
  ·refine wpAny_mono (T.done (X.blk (x::fv.map (·.1)) scope cl fp s3 (upd H2 s2.heap.objs.size (.lst []))) rfl rfl rfl hcalm i [] s _ H' (fun _ _=>False) I' (fpk fr') st' stop) (fun r s5 ⟨hr,I5⟩=>?_) fun _ _ z=>False.elim z
   subst hr;refine hRR _ _ H' s5 (let ⟨m,hn,_⟩:=I5.loc;⟨m,hn⟩) (Nat.ne_of_gt I3.lt) I5.free I3.sz (fun y c e=>?_) (fun q hq=>?_) ?_ qf
   ·obtain⟨v,z⟩:=I3.cell y c e
    exact Nat.ne_of_lt z.lt
   ·exact Nat.ne_of_lt (Heap.lt_size (I3.pin q hq).1)
   ·exact I3.call' (s':=s5) (ch:=fp) I5.os I5.base I5.hok I5.bare fun b hb=>⟨(f2 b hb).2.2.2.1,(f2 b hb).2.1,(f2 b hb).2.2.2.2.1,(f2 b hb).2.2.2.2.2⟩
  ·refine wpAny_mono (T.item (X.blk (x::fv.map (·.1)) scope cl fp s3 (upd H2 s2.heap.objs.size (.lst []))) rfl rfl rfl hcalm i [] s _ H' (fun _ _=>False) I' (fpk fr') st' go) (fun r s5 ⟨u,hr,h5⟩=>?_) fun _ _ z=>False.elim z
   subst hr;have e5:assign (.Name x px) (compEnvC scope cl s3.heap.objs.size X.env) u=(letOwnedTupleGo (.Name x px) (.ref it) u >>= fun _=>assign (.Name x px) (compEnvC scope cl s3.heap.objs.size X.env) u):=by
    rw[show letOwnedTupleGo (.Name x px) (.ref it) u=pure () from rfl];rfl
   show wpAny _ _ (assign (.Name x px) (compEnvC scope cl s3.heap.objs.size X.env) u) _ _ _;rw[e5];refine wpAny_bind (wpAny_mono h5 (fun _ s6 ⟨y,H6,I6,r6,y6,st6,fr6⟩=>?_) fun _ _ z=>False.elim z);have I6':=I6.pinned (fpk fr6) (T.obj _ _ st6);have lx:(relabel scope X.env).names.lookup x=some .local:=lookup_relabel_local C.own;refine wpAny_mono (aI (X:=X.blk (x::fv.map (·.1)) scope cl fp s3 (upd H2 s2.heap.objs.size (.lst []))) (i:=0) C.nd rfl (.inl lx) (.inr lx) _ s6 _ H6 y u (fun σ7 H7=>σ7=some y::fvs fv σ∧H7=H6) I6' r6 ⟨rfl,rfl⟩) (fun _ s7 ⟨σ7,H7,I7,e7,e7'⟩=>?_) fun _ _ z=>False.elim z;subst e7 e7';refine wpAny_mono (he s3 _ _ s7 _ _ _ I7 (turn y _ y6)) (fun v8 s8 ⟨y8,H8,I8,r8,q8,m',hm',w8⟩=>?_) fun _ _ z=>False.elim z;refine wpAny_mono (gB (X:=X.blk (x::fv.map (·.1)) scope cl fp s3 (upd H2 s2.heap.objs.size (.lst []))) _ s8 _ H8 (.ref s2.heap.objs.size) [y8] (.ref s2.heap.objs.size) [v8] (fun _ H9=>H9=upd H8 s2.heap.objs.size (.lst (acc++[y8]))) I8 rfl (.cons r8 .nil) ⟨_,acc,y8,rfl,rfl,q8,hlen,rfl⟩) (fun _ s9 ⟨_,H9,I9,_,e9⟩=>?_) fun _ _ z=>False.elim z;subst e9;refine⟨m',hm',i+1,acc++[y8],some y,_,I9.unpinned,T.keep _ _ _ st6 fun b hb o e=>(I9.pin (b,o) (List.mem_append_right _ (List.mem_append_right _ (cQ hb e)))).1,fun b hb=>?_,w8⟩;obtain⟨o,e,d⟩:=T.obj _ _ st6 b hb;exact(I9.pin (b,o) (List.mem_append_right _ (List.mem_append_right _ (cQ hb e)))).2.1
 exact codeAny_compStart_list loop (T.self _ 0 _ _ _ st4 loop)
theorem qY{wi:TI}(hcalm:X.calm=true)(C:AX X scope cl x fv)(hi:PI X (.Name x px) iter wi)(he:∀(fp:List Addr) (s₀:Shared) (H₀:Hp),PE (X.blk (x::fv.map (·.1)) scope cl fp s₀ H₀) elt te)
  (hs:∀v,foldedSetIterable iter X.env v=pure v:=by intro _;rfl):PE X (.ListComp elt [⟨.Name x px,iter,[],0⟩] scope pos) (wY wi fv te):=by
 intro pins s σ H Q I h;rw[eval_ListComp];refine wpAny_comprehension_free (use:=none) rfl hs C.clos C.kind C.names (wpAny_mono (hi pins s σ H _ I h) (fun v s1 h1=>wpAny_mono h1 (fun itv s2 h2=>?_) fun _ _ z=>z) fun _ _ z=>z);obtain⟨it,fp,tn,J,H2,rfl,I2,T,st2,f2,rd⟩:=h2;refine rX (Qf:=Q) hcalm C I2 T st2 f2 rd (he fp) fun p D H' s' ns nL nH n0 nC nP I8 q=>?_;obtain⟨m,hn⟩:=ns;exact⟨m,hn,fun h'' sb=>⟨.ref p,H',I8.turned (t':=s'.toks) (fun b o hb e=>(sb.2 b hb).trans e) nH nL (.inr n0) nC nP,rfl,q⟩⟩
theorem pX{wi:TI}{y:Str}{j:Nat}{py spos:Pos}(hcalm:X.calm=true)(C:AX X scope cl x fv)(hN:X.N.Nodup)(hj:X.N[j]? = some y)(hy:X.env.scope.names.lookup y=some .local)(hi:PI X (.Name x px) iter wi)(he:∀(fp:List Addr) (s₀:Shared) (H₀:Hp),PE (X.blk (x::fv.map (·.1)) scope cl fp s₀ H₀) elt te)
  (hsw:swapsWith (.ListComp elt [⟨.Name x px,iter,[],0⟩] scope pos) (some (.Name y py)) spos.line X.env=pure true:=by rfl)
  (hs:∀v,foldedSetIterable iter X.env v=pure v:=by intro _;rfl):PS X (.Assign [.Name y py] (.ListComp elt [⟨.Name x px,iter,[],0⟩] scope pos) spos) (pO (wY wi fv te) (iz j)):=by
 intro pins s σ H D I h;rw[exec_Assign_Name_used _ _ _ _ hsw];refine wpAny_bind (wpAny_standAt (wpAny_bind ?_));show wpAny _ _ (do let _ <- comprehension (.ListComp elt [⟨.Name x px,iter,[],0⟩] scope pos) scope X.env _ (newList []) false (eval iter X.env) (some (assign (.Name y py) X.env))) _ _ s
 refine wpAny_bind (wpAny_mono (wpAny_comprehension_free (use:=some (assign (.Name y py) X.env)) (Q:=fun _ s'=>SP X pins D .next s') rfl hs C.clos C.kind C.names
  (wpAny_mono (hi pins s σ H _ I h) (fun v s1 h1=>wpAny_mono h1 (fun itv s2 h2=>?_) fun _ _ z=>z) fun _ _ z=>z)) (fun _ s' hq=>wpAny_pure (wpAny_pure hq)) fun _ _ z=>z)
 obtain⟨it,fp,tn,J,H2,rfl,I2,T,st2,f2,rd⟩:=h2;refine rX (Qf:=fun v H'=>iz j v σ H' D.nx) hcalm C I2 T st2 f2 rd (he fp) fun p D' H' s' ns nL nH n0 nC nP I8 q=>?_;obtain⟨m,hn⟩:=ns;show wpAny _ _ (assign (.Name y py) X.env (.ref p)) _ _ _;refine wpAny_assign_Name (iO I8 hN hj (.inl hy) (v:=.ref p) rfl (fun s9 I9 ⟨a,sb,ha⟩=>?_) (.inr hy));have aD:D'≠a:=by
  rintro rfl;rcases ha with z|z
  ·exact nL z
  ·exact nC y _ z rfl
 exact⟨m,hn.sameBut sb aD,fun h'' sb2=>⟨_,H',I9.turned (t':=s9.toks) (fun b o hb e=>(sb2.2 b hb).trans e) nH nL (.inr n0) nC nP,q⟩⟩
end
end L2
namespace L2
open PySem PySem.Spec PyProof.Rows
def ib(s:Stmt):Scope:=match s with
 | .Assign _ (.ListComp _ _ sc _) _=>sc
 | _=>{ kind:=.function,names:=[],isGenerator:=false,isCoroutine:=false }
end L2
namespace L2
open PySem PySem.Spec PyProof.Rows
theorem fJ{X:Cx}{K:W.Frag}(h:X.K=K):IxR X (IA K):=h▸ak
end L2
namespace L2
open PySem PySem.Spec PyProof.Rows
theorem jc{K:W.Frag}{a:Addr}{xs:List V}{fv:List (Str×Nat)}{te:TE}{σ:St}{H1:Hp}{Qp:Hp->Prop}{l:Addr}(Pv:Nat->List V->Hp->Prop)(h0:Pv 0 [] (upd H1 l (.lst [])))(hp:∀i acc H2,i≤xs.length->Pv i acc H2->SqL K H2 a xs∧H2 l=some (.lst acc)∧acc.length<sizeLine)
  (hs:∀i x acc H2 (Kc:VK),xs[i]? = some x->Pv i acc H2->(∀y H4,H4 l=some (.lst acc)->Pv (i+1) (acc++[y]) (upd H4 l (.lst (acc++[y])))->Kc y H4)->te (some x::fvs fv σ) H2 Kc) (hd:∀acc H2,Pv xs.length acc H2->Qp H2) :
  ∃W:Nat->Nat->List V->Hp->Prop,(∃m,W 0 m [] (upd H1 l (.lst [])))∧∀i m acc H2,W i m acc H2 ->
   H2 l=some (.lst acc)∧acc.length<sizeLine∧(((Itl K a).stop i H2∧Qp H2)∨((Itl K a).go i H2∧∀x H3,(Itl K a).yld i H2 x H3->te (some x::fvs fv σ) H3 fun y H4=>H4 l=some (.lst acc)∧∃m',m'<m∧W (i+1) m' (acc++[y]) (upd H4 l (.lst (acc++[y]))))):=by
 refine⟨fun i m acc H2=>m=xs.length - i∧i≤xs.length∧Pv i acc H2,⟨xs.length,by simp,Nat.zero_le _,h0⟩,?_⟩;rintro i m acc H2 ⟨rfl,hi,p⟩;obtain⟨q1,q2,q3⟩:=hp i acc H2 hi p;refine⟨q2,q3,?_⟩
 by_cases hlt:i<xs.length
 ·refine .inr ⟨⟨xs,xs[i],q1,List.getElem?_eq_getElem hlt⟩,fun x H3 y=>?_⟩
  obtain⟨e1,e2⟩:=y;subst e1;exact hs i x acc _ _ (e2 xs q1) p fun y H4 z1 z2=>⟨z1,xs.length - (i+1),by omega,rfl,hlt,z2⟩
 ·have e:i=xs.length:=by omega
  subst e;exact .inl ⟨⟨xs,q1,Nat.le_refl _⟩,hd acc H2 p⟩
end L2
namespace L2
open PySem PySem.Spec PyProof.Rows
theorem qN{xs:List V}{us:List Value}{j:Nat}(r:aO xs us)(h:j<us.length):∃a,xs[j]? = some a∧bO a us[j]:=by
 have hl:=r.length;have hj:j<xs.length:=by omega
 obtain⟨u,e,q⟩:=r.get (i:=j) (x:=xs[j]) (List.getElem?_eq_getElem hj);rw[List.getElem?_eq_getElem h]at e;cases e;exact⟨xs[j],List.getElem?_eq_getElem hj,q⟩
section
variable {X:Cx} {pins:List (Addr×Obj)} {σ:St} {H:Hp} {s:Shared}
end
end L2
namespace L2
open PySem
theorem A6.units10{k:Nat}{A:Around}(r:A6 k A):A.units+10<cLine:=by have:=r.un;omega
end L2
namespace L2
open PySem PySem.Spec PyProof.Rows
def CPX(i j:Int):Prop:=0≤j∧(Builtin.Int.intBits i:Int)*j≤2^27
theorem jA{X:Cx}:OpR X (binaryOp .Pow) (rI CPX fun i j=>.int (i^j.toNat)):=opI fun _ _ _ _ _ _ _ hc q=>pow_int hc.1 hc.2 q
theorem wH{i:Int}{n:Nat}(h:au i≤n)(hn:n≤100000):CPX i 2:=⟨by decide,by
 have e:(2:Int)^27=134217728:=by decide
 have h':Builtin.Int.intBits i≤n:=h;rw[e];omega⟩
end L2
namespace Sp3
open PySem PySem.Spec L2 Mth Sp1 Sp2
end Sp3
namespace Sp3
open PySem PySem.Spec L2 Mth Sp1 Sp2
theorem Ay.mono{H H':Hp}{x:V}(h:Ay H x)(s:Same H H'):Ay H' x:=by
 obtain⟨⟨t,k⟩,pt⟩:=h;refine⟨⟨t,k.mono s⟩,fun p xs e1 e2 y hy=>?_⟩;subst e1;have e3:H p=some (.tup xs):=by
  cases k with
  | lst e=>rw[s _ _ e]at e2;cases e2
  | tup e=>rw[s _ _ e]at e2;cases e2;exact e
  | dict e=>rw[s _ _ e]at e2;cases e2
 obtain⟨t',k'⟩:=pt p xs rfl e3 y hy;exact⟨t',k'.mono s⟩
abbrev Crn:=List (Addr×Int×Int)
end Sp3
namespace PySem
open Sem (wp)
abbrev Lk{α:Type}(M:Model)(h:Heap)(t:Sem α)(r:α):Prop:=∀(A:Around) (Q:α->Shared->Prop) (E:Value->Shared->Prop) (g:Array GenState) (d:Drawn) (tk:Nat) (os:OsState),Q r ⟨h,g,d,tk,os⟩->wpAny M A t Q E ⟨h,g,d,tk,os⟩
section
variable {prog:Program} {w:World} {A:Around} {E:Value->Shared->Prop} {h:Heap} {g:Array GenState} {d:Drawn} {t:Nat} {os:OsState} {a:Addr} {o:Obj}
 {nm q:Str} {C N:Addr} {bs bm:List Value} {hdct:Bool} {sn:List Str} {sub:List Value} {ab:Bool} {col:Option Bool} {dd:Option Addr} {k0 k1 k2 k3 k5:Option Value} {newId:String}
theorem kZ{R:Result->Shared->Prop}(atC:h.get? C=some (excClassObj nm q C N bs bm hdct sn sub ab col dd k0 k1 k2 k3 k5 newId))(hO:bm.contains (.type "object")=true)
  (atE:h.get? a=some o) (clE:o.cls = .ref C) (fin:R (.ok (.ret (.ref C))) ⟨h,g,d,t,os⟩) :
  codeAny (model prog w) A (.call (.builtin "getset_descriptor.__get__") ⟨[.builtin "object.__class__",.ref a,.ref C],[]⟩) R ⟨h,g,d,t,os⟩:=by
 have tg:(⟨h,g,d,t,os⟩:Shared).TypeIs (.builtin "object.__class__") "getset_descriptor":=F.typeOf_object_class;have e0:(".".intercalate ("object.__class__".cutAt '.').dropLast) = "object":=by
  have e0:"object.__class__".cutAt '.' = ["object","__class__"]:=by first|rfl|decide +kernel
  rw[e0];decide +kernel
 have cont:(Value.ref C::bm).contains (.type (".".intercalate ("object.__class__".cutAt '.').dropLast))=true:=by
  rw[e0,List.contains_cons,hO,Bool.or_true]
 refine codeAny_call_builtin F.slot_gs_get.plain F.entry_gs_get (F.slot_gs_get.check _ _ _ _ _ _ _ _ tg (F.args_gs_get _ _ _) ?_)
 repeat (any_goals (first|assumption|(with_reducible refine wpAny_loadPart_at atE ?_;rw[clE])|(with_reducible refine wpAny_isSubtype_exc atC ?_;rw[cont])|wp_step))
 refine⟨Code.quiet_builtin _ (by decide +kernel),codeAny_builtin F.entry_object_class ?_⟩
 repeat (any_goals (first|assumption|(with_reducible refine wpAny_loadPart_at atE ?_;rw[clE])|wp_step))
theorem nD{M:Model}{nameV:Value}{Q:Unit->Shared->Prop}(atC:h.get? C=some (excClassObj nm q C N bs bm hdct sn sub ab col dd k0 k1 k2 k3 k5 newId))(hB:bm.contains (.type "BaseException")=true)
  (atE:h.get? a=some o) (clE:o.cls = .ref C) (fin:Q () ⟨h,g,d,t,os⟩):wpAny M A (checkBuiltinCall "BaseException.__getattribute__" ⟨[.ref a,nameV],[]⟩) Q E ⟨h,g,d,t,os⟩:=by
 have kd:builtinKind "BaseException.__getattribute__" = some .slot:=by decide +kernel
 have spl:splitId "BaseException.__getattribute__" = some ("BaseException","__getattribute__"):=by decide +kernel
 have cont:(Value.ref C::bm).contains (.type "BaseException")=true:=by rw[List.contains_cons,hB,Bool.or_true]
 have okA:=F.args_bexc_ga (.ref a) nameV;simp only[checkBuiltinCall,kd,spl];refine wpAny_bind ?_
 ·unfold isInstance
  repeat (first|(with_reducible refine wpAny_loadPart_at atE ?_;rw[clE])|(with_reducible refine wpAny_isSubtype_exc atC ?_;rw[cont])|wp_step)
  exact fin
theorem jy{tk:Tok}{Q:Fin->Shared->Prop}(atC:h.get? C=some (excClassObj nm q C N bs bm hdct sn sub ab col dd k0 k1 k2 k3 k5 newId))(hO:bm.contains (.type "object")=true)
  (lc:Lk (model prog w) h (typeLookup (.ref C) "__class__") (some (.builtin "object.__class__"))) (atE:h.get? a=some o) (clE:o.cls = .ref C) (fin:Q (.done (.ret (.ref C))) ⟨h,g,d,t,os⟩) :
  wpAny (model prog w) A (Builtin.«object.__getattribute__» ⟨[.ref a,.str "__class__" tk],[]⟩) Q E ⟨h,g,d,t,os⟩:=by
 have tg:(⟨h,g,d,t,os⟩:Shared).TypeIs (.builtin "object.__class__") "getset_descriptor":=F.typeOf_object_class;have tyC:=F.typeOf_object_class;have getL:=F.slot_gs_get.lookup;have setL:=F.slot_gs_set.lookup
 repeat (any_goals (first|assumption|(with_reducible refine wpAny_loadPart_at atE ?_;rw[clE])|with_reducible refine lc _ _ _ _ _ _ _ ?_|wp_step))
 refine kZ atC hO atE clE ?_
 repeat (any_goals (first|assumption|wp_step))
theorem nB{tk:Tok}{Q:Value->Shared->Prop}(atC:h.get? C=some (excClassObj nm q C N bs bm hdct sn sub ab col dd k0 k1 k2 k3 k5 newId))(hO:bm.contains (.type "object")=true)(hB:bm.contains (.type "BaseException")=true)
  (lc:Lk (model prog w) h (typeLookup (.ref C) "__class__") (some (.builtin "object.__class__"))) (lg:Lk (model prog w) h (typeLookup (.ref C) "__getattribute__") (some (.builtin "BaseException.__getattribute__"))) (ln:Lk (model prog w) h (typeLookup (.ref C) "__getattr__") none)
  (atE:h.get? a=some o) (clE:o.cls = .ref C) (fin:Q (.ref C) ⟨h,g,d,t,os⟩) :
  wpAny (model prog w) A (getAttrBy (.ref a) (.str "__class__" tk) false) Q E ⟨h,g,d,t,os⟩:=by
 have bnd:=F.excAttr_ValueError.ga.bind (.ref a);have nh2:(Value.builtin "BaseException.__getattribute__" == Value.builtin "object.__getattribute__")=false:=by decide +kernel
 have nh1:(onTheHeap (Value.ref C) && Value.builtin "BaseException.__getattribute__" == Value.builtin "object.__getattribute__")=false:=by rw[nh2];rfl
 repeat (any_goals (first|assumption|(with_reducible refine wpAny_loadPart_at atE ?_;rw[clE])|with_reducible refine lg _ _ _ _ _ _ _ ?_|with_reducible refine ln _ _ _ _ _ _ _ ?_|wp_step))
 refine codeAny_call_builtin F.excAttr_ValueError.ga.plain F.entry_bexc_ga (nD atC hB atE clE (jy atC hO lc atE clE ?_))
 repeat (any_goals (first|assumption|wp_step))
theorem kB{Q:Option Value->Shared->Prop}(atC:h.get? C=some (excClassObj nm q C N bs bm hdct sn sub ab col dd k0 k1 k2 k3 k5 newId))(hO:bm.contains (.type "object")=true)(hB:bm.contains (.type "BaseException")=true)
  (lc:Lk (model prog w) h (typeLookup (.ref C) "__class__") (some (.builtin "object.__class__"))) (lg:Lk (model prog w) h (typeLookup (.ref C) "__getattribute__") (some (.builtin "BaseException.__getattribute__"))) (ln:Lk (model prog w) h (typeLookup (.ref C) "__getattr__") none)
  (atE:h.get? a=some o) (clE:o.cls = .ref C) (fin:Q (some (.ref C)) ⟨h,g,d,t+1,os⟩) :
  wpAny (model prog w) A (getAttr? (.ref a) "__class__") Q E ⟨h,g,d,t,os⟩:=by
 unfold getAttr?
 repeat (any_goals (first|assumption|with_reducible refine nB atC hO hB lc lg ln atE clE ?_|wp_step))
end
end PySem
namespace L2
open PySem PySem.Spec PyProof.Rows
def iG(C a:Addr):HO:=.ext fun h=>∃o,h.get? a=some o∧o.cls = .ref C
theorem wE{P:Program}{w:World}{H:Hp}{h:Heap}{a C:Addr}(e:∃o,h.get? a=some o∧o.cls = .ref C):cL P w H h a (iG C a) :=
 ⟨e,let ⟨o,e1,_⟩:=e;⟨o,e1⟩,fun _ _ ⟨o,e1,e2⟩ k=>⟨o,k o e1,e2⟩⟩
structure Ix(K:W.Frag)(C:Addr):Prop where
 ga:W.findIn K (.ref C) "__getattribute__" = some (some (.builtin "BaseException.__getattribute__"))
 gn:W.findIn K (.ref C) "__getattr__" = some none
 cl:W.findIn K (.ref C) "__class__" = some (some (.builtin "object.__class__"))
theorem uL{K:W.Frag}{M:Model}{h:Heap}{C:Addr}{n:Str}{r:Option Value}(X:K.In h)(e:W.findIn K (.ref C) n=some r):Lk M h (typeLookup (.ref C) n) r :=
 fun _ _ _ _ _ _ _ q=>(W.looks_findIn X e).here q
theorem kc{K:W.Frag}{mg:Str->Option Value}{n:Str}{C a:Addr}(O:AW K mg n C)(f:Ix K C):W.KitX K (.ref a) (.ref C) (fun h=>∃o,h.get? a=some o∧o.cls = .ref C) where
 ty:=fun M h _ p=>by
  obtain⟨o,e1,e2⟩:=p;exact e2▸(W.Looks.ld e1).andThen .now
 it:=fun M h X _=>by
  obtain⟨bm,N',nm,qn,bs,hd,sn,sub,ab,col,dd,k0,k1,k2,k3,k5,mN,atC,_⟩:=O.obj h X;intro A' Q' E' s' k q;unfold isType loadHead;exact wpAny_bind (wpAny_loadPart (k _ _ atC) (wpAny_pure q))
 ne:=fun h tp dd' its n' sl X htp=>by
  obtain⟨bm,N',nm,qn,bs,hd,sn,sub,ab,col,dd,k0,k1,k2,k3,k5,mN,atC,_⟩:=O.obj h X;refine Bool.eq_false_iff.mpr fun q=>?_;cases Value.ref.inj (beq_iff_eq.mp q);rw[atC]at htp;have z:=congrArg Obj.cls (Option.some.inj htp);exact absurd (Value.type.inj z) (by decide)
 ca:=fun {prog w A E Q s} X p k=>by
  obtain⟨h,g,d,t,os⟩:=s;obtain⟨o,e1,e2⟩:=p;obtain⟨bm,N',nm,qn,bs,hd,sn,sub,ab,col,dd,k0,k1,k2,k3,k5,mN,atC,_,_,T⟩:=O.obj h X;exact kB atC (T.hasType (by decide +kernel)) (T.hasType (by decide +kernel)) (uL X f.cl) (uL X f.ga) (uL X f.gn) e1 e2 k
section
variable {X:Cx}
inductive IV (K:W.Frag) (C:Addr) (xs:List V) (H:Hp) (Q:VK):Prop
 | mk:∀(a:Addr) (v:V) (b:Bool),(xs = [.ref a,v])->(H a=some (iG C a))->(((∃D,v = .ref D∧W.kitOne K (.ref C) (.ref D)=some b)∨(∃T,v = .ty T∧W.kitOne K (.ref C) (.type T)=some b)∨(∃(p:Addr) (ds:List Addr),v = .ref p∧H p=some (.tup (ds.map V.ref))∧W.kitAny K (.ref C) (ds.map Value.ref)=some b)))->(Q (.bl b) H)->IV K C xs H Q
theorem li:∀{ds:List Addr} {us:List Value},aO (ds.map V.ref) us->us=ds.map Value.ref
 | [],us,r=>by cases r;rfl
 | d::ds,us,r=>by
  cases r with
  | cons h t =>
   rw[li t];cases h;rfl
theorem qJ{n:Str}{C:Addr}(O:AW X.K X.mg n C)(f:Ix X.K C):dX X (.builtin "isinstance") (IV X.K C):=by
 intro pins s σ H xs us Q I rs h;obtain⟨a,v,b,rfl,ea,hv,q⟩:=h;obtain⟨u,u',rfl,ru,rv⟩:=qM rs;cases ru;have p:∃o,s.heap.get? a=some o∧o.cls = .ref C:=(show cL X.prog X.w H s.heap a (iG C a) from I.hok a _ ea).1;rcases hv with⟨D,rfl,e⟩|⟨T,rfl,e⟩|⟨p',ds,rfl,et,e⟩
 ·cases rv
  exact W.kia_one (kc O f) I.kIn p e (by intro z;cases z) fun tk=>⟨.bl _,H,I.tok _,rfl,q⟩
 ·cases (show u'=Value.type T from rv)
  exact W.kia_one (kc O f) I.kIn p e (by intro z;cases z) fun tk=>⟨.bl _,H,I.tok _,rfl,q⟩
 ·cases rv
  obtain⟨_,its,rv',⟨oc,odi,oda,osl⟩,eo,ec,nn,ed⟩:=I.hok _ _ et;dsimp only at ec ed;subst ec ed;cases li rv';exact W.kia_tup (kc O f) I.kIn p eo e (by intro z;cases z) fun tk=>⟨.bl _,H,I.tok _,rfl,q⟩
end
section
variable {X:Cx} {pins:List (Addr×Obj)} {σ:St} {H:Hp} {s:Shared}
theorem zT.track{a:Addr}{o:HO}(I:zT X pins σ H s)(hn:H a=none)(h0:X.s₀.heap.get? a=none)(hl:a≠X.env.locals)(hc:∀x c,X.env.cells.lookup x=some c->c≠a)(hp:∀p∈X.pn++pins,p.1≠a)
  (ho:cL X.prog X.w (upd H a o) s.heap a o):zT X pins σ (upd H a o) s where
 ok:=I.ok
 os:=I.os
 bare:=I.bare
 base:={
  keep:=I.base.keep
  slot:=I.base.slot
  free:=fun b ob e n hx=>by
   rw[bi (fun z=>by subst z;rw[h0]at e;cases e)];exact I.base.free b ob e n hx
  there:=I.base.there
  tups:=fun b xs q=>by
   have z:=I.base.tups b xs q;rw[bi (aS z hn)];exact z
  frzs:=fun b ob u q=>by
   have z:=I.base.frzs b ob u q;rw[bi (aS z hn)];exact z
  tbls:=fun b ps q=>by
   obtain⟨m,z⟩:=I.base.tbls b ps q;exact⟨m,by rw[bi (aS z hn)];exact z⟩ }
 loc:=I.loc
 cell:=I.cell
 free:=by rw[bi (Ne.symm hl)];exact I.free
 freeC:=fun x c e=>by rw[bi (hc x c e)];exact I.freeC x c e
 pin:=fun p m=>by
  obtain⟨p1,p2,p3⟩:=I.pin p m;exact⟨p1,by rw[bi (hp p m)];exact p2,p3⟩
 hok:=fun b u q=>by
  by_cases hb:b=a
  ·subst hb
   rw[upd_same]at q;cases q;exact ho
  ·rw[bi hb]at q
   exact(I.hok b u q).stay (fun _ _ _ r=>r) (fun c r=>by rw[bi (aS r hn)];exact r) fun c xs r=>by rw[bi (aS r hn)];exact r
 len:=I.len
theorem jI{M:Model}{A:Around}{E:Value->Shared->Prop}{i:Nat}{x:Str}{pos:Pos}{Q:Unit->Shared->Prop}(I:zT X pins σ H s)(hN:X.N.Nodup)(hi:X.N[i]? = some x)(hk:X.env.kindOf x=some .local)
  (h:∀s',zT X pins (σ.set i none) H s'->Q () s'):wpAny M A (do bindName X.env x .none;unbindBehindTheSuite X.env x pos) Q E s:=by
 obtain⟨m,hn,hl⟩:=id I.loc;have plain:(X.env.scope.kind == .class || (X.env.scope.kind == .module && X.env.locals != X.env.globals))=false:=by rw[I.ok.kind];rfl
 have iσ:i<σ.length:=by rw[I.len];exact(List.getElem?_eq_some_iff.mp hi).1
 have cne:=I.cne;refine wpAny_nameGoes_keeps hk hn plain (fun h' v hn' sb=>?_);have far:∀{b:Addr} {o:Obj},X.s₀.heap.get? b=some o->b≠X.env.locals:=fun e=>Nat.ne_of_lt (Nat.lt_of_lt_of_le (Heap.lt_size e) I.ok.above);refine h _ ⟨I.ok,I.os,I.bare,⟨fun b o e n hb hx=>(sb.2 b (far e)).trans (I.base.keep b o e n hb hx),fun b o e n hb hx=>?_,I.base.free,fun b o e hx=>?_,I.base.tups,I.base.frzs,I.base.tbls⟩,⟨_,hn',fun j y v' e1 e2 e3=>?_⟩,fun y c e=>?_,I.free,I.freeC,fun p hp=>?_,fun b ob e=>?_,by simpa using I.len⟩
 ·obtain⟨sl,z⟩:=I.base.slot b o e n hb hx
  exact⟨sl,(sb.2 b (far e)).trans z⟩
 ·obtain⟨o',z⟩:=I.base.there b o e hx
  exact⟨o',(sb.2 b (far e)).trans z⟩
 ·by_cases hj:j=i
  ·subst hj
   rw[List.getElem?_set_self iσ]at e2;cases e2
  ·rw[List.getElem?_set_ne (Ne.symm hj)]at e2
   obtain⟨u',r',q⟩:=hl j y v' e1 e2 e3;refine⟨u',r',?_⟩;rcases q with⟨k,e⟩|⟨k,c,e,z⟩
   ·have ny:y≠x:=fun e=>hj (j0 hN e1 (e▸hi))
    exact .inl ⟨k,by simp[ny,e]⟩
   ·exact .inr ⟨k,c,e,z.sameBut sb (cne y c e)⟩
 ·obtain⟨w',z⟩:=I.cell y c e
  exact⟨w',z.sameBut sb (cne y c e)⟩
 ·obtain⟨e,n,ne,nf,d⟩:=I.pin p hp
  exact⟨(sb.2 p.1 ne).trans e,n,ne,nf,d⟩
 ·refine(I.hok b ob e).stay (fun c w' hc q=>(sb.2 c ?_).trans q) (fun _ q=>q) fun _ _ q=>q
  rintro rfl;rcases hc with rfl|hc
  ·rw[I.free]at e
   cases e
  ·rw[I.free]at hc
   cases hc
end
def ee.drop(D:ee)(i:Nat):ee:={ nx:=fun σ H=>D.nx (σ.set i none) H,rt:=D.rt,bk:=fun σ H=>D.bk (σ.set i none) H,ct:=fun σ H=>D.ct (σ.set i none) H }
section
variable {X:Cx}
theorem tf{pins:List (Addr×Obj)}{σ:St}{H:Hp}{s s':Shared}{E1:XK}{ev:Value}{x en:Str}{B C:Addr}{np pos:Pos}{b₀:Stmt}{suite:List Stmt}{rest:List ExceptHandler}{D:ee}{th:TS}{Ex:Value->Shared->Prop}{i:Nat}
  (I:zT X pins σ H s) (stk:X.stack=X.env::X.outer) (hf:X.env.frame=some X.env.locals) (O:AW X.K X.mg x B) (hg:Gl X x) (hm:W.exmOne X.K (.ref C) (.ref B)=some true) (hex:X.ex = []) (hN:X.N.Nodup) (hi:X.N[i]? = some en) (hk:X.env.kindOf en=some .local) (h:CXE X.prog X.w X.stack H s E1 ev s')
  (hE:∀c o H',E1 c o H'->c = .ref C∧∀e:Addr,H' e=none->th (D.drop i) (σ.set i (some (.ref e))) (upd H' e (iG C e))) (hb:∀e:Addr,PSs (X.inH e) (b₀::suite) th) (hdb:(x == ("__debug__" : Str))=false:=by decide) :
  wpAny (model X.prog X.w) X.A (noteFrame ev X.env) (fun _ s₂=>wpAny (model X.prog X.w) X.A (setFlight ev none) (fun _ s₃ =>
   wpAny (model X.prog X.w) X.A (handleBy ev X.env (.ExceptHandler (some (.Name x np)) (some en) (b₀::suite) pos::rest)) (SP X pins D) Ex s₃) Ex s₂) Ex s':=by
 obtain⟨ea,t,cls,H',B',rfl,os,bare,un,hok,fl,big,q⟩:=h;obtain⟨rfl,rd⟩:=hE _ _ _ q;have hfr:=I.ok.frames;rw[stk]at hfr;have fr:∀b∈frs X.stack,H b=none∧∀o,s'.heap.get? b=some o->∀vs,o.data≠.fields vs:=fun b hb=>⟨I.stkFree b hb,fun o eo=>by
  obtain⟨_,o',eo',nf⟩:=fl.2.2.1.mem hb;rw[eo]at eo';cases eo';exact nf⟩
 have J:∀h2:Heap,B'.StaysIn h2->s'.heap.UpToSlots h2->zT X pins σ H' { s' with heap:=h2 }:=fun h2 st2 sl =>
  I.call' (s':={ s' with heap:=h2 }) (ch:=[]) os (Un.fly un big fl.1 st2 sl fr) (HOk.fly hok big fl.1 st2) bare fun b z=>absurd z (by simp)
 have hn:H' ea=none:=by
  cases hz:H' ea with
  | none=>rfl
  | some o =>
   obtain⟨ob,e⟩:=big.tr ea o hz;rw[fl.2.1]at e;cases e
 have new:∀b o,s.heap.get? b=some o->b≠ea:=fun b o e z=>by
  subst z
  by_cases hb:b∈frs X.stack
  ·obtain⟨_,o',eo',nf⟩:=fl.2.2.1.mem hb
   obtain⟨oe',vs,e1,_,e2,_⟩:=fl.first
   rw[eo']at e1;cases e1;exact nf vs e2
  ·obtain⟨ob,e1⟩:=big.old b o e hb
   rw[fl.2.1]at e1;cases e1
 have fl0:=fl;rw[stk]at fl0;refine wpAny_looks_onW (L:=X.env.locals) hfr hf fl0 fun h4 hheld up4=>?_;refine wpAny_landsW hheld fun h5 fl5 up5=>?_;have up45:=up4.trans up5;have I5:=(J h5 fl5.1 up45).inH ea;obtain⟨oe,he,hc⟩:=fl5.there;refine wpAny_handleBy_cons (codeAny_handlers_test (iw I5 hg O.bound ?_ hdb)) (by intro z;cases z);have LT:W.Looks (model X.prog X.w) h5 (typeOf (.ref ea)) (.ref C):=hc▸(W.Looks.ld he).andThen .now;refine(W.exm_one I5.kIn LT hm).here (codeAny_handlers_suite_as ?_);refine lands_againW fl5 fun h6 fl6 up6=>?_;have I6:=(J h6 fl6.1 (up45.trans up6)).inH ea;have I7:=I6.track (a:=ea) (o:=iG C ea) hn (by
  cases hz:X.s₀.heap.get? ea with
  | none=>rfl
  | some o =>
   obtain⟨o',e⟩:=I.base.there ea o hz (by rw[hex];exact List.not_mem_nil);exact absurd rfl (new ea o' e)) (fun z=>by
  obtain⟨m,⟨o',_,_,e,_⟩,_⟩:=I.loc;exact new _ o' e z.symm) (fun y c e z=>by
  obtain⟨v,o',e',_⟩:=I.cell y c e;exact new _ o' e' z) (fun p hp z=>new _ _ (I.pin p hp).1 z) (wE fl6.there)
 refine fc (X:=X.inH ea) I7 hN hi (.inl hk) (show bO (.ref ea) (.ref ea) from rfl) (fun s8 I8=>?_) (.inr hk);refine wpAny_mono (hb ea pins _ _ _ (D.drop i) I8 (rd ea hn)) (fun f s9 z=>?_) fun _ _ z=>False.elim z;cases f with
 | next =>
  obtain⟨σ',H2,I9,q9⟩:=z;exact jI (I9.outH I.ok) hN hi hk fun s10 I10=>⟨_,_,I10,q9⟩
 | brk =>
  obtain⟨σ',H2,I9,q9⟩:=z;exact jI (I9.outH I.ok) hN hi hk fun s10 I10=>⟨_,_,I10,q9⟩
 | cont =>
  obtain⟨σ',H2,I9,q9⟩:=z;exact jI (I9.outH I.ok) hN hi hk fun s10 I10=>⟨_,_,I10,q9⟩
 | ret u =>
  obtain⟨v,σ',H2,I9,r,q9⟩:=z;exact jI (I9.outH I.ok) hN hi hk fun s10 I10=>⟨v,_,_,I10,r,q9⟩
end
end L2
namespace Sp8
open PySem PySem.Spec L2 Mth Sp1 Sp2 Sp3
end Sp8
namespace L2
open PySem PySem.Spec PyProof.Rows
theorem k8:bootBuiltins "ValueError" = some (.type "ValueError"):=by decide +kernel
theorem SqT.mod{K:W.Frag}{H:Hp}{a:Addr}{oc:Value}{od:Option Addr}{its:Array Value}{n:Nat}{sl:Array (Option Value)}{xs:List V}(hk:K.lookup a=some ⟨oc,od,.seq its n,sl⟩)(hc:oc = .type "tuple")(hz:its.size≤100)(r:aO xs its.toList):SqT K H a xs :=
 .inr ⟨_,its,n,hk,hc,rfl,Nat.le_of_lt (cG (by omega)),r⟩
end L2
namespace Sp24
open PySem PySem.Spec L2 Mth Sp1 Sp2 Sp3 Sp8
end Sp24
namespace L2
open PySem PySem.Spec PyProof.Rows
theorem kC:bootBuiltins "all" = some (.builtin "all"):=by decide +kernel
theorem zk{bs:List Bool}{us:List Value}{i:Nat}{v:Value}(r:aO (bs.map V.bl) us)(h:us[i]? = some v):∃b,bs[i]? = some b∧v = .bool b:=by
 have hl:=r.length;rw[List.length_map]at hl;have hi:i<us.length:=(List.getElem?_eq_some_iff.mp h).1;have hj:i<bs.length:=by omega
 obtain⟨u,e,q⟩:=r.get (i:=i) (x:=.bl bs[i]) (by rw[List.getElem?_map,List.getElem?_eq_getElem hj];rfl);rw[h]at e;cases e;exact⟨bs[i],List.getElem?_eq_getElem hj,q⟩
theorem tD(bs:List Bool):((List.range bs.length).all fun i=>(bs[i]?).getD true)=bs.all id:=by
 rw[Bool.eq_iff_iff];simp only[List.all_eq_true,List.mem_range,id];constructor
 ·intro h b hb
  obtain⟨i,hi,rfl⟩:=List.mem_iff_getElem.mp hb;have z:=h i hi;rw[List.getElem?_eq_getElem hi]at z;exact z
 ·intro h i hi
  rw[List.getElem?_eq_getElem hi];exact h _ (List.getElem_mem hi)
theorem gg{X:Cx}(hc:X.calm=true):dX X (.builtin "all") (fun xs H Q=>∃(p:Addr) (bs:List Bool),xs = [.ref p]∧SqL X.K H p (bs.map V.bl)∧Q (.bl (bs.all id)) H):=by
 intro pins s σ H xs us Q I r h;obtain⟨p,bs,rfl,hq,q⟩:=h;obtain⟨u,rfl,rx⟩:=cT r;cases rx;obtain⟨its,rv,pl,_⟩:=I.list hq;have hl:=pl.isList;have lt:p<s.heap.objs.size:=by
  obtain⟨_,e,_⟩:=hl;exact Heap.lt_size e
 refine call_all_walk (wpAny_pyIter_list hl ?_);refine⟨s.heap.objs.size,[s.heap.objs.size,p],[s.heap.objs.size],its.toArray.size,_,_,fun i=>(bs[i]?).getD true,rfl,Walks.list (A:=X.A.in1) (I.ok.hd hc) _ p (Nat.ne_of_lt lt) its.toArray,?_⟩;refine⟨⟨⟨_,Heap.get?_push_size _ rfl,rfl,rfl⟩,hl.push _⟩,fun i v s' Q' E' hP hQ=>?_,fun h' tk hk=>?_⟩
 ·obtain⟨b,e,rfl⟩:=zk rv (by simpa using hP)
  simp only[e,Option.getD_some]at hQ;exact wpAny_truthy_bool hQ
 ·have el:its.toArray.size=bs.length:=by
   have:=rv.length;rw[List.length_map]at this;rw[List.size_toArray];omega
  rw[el,tD];refine⟨.bl _,H,I.kept (t':=tk) fun b o e=>?_,rfl,q⟩;exact hk b o (fun hm=>by rw[List.mem_singleton.mp hm]at e;exact Nat.lt_irrefl _ (Heap.lt_size e)) (Heap.get?_push_of_some _ e)
end L2
namespace Sp7
open PySem PySem.Spec L2 Mth Sp1 Sp2 Sp3
def gK:Int:=999999999999
def dk:V->Bool
 | .int a=>decide (-gK≤a) && decide (a≤gK)
 | _=>false
def rV:List V->Bool
 | [y,z]=>dk y && dk z
 | _=>false
def d8(H:Hp):V->Bool
 | .ref p=>match H p with
  | some (.tup xs)=>rV xs
  | _=>false
 | _=>false
def rB(H:Hp)(xs:List V):Bool:=(decide ((1:Int)≤(xs.length:Int)) && decide ((xs.length:Int)≤10)) && xs.all (d8 H)
def ka(H:Hp):V->Bool
 | .ref p=>match H p with
  | some (.lst xs)=>rB H xs
  | _=>false
 | _=>false
theorem jb{H:Hp}{p:Addr}{xs:List V}(e:H p=some (.tup xs)):d8 H (.ref p)=rV xs:=by simp only[d8,e]
theorem qG{H H':Hp}{x:V}{k:String}(kn:Kn H x k)(s:Same H H'):d8 H' x=d8 H x:=by
 cases kn with
 | non=>rfl
 | bl b=>rfl
 | int i=>rfl
 | str x=>rfl
 | lst e=>simp only[d8,e,s _ _ e]
 | tup e=>simp only[d8,e,s _ _ e]
 | dict e=>simp only[d8,e,s _ _ e]
theorem sZ{xs:List V}(h:xs.length≠2):rV xs=false:=by
 unfold rV
 split
 ·exact absurd rfl h
 ·rfl
theorem sr{v:V}(h:∀a,v≠.int a):dk v=false:=by
 unfold dk
 split
 ·exact absurd rfl (h _)
 ·rfl
theorem lK{H:Hp}{p:Addr}{xs:List V}(e:H p=some (.lst xs)):ka H (.ref p)=rB H xs:=by simp only[ka,e]
theorem Kn.cases_lst{H:Hp}{y:V}{t:String}(k:Kn H y t):(∃p xs,y = .ref p∧H p=some (.lst xs)∧t = "list")∨(ka H y=false∧fk t "list" = false):=by
 cases k with
 | lst e=>exact .inl ⟨_,_,rfl,e,rfl⟩
 | non=>exact .inr ⟨rfl,by decide⟩
 | bl b=>exact .inr ⟨rfl,by decide⟩
 | str x=>exact .inr ⟨rfl,by decide⟩
 | int a=>exact .inr ⟨rfl,by decide⟩
 | tup e=>exact .inr ⟨by simp only[ka,e],by decide⟩
 | dict e=>exact .inr ⟨by simp only[ka,e],by decide⟩
theorem Kn.cases_tp{H:Hp}{y:V}{t:String}(k:Kn H y t):(∃p xs,y = .ref p∧H p=some (.tup xs)∧t = "tuple")∨(d8 H y=false∧fk t "tuple" = false):=by
 cases k with
 | tup e=>exact .inl ⟨_,_,rfl,e,rfl⟩
 | non=>exact .inr ⟨rfl,by decide⟩
 | bl b=>exact .inr ⟨rfl,by decide⟩
 | str x=>exact .inr ⟨rfl,by decide⟩
 | int a=>exact .inr ⟨rfl,by decide⟩
 | lst e=>exact .inr ⟨by simp only[d8,e],by decide⟩
 | dict e=>exact .inr ⟨by simp only[d8,e],by decide⟩
def Sm(x:Int):Prop:=-gK≤x∧x≤gK
structure LineM(H:Hp)(l:Addr)(qs:Crn):Prop where
 lst:H l=some (.lst (qs.map fun q=>V.ref q.1))
 crn:∀q∈qs,H q.1=some (.tup [.int q.2.1,.int q.2.2])∧Sm q.2.1∧Sm q.2.2
theorem LineM.mono{H H':Hp}{l:Addr}{qs:Crn}(L:LineM H l qs)(s:Same H H'):LineM H' l qs:=⟨s _ _ L.lst,fun q h=>⟨s _ _ (L.crn q h).1,(L.crn q h).2⟩⟩
inductive Gg (vs:List V) (H:Hp) (Q:VK) (x_3:XK):Prop
 | mk:∀x t,(vs = [x])->(Kn H x t)->(Q (.bl (dk x)) H)->Gg vs H Q x_3
inductive FG (vs:List V) (H:Hp) (Q:VK) (x_3:XK):Prop
 | mk:∀x,(vs = [x])->(Ay H x)->(Q (.bl (d8 H x)) H)->FG vs H Q x_3
def retScope(s:Stmt):Scope:=match s with
 | .Return (some (.Call _ [.ListComp _ _ sc _] _ _)) _=>sc
 | .Return (some (.ListComp _ _ sc _)) _=>sc
 | _=>{ kind:=.function,names:=[],isGenerator:=false,isCoroutine:=false }
end Sp7
namespace L2
open PySem PySem.Spec PyProof.Rows
theorem bits_add2{i j:Int}{m n:Nat}(hi:au i≤m)(hj:au j≤n):au (i+j)≤max m n+1:=cF (ai hi (Nat.le_max_left _ _)) (ai hj (Nat.le_max_right _ _))
theorem tq{i j:Int}{n:Nat}(hj:0<j)(h:au j≤n):au (i % j)≤n:=de (Int.emod_nonneg _ (by omega)) (Int.le_of_lt (Int.emod_lt_of_pos _ hj)) h
theorem bF{p:Prop}[Decidable p](h:decide p=true):p:=of_decide_eq_true h
theorem ci{p:Prop}[Decidable p](h:decide p=false):¬p:=of_decide_eq_false h
theorem CM.of{i j:Int}{m n:Nat}(hi:au i≤m)(hj:au j≤n)(h:m≤1000000∧n≤1000000):CM i j:=CM.b hi hj (by have:(2:Nat)^20=1048576:=(by decide);omega) (by have:(2:Nat)^20=1048576:=(by decide);omega)
theorem bits_of_le{i:Int}{m n:Nat}(h:au i≤m)(hm:m≤n):au i≤n:=Nat.le_trans h hm
end L2
namespace L2
open PySem PySem.Spec PyProof.Rows
def SameT(H H':Hp):Prop:=∀b xs,H b=some (.tup xs)->H' b=some (.tup xs)
theorem Same.t{H H':Hp}(s:Same H H'):SameT H H':=fun b xs e=>s b _ e
theorem SameT.trans{H H1 H2:Hp}(a:SameT H H1)(b:SameT H1 H2):SameT H H2:=fun c xs e=>b c xs (a c xs e)
theorem SameT.upd{H:Hp}{l:Addr}{xs ys:List V}(hl:H l=some (.lst xs)):SameT H (upd H l (.lst ys)):=fun b zs e=>by
 rw[bi (uq e hl (by intro z;cases z))];exact e
theorem Same.upd{H0 H:Hp}{l:Addr}{o:HO}(s:Same H0 H)(hl:H0 l=none):Same H0 (upd H l o):=fun b u e=>by
 rw[bi (aS e hl)];exact s b u e
def nS(J:It)(fv:List (Str×Nat))(te:TE)(σ:St)(H1:Hp)(Q:VK):Prop:=∀p,H1 p=none->∃W:Nat->Nat->List V->Hp->Prop,(∃m,W 0 m [] (upd H1 p (.lst [])))∧∀i m acc H2,W i m acc H2 ->
 H2 p=some (.lst acc)∧acc.length<sizeLine∧((J.stop i H2∧Q (.ref p) H2)∨(J.go i H2∧∀x H3,J.yld i H2 x H3->te (some x::fvs fv σ) H3 fun y H4=>H4 p=some (.lst acc)∧∃m',m'<m∧W (i+1) m' (acc++[y]) (upd H4 p (.lst (acc++[y])))))
def mn(wi:TI)(fv:List (Str×Nat))(te:TE):TE:=fun σ H Q=>wi σ H fun J H1=>nS J fv te σ H1 Q
section
variable {X:Cx} {scope:Scope} {cl:List (Str×Addr)} {x:Str} {fv:List (Str×Nat)} {elt iter:Expr} {px pos:Pos} {te:TE}
theorem fS{wi:TI}(hcalm:X.calm=true)(C:AX X scope cl x fv)(hi:PI X (.Name x px) iter wi)(he:∀(fp:List Addr) (s₀:Shared) (H₀:Hp),PE (X.blk (x::fv.map (·.1)) scope cl fp s₀ H₀) elt te)
  (hs:∀v,foldedSetIterable iter X.env v=pure v:=by intro _;rfl):PE X (.ListComp elt [⟨.Name x px,iter,[],0⟩] scope pos) (mn wi fv te):=qY hcalm C hi he hs
theorem jg{wi:TI}{y:Str}{j:Nat}{py spos:Pos}(hcalm:X.calm=true)(C:AX X scope cl x fv)(hN:X.N.Nodup)(hj:X.N[j]? = some y)(hy:X.env.scope.names.lookup y=some .local)(hi:PI X (.Name x px) iter wi)(he:∀(fp:List Addr) (s₀:Shared) (H₀:Hp),PE (X.blk (x::fv.map (·.1)) scope cl fp s₀ H₀) elt te)
  (hsw:swapsWith (.ListComp elt [⟨.Name x px,iter,[],0⟩] scope pos) (some (.Name y py)) spos.line X.env=pure true:=by rfl)
  (hs:∀v,foldedSetIterable iter X.env v=pure v:=by intro _;rfl):PS X (.Assign [.Name y py] (.ListComp elt [⟨.Name x px,iter,[],0⟩] scope pos) spos) (pO (mn wi fv te) (iz j)):=pX hcalm C hN hj hy hi he hsw hs
end
theorem jd{K:W.Frag}{a:Addr}{xs:List V}{fv:List (Str×Nat)}{te:TE}{σ:St}{H1:Hp}{Q:VK}(hL:SqL K H1 a xs)(hlen:xs.length<1000)(R:Nat->V->Hp->Prop)(hR:∀i v H H',SameT H H'->R i v H->R i v H')
  (hs:∀i x H2 (Kc:VK),xs[i]? = some x->Same H1 H2->(∀y H4,Same H2 H4->R i y H4->Kc y H4)->te (some x::fvs fv σ) H2 Kc)
  (hd:∀l ys H',H1 l=none->Same H1 H'->H' l=some (.lst ys)->ys.length=xs.length->(∀i y,ys[i]? = some y->R i y H')->Q (.ref l) H') :
  nS (Itl K a) fv te σ H1 Q:=by
 intro l hl;refine jc (K:=K) (a:=a) (xs:=xs) (l:=l) (fv:=fv) (Qp:=fun H2=>Q (.ref l) H2) (fun i acc H2=>acc.length=i∧Same H1 H2∧H2 l=some (.lst acc)∧∀j y,acc[j]? = some y->R j y H2)
  ⟨rfl,Same.new hl,upd_same,fun j y h=>by simp at h⟩ ?_ ?_ ?_
 ·rintro i acc H2 hi ⟨e1,sm,e3,_⟩
  exact⟨sm.seq hL,e3,cG (by omega)⟩
 ·rintro i x acc H2 Kc hx ⟨e1,sm,e3,hr⟩ kk
  refine hs i x H2 Kc hx sm fun y H4 s4 ry=>kk y H4 (s4 _ _ e3) ⟨by simp[e1],(sm.trans s4).upd hl,upd_same,fun j z hz=>?_⟩;have t4:=SameT.upd (ys:=acc++[y]) (s4 _ _ e3);rcases Nat.lt_trichotomy j acc.length with h|h|h
  ·rw[List.getElem?_append_left h]at hz
   exact hR _ _ _ _ (s4.t.trans t4) (hr j z hz)
  ·subst h
   rw[List.getElem?_append_right (Nat.le_refl _),Nat.sub_self]at hz;cases hz;rw[e1];exact hR _ _ _ _ t4 ry
  ·rw[List.getElem?_eq_none (by simp;omega)]at hz
   cases hz
 ·rintro acc H2 ⟨e1,sm,e3,hr⟩
  exact hd l acc H2 hl sm e3 e1 hr
theorem nice_int:qL "int":=.inl rfl
theorem nice_bool:qL "bool":=.inr (.inl rfl)
theorem nice_tuple:qL "tuple":=.inr (.inr (.inl rfl))
theorem nice_list:qL "list":=.inr (.inr (.inr (.inl rfl)))
theorem nice_str:qL "str":=.inr (.inr (.inr (.inr rfl)))
end L2
namespace L2
open PySem PySem.Spec PyProof.Rows
section
variable {X:Cx} {pos:Pos} {es:List Expr} {ta:TA}
inductive IZ (f:List V->HO) (xs:List V) (H1:Hp) (Q:VK):Prop
 | mk (z:xs.length≤sizeLine) (q:∀p H2,Same H1 H2->H2 p=some (f xs)->H1 p=none->Q (.ref p) H2):IZ f xs H1 Q
def tP(t:TA):TE:=fun σ H Q=>t σ H fun xs H1=>IZ .tup xs H1 Q
def yG(t:TA):TE:=fun σ H Q=>t σ H fun xs H1=>IZ .lst xs H1 Q
theorem aG{x1}(h:PA X es ta):PE X (.Tuple es x1 pos) (tP ta):=by
 intro pins s σ H Q I hq;refine wpAny_Tuple_spliced (thn (h pos pins s σ H _ I hq) fun us s1 ⟨xs,H1,I1,r,z,q⟩=>⟨by rw[<- r.length];exact z,?_⟩);have hf:H1 s1.heap.objs.size=none:=I1.hok.fresh (Nat.le_refl _);refine⟨.ref s1.heap.objs.size,upd H1 s1.heap.objs.size (.tup xs),I1.laid (t':=s1.toks) (fun b u e=>Heap.get?_push_of_some _ e) (Nat.le_refl _) ?_,rfl,q _ _ (Same.new hf) upd_same hf⟩;exact⟨z,us,r,⟨_,Heap.get?_push_size _ rfl,rfl,_,rfl⟩⟩
theorem cu(h:PA X es ta):PE X (.List es pos) (yG ta):=by
 intro pins s σ H Q I hq;refine wpAny_List_spliced (thn (h pos pins s σ H _ I hq) fun us s1 ⟨xs,H1,I1,r,z,q⟩=>⟨by rw[<- r.length];exact z,?_⟩);have hf:H1 s1.heap.objs.size=none:=I1.hok.fresh (Nat.le_refl _);refine⟨.ref s1.heap.objs.size,upd H1 s1.heap.objs.size (.lst xs),I1.laid (t':=s1.toks) (fun b u e=>Heap.get?_push_of_some _ e) (Nat.le_refl _) ?_,rfl,q _ _ (Same.new hf) upd_same hf⟩;exact⟨z,us,0,r,Heap.get?_push_size _ rfl⟩
inductive IJ (K:W.Frag) (x:V) (lo:Option Int) (hi:Option Int) (H:Hp) (Q:VK):Prop
 | mk:∀a xs,(x = .ref a)->(SqL K H a xs)->(∀p H2,Same H H2->H2 p=some (.lst (ja xs lo hi))->H p=none->Q (.ref p) H2)->IJ K x lo hi H Q
theorem eF:SlR X (IJ X.K):=fun pins s σ H x v vl vu lo hi sl Q I rx hs pl pu ⟨a,xs,e,hx,q⟩ =>
 vL pins s σ H x v vl vu lo hi sl Q I rx hs pl pu ⟨a,xs,e,hx,fun p hp=>q p _ (Same.new hp) upd_same hp⟩
inductive Iq (x:V) (y:V) (H:Hp) (Q:VK):Prop
 | mk:∀l b xs zs,(x = .ref l)->(y = .ref b)->(H l=some (.lst xs))->(H b=some (.lst zs))->(xs.length+zs.length≤sizeLine)->(∀p H2,Same H H2->H2 p=some (.lst (xs++zs))->H p=none->Q (.ref p) H2)->Iq x y H Q
theorem jB:OpR X (binaryOp .Add) Iq:=fun pins s σ H x y v u Q I rx ry ⟨l,b,xs,zs,e1,e2,h1,h2,hz,q⟩ =>
 xO pins s σ H x y v u Q I rx ry ⟨l,b,xs,zs,e1,e2,h1,h2,hz,fun p hp=>q p _ (Same.new hp) upd_same hp⟩
inductive IK (x:V) (y:V) (H:Hp) (Q:VK):Prop
 | mk:∀l k xs,(x = .ref l)->(y = .int k)->(H l=some (.lst xs))->(-(2^63)≤k)->(k<2^63)->(xs.length*k.toNat≤sizeLine)->(∀p H2,Same H H2->H2 p=some (.lst (List.replicate k.toNat xs).flatten)->H p=none->Q (.ref p) H2)->IK x y H Q
theorem vV:OpR X (binaryOp .Mult) IK:=fun pins s σ H x y v u Q I rx ry ⟨l,k,xs,e1,e2,h1,h2,h3,hz,q⟩ =>
 xM pins s σ H x y v u Q I rx ry ⟨l,k,xs,e1,e2,h1,h2,h3,hz,fun p hp=>q p _ (Same.new hp) upd_same hp⟩
theorem gW:dX X (.type "list") (fun xs H Q=>∃p ys,xs = [.ref p]∧(SqL X.K H p ys∨SqT X.K H p ys)∧∀l H2,Same H H2->H2 l=some (.lst ys)->H l=none->Q (.ref l) H2):=fun pins s σ H xs us Q I r ⟨p,ys,e,hq,q⟩ =>
 nE pins s σ H xs us Q I r ⟨p,ys,e,hq,fun l hl=>q l _ (Same.new hl) upd_same hl⟩
structure GP(H H':Hp)(l:Addr)(xs ys:List V):Prop where
 was:H l=some (.lst xs)
 now:H' l=some (.lst ys)
 oth:∀b,b≠l->H' b=H b
theorem GP.mk'{H:Hp}{l:Addr}{xs ys:List V}(h:H l=some (.lst xs)):GP H (L2.upd H l (.lst ys)) l xs ys:=⟨h,upd_same,fun _ n=>bi n⟩
theorem GP.t{H H':Hp}{l:Addr}{xs ys:List V}(u:GP H H' l xs ys):SameT H H':=fun b zs e=>by
 rw[u.oth b (uq e u.was (by intro z;cases z))];exact e
theorem GP.same{H0 H H':Hp}{l:Addr}{xs ys:List V}(u:GP H H' l xs ys)(s:Same H0 H)(h:H0 l=none):Same H0 H':=fun b o e=>by
 rw[u.oth b (aS e h)];exact s b o e
theorem GP.at{H H':Hp}{l b:Addr}{xs ys:List V}{o:HO}(u:GP H H' l xs ys)(n:b≠l)(e:H b=some o):H' b=some o:=by
 rw[u.oth b n];exact e
inductive FH (x:V) (vs:List V) (H:Hp) (Q:VK):Prop
 | mk:∀l xs y,(x = .ref l)->(vs = [y])->(H l=some (.lst xs))->(xs.length<sizeLine)->(∀H',GP H H' l xs (xs++[y])->Q .non H')->FH x vs H Q
theorem eK:MtM X "list.append" FH:=fun pins s σ H x xs v us Q I rx rs ⟨l,ys,y,e1,e2,h,hz,q⟩ =>
 gB pins s σ H x xs v us Q I rx rs ⟨l,ys,y,e1,e2,h,hz,q _ (.mk' h)⟩
inductive Il (o:V) (i:V) (v:V) (H:Hp) (Q:(Hp->Prop)):Prop
 | mk:∀p xs k j,(o = .ref p)->(i = .int k)->(H p=some (.lst xs))->(ixN xs.length k=some j)->(∀H',GP H H' p xs (xs.set j v)->Q H')->Il o i v H Q
theorem ff:yx X Il:=fun pins s σ H o i v uo ui uv Q I ro ri rv ⟨p,xs,k,j,e1,e2,h,hj,q⟩ =>
 tW pins s σ H o i v uo ui uv Q I ro ri rv ⟨p,xs,k,j,e1,e2,h,hj,q _ (.mk' h)⟩
end
end L2
namespace L2
open PySem PySem.Spec PyProof.Rows
theorem xV{K:W.Frag}{H:Hp}{l:Addr}{xs:List V}{i:Int}{Q:VK}(e:H l=some (.lst xs))(h0:0≤i)(h1:i<(xs.length:Int))(h:∀v∈xs,Q v H):Im K (.ref l) (.int i) H Q:=by
 obtain⟨v,hv,mv⟩:=Sp1.atI_mem h0 h1;exact⟨l,xs,i,v,rfl,rfl,SqL.of e,hv,h v mv⟩
theorem fI{α:Type}{xs:List α}(h:xs.length=3):∃a b c,xs = [a,b,c]:=match xs,h with | [a,b,c],_=>⟨a,b,c,rfl⟩
theorem cO{α:Type}{xs:List α}(h:xs.length=2):∃a b,xs = [a,b]:=match xs,h with | [a,b],_=>⟨a,b,rfl⟩
theorem ir{α:Type}{xs:List α}(h:xs.length=4):∃a b c d,xs = [a,b,c,d]:=match xs,h with | [a,b,c,d],_=>⟨a,b,c,d,rfl⟩
theorem uN{α:Type}{xs:List α}(h:xs.length=5):∃a b c d e,xs = [a,b,c,d,e]:=match xs,h with | [a,b,c,d,e],_=>⟨a,b,c,d,e,rfl⟩
theorem len6{α:Type}{xs:List α}(h:xs.length=6):∃a b c d e f,xs = [a,b,c,d,e,f]:=match xs,h with | [a,b,c,d,e,f],_=>⟨a,b,c,d,e,f,rfl⟩
end L2
namespace L2
open PySem PySem.Spec PyProof.Rows
section
variable {X:Cx} {pins:List (Addr×Obj)} {σ:St} {H:Hp} {s:Shared}
theorem zT.turnedL{h':Heap}{t':Nat}{ch:List Addr}(I:zT X pins σ H s)(k:∀b o,b∉ch->s.heap.get? b=some o->h'.get? b=some o)(hf:∀b∈ch,eQ X pins H b):zT X pins σ H { s with heap:=h',toks:=t' }:=by
 have nit:∀b u,H b=some u->b∉ch:=fun b u e z=>by
  have n:=(hf b z).1;rw[n]at e;cases e
 refine I.step (g':=s.gens) (d':=s.drawn) (ch:=ch) (fun b hb=>?_) (fun b o _ _ hc e _=>k b o hc e) (fun b o _ _ hc e _=>⟨o.slots,k b o hc e⟩) (fun _ _ _ _ n=>n)
  (fun b o hc e=>⟨o,k b o hc e⟩) (fun _ _ e=>e) (fun _ _ _ e=>e) (fun b ps e=>⟨#[],by rw[e];simp⟩) (fun m hm=>?_) (fun b u e=>?_) I.bare
 ·obtain⟨f0,f1,f2,f3,f4,f5⟩:=hf b hb
  exact⟨f3,f1,f4,f5⟩
 ·obtain⟨o,es,ep,ho,r⟩:=hm
  exact⟨o,es,ep,k _ o (fun z=>(hf _ z).2.1 rfl) ho,r⟩
 ·refine(I.hok b u e).stay (fun c v hc q=>k c v ?_ q) (fun _ q=>q) fun _ _ q=>q
  rcases hc with z|z
  ·rw[z];exact nit b u e
  ·exact nit c _ z
theorem lq{E:Value->Shared->Prop}{elts:List Expr}{kt:Nat}{pos:Pos}{i n:Nat}{z:Addr}{fpw wr:List Addr}{Pt:Nat->Array Value->Prop}{Stt:Nat->Heap->Prop}{Mid:Nat->Addr->Heap->Prop}{R:Value->Shared->Prop}
  (W:WalksT X.prog X.w X.A z fpw wr n Pt Stt Mid) (I:zT X pins σ H s) (hwr:∀b∈wr,eQ X pins H b) (hi:i<n) (st:Stt i s.heap)
  (k:∀T vals s2,Pt i vals->s.heap.objs.size≤T->s2.heap.IsTuple T vals->Stt (i+1) s2.heap->zT X pins σ H s2->(∀b o,b∉wr->s.heap.get? b=some o->s2.heap.get? b=some o)->R (.ref T) s2) :
  wpAny (model X.prog X.w) X.A (pyNext (.ref z)) (fun r s1=>∃u,r=some u∧wpAny (model X.prog X.w) X.A (letOwnedTupleGo (.Tuple elts kt pos) (.ref z) u) (fun _ s2=>R u s2) E s1) E s:=by
 refine W.item i s _ E hi st fun T vals h' tk hp hT tup mid kk=>⟨.ref T,rfl,?_⟩;refine W.go elts kt pos i T _ _ E mid fun h2 st2 k2=>?_;have kall:∀b o,b∉wr->s.heap.get? b=some o->h2.get? b=some o:=fun b o hb e=>k2 b o hb (kk b o hb e);obtain⟨o,eo,ro⟩:=tup;exact k T vals _ hp hT ⟨o,k2 T o (W.apart i T _ mid) eo,ro⟩ st2 (I.turnedL (t':=tk) kall hwr) kall
theorem lr{T:Addr}{s2:Shared}{xs:List V}{us:List Value}(I:zT X pins σ H s)(J:zT X pins σ H s2)(hT:s.heap.objs.size≤T)(ht:s2.heap.IsTuple T us.toArray)(r:aO xs us)(hz:xs.length≤sizeLine):zT X pins σ (upd H T (.tup xs)) s2∧H T=none:=by
 have hn:H T=none:=I.hok.fresh hT;obtain⟨f0,f1,f2,f3,f4,f5⟩:=I.fpOk hT hn;refine⟨J.track hn ?_ f1 f4 f5 ⟨hz,us,r,ht⟩,hn⟩;cases e:X.s₀.heap.get? T with
 | none=>rfl
 | some o =>
  have h1:=Heap.lt_size e;have h2:=I.sz;exact absurd (Nat.lt_of_lt_of_le h1 (Nat.le_trans h2 hT)) (Nat.lt_irrefl _)
end
def Itz(K:W.Frag)(l1 l2:Addr):It :=
  ⟨fun i H=>∃xs ys x y,SqL K H l1 xs∧SqL K H l2 ys∧xs[i]? = some x∧ys[i]? = some y,
   fun i H v H'=>∃p x y,v = .ref p∧H p=none∧H'=upd H p (.tup [x,y])∧∀xs ys,SqL K H l1 xs->SqL K H l2 ys->xs[i]? = some x∧ys[i]? = some y,
   fun i H=>∃xs ys,SqL K H l1 xs∧SqL K H l2 ys∧i=min xs.length ys.length⟩
def Ite(K:W.Frag)(l:Addr):It :=
  ⟨fun i H=>∃xs x,SqL K H l xs∧xs[i]? = some x,
   fun i H v H'=>∃p x,v = .ref p∧H p=none∧H'=upd H p (.tup [.int (i:Int),x])∧∀xs,SqL K H l xs->xs[i]? = some x,
   fun i H=>∃xs,SqL K H l xs∧i=xs.length⟩
theorem tI{P:Program}{w:World}{K:W.Frag}{elts:List Expr}{kt:Nat}{pos:Pos}(z TI TO i1 i2 l1 l2:Addr)(D:ZipApart z TI TO i1 i2 l1 l2) :
  Gx P w K (.Tuple elts kt pos) (Itz K l1 l2) [z,TI,TO,i1,i2] z (fun i h=>IsZip h z TI TO .none∧IsPair h TI (.ref i1) (.ref i2)∧(∃a b,IsPair h TO a b)∧h.IsListIter i1 l1 i∧h.IsListIter i2 l2 i) where
 mem:=by simp
 obj:=fun i h st b hb=>by
  obtain⟨hz,hTI,⟨a,c,hTO⟩,⟨o1,e1,c1,d1⟩,⟨o2,e2,c2,d2⟩⟩:=st;simp only[List.mem_cons,List.not_mem_nil,or_false]at hb;rcases hb with rfl|rfl|rfl|rfl|rfl
  ·exact⟨_,hz,fun v y=>by cases y⟩
  ·exact⟨_,hTI,fun v y=>by cases y⟩
  ·exact⟨_,hTO,fun v y=>by cases y⟩
  ·exact⟨o1,e1,fun v y=>by rw[d1]at y;cases y⟩
  ·exact⟨o2,e2,fun v y=>by rw[d2]at y;cases y⟩
 keep:=fun i h h' st k=>by
  obtain⟨hz,hTI,⟨a,c,hTO⟩,h1,h2⟩:=st;exact⟨k z (by simp) _ hz,k TI (by simp) _ hTI,⟨a,c,k TO (by simp) _ hTO⟩,h1.at fun o e=>k i1 (by simp) o e,h2.at fun o e=>k i2 (by simp) o e⟩
 item:=by
  intro X hP hw hK hc i pins s σ H E I hf st hg;subst hP hw hK;obtain⟨xs,ys,x,y,q1,q2,hx,hy⟩:=hg;obtain⟨its,r1,p1,_⟩:=I.list q1;obtain⟨jts,r2,p2,_⟩:=I.list q2;obtain⟨u1,hu1,ru1⟩:=r1.get hx;obtain⟨u2,hu2,ru2⟩:=r2.get hy;have W:=WalksT.zip2 (prog:=X.prog) (w:=X.w) (I.ok.hd hc) z TI TO i1 i2 l1 l2 D its.toArray jts.toArray;have hn:i<min its.toArray.size jts.toArray.size:=by
   have g1:=(List.getElem?_eq_some_iff.mp hu1).1;have g2:=(List.getElem?_eq_some_iff.mp hu2).1;simp only[List.size_toArray];omega
  obtain⟨hz,hTI,hTO,h1,h2⟩:=st;refine lq W I (fun b hb=>hf b (by simp at hb ⊢;rcases hb with h|h|h|h <;> simp[h])) hn ⟨hz,hTI,hTO,h1,h2,p1.isList,p2.isList⟩ fun T vals s2 hp hT tup st2 J2 kall=>?_;obtain⟨v1,v2,e1,e2,rfl⟩:=hp;have e1':its[i]? = some v1:=by simpa using e1
  have e2':jts[i]? = some v2:=by simpa using e2
  rw[hu1]at e1';rw[hu2]at e2';cases e1';cases e2';obtain⟨J3,nT⟩:=lr (xs:=[x,y]) (us:=[u1,u2]) I J2 hT tup (.cons ru1 (.cons ru2 .nil)) (Sp1.sz (by simp));obtain⟨hz2,hTI2,hTO2,h12,h22,_,_⟩:=st2;refine⟨.ref T,upd H T (.tup [x,y]),J3,rfl,⟨T,x,y,rfl,nT,rfl,fun as bs qa qb=>?_⟩,⟨hz2,hTI2,hTO2,h12,h22⟩,fun b hb=>?_⟩
  ·rw[I.list_inj qa q1,I.list_inj qb q2]
   exact⟨hx,hy⟩
  ·have hb':∃o,s.heap.get? b=some o:=by
    obtain⟨a,c,hTO⟩:=hTO;obtain⟨o1,e1,_⟩:=h1;obtain⟨o2,e2,_⟩:=h2;simp only[List.mem_cons,List.not_mem_nil,or_false]at hb;rcases hb with rfl|rfl|rfl|rfl|rfl
    ·exact⟨_,hz⟩
    ·exact⟨_,hTI⟩
    ·exact⟨_,hTO⟩
    ·exact⟨_,e1⟩
    ·exact⟨_,e2⟩
   obtain⟨o,eo⟩:=hb';rw[bi (Nat.ne_of_lt (Nat.lt_of_lt_of_le (Heap.lt_size eo) hT))];exact(hf b hb).1
 done:=by
  intro X hP hw hK hc i pins s σ H E I hf st hg;subst hP hw hK;obtain⟨xs,ys,q1,q2,rfl⟩:=hg;obtain⟨its,r1,p1,_⟩:=I.list q1;obtain⟨jts,r2,p2,_⟩:=I.list q2;have W:=WalksT.zip2 (prog:=X.prog) (w:=X.w) (I.ok.hd hc) z TI TO i1 i2 l1 l2 D its.toArray jts.toArray;obtain⟨hz,hTI,hTO,h1,h2⟩:=st;have el:min its.toArray.size jts.toArray.size=min xs.length ys.length:=by
   rw[List.size_toArray,List.size_toArray,r1.length,r2.length]
  refine W.done s _ E ?_ fun h' tk kk=>⟨rfl,I.turnedL (t':=tk) kk fun b hb=>hf b (by simp at hb ⊢;rcases hb with h|h|h|h <;> simp[h])⟩;rw[el];exact⟨hz,hTI,hTO,h1,h2,p1.isList,p2.isList⟩
 self:=fun _ _ _ _ _ st h=>wpAny_pyIter_zip st.1 h
theorem sk{P:Program}{w:World}{K:W.Frag}{elts:List Expr}{kt:Nat}{pos:Pos}(e it l:Addr)(hei:e≠it)(hle:l≠e)(hli:l≠it) :
  Gx P w K (.Tuple elts kt pos) (Ite K l) [e,it] e (fun i h=>(∃old,IsEnum h e it i old)∧h.IsListIter it l i) where
 mem:=by simp
 obj:=fun i h st b hb=>by
  obtain⟨⟨old,he⟩,⟨o1,e1,c1,d1⟩⟩:=st;simp only[List.mem_cons,List.not_mem_nil,or_false]at hb;rcases hb with rfl|rfl
  ·exact⟨_,he,fun v y=>by cases y⟩
  ·exact⟨o1,e1,fun v y=>by rw[d1]at y;cases y⟩
 keep:=fun i h h' st k=>by
  obtain⟨⟨old,he⟩,h1⟩:=st;exact⟨⟨old,k e (by simp) _ he⟩,h1.at fun o x=>k it (by simp) o x⟩
 item:=by
  intro X hP hw hK hc i pins s σ H E I hf st hg;subst hP hw hK;obtain⟨xs,x,q1,hx⟩:=hg;obtain⟨its,r1,p1,_⟩:=I.list q1;obtain⟨u1,hu1,ru1⟩:=r1.get hx;have W:=WalksT.enumerate (prog:=X.prog) (w:=X.w) (I.ok.hd hc) e it l hei hle hli its.toArray;have hn:i<its.toArray.size:=by
   have g1:=(List.getElem?_eq_some_iff.mp hu1).1;simp only[List.size_toArray];omega
  obtain⟨he,h1⟩:=st;refine lq W I (fun b hb=>hf b (by simpa using hb)) hn ⟨he,h1,p1.isList⟩ fun T vals s2 hp hT tup st2 J2 kall=>?_;obtain⟨tk,v1,e1,rfl⟩:=hp;have e1':its[i]? = some v1:=by simpa using e1
  rw[hu1]at e1';cases e1';obtain⟨J3,nT⟩:=lr (xs:=[.int (i:Int),x]) (us:=[.int i tk,u1]) I J2 hT tup (.cons ⟨_,rfl⟩ (.cons ru1 .nil)) (Sp1.sz (by simp));obtain⟨he2,h12,_⟩:=st2;refine⟨.ref T,upd H T (.tup [.int (i:Int),x]),J3,rfl,⟨T,x,rfl,nT,rfl,fun as qa=>?_⟩,⟨he2,h12⟩,fun b hb=>?_⟩
  ·rw[I.list_inj qa q1]
   exact hx
  ·have hb':∃o,s.heap.get? b=some o:=by
    obtain⟨old,he⟩:=he;obtain⟨o1,e1,_⟩:=h1;simp only[List.mem_cons,List.not_mem_nil,or_false]at hb;rcases hb with rfl|rfl
    ·exact⟨_,he⟩
    ·exact⟨_,e1⟩
   obtain⟨o,eo⟩:=hb';rw[bi (Nat.ne_of_lt (Nat.lt_of_lt_of_le (Heap.lt_size eo) hT))];exact(hf b hb).1
 done:=by
  intro X hP hw hK hc i pins s σ H E I hf st hg;subst hP hw hK;obtain⟨xs,q1,rfl⟩:=hg;obtain⟨its,r1,p1,_⟩:=I.list q1;have W:=WalksT.enumerate (prog:=X.prog) (w:=X.w) (I.ok.hd hc) e it l hei hle hli its.toArray;obtain⟨he,h1⟩:=st;refine W.done s _ E ?_ fun h' tk kk=>⟨rfl,I.turnedL (t':=tk) kk fun b hb=>hf b (by simpa using hb)⟩;rw[List.size_toArray,<- r1.length];exact⟨he,h1,p1.isList⟩
 self:=fun _ _ _ _ _ st h=>by
  obtain⟨⟨old,he⟩,_⟩:=st;exact wpAny_pyIter_enum he h
section
variable {X:Cx} {elts:List Expr} {kt:Nat} {tpos:Pos}
def zG(K:W.Frag)(ta:TA):TI:=fun σ H R=>ta σ H fun vs H1=>∃a b,vs = [.ref a,.ref b]∧(∃xs,SqL K H1 a xs)∧(∃ys,SqL K H1 b ys)∧R (Itz K a b) H1
def yY(K:W.Frag)(ta:TA):TI:=fun σ H R=>ta σ H fun vs H1=>∃a,vs = [.ref a]∧(∃xs,SqL K H1 a xs)∧R (Ite K a) H1
theorem ym:bootBuiltins "zip" = some (.type "zip"):=by decide +kernel
theorem nJ:bootBuiltins "enumerate" = some (.type "enumerate"):=by decide +kernel
theorem mE{a b:Expr}{ta:TA}{p pos:Pos}(hg:Gl X "zip")(hm:X.mg "zip" = none)(ha:PA X [a,b] ta)(hs:starEach [a,b] X.env = [(false,eval a X.env),(false,eval b X.env)]:=by rfl)(hs2:starEach [b] X.env = [(false,eval b X.env)]:=by rfl) :
  PI X (.Tuple elts kt tpos) (.Call (.Name "zip" p) [a,b] [] pos) (zG X.K ta):=by
 intro pins s σ H R I h;refine Call_ (fW I hg hm ym (PyProof.Rows.callWith_type1 (thn (ha pos pins s σ H _ I h) fun us s1 ⟨vs,H1,I1,r1,q1⟩=>?_) (by rw[hs,hs2]) (by rw[hs2];rfl)));obtain⟨l1,l2,e,⟨xs,hx⟩,⟨ys,hy⟩,q⟩:=q1;subst e;cases r1 with
 | cons r rr =>
  cases rr with
  | cons r' rr =>
   cases rr;cases r;cases r';obtain⟨its,_,p1,_⟩:=I1.list hx;obtain⟨jts,_,p2,_⟩:=I1.list hy;refine call_zip_2 p1.isList p2.isList fun h' hz hTI hTO hi1 hi2 hsz hk=>?_;refine wpAny_pyIter_zip hz ?_;have a1:l1<s1.heap.objs.size:=by obtain⟨_,e,_⟩:=p1.isList;exact Heap.lt_size e
   have a2:l2<s1.heap.objs.size:=by obtain⟨_,e,_⟩:=p2.isList;exact Heap.lt_size e
   refine⟨s1.heap.objs.size+4,[s1.heap.objs.size+4,s1.heap.objs.size+2,s1.heap.objs.size+3,s1.heap.objs.size,s1.heap.objs.size+1],_,_,H1,rfl,I1.kept (t':=s1.toks) hk,tI _ _ _ _ _ l1 l2 (zipApart_new a1 a2),⟨hz,hTI,⟨_,_,hTO⟩,hi1,hi2⟩,fun b hb=>?_,q⟩;have hb':s1.heap.objs.size≤b:=by
    simp only[List.mem_cons,List.not_mem_nil,or_false]at hb;rcases hb with rfl|rfl|rfl|rfl|rfl <;> omega
   exact I1.fpOk hb' (I1.hok.fresh hb')
theorem qX{a:Expr}{ta:TA}{p pos:Pos}(hg:Gl X "enumerate")(hm:X.mg "enumerate" = none)(ha:PA X [a] ta)(hs:starEach [a] X.env = [(false,eval a X.env)]:=by rfl) :
  PI X (.Tuple elts kt tpos) (.Call (.Name "enumerate" p) [a] [] pos) (yY X.K ta):=by
 intro pins s σ H R I h;refine Call_ (fW I hg hm nJ (PyProof.Rows.callWith_type1 (thn (ha pos pins s σ H _ I h) fun us s1 ⟨vs,H1,I1,r1,q1⟩=>?_) hs rfl));obtain⟨l,e,⟨xs,hx⟩,q⟩:=q1;subst e;cases r1 with
 | cons r rr =>
  cases rr;cases r;obtain⟨its,_,p1,_⟩:=I1.list hx;refine call_enumerate_list p1.isList fun h' he hi hsz hk=>?_;refine wpAny_pyIter_enum he ?_;have a1:l<s1.heap.objs.size:=by obtain⟨_,e,_⟩:=p1.isList;exact Heap.lt_size e
  refine⟨s1.heap.objs.size+1,[s1.heap.objs.size+1,s1.heap.objs.size],_,_,H1,rfl,I1.kept (t':=s1.toks) hk,sk _ _ l (Nat.succ_ne_self _) (Nat.ne_of_lt (Nat.lt_succ_of_lt a1)) (Nat.ne_of_lt a1),⟨⟨_,he⟩,hi⟩,fun b hb=>?_,q⟩;have hb':s1.heap.objs.size≤b:=by
   simp only[List.mem_cons,List.not_mem_nil,or_false]at hb;rcases hb with rfl|rfl <;> omega
  exact I1.fpOk hb' (I1.hok.fresh hb')
end
theorem mO{K:W.Frag}{a b:Addr}{xs ys:List V}{g:TG}{tb:TS}{D:ee}{σ:St}{H:Hp}(Pv:Nat->St->Hp->Prop)(h0:Pv 0 σ H)(hl:∀i σ H,i≤min xs.length ys.length->Pv i σ H->SqL K H a xs∧SqL K H b ys)
  (hs:∀i x y p σ H H1,xs[i]? = some x->ys[i]? = some y->Pv i σ H->Same H H1->H1 p=some (.tup [x,y])->g (.ref p) σ H1 fun σ2 H2=>tb { D with nx:=Pv (i+1),ct:=Pv (i+1),bk:=D.nx } σ2 H2) (hd:∀σ H,Pv (min xs.length ys.length) σ H->D.nx σ H) :
  ∃W:Nat->Nat->St->Hp->Prop,(∃m,W 0 m σ H)∧∀i m σ H,W i m σ H ->
   ((Itz K a b).stop i H∧D.nx σ H)∨((Itz K a b).go i H∧∃N:St->Hp->Prop,(∀σ' H',N σ' H'->∃m',m'<m∧W (i+1) m' σ' H')∧∀x H',(Itz K a b).yld i H x H'->g x σ H' fun σ2 H2=>tb { D with nx:=N,ct:=N,bk:=D.nx } σ2 H2):=by
 refine⟨fun i m σ H=>m=min xs.length ys.length - i∧i≤min xs.length ys.length∧Pv i σ H,⟨_,rfl,Nat.zero_le _,h0⟩,?_⟩;rintro i m σ H ⟨rfl,hi,p⟩;obtain⟨q1,q2⟩:=hl i σ H hi p
 by_cases hlt:i<min xs.length ys.length
 ·have h1:i<xs.length:=by omega
  have h2:i<ys.length:=by omega
  refine .inr ⟨⟨xs,ys,xs[i],ys[i],q1,q2,by simp[h1],by simp[h2]⟩,Pv (i+1),fun σ' H' p'=>⟨_,by omega,rfl,hlt,p'⟩,fun v H' y=>?_⟩;obtain⟨t,x,y,rfl,nt,rfl,e⟩:=y;obtain⟨e1,e2⟩:=e xs ys q1 q2;exact hs i x y t σ H _ e1 e2 p (Same.new nt) upd_same
 ·have e:i=min xs.length ys.length:=by omega
  subst e;exact .inl ⟨⟨xs,ys,q1,q2,rfl⟩,hd σ H p⟩
theorem oN{K:W.Frag}{a:Addr}{xs:List V}{g:TG}{tb:TS}{D:ee}{σ:St}{H:Hp}(Pv:Nat->St->Hp->Prop)(h0:Pv 0 σ H)(hl:∀i σ H,i≤xs.length->Pv i σ H->SqL K H a xs)
  (hs:∀i x p σ H H1,xs[i]? = some x->Pv i σ H->Same H H1->H1 p=some (.tup [.int (i:Int),x])->g (.ref p) σ H1 fun σ2 H2=>tb { D with nx:=Pv (i+1),ct:=Pv (i+1),bk:=D.nx } σ2 H2) (hd:∀σ H,Pv xs.length σ H->D.nx σ H) :
  ∃W:Nat->Nat->St->Hp->Prop,(∃m,W 0 m σ H)∧∀i m σ H,W i m σ H ->
   ((Ite K a).stop i H∧D.nx σ H)∨((Ite K a).go i H∧∃N:St->Hp->Prop,(∀σ' H',N σ' H'->∃m',m'<m∧W (i+1) m' σ' H')∧∀x H',(Ite K a).yld i H x H'->g x σ H' fun σ2 H2=>tb { D with nx:=N,ct:=N,bk:=D.nx } σ2 H2):=by
 refine⟨fun i m σ H=>m=xs.length - i∧i≤xs.length∧Pv i σ H,⟨_,rfl,Nat.zero_le _,h0⟩,?_⟩;rintro i m σ H ⟨rfl,hi,p⟩;have q1:=hl i σ H hi p
 by_cases hlt:i<xs.length
 ·refine .inr ⟨⟨xs,xs[i],q1,by simp[hlt]⟩,Pv (i+1),fun σ' H' p'=>⟨_,by omega,rfl,hlt,p'⟩,fun v H' y=>?_⟩
  obtain⟨t,x,rfl,nt,rfl,e⟩:=y;exact hs i x t σ H _ (e xs q1) p (Same.new nt) upd_same
 ·have e:i=xs.length:=by omega
  subst e;exact .inl ⟨⟨xs,q1,rfl⟩,hd σ H p⟩
end L2
namespace L2
open PySem PySem.Spec PyProof.Rows
inductive D where
 | non|bl (b:Bool)|int (i:Int)|str (x:Str)|tup (ds:List D)|lst (ds:List D)
inductive Rp (H:Hp):Nat->V->D->Prop where
 | non {n:Nat}:Rp H n .non .non
 | bl {n:Nat} {b:Bool}:Rp H n (.bl b) (.bl b)
 | int {n:Nat} {i:Int}:Rp H n (.int i) (.int i)
 | str {n:Nat} {x:Str}:Rp H n (.str x) (.str x)
 | tup {n:Nat} {p:Addr} {xs:List V} {ds:List D} (e:H p=some (.tup xs)) (hl:xs.length=ds.length) (h:∀(j:Nat) x d,xs[j]? = some x->ds[j]? = some d->Rp H n x d):Rp H (n+1) (.ref p) (.tup ds)
 | lst {n:Nat} {p:Addr} {xs:List V} {ds:List D} (e:H p=some (.lst xs)) (hl:xs.length=ds.length) (h:∀(j:Nat) x d,xs[j]? = some x->ds[j]? = some d->Rp H n x d):Rp H (n+1) (.ref p) (.lst ds)
mutual
def deq:D->D->Bool
 | .non,.non=>true
 | .bl a,.bl b=>a == b
 | .bl a,.int b=>(if a then 1 else 0) == b
 | .int a,.bl b=>a == (if b then 1 else 0)
 | .int a,.int b=>a == b
 | .str a,.str b=>a == b
 | .tup xs,.tup ys=>gO xs ys
 | .lst xs,.lst ys=>gO xs ys
 | _,_=>false
def gO:List D->List D->Bool
 | [],[]=>true
 | x::xs,y::ys=>deq x y && gO xs ys
 | _,_=>false
end
theorem fz:∀(ds es:List D),((List.range (min ds.length es.length)).all (fun j=>deq (ds.getD j .non) (es.getD j .non)) && ds.length == es.length)=gO ds es
 | [],[]=>by simp[gO]
 | [],e::es=>by simp[gO]
 | d::ds,[]=>by simp[gO]
 | d::ds,e::es=>by
  have ih:=fz ds es;have hm:min (d::ds).length (e::es).length=min ds.length es.length+1:=by simp only[List.length_cons];omega
  rw[hm,List.range_succ_eq_map,List.all_cons,List.all_map];simp only[gO,List.getD_cons_zero,List.length_cons];rw[<- ih,Bool.and_assoc]
  congr 1
  simp[Function.comp_def]
theorem kv{ds es:List D}(h:ds.length≠es.length):gO ds es=false:=by
 rw[<- fz];simp[h]
theorem gE{ds es:List D}(h:ds.length=es.length):(List.range ds.length).all (fun j=>deq (ds.getD j .non) (es.getD j .non))=gO ds es:=by
 rw[<- fz,h];simp
theorem rO{ds es:List D}(hl:ds.length=es.length)(h:∀(j:Nat) d e,ds[j]? = some d->es[j]? = some e->deq d e=true):gO ds es=true:=by
 rw[<- gE hl,List.all_eq_true];intro j hj;have hj':j<ds.length:=List.mem_range.mp hj;have hj2:j<es.length:=by omega
 have e1:ds[j]? = some ds[j]:=List.getElem?_eq_getElem hj';have e2:es[j]? = some es[j]:=List.getElem?_eq_getElem hj2;rw[List.getD_eq_getElem?_getD,List.getD_eq_getElem?_getD,e1,e2];exact h j _ _ e1 e2
theorem kf{α β:Type}{xs:List α}{ds:List β}{j:Nat}{d:β}(hl:xs.length=ds.length)(h:ds[j]? = some d):∃x,xs[j]? = some x:=by
 have:=(List.getElem?_eq_some_iff.mp h).1;exact⟨xs[j],List.getElem?_eq_getElem (by omega)⟩
theorem Rp.self{H:Hp}{n m:Nat}{v:V}{d e:D}(r:Rp H n v d)(q:Rp H m v e):deq d e=true:=by
 induction r generalizing m e with
 | non=>cases q;rfl
 | bl=>cases q;simp[deq]
 | int=>cases q;simp[deq]
 | str=>cases q;simp[deq]
 | tup e1 hl h ih =>
  cases q with
  | tup e2 hl2 h2 =>
   rw[e1]at e2;cases e2;refine rO (by omega) fun j a b ea eb=>?_;obtain⟨x,hx⟩:=kf hl ea;exact ih j x a hx ea (h2 j x b hx eb)
  | lst e2 hl2 h2=>rw[e1]at e2;cases e2
 | lst e1 hl h ih =>
  cases q with
  | tup e2 hl2 h2=>rw[e1]at e2;cases e2
  | lst e2 hl2 h2 =>
   rw[e1]at e2;cases e2;refine rO (by omega) fun j a b ea eb=>?_;obtain⟨x,hx⟩:=kf hl ea;exact ih j x a hx ea (h2 j x b hx eb)
section
variable {X:Cx} {pins:List (Addr×Obj)} {σ:St} {H:Hp} {s:Shared}
theorem gD{A:Around}{xs ys:List V}{us ws:List Value}{ds es:List D}(r:aO xs us)(r':aO ys ws)(hl:xs.length=ds.length)(hl':ys.length=es.length)
  (h:∀(j:Nat) x y d e u w,xs[j]? = some x->ys[j]? = some y->ds[j]? = some d->es[j]? = some e->bO x u->bO y w->SeqAt.EqAt A s u w (deq d e))
  (j:Nat) (h1:j<us.toArray.size) (h2:j<ws.toArray.size):SeqAt.EqAt A s us.toArray[j] ws.toArray[j] (deq (ds.getD j .non) (es.getD j .non)):=by
 rw[List.size_toArray]at h1 h2;obtain⟨a,ea,ra⟩:=qN r h1;obtain⟨c,ec,rc⟩:=qN r' h2;have g1:=(List.getElem?_eq_some_iff.mp ea).1;have g2:=(List.getElem?_eq_some_iff.mp ec).1;have e1:ds[j]? = some ds[j]:=List.getElem?_eq_getElem (by omega);have e2:es[j]? = some es[j]:=List.getElem?_eq_getElem (by omega);rw[List.getD_eq_getElem?_getD,List.getD_eq_getElem?_getD,e1,e2];exact h j a c _ _ _ _ ea ec e1 e2 ra rc
theorem Rp.eqAt{n:Nat}{x:V}{d:D}(r:Rp H n x d):∀{m:Nat} {y:V} {e:D} {A:Around} {u v:Value},Rp H m y e->zT X pins σ H s->bO x u->bO y v->A.units+n<cLine->SeqAt.EqAt A s u v (deq d e):=by
 induction r with
 | non =>
  intro m y e A u v q I ru rv hu;cases ru;cases q with
  | non=>cases rv;exact SeqAt.EqAt.same _
  | bl=>cases rv;exact SeqAt.EqAt.none_bool _
  | int=>obtain⟨_,rfl⟩:=rv;exact SeqAt.EqAt.none_int _ _
  | str=>obtain⟨_,rfl⟩:=rv;exact SeqAt.EqAt.none_str _ _
  | tup e1 hl h=>cases rv;obtain⟨its,_,pl,_⟩:=I.tuple (SqT.of e1);exact SeqAt.EqAt.none_tuple pl (by omega)
  | lst e1 hl h=>cases rv;obtain⟨its,_,pl,_⟩:=I.list (SqL.of e1);exact SeqAt.EqAt.none_list pl.isList (by omega)
 | bl =>
  intro m y e A u v q I ru rv hu;cases ru;cases q with
  | non=>cases rv;exact SeqAt.EqAt.bool_none _
  | bl=>cases rv;exact SeqAt.EqAt.bool_bool _ _
  | int=>obtain⟨_,rfl⟩:=rv;exact SeqAt.EqAt.bool_int _ _ _
  | str=>obtain⟨_,rfl⟩:=rv;exact SeqAt.EqAt.bool_str _ _ _
  | tup e1 hl h=>cases rv;obtain⟨its,_,pl,_⟩:=I.tuple (SqT.of e1);exact SeqAt.EqAt.bool_tuple _ pl (by omega)
  | lst e1 hl h=>cases rv;obtain⟨its,_,pl,_⟩:=I.list (SqL.of e1);exact SeqAt.EqAt.bool_list _ pl.isList (by omega)
 | int =>
  intro m y e A u v q I ru rv hu;obtain⟨_,rfl⟩:=ru;cases q with
  | non=>cases rv;exact SeqAt.EqAt.int_none _ _
  | bl=>cases rv;exact SeqAt.EqAt.int_bool _ _ _
  | int=>obtain⟨_,rfl⟩:=rv;exact SeqAt.EqAt.int_int _ _ _ _
  | str=>obtain⟨_,rfl⟩:=rv;exact SeqAt.EqAt.int_str _ _ _ _
  | tup e1 hl h=>cases rv;obtain⟨its,_,pl,_⟩:=I.tuple (SqT.of e1);exact SeqAt.EqAt.int_tuple _ _ pl (by omega)
  | lst e1 hl h=>cases rv;obtain⟨its,_,pl,_⟩:=I.list (SqL.of e1);exact SeqAt.EqAt.int_list _ _ pl.isList (by omega)
 | str =>
  intro m y e A u v q I ru rv hu;obtain⟨_,rfl⟩:=ru;cases q with
  | non=>cases rv;exact SeqAt.EqAt.str_none _ _
  | bl=>cases rv;exact SeqAt.EqAt.str_bool _ _ _
  | int=>obtain⟨_,rfl⟩:=rv;exact SeqAt.EqAt.str_int _ _ _ _
  | str=>obtain⟨_,rfl⟩:=rv;exact SeqAt.EqAt.str_str _ _ _ _
  | tup e1 hl h=>cases rv;obtain⟨its,_,pl,_⟩:=I.tuple (SqT.of e1);exact SeqAt.EqAt.str_tuple _ _ pl (by omega)
  | lst e1 hl h=>cases rv;obtain⟨its,_,pl,_⟩:=I.list (SqL.of e1);exact SeqAt.EqAt.str_list _ _ pl.isList (by omega)
 | @tup n p xs ds e0 hl h ih =>
  intro m y e A u v q I ru rv hu;cases ru;obtain⟨its,r1,pl,_⟩:=I.tuple (SqT.of e0);cases q with
  | non=>cases rv;exact SeqAt.EqAt.tuple_none pl (by omega)
  | bl=>cases rv;exact SeqAt.EqAt.tuple_bool _ pl (by omega)
  | int=>obtain⟨_,rfl⟩:=rv;exact SeqAt.EqAt.tuple_int _ _ pl (by omega)
  | str=>obtain⟨_,rfl⟩:=rv;exact SeqAt.EqAt.tuple_str _ _ pl (by omega)
  | lst e1 hl1 h1=>cases rv;obtain⟨jts,_,pl',_⟩:=I.list (SqL.of e1);exact SeqAt.EqAt.tuple_list pl pl'.isList (by omega)
  | @tup m p' ys es e1 hl1 h1 =>
   cases rv
   by_cases hne:p=p'
   ·subst hne
    have z:deq (.tup ds) (.tup es)=true:=Rp.self (Rp.tup e0 hl h) (Rp.tup e1 hl1 h1);rw[z];exact SeqAt.EqAt.same _
   ·obtain⟨jts,r2,pl',_⟩:=I.tuple (SqT.of e1)
    have y:=SeqAt.RcAt.tuples (A:=A) (e:=fun j=>deq (ds.getD j .non) (es.getD j .non)) pl pl' (by omega) (gD r1 r2 hl hl1 fun j x y d e u w a b c k ra rb=>ih j x d a c (h1 j y e b k) I ra rb (by show A.units+1+n<cLine;omega));rw[List.size_toArray,List.size_toArray,<- r1.length,<- r2.length,hl,hl1,fz]at y;exact SeqAt.EqAt.of_refs hne y
 | @lst n p xs ds e0 hl h ih =>
  intro m y e A u v q I ru rv hu;cases ru;obtain⟨its,r1,pl,_⟩:=I.list (SqL.of e0);cases q with
  | non=>cases rv;exact SeqAt.EqAt.list_none pl.isList (by omega)
  | bl=>cases rv;exact SeqAt.EqAt.list_bool _ pl.isList (by omega)
  | int=>obtain⟨_,rfl⟩:=rv;exact SeqAt.EqAt.list_int _ _ pl.isList (by omega)
  | str=>obtain⟨_,rfl⟩:=rv;exact SeqAt.EqAt.list_str _ _ pl.isList (by omega)
  | tup e1 hl1 h1=>cases rv;obtain⟨jts,_,pl',_⟩:=I.tuple (SqT.of e1);exact SeqAt.EqAt.list_tuple pl.isList pl' (by omega)
  | @lst m p' ys es e1 hl1 h1 =>
   cases rv
   by_cases hne:p=p'
   ·subst hne
    have z:deq (.lst ds) (.lst es)=true:=Rp.self (Rp.lst e0 hl h) (Rp.lst e1 hl1 h1);rw[z];exact SeqAt.EqAt.same _
   ·obtain⟨jts,r2,pl',_⟩:=I.list (SqL.of e1)
    have g1:=r1.length;have g2:=r2.length
    by_cases hz:ds.length=es.length
    ·have y:=SeqAt.RcAt.lists (A:=A) (e:=fun j=>deq (ds.getD j .non) (es.getD j .non)) pl.isList pl'.isList (by rw[List.size_toArray,List.size_toArray];omega) (by omega) (gD r1 r2 hl hl1 fun j x y d e u w a b c k ra rb=>ih j x d a c (h1 j y e b k) I ra rb (by show A.units+1+n<cLine;omega))
     rw[List.size_toArray,<- r1.length,hl,gE hz]at y;exact SeqAt.EqAt.of_refs hne y
    ·rw[show deq (.lst ds) (.lst es)=false from kv hz]
     exact SeqAt.EqAt.of_refs hne (SeqAt.RcAt.lists_lengths pl.isList pl'.isList (by rw[List.size_toArray,List.size_toArray];simp;omega) (by omega))
end
end L2
namespace L2
open PySem PySem.Spec PyProof.Rows
section
variable {X:Cx} {pins:List (Addr×Obj)} {σ:St} {H:Hp} {s:Shared}
theorem Rp.rcAt{A:Around}{n m:Nat}{x y:V}{d e:D}{u v:Value}(r:Rp H n x d)(q:Rp H m y e)(I:zT X pins σ H s)(ru:bO x u)(rv:bO y v)(hu:A.units+n+1<cLine):SeqAt.RcAt A s u v (deq d e):=by
 cases r with
 | non =>
  cases q with
  | non =>
   cases ru;cases rv;exact SeqAt.RcAt.none_none
  | bl =>
   cases ru;cases rv;exact SeqAt.RcAt.none_bool _
  | int =>
   cases ru;obtain⟨_,rfl⟩:=rv;exact SeqAt.RcAt.none_int _ _
  | str =>
   cases ru;obtain⟨_,rfl⟩:=rv;exact SeqAt.RcAt.none_str _ _
  | @tup m p' ys es e1 hl1 h1 =>
   cases ru;cases rv;obtain⟨jts,r2,pl',_⟩:=I.tuple (SqT.of e1);exact SeqAt.RcAt.none_tuple pl' (by omega)
  | @lst m p' ys es e1 hl1 h1 =>
   cases ru;cases rv;obtain⟨jts,r2,pl',_⟩:=I.list (SqL.of e1);exact SeqAt.RcAt.none_list pl'.isList (by omega)
 | bl =>
  cases q with
  | non =>
   cases ru;cases rv;exact SeqAt.RcAt.bool_none _
  | bl =>
   cases ru;cases rv;exact SeqAt.RcAt.bool_bool _ _
  | int =>
   cases ru;obtain⟨_,rfl⟩:=rv;exact SeqAt.RcAt.bool_int _ _ _
  | str =>
   cases ru;obtain⟨_,rfl⟩:=rv;exact SeqAt.RcAt.bool_str _ _ _
  | @tup m p' ys es e1 hl1 h1 =>
   cases ru;cases rv;obtain⟨jts,r2,pl',_⟩:=I.tuple (SqT.of e1);exact SeqAt.RcAt.bool_tuple _ pl' (by omega)
  | @lst m p' ys es e1 hl1 h1 =>
   cases ru;cases rv;obtain⟨jts,r2,pl',_⟩:=I.list (SqL.of e1);exact SeqAt.RcAt.bool_list _ pl'.isList (by omega)
 | int =>
  cases q with
  | non =>
   obtain⟨_,rfl⟩:=ru;cases rv;exact SeqAt.RcAt.int_none _ _
  | bl =>
   obtain⟨_,rfl⟩:=ru;cases rv;exact SeqAt.RcAt.int_bool _ _ _
  | int =>
   obtain⟨_,rfl⟩:=ru;obtain⟨_,rfl⟩:=rv;exact SeqAt.RcAt.int_int _ _ _ _
  | str =>
   obtain⟨_,rfl⟩:=ru;obtain⟨_,rfl⟩:=rv;exact SeqAt.RcAt.int_str _ _ _ _
  | @tup m p' ys es e1 hl1 h1 =>
   obtain⟨_,rfl⟩:=ru;cases rv;obtain⟨jts,r2,pl',_⟩:=I.tuple (SqT.of e1);exact SeqAt.RcAt.int_tuple _ _ pl' (by omega)
  | @lst m p' ys es e1 hl1 h1 =>
   obtain⟨_,rfl⟩:=ru;cases rv;obtain⟨jts,r2,pl',_⟩:=I.list (SqL.of e1);exact SeqAt.RcAt.int_list _ _ pl'.isList (by omega)
 | str =>
  cases q with
  | non =>
   obtain⟨_,rfl⟩:=ru;cases rv;exact SeqAt.RcAt.str_none _ _
  | bl =>
   obtain⟨_,rfl⟩:=ru;cases rv;exact SeqAt.RcAt.str_bool _ _ _
  | int =>
   obtain⟨_,rfl⟩:=ru;obtain⟨_,rfl⟩:=rv;exact SeqAt.RcAt.str_int _ _ _ _
  | str =>
   obtain⟨_,rfl⟩:=ru;obtain⟨_,rfl⟩:=rv;exact SeqAt.RcAt.str_str _ _ _ _
  | @tup m p' ys es e1 hl1 h1 =>
   obtain⟨_,rfl⟩:=ru;cases rv;obtain⟨jts,r2,pl',_⟩:=I.tuple (SqT.of e1);exact SeqAt.RcAt.str_tuple _ _ pl' (by omega)
  | @lst m p' ys es e1 hl1 h1 =>
   obtain⟨_,rfl⟩:=ru;cases rv;obtain⟨jts,r2,pl',_⟩:=I.list (SqL.of e1);exact SeqAt.RcAt.str_list _ _ pl'.isList (by omega)
 | @tup n p xs ds e0 hl h =>
  cases q with
  | non =>
   cases ru;cases rv;obtain⟨its,r1,pl,_⟩:=I.tuple (SqT.of e0);exact SeqAt.RcAt.tuple_none pl (by omega)
  | bl =>
   cases ru;cases rv;obtain⟨its,r1,pl,_⟩:=I.tuple (SqT.of e0);exact SeqAt.RcAt.tuple_bool _ pl (by omega)
  | int =>
   cases ru;obtain⟨_,rfl⟩:=rv;obtain⟨its,r1,pl,_⟩:=I.tuple (SqT.of e0);exact SeqAt.RcAt.tuple_int _ _ pl (by omega)
  | str =>
   cases ru;obtain⟨_,rfl⟩:=rv;obtain⟨its,r1,pl,_⟩:=I.tuple (SqT.of e0);exact SeqAt.RcAt.tuple_str _ _ pl (by omega)
  | @tup m p' ys es e1 hl1 h1 =>
   cases ru;cases rv;obtain⟨its,r1,pl,_⟩:=I.tuple (SqT.of e0);obtain⟨jts,r2,pl',_⟩:=I.tuple (SqT.of e1);have y:=SeqAt.RcAt.tuples (A:=A) (e:=fun j=>deq (ds.getD j .non) (es.getD j .non)) pl pl' (by omega) (gD r1 r2 hl hl1 fun j x y d e u w a b c k ra rb=>(h j x d a c).eqAt (h1 j y e b k) I ra rb (by show A.units+1+_<cLine;omega));rw[List.size_toArray,List.size_toArray,<- r1.length,<- r2.length,hl,hl1,fz]at y;exact y
  | @lst m p' ys es e1 hl1 h1 =>
   cases ru;cases rv;obtain⟨its,r1,pl,_⟩:=I.tuple (SqT.of e0);obtain⟨jts,r2,pl',_⟩:=I.list (SqL.of e1);exact SeqAt.RcAt.tuple_list pl pl'.isList (by omega)
 | @lst n p xs ds e0 hl h =>
  cases q with
  | non =>
   cases ru;cases rv;obtain⟨its,r1,pl,_⟩:=I.list (SqL.of e0);exact SeqAt.RcAt.list_none pl.isList (by omega)
  | bl =>
   cases ru;cases rv;obtain⟨its,r1,pl,_⟩:=I.list (SqL.of e0);exact SeqAt.RcAt.list_bool _ pl.isList (by omega)
  | int =>
   cases ru;obtain⟨_,rfl⟩:=rv;obtain⟨its,r1,pl,_⟩:=I.list (SqL.of e0);exact SeqAt.RcAt.list_int _ _ pl.isList (by omega)
  | str =>
   cases ru;obtain⟨_,rfl⟩:=rv;obtain⟨its,r1,pl,_⟩:=I.list (SqL.of e0);exact SeqAt.RcAt.list_str _ _ pl.isList (by omega)
  | @tup m p' ys es e1 hl1 h1 =>
   cases ru;cases rv;obtain⟨its,r1,pl,_⟩:=I.list (SqL.of e0);obtain⟨jts,r2,pl',_⟩:=I.tuple (SqT.of e1);exact SeqAt.RcAt.list_tuple pl.isList pl' (by omega)
  | @lst m p' ys es e1 hl1 h1 =>
   cases ru;cases rv;obtain⟨its,r1,pl,_⟩:=I.list (SqL.of e0);obtain⟨jts,r2,pl',_⟩:=I.list (SqL.of e1);have g1:=r1.length;have g2:=r2.length
   by_cases hz:ds.length=es.length
   ·have y:=SeqAt.RcAt.lists (A:=A) (e:=fun j=>deq (ds.getD j .non) (es.getD j .non)) pl.isList pl'.isList (by rw[List.size_toArray,List.size_toArray];omega) (by omega) (gD r1 r2 hl hl1 fun j x y d e u w a b c k ra rb=>(h j x d a c).eqAt (h1 j y e b k) I ra rb (by show A.units+1+_<cLine;omega))
    rw[List.size_toArray,<- r1.length,hl,gE hz]at y;exact y
   ·rw[show deq (.lst ds) (.lst es)=false from kv hz]
    exact SeqAt.RcAt.lists_lengths pl.isList pl'.isList (by rw[List.size_toArray,List.size_toArray];simp;omega) (by omega)
theorem Rp.rcNeAt{A:Around}{n m:Nat}{x y:V}{d e:D}{u v:Value}(r:Rp H n x d)(q:Rp H m y e)(I:zT X pins σ H s)(ru:bO x u)(rv:bO y v)(hu:A.units+n+1<cLine):SeqAt.RcNeAt A s u v (!(deq d e)):=by
 cases r with
 | non =>
  cases q with
  | non =>
   cases ru;cases rv;exact SeqAt.RcNeAt.none_none
  | bl =>
   cases ru;cases rv;exact SeqAt.RcNeAt.none_bool _
  | int =>
   cases ru;obtain⟨_,rfl⟩:=rv;exact SeqAt.RcNeAt.none_int _ _
  | str =>
   cases ru;obtain⟨_,rfl⟩:=rv;exact SeqAt.RcNeAt.none_str _ _
  | @tup m p' ys es e1 hl1 h1 =>
   cases ru;cases rv;obtain⟨jts,r2,pl',_⟩:=I.tuple (SqT.of e1);exact SeqAt.RcNeAt.none_tuple pl' (by omega)
  | @lst m p' ys es e1 hl1 h1 =>
   cases ru;cases rv;obtain⟨jts,r2,pl',_⟩:=I.list (SqL.of e1);exact SeqAt.RcNeAt.none_list pl'.isList (by omega)
 | bl =>
  cases q with
  | non =>
   cases ru;cases rv;exact SeqAt.RcNeAt.bool_none _
  | bl =>
   cases ru;cases rv;exact SeqAt.RcNeAt.bool_bool _ _
  | int =>
   cases ru;obtain⟨_,rfl⟩:=rv;exact SeqAt.RcNeAt.bool_int _ _ _
  | str =>
   cases ru;obtain⟨_,rfl⟩:=rv;exact SeqAt.RcNeAt.bool_str _ _ _
  | @tup m p' ys es e1 hl1 h1 =>
   cases ru;cases rv;obtain⟨jts,r2,pl',_⟩:=I.tuple (SqT.of e1);exact SeqAt.RcNeAt.bool_tuple _ pl' (by omega)
  | @lst m p' ys es e1 hl1 h1 =>
   cases ru;cases rv;obtain⟨jts,r2,pl',_⟩:=I.list (SqL.of e1);exact SeqAt.RcNeAt.bool_list _ pl'.isList (by omega)
 | int =>
  cases q with
  | non =>
   obtain⟨_,rfl⟩:=ru;cases rv;exact SeqAt.RcNeAt.int_none _ _
  | bl =>
   obtain⟨_,rfl⟩:=ru;cases rv;exact SeqAt.RcNeAt.int_bool _ _ _
  | int =>
   obtain⟨_,rfl⟩:=ru;obtain⟨_,rfl⟩:=rv;exact SeqAt.RcNeAt.int_int _ _ _ _
  | str =>
   obtain⟨_,rfl⟩:=ru;obtain⟨_,rfl⟩:=rv;exact SeqAt.RcNeAt.int_str _ _ _ _
  | @tup m p' ys es e1 hl1 h1 =>
   obtain⟨_,rfl⟩:=ru;cases rv;obtain⟨jts,r2,pl',_⟩:=I.tuple (SqT.of e1);exact SeqAt.RcNeAt.int_tuple _ _ pl' (by omega)
  | @lst m p' ys es e1 hl1 h1 =>
   obtain⟨_,rfl⟩:=ru;cases rv;obtain⟨jts,r2,pl',_⟩:=I.list (SqL.of e1);exact SeqAt.RcNeAt.int_list _ _ pl'.isList (by omega)
 | str =>
  cases q with
  | non =>
   obtain⟨_,rfl⟩:=ru;cases rv;exact SeqAt.RcNeAt.str_none _ _
  | bl =>
   obtain⟨_,rfl⟩:=ru;cases rv;exact SeqAt.RcNeAt.str_bool _ _ _
  | int =>
   obtain⟨_,rfl⟩:=ru;obtain⟨_,rfl⟩:=rv;exact SeqAt.RcNeAt.str_int _ _ _ _
  | str =>
   obtain⟨_,rfl⟩:=ru;obtain⟨_,rfl⟩:=rv;exact SeqAt.RcNeAt.str_str _ _ _ _
  | @tup m p' ys es e1 hl1 h1 =>
   obtain⟨_,rfl⟩:=ru;cases rv;obtain⟨jts,r2,pl',_⟩:=I.tuple (SqT.of e1);exact SeqAt.RcNeAt.str_tuple _ _ pl' (by omega)
  | @lst m p' ys es e1 hl1 h1 =>
   obtain⟨_,rfl⟩:=ru;cases rv;obtain⟨jts,r2,pl',_⟩:=I.list (SqL.of e1);exact SeqAt.RcNeAt.str_list _ _ pl'.isList (by omega)
 | @tup n p xs ds e0 hl h =>
  cases q with
  | non =>
   cases ru;cases rv;obtain⟨its,r1,pl,_⟩:=I.tuple (SqT.of e0);exact SeqAt.RcNeAt.tuple_none pl (by omega)
  | bl =>
   cases ru;cases rv;obtain⟨its,r1,pl,_⟩:=I.tuple (SqT.of e0);exact SeqAt.RcNeAt.tuple_bool _ pl (by omega)
  | int =>
   cases ru;obtain⟨_,rfl⟩:=rv;obtain⟨its,r1,pl,_⟩:=I.tuple (SqT.of e0);exact SeqAt.RcNeAt.tuple_int _ _ pl (by omega)
  | str =>
   cases ru;obtain⟨_,rfl⟩:=rv;obtain⟨its,r1,pl,_⟩:=I.tuple (SqT.of e0);exact SeqAt.RcNeAt.tuple_str _ _ pl (by omega)
  | @tup m p' ys es e1 hl1 h1 =>
   cases ru;cases rv;obtain⟨its,r1,pl,_⟩:=I.tuple (SqT.of e0);obtain⟨jts,r2,pl',_⟩:=I.tuple (SqT.of e1);have y:=SeqAt.RcNeAt.tuples (A:=A) (e:=fun j=>deq (ds.getD j .non) (es.getD j .non)) pl pl' (by omega) (gD r1 r2 hl hl1 fun j x y d e u w a b c k ra rb=>(h j x d a c).eqAt (h1 j y e b k) I ra rb (by show A.units+1+_<cLine;omega));rw[List.size_toArray,List.size_toArray,<- r1.length,<- r2.length,hl,hl1,fz]at y;exact y
  | @lst m p' ys es e1 hl1 h1 =>
   cases ru;cases rv;obtain⟨its,r1,pl,_⟩:=I.tuple (SqT.of e0);obtain⟨jts,r2,pl',_⟩:=I.list (SqL.of e1);exact SeqAt.RcNeAt.tuple_list pl pl'.isList (by omega)
 | @lst n p xs ds e0 hl h =>
  cases q with
  | non =>
   cases ru;cases rv;obtain⟨its,r1,pl,_⟩:=I.list (SqL.of e0);exact SeqAt.RcNeAt.list_none pl.isList (by omega)
  | bl =>
   cases ru;cases rv;obtain⟨its,r1,pl,_⟩:=I.list (SqL.of e0);exact SeqAt.RcNeAt.list_bool _ pl.isList (by omega)
  | int =>
   cases ru;obtain⟨_,rfl⟩:=rv;obtain⟨its,r1,pl,_⟩:=I.list (SqL.of e0);exact SeqAt.RcNeAt.list_int _ _ pl.isList (by omega)
  | str =>
   cases ru;obtain⟨_,rfl⟩:=rv;obtain⟨its,r1,pl,_⟩:=I.list (SqL.of e0);exact SeqAt.RcNeAt.list_str _ _ pl.isList (by omega)
  | @tup m p' ys es e1 hl1 h1 =>
   cases ru;cases rv;obtain⟨its,r1,pl,_⟩:=I.list (SqL.of e0);obtain⟨jts,r2,pl',_⟩:=I.tuple (SqT.of e1);exact SeqAt.RcNeAt.list_tuple pl.isList pl' (by omega)
  | @lst m p' ys es e1 hl1 h1 =>
   cases ru;cases rv;obtain⟨its,r1,pl,_⟩:=I.list (SqL.of e0);obtain⟨jts,r2,pl',_⟩:=I.list (SqL.of e1);have g1:=r1.length;have g2:=r2.length
   by_cases hz:ds.length=es.length
   ·have y:=SeqAt.RcNeAt.lists (A:=A) (e:=fun j=>deq (ds.getD j .non) (es.getD j .non)) pl.isList pl'.isList (by rw[List.size_toArray,List.size_toArray];omega) (by omega) (gD r1 r2 hl hl1 fun j x y d e u w a b c k ra rb=>(h j x d a c).eqAt (h1 j y e b k) I ra rb (by show A.units+1+_<cLine;omega))
    rw[List.size_toArray,<- r1.length,hl,gE hz]at y;exact y
   ·rw[show deq (.lst ds) (.lst es)=false from kv hz]
    exact SeqAt.RcNeAt.lists_lengths pl.isList pl'.isList (by rw[List.size_toArray,List.size_toArray];simp;omega) (by omega)
end
section
variable {X:Cx}
inductive IX (neg:Bool) (x:V) (y:V) (H:Hp) (Q:VK):Prop
 | mk:∀d e,(Rp H 9 x d)->(Rp H 9 y e)->(Q (.bl (if neg then !(deq d e) else deq d e)) H)->IX neg x y H Q
theorem qk(hu:X.A.units+10<cLine):OpR X (compareOp .Eq) (IX false):=by
 intro pins s σ H x y v u Q I rx ry h;obtain⟨d,e,rd,re,k⟩:=h;exact rd.rcAt re I rx ry (by omega) _ _ _ _ ⟨.bl _,H,I,rfl,k⟩
theorem uh(hu:X.A.units+10<cLine):OpR X (compareOp .NotEq) (IX true):=by
 intro pins s σ H x y v u Q I rx ry h;obtain⟨d,e,rd,re,k⟩:=h;exact rd.rcNeAt re I rx ry (by omega) _ _ _ _ ⟨.bl _,H,I,rfl,k⟩
end
section
variable {H:Hp} {n:Nat} {p:Addr} {x y z w:V} {a b c d:D}
theorem Rp.t2(e:H p=some (.tup [x,y]))(ha:Rp H n x a)(hb:Rp H n y b):Rp H (n+1) (.ref p) (.tup [a,b]):=.tup e rfl fun j x d h k=>by
 match j with
 | 0=>cases h;cases k;exact ha
 | 1=>cases h;cases k;exact hb
 | j+2=>simp at h
theorem Rp.t4(e:H p=some (.tup [x,y,z,w]))(ha:Rp H n x a)(hb:Rp H n y b)(hc:Rp H n z c)(hd:Rp H n w d):Rp H (n+1) (.ref p) (.tup [a,b,c,d]):=.tup e rfl fun j x d h k=>by
 match j with
 | 0=>cases h;cases k;exact ha
 | 1=>cases h;cases k;exact hb
 | 2=>cases h;cases k;exact hc
 | 3=>cases h;cases k;exact hd
 | j+4=>simp at h
theorem Rp.l0(e:H p=some (.lst [])):Rp H (n+1) (.ref p) (.lst []):=.lst e rfl fun j x d h=>by simp at h
mutual
theorem iI:∀d:D,deq d d=true
 | .non=>rfl
 | .bl b=>by simp[deq]
 | .int i=>by simp[deq]
 | .str x=>by simp[deq]
 | .tup ds=>by simp only[deq];exact i9 ds
 | .lst ds=>by simp only[deq];exact i9 ds
theorem i9:∀ds:List D,gO ds ds=true
 | []=>by simp[gO]
 | d::ds=>by simp only[gO,Bool.and_eq_true];exact⟨iI d,i9 ds⟩
end
end
end L2
namespace L2
open PySem PySem.Spec PyProof.Rows
structure GO(X:Cx)(scope:Scope)(cl:List (Str×Addr))(xs:List Str)(fv:List (Str×Nat)):Prop where
 clos:closureFor scope X.env=pure cl
 kind:scope.kind = .function
 cell:∀y∈scope.names,y.2≠.cell
 names:∀y∈scope.names,y.2 = .local->scope.names.lookup y.1=some .local
 own:∀x∈xs,scope.names.lookup x=some .local
 cells:∀p∈cl,X.env.cells.lookup p.1=some p.2
 has:((relabel scope X.env).names.all fun q=>!(q.2 == .cell || q.2 == .free) || (cl.lookup q.1).isSome)=true
 nd:(xs++fv.map (·.1)).Nodup
 slot:∀p∈fv,X.N[p.2]? = some p.1∧X.env.kindOf p.1=some .cell∧Vis X.env.scope p.1∧(cl.lookup p.1).isSome=true∧((relabel scope X.env).names.lookup p.1=some .cell)
 stk:X.stack=X.env::X.outer∧X.env.frame=some X.env.locals
 noex:X.ex = []
def PTs(X:Cx)(ifs:List Expr)(tc:TT):Prop :=
 ∀(pins:List (Addr×Obj)) (s:Shared) (σ:St) (H:Hp) (Q:Bool->Hp->Prop),zT X pins σ H s->tc σ H Q ->
  wpAny (model X.prog X.w) X.A (forIn ifs true fun c r=>if r=true then do let ok <- isTrue c X.env (eval c X.env);pure (ForInStep.yield ok) else pure (ForInStep.yield r)) (fun b s'=>∃H',zT X pins σ H' s'∧Q b H') X.xe s
def xo:TT:=fun _ H Q=>Q true H
theorem vO{X:Cx}:PTs X [] xo:=fun pins s σ H Q I h=>wpAny_tests_nil ⟨H,I,h⟩
theorem pC{prog:Program}{w:World}{A:Around}{R:Result->Shared->Prop}{s:Shared}{elt target iter:Expr}{ifs:List Expr}{scope:Scope}{pos:Pos}{it acc:Value}{env:Env}(I:Nat->Shared->Prop)
  (turn:∀n s,I n s->wpAny (model prog w) A (pyNext it) (fun r s₁=>match r with
   | none=>R (.ok .next) s₁
   | some v=>wpAny (model prog w) A (letOwnedTupleGo target it v) (fun _ s₀=>wpAny (model prog w) A (assign target env v) (fun _ s₂ =>
     wpAny (model prog w) A (forIn ifs true fun c r=>if r=true then do let ok <- isTrue c env (eval c env);pure (ForInStep.yield ok) else pure (ForInStep.yield r)) (fun ok s₃ =>
      if ok=true then wpAny (model prog w) A (eval elt env) (fun x s₄ =>
       wpAny (model prog w) A (call (.builtin "list.append") [acc,x]) (fun _ s₅=>∃m,m<n∧I m s₅) (notedBy (model prog w) A env fun e s'=>R (.error e) s') s₄) (notedBy (model prog w) A env fun e s'=>R (.error e) s') s₃
      else ∃m,m<n∧I m s₃) (notedBy (model prog w) A env fun e s'=>R (.error e) s') s₂) (notedBy (model prog w) A env fun e s'=>R (.error e) s') s₀) (notedBy (model prog w) A env fun e s'=>R (.error e) s') s₁) (notedBy (model prog w) A env fun e s'=>R (.error e) s') s)
  (n:Nat) (h:I n s):codeAny (model prog w) A (.compLoop (.ListComp elt [⟨target,iter,ifs,0⟩] scope pos) 0 it acc env) R s:=by
 refine codeAny_loop rfl I (fun n s hI=>?_) n h;show wpAny _ A ((compTurn (.ListComp elt [⟨target,iter,ifs,0⟩] scope pos) 0 it acc env).onRaise (fun x=>do noteFrame x env;theTreesLotGoes x)) _ _ s
 refine wpAny_noted ?_;rw[compTurn_list];refine wpAny_bind (wpAny_standAt (wpAny_bind (wpAny_mono (turn n s hI) (fun r s₁ h₁=>?_) fun _ _ h'=>h')));cases r with
 | none=>exact wpAny_pure h₁
 | some v =>
  refine wpAny_bind (wpAny_mono h₁ (fun _ s₀ h₀=>?_) fun _ _ h'=>h');refine wpAny_bind (wpAny_mono h₀ (fun _ s₂ h₂=>wpAny_bind (wpAny_mono h₂ (fun ok s₃ h₃=>?_) fun _ _ h'=>h')) fun _ _ h'=>h');cases ok with
  | false=>exact wpAny_pure ⟨rfl,h₃⟩
  | true=>exact wpAny_bind (wpAny_bind (wpAny_mono h₃ (fun x s₄ h₄=>wpAny_bind (wpAny_mono h₄ (fun _ s₅ h₅=>wpAny_pure (wpAny_pure ⟨rfl,h₅⟩)) fun _ _ h'=>h')) fun _ _ h'=>h'))
def jM(J:It)(n:Nat)(fv:List (Str×Nat))(g:TG)(tc:TT)(te:TE)(σ:St)(H1:Hp)(Q:VK):Prop:=∀p,H1 p=none->∃W:Nat->Nat->List V->Hp->Prop,(∃m,W 0 m [] (upd H1 p (.lst [])))∧∀i m acc H2,W i m acc H2 ->
 H2 p=some (.lst acc)∧acc.length<sizeLine∧((J.stop i H2∧Q (.ref p) H2)∨(J.go i H2∧∀x H3,J.yld i H2 x H3->∀τ:St,τ.length=n->g x (τ++fvs fv σ) H3 fun σ2 H4=>(∃τ':St,τ'.length=n∧σ2=τ'++fvs fv σ) ∧
  tc σ2 H4 fun b H5=>if b=true then te σ2 H5 (fun y H6=>H6 p=some (.lst acc)∧∃m',m'<m∧W (i+1) m' (acc++[y]) (upd H6 p (.lst (acc++[y])))) else ∃m',m'<m∧W (i+1) m' acc H5))
def xt(wi:TI)(n:Nat)(fv:List (Str×Nat))(g:TG)(tc:TT)(te:TE):TE:=fun σ H Q=>wi σ H fun J H1=>jM J n fv g tc te σ H1 Q
section
variable {X:Cx} {scope:Scope} {cl:List (Str×Addr)} {xs:List Str} {fv:List (Str×Nat)} {elt iter tg:Expr} {ifs:List Expr} {pos:Pos} {te:TE} {tc:TT} {g:TG}
theorem wM{pins:List (Addr×Obj)}{σ:St}{H:Hp}{s:Shared}{fp:List Addr}(C:GO X scope cl xs fv)(I:zT X pins σ H s)(hf:∀b∈fp,eQ X pins H b)(ho:∀b∈fp,b<s.heap.objs.size):(X.blk (xs++fv.map (·.1)) scope cl fp s H).Ok:=by
 have hcl:∀y c,cl.lookup y=some c->X.env.cells.lookup y=some c:=fun y c h=>C.cells _ (cE h);have old:∀b∈fp,X.s₀.heap.objs.size≤b:=fun b hb=>by
  rcases(hf b hb).2.2.2.1 with z|z
  ·rw[C.noex]at z
   cases z
  ·exact z
 refine⟨I.ok.mod,by show(relabel scope X.env).kind=_;exact C.kind,I.ok.glob,I.ok.blt,Nat.le_refl _,fun y z c h1 h2=>I.ok.inj y z c (hcl y c h1) (hcl z c h2),fun y hy=>?_,(fun y c h=>by cases h),I.ok.hd,I.ok.frames,.inl rfl,fun b hb=>?_,fun b o e=>I.bs b o e,Nat.le_trans I.ok.bsz I.sz,fun b o e hb=>?_,fun b hb hm=>?_,I.stack,I.stkFree⟩
 ·have q:=C.has
  rw[List.all_eq_true]at q;have hm:∃k,(y,k)∈(relabel scope X.env).names∧(k = .cell∨k = .free):=by
   rcases hy with hy|hy
   ·exact⟨_,cE hy,.inl rfl⟩
   ·exact⟨_,cE hy,.inr rfl⟩
  obtain⟨k,hk,hk2⟩:=hm;have q2:=q _ hk;have q3:(cl.lookup y).isSome=true:=by
   rcases hk2 with rfl|rfl
   ·simpa using q2
   ·simpa using q2
  exact Option.isSome_iff_exists.mp q3
 ·obtain⟨f0,f1,f2,f3,f4,f5⟩:=hf b hb
  refine⟨?_,fun y c h=>f4 y c (hcl y c h)⟩;exact Nat.ne_of_lt (ho b hb)
 ·have z:=Heap.lt_size e
  have z2:=old b hb;exact absurd (Nat.lt_of_lt_of_le z (Nat.le_trans I.ok.bsz z2)) (Nat.lt_irrefl _)
 ·obtain⟨f0,f1,f2,f3,f4,f5⟩:=hf b hb
  rcases List.mem_cons.mp (I.stkSub b hm) with z|z
  ·exact f1 z
  ·exact f2 z
theorem vv{pins:List (Addr×Obj)}{σ:St}{H:Hp}{s s4:Shared}{fp:List Addr}(C:GO X scope cl xs fv)(I:zT X pins σ H s)(hf:∀b∈fp,eQ X pins H b)(ho:∀b∈fp,b<s.heap.objs.size)
  (hs:s4.os=s.os∧s4.gens=s.gens) (ns:s4.heap.Ns s.heap.objs.size fun _=>none) (kp:∀b o,s.heap.get? b=some o->s4.heap.get? b=some o) :
  zT (X.blk (xs++fv.map (·.1)) scope cl fp s H) [] (List.replicate xs.length none++fvs fv σ) H s4:=by
 have hcl:∀y c,cl.lookup y=some c->X.env.cells.lookup y=some c:=fun y c h=>C.cells _ (cE h);refine⟨wM C I hf ho,hs.1,by rw[hs.2];exact I.bare,Un.kept kp,⟨_,ns,fun i y v e1 e2 e3=>?_⟩,fun y c h=>?_,I.hok.fresh (Nat.le_refl _),fun y c h=>I.freeC y c (hcl y c h),fun p hp=>by simp at hp,I.hok.kept kp,by simp[fvs]⟩
 ·by_cases hi:i<xs.length
  ·rw[List.getElem?_append_left (by rw[List.length_replicate];exact hi),List.getElem?_replicate]at e2
   simp[hi]at e2
  ·obtain⟨j,rfl⟩:∃j,i=xs.length+j:=⟨i - xs.length,by omega⟩
   have e1':(fv.map (·.1))[j]? = some y:=by
    have z:(xs++fv.map (·.1))[xs.length+j]? = some y:=e1;rw[List.getElem?_append_right (by omega)]at z;simpa using z
   have e2':(fvs fv σ)[j]? = some (some v):=by
    rw[List.getElem?_append_right (by rw[List.length_replicate];omega),List.length_replicate]at e2;simpa using e2
   rw[List.getElem?_map]at e1';unfold fvs at e2';rw[List.getElem?_map]at e2';cases hq:fv[j]? with
   | none =>
    rw[hq]at e1';cases e1'
   | some q =>
    rw[hq]at e1' e2';have ey:q.1=y:=Option.some.inj e1';have ev:(σ[q.2]?).join=some v:=Option.some.inj e2';have hm:q∈fv:=List.mem_of_getElem? hq;obtain⟨s1,s2,s3,s4',s5⟩:=C.slot q hm;have ev2:σ[q.2]? = some (some v):=by
     cases hz:σ[q.2]? with
     | none =>
      rw[hz]at ev;cases ev
     | some z =>
      rw[hz]at ev;have ev':z=some v:=ev;rw[ev']
    obtain⟨m,hn,hl⟩:=I.loc;obtain⟨u,r,lk⟩:=hl q.2 q.1 v s1 ev2 s3;obtain⟨c,hc⟩:=Option.isSome_iff_exists.mp s4';refine⟨u,r,.inr ⟨.inl (by rw[<- ey];exact s5),c,by rw[<- ey];exact hc,?_⟩⟩;rcases lk with⟨k,_⟩|⟨_,c',hc',z⟩
    ·rw[s2]at k
     cases k
    ·rw[hcl _ _ hc]at hc'
     cases hc';obtain⟨o,ho',hd⟩:=z;exact⟨o,kp _ _ ho',hd⟩
 ·obtain⟨v,o,ho',hd⟩:=I.cell y c (hcl y c h)
  exact⟨v,o,kp _ _ ho',hd⟩
theorem vt{pins:List (Addr×Obj)}{σ:St}{H2:Hp}{s2:Shared}{it:Addr}{fp:List Addr}{tn:Nat->Heap->Prop}{J:It}{RR:Value->Addr->Result->Shared->Prop}{E:Value->Shared->Prop}{Qf:V->Hp->Prop}
  (hcalm:X.calm=true) (C:GO X scope cl xs fv) (I2:zT X pins σ H2 s2) (T:Gx X.prog X.w X.K tg J fp it tn) (st:tn 0 s2.heap) (f2:∀b∈fp,eQ X pins H2 b)
  (rd:jM J xs.length fv g tc te σ H2 Qf)
  (hg:∀(s₀:Shared) (H₀:Hp),PG (X.blk (xs++fv.map (·.1)) scope cl fp s₀ H₀) tg g) (ht:∀(s₀:Shared) (H₀:Hp),PTs (X.blk (xs++fv.map (·.1)) scope cl fp s₀ H₀) ifs tc)
  (he:∀(s₀:Shared) (H₀:Hp),PE (X.blk (xs++fv.map (·.1)) scope cl fp s₀ H₀) elt te)
  (hRR:∀(p C:Addr) (H':Hp) (s':Shared),(∃m,s'.heap.Ns C m)->C≠X.env.locals->H' C=none->X.s₀.heap.objs.size≤C->(∀y c,X.env.cells.lookup y=some c->c≠C)->(∀q∈X.pn++pins,q.1≠C)->zT X pins σ H' s'->Qf (.ref p) H'->RR (.ref p) C (.ok .next) s') :
  wpAny (model X.prog X.w) X.A (newList []) (fun acc s₃=>wpAny (model X.prog X.w) X.A (newFunctionEnv scope X.env.globals cl [] X.env.qual none .none (some X.env)) (fun cenv s₄ =>
   codeAny (model X.prog X.w) X.A (.compStart (.ListComp elt [⟨tg,iter,ifs,0⟩] scope pos) 0 (.ref it) acc { cenv with scope:=relabel scope X.env }) (RR acc cenv.locals) s₄) E s₃) E s2:=by
 refine wpAny_newObj_type ?_;have hfresh:=I2.fresh;have I3:zT X pins σ (upd H2 s2.heap.objs.size (.lst [])) { s2 with heap:=s2.heap.push { cls:=.type "list",data:=.seq ([]:List Value).toArray } } :=
  I2.laid (t':=s2.toks) (fun b u q=>Heap.get?_push_of_some _ q) (Nat.le_refl _) ⟨Nat.zero_le _,[],0,.nil,Heap.get?_push_size _ rfl⟩
 generalize hs3:({ s2 with heap:=s2.heap.push { cls:=.type "list",data:=.seq ([]:List Value).toArray } }:Shared)=s3 at I3 ⊢;have hp3:s2.heap.objs.size<s3.heap.objs.size:=by rw[<- hs3];exact Nat.lt_of_lt_of_le (Nat.lt_succ_self _) (Nat.le_of_eq (Heap.size_push _ _).symm)
 have k23:∀b o,s2.heap.get? b=some o->s3.heap.get? b=some o:=fun b o e=>by rw[<- hs3];exact Heap.get?_push_of_some _ e
 have fpo:∀b∈fp,b<s2.heap.objs.size:=fun b hb=>by
  obtain⟨o,e,_⟩:=T.obj 0 _ st b hb;exact Heap.lt_size e
 have f3:∀b∈fp,eQ X pins (upd H2 s2.heap.objs.size (.lst [])) b:=fun b hb=>⟨by rw[bi (Nat.ne_of_lt (fpo b hb))];exact(f2 b hb).1,(f2 b hb).2⟩;refine wpAny_newFunctionEnv C.cell (by intro y hy;simp at hy) (fun h1 hns1 hsb1=>?_) C.kind;have kp:∀b o,s3.heap.get? b=some o->h1.get? b=some o:=fun b o e=>(hsb1.2 b (Nat.ne_of_lt (Heap.lt_size e))).trans (Heap.get?_push_of_some _ e);have I4:=vv (s4:={ s3 with heap:=h1,toks:=s3.toks+([]:List (Str×Value)).length }) C I3 f3 (fun b hb=>Nat.lt_trans (fpo b hb) hp3) ⟨rfl,rfl⟩ hns1 kp;have st4:tn 0 h1:=T.keep 0 _ _ st fun b _ o e=>kp b o (k23 b o e);obtain⟨W,⟨m0,w0⟩,step⟩:=rd _ hfresh;have loop:codeAny (model X.prog X.w) X.A (.compLoop (.ListComp elt [⟨tg,iter,ifs,0⟩] scope pos) 0 (.ref it) (.ref s2.heap.objs.size) (compEnvC scope cl s3.heap.objs.size X.env)) (RR (.ref s2.heap.objs.size) s3.heap.objs.size)
   { s3 with heap:=h1,toks:=s3.toks+([]:List (Str×Value)).length }:=by
  refine pC (fun n s=>∃i acc τ H',τ.length=xs.length∧zT (X.blk (xs++fv.map (·.1)) scope cl fp s3 (upd H2 s2.heap.objs.size (.lst []))) [] (τ++fvs fv σ) H' s∧tn i s.heap∧(∀b∈fp,H' b=none)∧W i n acc H') ?_ m0 ⟨0,[],List.replicate xs.length none,_,List.length_replicate,I4,st4,fun b hb=>(f3 b hb).1,w0⟩;rintro n s ⟨i,acc,τ,H',hτ,I',st',fr',w'⟩;obtain⟨hp,hlen,alt⟩:=step i n acc H' w';have fpk:∀{H5:Hp},(∀b∈fp,H5 b=none)->∀b∈fp,eQ (X.blk (xs++fv.map (·.1)) scope cl fp s3 (upd H2 s2.heap.objs.size (.lst []))) [] H5 b:=fun h5 b hb =>
   ⟨h5 b hb,(I'.ok.exf b hb).1,I'.ok.exfs b hb,.inl hb,fun y c e=>(I'.ok.exf b hb).2 y c e,fun q hq=>by simp at hq⟩
  rcases alt with⟨stop,qf⟩|⟨go,turn⟩
  ·refine wpAny_mono (T.done (X.blk (xs++fv.map (·.1)) scope cl fp s3 (upd H2 s2.heap.objs.size (.lst []))) rfl rfl rfl hcalm i [] s _ H' (fun _ _=>False) I' (fpk fr') st' stop) (fun r s5 ⟨hr,I5⟩=>?_) fun _ _ z=>False.elim z
   subst hr;refine hRR _ _ H' s5 (let ⟨m,hn,_⟩:=I5.loc;⟨m,hn⟩) (Nat.ne_of_gt I3.lt) I5.free I3.sz (fun y c e=>?_) (fun q hq=>?_) ?_ qf
   ·obtain⟨v,z⟩:=I3.cell y c e
    exact Nat.ne_of_lt z.lt
   ·exact Nat.ne_of_lt (Heap.lt_size (I3.pin q hq).1)
   ·exact I3.call' (s':=s5) (ch:=fp) I5.os I5.base I5.hok I5.bare fun b hb=>⟨(f2 b hb).2.2.2.1,(f2 b hb).2.1,(f2 b hb).2.2.2.2.1,(f2 b hb).2.2.2.2.2⟩
  ·refine wpAny_mono (T.item (X.blk (xs++fv.map (·.1)) scope cl fp s3 (upd H2 s2.heap.objs.size (.lst []))) rfl rfl rfl hcalm i [] s _ H' (fun _ _=>False) I' (fpk fr') st' go) (fun r s5 ⟨u,hr,h5⟩=>?_) fun _ _ z=>False.elim z
   subst hr;refine wpAny_mono h5 (fun _ s6 ⟨y,H6,I6,r6,y6,st6,fr6⟩=>?_) fun _ _ z=>False.elim z;have I6':=I6.pinned (fpk fr6) (T.obj _ _ st6);have rt:=turn y _ y6 τ hτ;refine wpAny_mono (hg s3 _ _ s6 _ H6 y u _ I6' r6 rt) (fun _ s7 ⟨σ7,H7,I7,⟨τ',hτ',e7⟩,q7⟩=>?_) fun _ _ z=>False.elim z;subst e7;refine wpAny_mono (ht s3 _ _ s7 _ _ _ I7 q7) (fun b s7b ⟨H7b,I7b,q7b⟩=>?_) fun _ _ z=>False.elim z;have kp6:∀{σ9:St} {H9:Hp} {s9:Shared},zT (X.blk (xs++fv.map (·.1)) scope cl fp s3 (upd H2 s2.heap.objs.size (.lst []))) ([]++jT fp s6.heap) σ9 H9 s9->tn (i+1) s9.heap∧∀b∈fp,H9 b=none:=fun {σ9 H9 s9} I9=>by
    refine⟨T.keep _ _ _ st6 fun b hb o e=>(I9.pin (b,o) (List.mem_append_right _ (List.mem_append_right _ (cQ hb e)))).1,fun b hb=>?_⟩;obtain⟨o,e,d⟩:=T.obj _ _ st6 b hb;exact(I9.pin (b,o) (List.mem_append_right _ (List.mem_append_right _ (cQ hb e)))).2.1
   cases b with
   | false =>
    obtain⟨m',hm',w8⟩:=q7b;exact⟨m',hm',i+1,acc,τ',_,hτ',I7b.unpinned,(kp6 I7b).1,(kp6 I7b).2,w8⟩
   | true =>
    refine wpAny_mono (he s3 _ _ s7b _ _ _ I7b q7b) (fun v8 s8 ⟨y8,H8,I8,r8,q8,m',hm',w8⟩=>?_) fun _ _ z=>False.elim z;refine wpAny_mono (gB (X:=X.blk (xs++fv.map (·.1)) scope cl fp s3 (upd H2 s2.heap.objs.size (.lst []))) _ s8 _ H8 (.ref s2.heap.objs.size) [y8] (.ref s2.heap.objs.size) [v8] (fun _ H9=>H9=upd H8 s2.heap.objs.size (.lst (acc++[y8]))) I8 rfl (.cons r8 .nil) ⟨_,acc,y8,rfl,rfl,q8,hlen,rfl⟩) (fun _ s9 ⟨_,H9,I9,_,e9⟩=>?_) fun _ _ z=>False.elim z;subst e9;exact⟨m',hm',i+1,acc++[y8],τ',_,hτ',I9.unpinned,(kp6 I9).1,(kp6 I9).2,w8⟩
 exact codeAny_compStart_list loop (T.self _ 0 _ _ _ st4 loop)
theorem uf{wi:TI}(hcalm:X.calm=true)(C:GO X scope cl xs fv)(hi:PI X tg iter wi)(hg:∀(fp:List Addr) (s₀:Shared) (H₀:Hp),PG (X.blk (xs++fv.map (·.1)) scope cl fp s₀ H₀) tg g)(ht:∀(fp:List Addr) (s₀:Shared) (H₀:Hp),PTs (X.blk (xs++fv.map (·.1)) scope cl fp s₀ H₀) ifs tc)(he:∀(fp:List Addr) (s₀:Shared) (H₀:Hp),PE (X.blk (xs++fv.map (·.1)) scope cl fp s₀ H₀) elt te)
  (hs:∀v,foldedSetIterable iter X.env v=pure v:=by intro _;rfl):PE X (.ListComp elt [⟨tg,iter,ifs,0⟩] scope pos) (xt wi xs.length fv g tc te):=by
 intro pins s σ H Q I h;rw[eval_ListComp];refine wpAny_comprehension_free (use:=none) rfl hs C.clos C.kind C.names (wpAny_mono (hi pins s σ H _ I h) (fun v s1 h1=>wpAny_mono h1 (fun itv s2 h2=>?_) fun _ _ z=>z) fun _ _ z=>z);obtain⟨it,fp,tn,J,H2,rfl,I2,T,st2,f2,rd⟩:=h2;refine vt (Qf:=Q) hcalm C I2 T st2 f2 rd (hg fp) (ht fp) (he fp) fun p D H' s' ns nL nH n0 nC nP I8 q=>?_;obtain⟨m,hn⟩:=ns;exact⟨m,hn,fun h'' sb=>⟨.ref p,H',I8.turned (t':=s'.toks) (fun b o hb e=>(sb.2 b hb).trans e) nH nL (.inr n0) nC nP,rfl,q⟩⟩
end
theorem wJ{J:It}{n k:Nat}{fv:List (Str×Nat)}{g:TG}{te:TE}{σ:St}{H1:Hp}{Q:VK}(hlen:n<1000)(R:Nat->V->Hp->Prop)(hR:∀i v H H',SameT H H'->R i v H->R i v H')
  (hst:∀H2,Same H1 H2->J.stop n H2) (hgo:∀i H2,i<n->Same H1 H2->J.go i H2)
  (hs:∀i x H2 H3 (τ:St) (Kc:VK),i<n->Same H1 H2->J.yld i H2 x H3->τ.length=k->(∀y H4,Same H2 H4->R i y H4->Kc y H4)->g x (τ++fvs fv σ) H3 fun σ2 H4=>(∃τ':St,τ'.length=k∧σ2=τ'++fvs fv σ)∧te σ2 H4 Kc)
  (hd:∀l ys H',H1 l=none->Same H1 H'->H' l=some (.lst ys)->ys.length=n->(∀i y,ys[i]? = some y->R i y H')->Q (.ref l) H') :
  jM J k fv g xo te σ H1 Q:=by
 intro l hl;refine⟨fun i m acc H2=>m=n - i∧i≤n∧acc.length=i∧Same H1 H2∧H2 l=some (.lst acc)∧∀j y,acc[j]? = some y->R j y H2,⟨n,rfl,Nat.zero_le _,rfl,Same.new hl,upd_same,fun j y h=>by simp at h⟩,?_⟩;rintro i m acc H2 ⟨rfl,hi,e1,sm,e3,hr⟩;refine⟨e3,cG (by omega),?_⟩
 by_cases hlt:i<n
 ·refine .inr ⟨hgo i H2 hlt sm,fun x H3 y τ hτ=>?_⟩
  refine hs i x H2 H3 τ _ hlt sm y hτ fun y H4 s4 ry=>⟨s4 _ _ e3,n - (i+1),by omega,rfl,hlt,by simp[e1],(sm.trans s4).upd hl,upd_same,fun j z hz=>?_⟩;have t4:=SameT.upd (ys:=acc++[y]) (s4 _ _ e3);rcases Nat.lt_trichotomy j acc.length with h|h|h
  ·rw[List.getElem?_append_left h]at hz
   exact hR _ _ _ _ (s4.t.trans t4) (hr j z hz)
  ·subst h
   rw[List.getElem?_append_right (Nat.le_refl _),Nat.sub_self]at hz;cases hz;rw[e1];exact hR _ _ _ _ t4 ry
  ·rw[List.getElem?_eq_none (by simp;omega)]at hz
   cases hz
 ·have e:i=n:=by omega
  subst e;exact .inl ⟨hst H2 sm,hd l acc H2 hl sm e3 e1 hr⟩
theorem td{K:W.Frag}{a b:Addr}{xs ys:List V}{fv:List (Str×Nat)}{te:TE}{σ:St}{H1:Hp}{Q:VK}{g:TG}{k:Nat}(q1:SqL K H1 a xs)(q2:SqL K H1 b ys)(hlen:min xs.length ys.length<1000)(R:Nat->V->Hp->Prop)(hR:∀i v H H',SameT H H'->R i v H->R i v H')
  (hs:∀i x y p H2 (τ:St) (Kc:VK),xs[i]? = some x->ys[i]? = some y->Same H1 H2->H2 p=some (.tup [x,y])->τ.length=k->(∀y H4,Same H2 H4->R i y H4->Kc y H4)->g (.ref p) (τ++fvs fv σ) H2 fun σ2 H4=>(∃τ':St,τ'.length=k∧σ2=τ'++fvs fv σ)∧te σ2 H4 Kc)
  (hd:∀l zs H',H1 l=none->Same H1 H'->H' l=some (.lst zs)->zs.length=min xs.length ys.length->(∀i y,zs[i]? = some y->R i y H')->Q (.ref l) H') :
  jM (Itz K a b) k fv g xo te σ H1 Q:=by
 refine wJ (n:=min xs.length ys.length) hlen R hR (fun H2 s2=>⟨xs,ys,s2.seq q1,s2.seq q2,rfl⟩) (fun i H2 hi s2=>⟨xs,ys,xs[i],ys[i],s2.seq q1,s2.seq q2,by simp[show i<xs.length by omega],by simp[show i<ys.length by omega]⟩) ?_ hd;intro i x H2 H3 τ Kc hi s2 y hτ kk;obtain⟨p,u,v,rfl,np,rfl,e⟩:=y;obtain⟨e1,e2⟩:=e xs ys (s2.seq q1) (s2.seq q2);have s3:Same H2 (upd H2 p (.tup [u,v])):=Same.new np;exact hs i u v p _ τ Kc e1 e2 (s2.trans s3) upd_same hτ fun y H4 s4 r=>kk y H4 (s3.trans s4) r
def oa(e:Expr):Scope:=match e with
 | .ListComp _ _ sc _=>sc
 | .Call _ [.ListComp _ _ sc _] _ _=>sc
 | _=>{ kind:=.function,names:=[],isGenerator:=false,isCoroutine:=false }
end L2
namespace L2
open PySem PySem.Spec PyProof.Rows
section
variable {M:Model} {A:Around} {E:Value->Shared->Prop} {s:Shared}
theorem qp{base:Heap}{env:Env}{outer:List Env}{L e:Addr}{cls a0 fl:Value}{Q:Unit->Shared->Prop}
  (hfr:A.frames=some (env::outer)) (hf:env.frame=some L) (f1:base.StaysIn s.heap) (f2:base.get? e=none) (f3:s.heap.FunFrames base (env::outer)) (f4:s.heap.TracedAtW base e cls a0 fl)
  (hQ:∀h',Heap.FlyingW base outer e cls a0 h'->s.heap.UpToSlots h'->Q () { s with heap:=h' }):wpAny M A (leaving env (.ref e)) Q E s:=by
 by_cases c:(fl == rawInt L)=true
 ·obtain⟨oe,vs,T,oT,ts,he,hc0,hd,h1,hnT,hTe,hT,hdT,h3⟩:=id f4
  unfold leaving noteFrame;simp only[hf];refine wpAny_bind (wpAny_bind (wpAny_field he hd h1 ?_));rw[if_pos (show(Value.ref T != Value.none)=true from by simp)];refine wpAny_bind (wpAny_field hT hdT h3 ?_);rw[if_pos c];refine wpAny_pure ?_;exact wpAny_setFlight_noneW f1 f3 f4 fun h' k1 k2 k3 k4=>hQ h' ⟨k1,f2,k2.2.2,k3⟩ fun b o hb hn=>⟨o.slots,k4 b o hb hn⟩
 ·obtain⟨oe,vs,T,oT,ts,he,⟨hcls,h0⟩,hd,h1,hnT,hTe,hT,hdT,h3⟩:=id f4
  subst hcls;unfold leaving noteFrame;simp only[hf];refine wpAny_bind (wpAny_bind (wpAny_field he hd h1 ?_));rw[if_pos (show(Value.ref T != Value.none)=true from by simp)];refine wpAny_bind (wpAny_field hT hdT h3 ?_);rw[if_neg c];refine wpAny_bind (wpAny_setField hT hdT (Array.getElem?_eq_some_iff.mp h3).1 ?_);have other:∀b,b≠T->(s.heap.update T (Obj.mapFields (·.setIfInBounds 3 Value.none))).get? b=s.heap.get? b:=fun b hb=>Heap.get?_update_other _ _ (Ne.symm hb);have noRecord:∀b o,s.heap.get? b=some o->(∀vs,o.data≠.fields vs)->b≠T:=fun b o hb hnf q=>by
   rw[q,hT]at hb;injection hb with hb;subst hb;exact hnf ts hdT
  refine wpAny_newEntryW hfr (f3.of_keeps fun b o hb hnf=>⟨o,(other b (noRecord b o hb hnf)).trans hb,rfl⟩) hf ((other e (Ne.symm hTe)).trans he)
   (fun b o hbo=>(other b fun q=>by rw[q,hnT]at hbo;cases hbo).trans (f1 b o hbo)) f2 hd (Array.getElem?_eq_some_iff.mp h1).1 h0
   fun h' ⟨x1,⟨_,_,x2⟩,x3,x4⟩=>hQ h' ⟨x1,f2,x2,x3⟩ fun b o hb hnf=>x4 b o ((other b (noRecord b o hb hnf)).trans hb) hnf
theorem qB{base:Heap}{l:List Env}{e:Addr}{cls a0 fl:Value}{fr:Option Addr}{Q:Unit->Shared->Prop}
  (hkb:base.StaysIn s.heap) (hl:s.heap.FunFrames base l) (ht:s.heap.TracedAtW base e cls a0 fl)
  (h:∀h',base.StaysIn h'->h'.FunFrames base l->h'.TracedAtW base e cls a0 (fr.elim Value.none fun f=>rawInt f)->(∀b o,s.heap.get? b=some o->(∀vs,o.data≠.fields vs)->h'.get? b=some o)->Q () { s with heap:=h' }) :
  wpAny M A (setFlight (.ref e) fr) Q E s:=by
 obtain⟨oe,vs,T,oT,ts,he,hcls,hd,h1,hnT,hTe,hT,hdT,h3⟩:=ht;have hsz3:3<ts.size:=(Array.getElem?_eq_some_iff.mp h3).1;have other:∀b,b≠T->(s.heap.update T (Obj.mapFields (·.setIfInBounds 3 (fr.elim Value.none fun f=>rawInt f)))).get? b=s.heap.get? b :=
  fun b hb=>Heap.get?_update_other _ _ (Ne.symm hb)
 have noRecord:∀b o,s.heap.get? b=some o->(∀vs,o.data≠.fields vs)->b≠T:=fun b o hb hnf q=>by
  rw[q,hT]at hb;injection hb with hb;subst hb;exact hnf ts hdT
 unfold setFlight;refine wpAny_bind (wpAny_field he hd h1 ?_);rw[if_pos (show(Value.ref T != Value.none)=true from by simp)];refine wpAny_setField hT hdT hsz3 (h _ (fun b o hbo=>(other b fun q=>by rw[q,hnT]at hbo;cases hbo).trans (hkb b o hbo))
  (hl.of_keeps fun b o hb hnf=>⟨o,(other b (noRecord b o hb hnf)).trans hb,rfl⟩) ?_ fun b o hb hnf=>(other b (noRecord b o hb hnf)).trans hb)
 exact⟨oe,vs,T,_,_,(other e (Ne.symm hTe)).trans he,hcls,hd,h1,hnT,hTe,Heap.get?_update_self _ hT (Obj.isFreed_of_fields (Obj.data_mapFields hdT _)),Obj.data_mapFields hdT _,by simp[hsz3]⟩
end
theorem Un.flyF{fs:List Addr}{H H':Hp}{h h1 h2 B:Heap}(un:Un fs [] H H' h h1)(big:Jf B fs H' h)(st1:B.StaysIn h1)(st2:B.StaysIn h2)
  (fr:∀b∈fs,H b=none∧∀o,h1.get? b=some o->∃sl,h2.get? b=some { o with slots:=sl }):Un fs [] H H' h h2 where
 keep:=fun b o e n hb hx=>by
  have e1:=un.keep b o e n hb hx;obtain⟨ob,eb⟩:=big.old b o e hb;have e2:=st1 b ob eb;rw[e1]at e2;cases e2;exact st2 b _ eb
 slot:=fun b o e n hb hx=>by
  obtain⟨s1,e1⟩:=un.slot b o e n hb hx;obtain⟨s2,e2⟩:=(fr b hb).2 _ e1;exact⟨s2,e2⟩
 free:=un.free
 there:=fun b o e hx=>by
  by_cases hb:b∈fs
  ·obtain⟨s1,e1⟩:=un.slot b o e (fr b hb).1 hb hx
   obtain⟨s2,e2⟩:=(fr b hb).2 _ e1;exact⟨_,e2⟩
  ·obtain⟨ob,eb⟩:=big.old b o e hb
   exact⟨_,st2 b ob eb⟩
 tups:=un.tups
 frzs:=un.frzs
 tbls:=un.tbls
theorem jj{h h' base base':Heap}:∀{l:List Env},h.FunFrames base l->(∀b,base.get? b=none->base'.get? b=none)->(∀b∈frs l,∀o,h.get? b=some o->h'.get? b=some o)->h'.FunFrames base' l
 | [],_,_,_=>trivial
 | env::r,⟨hk,⟨L,o,hf,hn,ho,hd⟩,hr⟩,h1,h2=>⟨hk,⟨L,o,hf,h1 L hn,h2 L (List.mem_filterMap.mpr ⟨env,.head _,hf⟩) o ho,hd⟩,jj hr h1 fun b hb o e=>h2 b (by
   obtain⟨x,hx,hy⟩:=List.mem_filterMap.mp hb;exact List.mem_filterMap.mpr ⟨x,.tail _ hx,hy⟩) o e⟩
theorem uk{h h':Heap}{C:Addr}{m:Str->Option Value}(n:h.Ns C m)(up:h.UpToSlots h'):h'.Ns C m:=by
 obtain⟨o,es,ep,ho,hd,hr⟩:=n;obtain⟨sl,e⟩:=up C o ho (fun vs z=>by rw[hd]at z;cases z);exact⟨_,es,ep,e,hd,hr⟩
end L2
namespace L2
open PySem PySem.Spec PyProof.Rows
section
variable {P:Program} {w:World} {K:W.Frag} {mg:Str->Option Value} {base:Heap} {N:List Str} {qual:Str} {scope:Scope} {f:Addr} {cdv:Value} {A:Around} {outer:List Env} {s₀:Shared} {H₀:Hp} {E:XK}
def wT(M:Model)(A:Around)(E:Value->Shared->Prop)(C:Addr)(ev:Value)(s':Shared):Prop :=
 ∃m,s'.heap.Ns C m∧∀h',Heap.SameBut C s'.heap h'->∀cenv:Env,cenv.locals=C->wpAny M A (PySem.passOn "comprehension.variables-let-go" ev cenv:Sem Value) (fun _ _=>False) E { s' with heap:=h' }
theorem iy{B:Heap}{C b:Addr}{o:Obj}(e:(W.hideAll B [C]).get? b=some o):b≠C∧B.get? b=some o:=by
 refine⟨fun z=>?_,W.of_hideAll _ e⟩;subst z;rw[W.hideAll_none _ (List.mem_singleton.mpr rfl)]at e;cases e
theorem iW{B:Heap}{C b:Addr}(e:B.get? b=none):(W.hideAll B [C]).get? b=none:=by
 cases q:(W.hideAll B [C]).get? b with
 | none=>rfl
 | some o =>
  rw[(iy q).2]at e;cases e
theorem lC{E1:XK}{pins:List (Addr×Obj)}{σ:St}{H:Hp}{s s':Shared}{ev:Value}{C:Addr}{m:Str->Option Value}{cenv:Env}(I:zT (aN (CXE P w) P w K mg base N qual scope f cdv A outer s₀ H₀ E) pins σ H s)
  (h:CXE P w (aN (CXE P w) P w K mg base N qual scope f cdv A outer s₀ H₀ E).stack H s E1 ev s') (hE:∀c o H',E1 c o H'->E c o H')
  (hcf:cenv.frame=(aN (CXE P w) P w K mg base N qual scope f cdv A outer s₀ H₀ E).env.frame) (hns:s.heap.Ns C m) (hCn:H C=none) (hCs:C∉frs (aN (CXE P w) P w K mg base N qual scope f cdv A outer s₀ H₀ E).stack) (hC0:s₀.heap.objs.size≤C) :
  notedBy (model P w) (aN (CXE P w) P w K mg base N qual scope f cdv A outer s₀ H₀ E).A cenv (wT (model P w) (aN (CXE P w) P w K mg base N qual scope f cdv A outer s₀ H₀ E).A (aN (CXE P w) P w K mg base N qual scope f cdv A outer s₀ H₀ E).xe C) ev s':=by
 obtain⟨ea,t,cls,H',B,rfl,os,bare,un,hok,fl,big,q⟩:=h;have ns1:s'.heap.Ns C m:=by
  obtain⟨o,es,ep,ho,hd,hr⟩:=hns;exact⟨o,es,ep,un.keep C o ho hCn hCs (by simp),hd,hr⟩
 have hC':H' C=none:=by
  obtain⟨o,es,ep,ho,hd,hr⟩:=hns;exact un.free C o ho hCn (by simp)
 unfold notedBy;have en:noteFrame (.ref ea) cenv=noteFrame (.ref ea) (aN (CXE P w) P w K mg base N qual scope f cdv A outer s₀ H₀ E).env:=by
  unfold noteFrame PySem.frameOf;rw[hcf]
 rw[en];refine wpAny_looks_onW (L:=s₀.heap.objs.size) I.ok.frames rfl fl fun h4 hheld up4=>?_;have ns4:h4.Ns C m:=uk ns1 up4;refine⟨m,ns4,fun h5 sb cenv' _=>?_⟩;obtain⟨k1,k2,k3,k4⟩:=hheld;have ndC:∀b o,h4.get? b=some o->∀vs,o.data = .fields vs->b≠C:=fun b o eb vs hd z=>by
  subst z;obtain⟨o2,es,ep,ho2,hd2,_⟩:=ns4;rw[eb]at ho2;cases ho2;rw[hd]at hd2;cases hd2
 have st5:(W.hideAll B [C]).StaysIn h5:=fun b o eb=>(sb.2 b (iy eb).1).trans (k1 b o (iy eb).2);have ff5:h5.FunFrames (W.hideAll B [C]) (aN (CXE P w) P w K mg base N qual scope f cdv A outer s₀ H₀ E).stack:=jj k3 (fun b z=>iW z) fun b hb o e=>(sb.2 b (fun z=>hCs (z▸hb))).trans e;have tr5:h5.TracedAtW (W.hideAll B [C]) ea cls (.ref t) (rawInt s₀.heap.objs.size):=by
  obtain⟨oe,vs,T,oT,ts,he,hcls,hd,h1,hnT,hTe,hT,hdT,h3⟩:=k4;exact⟨oe,vs,T,oT,ts,(sb.2 _ (ndC _ _ he _ hd)).trans he,hcls,hd,h1,iW hnT,hTe,(sb.2 _ (ndC _ _ hT _ hdT)).trans hT,hdT,h3⟩
 unfold PySem.passOn;obtain⟨oe,vs,T,oT,ts,he,hcls,hd,h1,hnT,hTe,hT,hdT,h3⟩:=id tr5;refine wpAny_bind (wpAny_field (s:={ s' with heap:=h5 }) he hd h1 ?_);rw[if_neg (show ¬((Value.ref T == Value.none)=true) by simp)];refine wpAny_bind (qB (s:={ s' with heap:=h5 }) st5 ff5 tr5 fun h6 st6 ff6 tr6 kp6=>?_);refine wpAny_throw ?_;refine qp (s:={ s' with heap:=h6 }) (L:=s₀.heap.objs.size) I.ok.frames rfl st6 (iW k2) ff6 tr6 fun h7 fl7 up7=>?_;have out:∀x o,s₀.heap.get? x=some o->x∈frs (aN (CXE P w) P w K mg base N qual scope f cdv A outer s₀ H₀ E).stack->x∈frs outer:=fun x o ex hm=>by
  rcases List.mem_cons.mp (I.stkSub x hm) with z|z
  ·exact absurd z (Nat.ne_of_lt (Nat.lt_of_lt_of_le (Heap.lt_size ex) I.ok.above))
  ·exact z
 have sub:∀x∈frs outer,x∈frs (aN (CXE P w) P w K mg base N qual scope f cdv A outer s₀ H₀ E).stack:=fun x hx=>by
  show x∈frs (_::outer);rw[oK (L:=s₀.heap.objs.size) rfl];exact List.mem_cons_of_mem _ hx
 have un1:Un (frs outer) [] H₀ H' s₀.heap s'.heap:=Un.shed I.base un sub out;have keepB:∀b ob,b≠C->B.get? b=some ob->∃ob,(W.hideAll B [C]).get? b=some ob:=fun b ob nb eb=>⟨ob,W.hideAll_get _ eb (by simpa using nb)⟩;have big1:Jf (W.hideAll B [C]) (frs outer) H' s₀.heap:=by
  refine⟨fun b o eb=>?_,fun b o eb hb=>?_⟩
  ·obtain⟨ob,z⟩:=big.tr b o eb
   refine keepB b ob (fun e=>?_) z;subst e;rw[hC']at eb;cases eb
  ·obtain⟨ob,z⟩:=I.base.there b o eb (by intro z;cases z)
   obtain⟨ob2,z2⟩:=big.old b ob z fun hm=>hb (out b o eb hm);exact keepB b ob2 (Nat.ne_of_lt (Nat.lt_of_lt_of_le (Heap.lt_size eb) hC0)) z2
 have st1:(W.hideAll B [C]).StaysIn s'.heap:=fun b o eb=>fl.1 b o (iy eb).2;refine⟨ea,t,cls,H',W.hideAll B [C],rfl,os.trans I.os,bare,Un.flyF un1 big1 st1 fl7.1 fun b hb=>⟨I.ok.frf b hb,fun o eo=>?_⟩,HOk.fly hok big1 st1 fl7.1,fl7,big1,hE _ _ _ q⟩;have nf:∀vs,o.data≠.fields vs:=by
  obtain⟨_,o2,eo2,nf2⟩:=fl.2.2.1.mem (sub b hb);rw[eo]at eo2;cases eo2;exact nf2
 obtain⟨s1,e1⟩:=up4 b o eo nf;have e5:h5.get? b=some { o with slots:=s1 }:=(sb.2 b (fun z=>hCs (z▸sub b hb))).trans e1;have e6:=kp6 b _ e5 nf;obtain⟨s2,e7⟩:=up7 b _ e6 nf;exact⟨s2,e7⟩
end
end L2
namespace L2
open PySem PySem.Spec PyProof.Rows
abbrev Cx.blkX(X:Cx)(Ex:XK)(N':List Str)(scope:Scope)(cl:List (Str×Addr))(fp:List Addr)(s₀:Shared)(H₀:Hp):Cx :=
 (X.blk N' scope cl fp s₀ H₀).wish fun ev s'=>∃(sc:Shared) (Hc:Hp) (τ:St) (pc:List (Addr×Obj)) (E1:XK),zT (X.blk N' scope cl fp s₀ H₀) pc τ Hc sc∧CXE X.prog X.w X.stack Hc sc E1 ev s'∧∀c o H',E1 c o H'->Ex c o H'
section
variable {X:Cx} {scope:Scope} {cl:List (Str×Addr)} {x:Str} {fv:List (Str×Nat)} {elt iter:Expr} {px pos:Pos} {te:TE}
theorem pI{pins:List (Addr×Obj)}{σ:St}{H2:Hp}{s2:Shared}{it:Addr}{fp:List Addr}{tn:Nat->Heap->Prop}{J:It}{RR:Value->Addr->Result->Shared->Prop}{E:Value->Shared->Prop}{Qf:V->Hp->Prop}{Ex:XK}
  (hcalm:X.calm=true) (C:AX X scope cl x fv) (I2:zT X pins σ H2 s2) (T:Gx X.prog X.w X.K (.Name x px) J fp it tn) (st:tn 0 s2.heap) (f2:∀b∈fp,eQ X pins H2 b)
  (rd:∀p,H2 p=none->∃W:Nat->Nat->List V->Hp->Prop,(∃m,W 0 m [] (upd H2 p (.lst [])))∧∀i m acc H2,W i m acc H2 ->
   H2 p=some (.lst acc)∧acc.length<sizeLine∧((J.stop i H2∧Qf (.ref p) H2)∨(J.go i H2∧∀x H3,J.yld i H2 x H3->te (some x::fvs fv σ) H3 fun y H4=>H4 p=some (.lst acc)∧∃m',m'<m∧W (i+1) m' (acc++[y]) (upd H4 p (.lst (acc++[y]))))))
  (he:∀(s₀:Shared) (H₀:Hp),PE (X.blkX Ex (x::fv.map (·.1)) scope cl fp s₀ H₀) elt te)
  (hRR:∀(p C:Addr) (H':Hp) (s':Shared),(∃m,s'.heap.Ns C m)->C≠X.env.locals->H' C=none->X.s₀.heap.objs.size≤C->(∀y c,X.env.cells.lookup y=some c->c≠C)->(∀q∈X.pn++pins,q.1≠C)->zT X pins σ H' s'->Qf (.ref p) H'->RR (.ref p) C (.ok .next) s')
  (hEE:∀(p C:Addr) (Hc:Hp) (sc s':Shared) (ev:Value) (E1:XK) (m:Str->Option Value) (cenv:Env),zT X pins σ Hc sc->CXE X.prog X.w X.stack Hc sc E1 ev s'->(∀c o H',E1 c o H'->Ex c o H')->cenv.frame=X.env.frame->sc.heap.Ns C m->Hc C=none->C∉frs X.stack->X.s₀.heap.objs.size≤C->notedBy (model X.prog X.w) X.A cenv (fun e s''=>RR (.ref p) C (.error e) s'') ev s') :
  wpAny (model X.prog X.w) X.A (newList []) (fun acc s₃=>wpAny (model X.prog X.w) X.A (newFunctionEnv scope X.env.globals cl [] X.env.qual none .none (some X.env)) (fun cenv s₄ =>
   codeAny (model X.prog X.w) X.A (.compStart (.ListComp elt [⟨.Name x px,iter,[],0⟩] scope pos) 0 (.ref it) acc { cenv with scope:=relabel scope X.env }) (RR acc cenv.locals) s₄) E s₃) E s2:=by
 refine wpAny_newObj_type ?_;have hfresh:=I2.fresh;have I3:zT X pins σ (upd H2 s2.heap.objs.size (.lst [])) { s2 with heap:=s2.heap.push { cls:=.type "list",data:=.seq ([]:List Value).toArray } } :=
  I2.laid (t':=s2.toks) (fun b u q=>Heap.get?_push_of_some _ q) (Nat.le_refl _) ⟨Nat.zero_le _,[],0,.nil,Heap.get?_push_size _ rfl⟩
 generalize hs3:({ s2 with heap:=s2.heap.push { cls:=.type "list",data:=.seq ([]:List Value).toArray } }:Shared)=s3 at I3 ⊢;have hp3:s2.heap.objs.size<s3.heap.objs.size:=by rw[<- hs3];exact Nat.lt_of_lt_of_le (Nat.lt_succ_self _) (Nat.le_of_eq (Heap.size_push _ _).symm)
 have k23:∀b o,s2.heap.get? b=some o->s3.heap.get? b=some o:=fun b o e=>by rw[<- hs3];exact Heap.get?_push_of_some _ e
 have fpo:∀b∈fp,b<s2.heap.objs.size:=fun b hb=>by
  obtain⟨o,e,_⟩:=T.obj 0 _ st b hb;exact Heap.lt_size e
 have f3:∀b∈fp,eQ X pins (upd H2 s2.heap.objs.size (.lst [])) b:=fun b hb=>⟨by rw[bi (Nat.ne_of_lt (fpo b hb))];exact(f2 b hb).1,(f2 b hb).2⟩;refine wpAny_newFunctionEnv C.cell (by intro y hy;simp at hy) (fun h1 hns1 hsb1=>?_) C.kind;have kp:∀b o,s3.heap.get? b=some o->h1.get? b=some o:=fun b o e=>(hsb1.2 b (Nat.ne_of_lt (Heap.lt_size e))).trans (Heap.get?_push_of_some _ e);have I4:=rY (s4:={ s3 with heap:=h1,toks:=s3.toks+([]:List (Str×Value)).length }) C I3 f3 (fun b hb=>Nat.lt_trans (fpo b hb) hp3) ⟨rfl,rfl⟩ hns1 kp;have st4:tn 0 h1:=T.keep 0 _ _ st fun b _ o e=>kp b o (k23 b o e);obtain⟨W,⟨m0,w0⟩,step⟩:=rd _ hfresh;have loop:codeAny (model X.prog X.w) X.A (.compLoop (.ListComp elt [⟨.Name x px,iter,[],0⟩] scope pos) 0 (.ref it) (.ref s2.heap.objs.size) (compEnvC scope cl s3.heap.objs.size X.env)) (RR (.ref s2.heap.objs.size) s3.heap.objs.size)
   { s3 with heap:=h1,toks:=s3.toks+([]:List (Str×Value)).length }:=by
  refine codeAny_compLoop_list (fun n s=>∃i acc σv H',zT (X.blk (x::fv.map (·.1)) scope cl fp s3 (upd H2 s2.heap.objs.size (.lst []))) [] (σv::fvs fv σ) H' s∧tn i s.heap∧(∀b∈fp,H' b=none)∧W i n acc H') ?_ m0 ⟨0,[],none,_,I4,st4,fun b hb=>(f3 b hb).1,w0⟩;rintro n s ⟨i,acc,σv,H',I',st',fr',w'⟩;obtain⟨hp,hlen,alt⟩:=step i n acc H' w';have fpk:∀{H5:Hp},(∀b∈fp,H5 b=none)->∀b∈fp,eQ (X.blk (x::fv.map (·.1)) scope cl fp s3 (upd H2 s2.heap.objs.size (.lst []))) [] H5 b:=fun h5 b hb =>
   ⟨h5 b hb,(I'.ok.exf b hb).1,I'.ok.exfs b hb,.inl hb,fun y c e=>(I'.ok.exf b hb).2 y c e,fun q hq=>by simp at hq⟩
  rcases alt with⟨stop,qf⟩|⟨go,turn⟩
  ·refine wpAny_mono (T.done (X.blk (x::fv.map (·.1)) scope cl fp s3 (upd H2 s2.heap.objs.size (.lst []))) rfl rfl rfl hcalm i [] s _ H' (fun _ _=>False) I' (fpk fr') st' stop) (fun r s5 ⟨hr,I5⟩=>?_) fun _ _ z=>False.elim z
   subst hr;refine hRR _ _ H' s5 (let ⟨m,hn,_⟩:=I5.loc;⟨m,hn⟩) (Nat.ne_of_gt I3.lt) I5.free I3.sz (fun y c e=>?_) (fun q hq=>?_) ?_ qf
   ·obtain⟨v,z⟩:=I3.cell y c e
    exact Nat.ne_of_lt z.lt
   ·exact Nat.ne_of_lt (Heap.lt_size (I3.pin q hq).1)
   ·exact I3.call' (s':=s5) (ch:=fp) I5.os I5.base I5.hok I5.bare fun b hb=>⟨(f2 b hb).2.2.2.1,(f2 b hb).2.1,(f2 b hb).2.2.2.2.1,(f2 b hb).2.2.2.2.2⟩
  ·refine wpAny_mono (T.item (X.blk (x::fv.map (·.1)) scope cl fp s3 (upd H2 s2.heap.objs.size (.lst []))) rfl rfl rfl hcalm i [] s _ H' (fun _ _=>False) I' (fpk fr') st' go) (fun r s5 ⟨u,hr,h5⟩=>?_) fun _ _ z=>False.elim z
   subst hr;have e5:assign (.Name x px) (compEnvC scope cl s3.heap.objs.size X.env) u=(letOwnedTupleGo (.Name x px) (.ref it) u >>= fun _=>assign (.Name x px) (compEnvC scope cl s3.heap.objs.size X.env) u):=by
    rw[show letOwnedTupleGo (.Name x px) (.ref it) u=pure () from rfl];rfl
   show wpAny _ _ (assign (.Name x px) (compEnvC scope cl s3.heap.objs.size X.env) u) _ _ _;rw[e5];refine wpAny_bind (wpAny_mono h5 (fun _ s6 ⟨y,H6,I6,r6,y6,st6,fr6⟩=>?_) fun _ _ z=>False.elim z);have I6':=I6.pinned (fpk fr6) (T.obj _ _ st6);have lx:(relabel scope X.env).names.lookup x=some .local:=lookup_relabel_local C.own;refine wpAny_mono (aI (X:=X.blk (x::fv.map (·.1)) scope cl fp s3 (upd H2 s2.heap.objs.size (.lst []))) (i:=0) C.nd rfl (.inl lx) (.inr lx) _ s6 _ H6 y u (fun σ7 H7=>σ7=some y::fvs fv σ∧H7=H6) I6' r6 ⟨rfl,rfl⟩) (fun _ s7 ⟨σ7,H7,I7,e7,e7'⟩=>?_) fun _ _ z=>False.elim z;subst e7 e7';refine wpAny_mono (he s3 _ _ s7 _ _ _ (I7.wish _) (turn y _ y6)) (fun v8 s8 ⟨y8,H8,I8',r8,q8,m',hm',w8⟩=>?_) fun ev s8 z=>?_
   rotate_left
   ·obtain⟨sc,Hc,τ,pc,E1,Ic,cx,hE⟩:=z
    have J:zT X pins σ Hc sc:=I3.call' (s':=sc) (ch:=fp) Ic.os Ic.base Ic.hok Ic.bare fun b hb=>⟨(f2 b hb).2.2.2.1,(f2 b hb).2.1,(f2 b hb).2.2.2.2.1,(f2 b hb).2.2.2.2.2⟩;obtain⟨mc,hmc,_⟩:=Ic.loc;refine hEE _ _ Hc sc s8 ev E1 mc _ J cx hE rfl hmc Ic.free (fun hb=>?_) I3.sz;obtain⟨_,o,ho,_⟩:=I3.stack.mem hb;exact absurd (Heap.lt_size ho) (Nat.lt_irrefl _)
   have I8:=I8'.unwish;refine wpAny_mono (gB (X:=X.blk (x::fv.map (·.1)) scope cl fp s3 (upd H2 s2.heap.objs.size (.lst []))) _ s8 _ H8 (.ref s2.heap.objs.size) [y8] (.ref s2.heap.objs.size) [v8] (fun _ H9=>H9=upd H8 s2.heap.objs.size (.lst (acc++[y8]))) I8 rfl (.cons r8 .nil) ⟨_,acc,y8,rfl,rfl,q8,hlen,rfl⟩) (fun _ s9 ⟨_,H9,I9,_,e9⟩=>?_) fun _ _ z=>False.elim z;subst e9;refine⟨m',hm',i+1,acc++[y8],some y,_,I9.unpinned,T.keep _ _ _ st6 fun b hb o e=>(I9.pin (b,o) (List.mem_append_right _ (List.mem_append_right _ (cQ hb e)))).1,fun b hb=>?_,w8⟩;obtain⟨o,e,d⟩:=T.obj _ _ st6 b hb;exact(I9.pin (b,o) (List.mem_append_right _ (List.mem_append_right _ (cQ hb e)))).2.1
 exact codeAny_compStart_list loop (T.self _ 0 _ _ _ st4 loop)
end
section
variable {P:Program} {w:World} {K:W.Frag} {mg:Str->Option Value} {base:Heap} {N:List Str} {qual:Str} {scope':Scope} {f:Addr} {cdv:Value} {A:Around} {outer:List Env} {s₀:Shared} {H₀:Hp} {E:XK}
variable {scope:Scope} {cl:List (Str×Addr)} {x:Str} {fv:List (Str×Nat)} {elt iter:Expr} {px pos:Pos} {te:TE}
theorem qc{X:Cx}{Ex:XK}{N':List Str}{fp:List Addr}{s₁:Shared}{H₁:Hp}{y:Str}{ps:List Str}{k:Nat}{ds:List V}{sp:Sp}{p pos:Pos}{e:Expr}{es:List Expr}{t:TA}(F:Fx X.prog X.w X.K X.mg X.base y ps k ds sp)(hr:A6 k X.A)(hg:Gl (X.blkX Ex N' scope cl fp s₁ H₁) y)(ha:PA (X.blkX Ex N' scope cl fp s₁ H₁) (e::es) t)
  (hdb:(y == ("__debug__" : Str))=false:=by decide) (he:starEach (e::es) (X.blkX Ex N' scope cl fp s₁ H₁).env=(false,eval e (X.blkX Ex N' scope cl fp s₁ H₁).env)::starEach es (X.blkX Ex N' scope cl fp s₁ H₁).env:=by rfl) (hpl:(backTo pos (starEach es (X.blkX Ex N' scope cl fp s₁ H₁).env)).any (·.1)=false:=by rfl) :
  PE (X.blkX Ex N' scope cl fp s₁ H₁) (.Call (.Name y p) (e::es) [] pos) (gR sp [] Ex t):=by
 obtain⟨g,fd,its,hm,hk,hb,_,_,G⟩:=F.ex;exact ie G hr hg hm hk hb .nil (fun pins σ H s e s' I h=>⟨s,H,σ,pins,Ex,I.unwish,h,fun _ _ _ z=>z⟩) ha hdb he hpl
theorem jf{wi:TI}{y:Str}{j:Nat}{py spos:Pos}(C:AX (aN (CXE P w) P w K mg base N qual scope' f cdv A outer s₀ H₀ E) scope cl x fv)(hN:N.Nodup)(hj:N[j]? = some y)(hy:(aN (CXE P w) P w K mg base N qual scope' f cdv A outer s₀ H₀ E).env.scope.names.lookup y=some .local)
  (hi:PI (aN (CXE P w) P w K mg base N qual scope' f cdv A outer s₀ H₀ E) (.Name x px) iter wi) (he:∀(fp:List Addr) (s₁:Shared) (H₁:Hp),PE ((aN (CXE P w) P w K mg base N qual scope' f cdv A outer s₀ H₀ E).blkX E (x::fv.map (·.1)) scope cl fp s₁ H₁) elt te)
  (hsw:swapsWith (.ListComp elt [⟨.Name x px,iter,[],0⟩] scope pos) (some (.Name y py)) spos.line (aN (CXE P w) P w K mg base N qual scope' f cdv A outer s₀ H₀ E).env=pure true:=by rfl)
  (hs:∀v,foldedSetIterable iter (aN (CXE P w) P w K mg base N qual scope' f cdv A outer s₀ H₀ E).env v=pure v:=by intro _;rfl):PS (aN (CXE P w) P w K mg base N qual scope' f cdv A outer s₀ H₀ E) (.Assign [.Name y py] (.ListComp elt [⟨.Name x px,iter,[],0⟩] scope pos) spos) (pO (mn wi fv te) (iz j)):=by
 intro pins s σ H D I h;rw[exec_Assign_Name_used _ _ _ _ hsw];refine wpAny_bind (wpAny_standAt (wpAny_bind ?_));show wpAny _ _ (do let _ <- comprehension (.ListComp elt [⟨.Name x px,iter,[],0⟩] scope pos) scope (aN (CXE P w) P w K mg base N qual scope' f cdv A outer s₀ H₀ E).env _ (newList []) false (eval iter (aN (CXE P w) P w K mg base N qual scope' f cdv A outer s₀ H₀ E).env) (some (assign (.Name y py) (aN (CXE P w) P w K mg base N qual scope' f cdv A outer s₀ H₀ E).env))) _ _ s
 refine wpAny_bind (wpAny_mono (wpAny_comprehension_free (use:=some (assign (.Name y py) (aN (CXE P w) P w K mg base N qual scope' f cdv A outer s₀ H₀ E).env)) (Q:=fun _ s'=>SP (aN (CXE P w) P w K mg base N qual scope' f cdv A outer s₀ H₀ E) pins D .next s') rfl hs C.clos C.kind C.names
  (wpAny_mono (hi pins s σ H _ I h) (fun v s1 h1=>wpAny_mono h1 (fun itv s2 h2=>?_) fun _ _ z=>z) fun _ _ z=>z)) (fun _ s' hq=>wpAny_pure (wpAny_pure hq)) fun _ _ z=>z)
 obtain⟨it,fp,tn,J,H2,rfl,I2,T,st2,f2,rd⟩:=h2;refine pI (Ex:=E) (Qf:=fun v H'=>iz j v σ H' D.nx) rfl C I2 T st2 f2 rd (he fp) (fun p D' H' s' ns nL nH n0 nC nP I8 q=>?_) fun p D' Hc sc s' ev E1 m cenv Ic cx hE hcf hns hCn hCs hC0=>lC Ic cx hE hcf hns hCn hCs hC0;obtain⟨m,hn⟩:=ns;show wpAny _ _ (assign (.Name y py) (aN (CXE P w) P w K mg base N qual scope' f cdv A outer s₀ H₀ E).env (.ref p)) _ _ _;refine wpAny_assign_Name (iO I8 hN hj (.inl hy) (v:=.ref p) rfl (fun s9 I9 ⟨a,sb,ha⟩=>?_) (.inr hy));have aD:D'≠a:=by
  rintro rfl;rcases ha with z|z
  ·exact nL z
  ·exact nC y _ z rfl
 exact⟨m,hn.sameBut sb aD,fun h'' sb2=>⟨_,H',I9.turned (t':=s9.toks) (fun b o hb e=>(sb2.2 b hb).trans e) nH nL (.inr n0) nC nP,q⟩⟩
theorem ue{wi:TI}(C:AX (aN (CXE P w) P w K mg base N qual scope' f cdv A outer s₀ H₀ E) scope cl x fv)
  (hi:PI (aN (CXE P w) P w K mg base N qual scope' f cdv A outer s₀ H₀ E) (.Name x px) iter wi) (he:∀(fp:List Addr) (s₁:Shared) (H₁:Hp),PE ((aN (CXE P w) P w K mg base N qual scope' f cdv A outer s₀ H₀ E).blkX E (x::fv.map (·.1)) scope cl fp s₁ H₁) elt te)
  (hs:∀v,foldedSetIterable iter (aN (CXE P w) P w K mg base N qual scope' f cdv A outer s₀ H₀ E).env v=pure v:=by intro _;rfl):PE (aN (CXE P w) P w K mg base N qual scope' f cdv A outer s₀ H₀ E) (.ListComp elt [⟨.Name x px,iter,[],0⟩] scope pos) (mn wi fv te):=by
 intro pins s σ H Q I h;rw[eval_ListComp];refine wpAny_comprehension_free (use:=none) rfl hs C.clos C.kind C.names (wpAny_mono (hi pins s σ H _ I h) (fun v s1 h1=>wpAny_mono h1 (fun itv s2 h2=>?_) fun _ _ z=>z) fun _ _ z=>z);obtain⟨it,fp,tn,J,H2,rfl,I2,T,st2,f2,rd⟩:=h2;refine pI (Ex:=E) (Qf:=Q) rfl C I2 T st2 f2 rd (he fp) (fun p D H' s' ns nL nH n0 nC nP I8 q=>?_) fun p D' Hc sc s' ev E1 m cenv Ic cx hE hcf hns hCn hCs hC0=>lC Ic cx hE hcf hns hCn hCs hC0;obtain⟨m,hn⟩:=ns;exact⟨m,hn,fun h'' sb=>⟨.ref p,H',I8.turned (t':=s'.toks) (fun b o hb e=>(sb.2 b hb).trans e) nH nL (.inr n0) nC nP,rfl,q⟩⟩
end
end L2
namespace L2
open PySem PySem.Spec PyProof.Rows
theorem nA{K:W.Frag}{a:Addr}{xs:List V}{fv:List (Str×Nat)}{te:TE}{σ:St}{H1:Hp}{Q:VK}(hL:SqL K H1 a xs)(hlen:xs.length<1000000)(R:Nat->V->Hp->Prop)(hR:∀i v H H',SameT H H'->R i v H->R i v H')
  (hs:∀i x H2 (Kc:VK),xs[i]? = some x->Same H1 H2->(∀y H4,Same H2 H4->R i y H4->Kc y H4)->te (some x::fvs fv σ) H2 Kc)
  (hd:∀l ys H',H1 l=none->Same H1 H'->H' l=some (.lst ys)->ys.length=xs.length->(∀i y,ys[i]? = some y->R i y H')->Q (.ref l) H') :
  nS (Itl K a) fv te σ H1 Q:=by
 intro l hl;have hz:sizeLine=16777216:=sizeLine_eq;refine jc (K:=K) (a:=a) (xs:=xs) (l:=l) (fv:=fv) (Qp:=fun H2=>Q (.ref l) H2) (fun i acc H2=>acc.length=i∧Same H1 H2∧H2 l=some (.lst acc)∧∀j y,acc[j]? = some y->R j y H2)
  ⟨rfl,Same.new hl,upd_same,fun j y h=>by simp at h⟩ ?_ ?_ ?_
 ·rintro i acc H2 hi ⟨e1,sm,e3,_⟩
  exact⟨sm.seq hL,e3,by omega⟩
 ·rintro i x acc H2 Kc hx ⟨e1,sm,e3,hr⟩ kk
  refine hs i x H2 Kc hx sm fun y H4 s4 ry=>kk y H4 (s4 _ _ e3) ⟨by simp[e1],(sm.trans s4).upd hl,upd_same,fun j z hz=>?_⟩;have t4:=SameT.upd (ys:=acc++[y]) (s4 _ _ e3);rcases Nat.lt_trichotomy j acc.length with h|h|h
  ·rw[List.getElem?_append_left h]at hz
   exact hR _ _ _ _ (s4.t.trans t4) (hr j z hz)
  ·subst h
   rw[List.getElem?_append_right (Nat.le_refl _),Nat.sub_self]at hz;cases hz;rw[e1];exact hR _ _ _ _ t4 ry
  ·rw[List.getElem?_eq_none (by simp;omega)]at hz
   cases hz
 ·rintro acc H2 ⟨e1,sm,e3,hr⟩
  exact hd l acc H2 hl sm e3 e1 hr
end L2
namespace Dr
open PySem PySem.Spec L2 Mth Sp1 Sp2 Sp3 Sp7
def Pot(H:Hp)(p:Addr)(k:Int):Prop:=∃a b c:Int,H p=some (.lst [.int a,.int b,.int c])∧0≤b∧b≤k∧0≤c∧c<2147483647
def But(p:Addr)(H H':Hp):Prop:=∀b o,b≠p->H b=some o->H' b=some o
theorem But.refl{p:Addr}{H:Hp}:But p H H:=fun _ _ _ e=>e
theorem But.trans{p:Addr}{H H1 H2:Hp}(a:But p H H1)(b:But p H1 H2):But p H H2:=fun c o n e=>b c o n (a c o n e)
theorem But.of{p:Addr}{H H':Hp}(s:Same H H'):But p H H':=fun c o _ e=>s c o e
theorem But.same{p:Addr}{H0 H H':Hp}(b:But p H H')(s:Same H0 H)(h:H0 p=none):Same H0 H':=fun c o e=>b c o (aS e h) (s c o e)
theorem Pot.mono{H:Hp}{p:Addr}{k k':Int}(h:Pot H p k)(hk:k≤k'):Pot H p k':=by
 obtain⟨a,b,c,e,h0,h1,h2,h3⟩:=h;exact⟨a,b,c,e,h0,by omega,h2,h3⟩
theorem Pot.same{H H':Hp}{p:Addr}{k:Int}(h:Pot H p k)(s:Same H H'):Pot H' p k:=by
 obtain⟨a,b,c,e,h0⟩:=h;exact⟨a,b,c,s _ _ e,h0⟩
theorem But.t{p:Addr}{H H':Hp}{k:Int}(b:But p H H')(h:Pot H p k):SameT H H':=fun c xs e=>by
 obtain⟨x,y,z,ep,_⟩:=h;exact b c _ (uq e ep (by intro z;cases z)) e
theorem Pot.ne{H:Hp}{p l:Addr}{k:Int}(h:Pot H p k)(hl:H l=none):l≠p:=fun z=>by
 obtain⟨x,y,w,ep,_⟩:=h;subst z;rw[hl]at ep;cases ep
theorem But.none{p l:Addr}{H H':Hp}(b:But p H H')(n:l≠p)(h:H' l=none):H l=none:=by
 cases e:H l with
 | none=>rfl
 | some o =>
  rw[b l o n e]at h;cases h
inductive spCell (K:W.Frag) (vs:List V) (H:Hp) (Q:VK) (x_3:XK):Prop
 | mk:∀(sa:Addr) (ss:List Int) (k:Int),(vs = [.ref sa,.int k])->(SqL K H sa (ss.map V.int))->(0≤k)->(∀c:Int,Q (.int c) H)->spCell K vs H Q x_3
inductive spBegun (vs:List V) (H:Hp) (Q:VK) (x_3:XK):Prop
 | mk:∀c:Int,(vs = [.int c])->(∀(p:Addr) (H':Hp),Same H H'->H p=none->Pot H' p 0->Q (.ref p) H')->spBegun vs H Q x_3
inductive spTk (vs:List V) (H:Hp) (Q:VK) (x_3:XK):Prop
 | mk:∀(p:Addr) (m k:Int),(vs = [.ref p,.int m])->(Pot H p k)->(k≤1000000)->((0<m∧au m≤8000))->(∀(r:Int) (H':Hp),0≤r->r<m->But p H H'->Pot H' p (k+1)->Q (.int r) H')->spTk vs H Q x_3
inductive spWd (vs:List V) (H:Hp) (Q:VK) (x_3:XK):Prop
 | mk:∀(p:Addr) (m k:Int),(vs = [.ref p,.int m])->(Pot H p k)->(k≤900000)->((0<m∧au m≤8000))->(∀(r:Int) (H':Hp),0≤r->r<m->But p H H'->Pot H' p (k+4)->Q (.int r) H')->spWd vs H Q x_3
inductive spDLine (vs:List V) (H:Hp) (Q:VK) (x_3:XK):Prop
 | mk:∀(p:Addr) (k:Int),(vs = [.ref p])->(Pot H p k)->(k≤800000)->(∀(l:Addr) (qs:Crn) (H':Hp),LineM H' l qs->1≤qs.length->qs.length≤10->H l=none->But p H H'->Pot H' p (k+100)->Q (.ref l) H')->spDLine vs H Q x_3
inductive Go (vs:List V) (H:Hp) (Q:VK) (x_3:XK):Prop
 | mk:∀(p l:Addr) (qs:Crn) (k:Int),(vs = [.ref p,.ref l])->(Pot H p k)->(k≤700000)->(LineM H l qs)->((1≤qs.length∧qs.length≤10))->(∀(r:Addr) (rs:Crn) (H':Hp),LineM H' r rs->1≤rs.length->rs.length≤10->H r=none->But p H H'->Q (.ref r) H')->Go vs H Q x_3
inductive Gq (K:W.Frag) (vs:List V) (H:Hp) (Q:VK) (x_3:XK):Prop
 | mk:∀(sa:Addr) (ss:List Int),(vs = [.ref sa])->(SqL K H sa (ss.map V.int))->(∀(t l r:Addr) (qs rs:Crn) (H':Hp),Same H H'->H' t=some (.tup [.ref l,.ref r])->LineM H' l qs->(1≤qs.length∧qs.length≤10)->LineM H' r rs->(1≤rs.length∧rs.length≤10)->H l=none->H r=none->l≠r->Q (.ref t) H')->Gq K vs H Q x_3
theorem _root_.Sp7.LineM.but{p l:Addr}{H H':Hp}{qs:Crn}{k:Int}(L:LineM H l qs)(b:But p H H')(h:Pot H p k)(n:l≠p):LineM H' l qs:=⟨b l _ n L.lst,fun q hq=>⟨b.t h _ _ (L.crn q hq).1,(L.crn q hq).2⟩⟩
end Dr
namespace Dr
open PySem PySem.Spec L2 Mth Sp1 Sp2 Sp3 Sp7
theorem mJ{n:Nat}{i:Int}(h0:0≤i)(h1:i<(n:Int)):ixN n i=some i.toNat:=by
 unfold ixN;rw[if_pos h0,if_pos h1]
theorem uz{K:W.Frag}{H:Hp}{l:Addr}{xs:List V}{i:Int}{Q:VK}(C:Int->Prop)(e:H l=some (.lst xs))(h0:0≤i)(h1:i<(xs.length:Int))(hC:∀v∈xs,∃m,v = .int m∧C m)(h:∀m,C m->Q (.int m) H):Im K (.ref l) (.int i) H Q :=
 xV e h0 h1 fun v hv=>by
  obtain⟨m,rfl,hc⟩:=hC v hv;exact h m hc
theorem yu{qs:Crn}{k:Int}(h0:0≤k)(h1:k<(qs.length:Int)):∃q,qs[k.toNat]? = some q∧atI (qs.map fun (q:Addr×Int×Int)=>V.ref q.1) k=some (.ref q.1):=by
 have hk:k.toNat<qs.length:=by omega
 refine⟨qs[k.toNat],List.getElem?_eq_getElem hk,?_⟩;have:=dP (xs:=qs.map fun (q:Addr×Int×Int)=>V.ref q.1) (j:=k.toNat) (v:=.ref qs[k.toNat].1) (by rw[List.getElem?_map,List.getElem?_eq_getElem hk];rfl);rw[show((k.toNat:Nat):Int)=k by omega]at this;exact this
def yb(s:Stmt):Stmt:=match s with
 | .If _ (b::_) _ _=>b
 | _=>.Pass ⟨0,0,0,0⟩
def qU(s:Stmt):Expr:=match s with
 | .Return (some e) _=>e
 | .Assign _ e _=>e
 | .If e _ _ _=>e
 | _=>.Name "" ⟨0,0,0,0⟩
end Dr
namespace Dr
open PySem
def compScope(e:Expr):Scope:=match e with
 | .ListComp _ _ sc _=>sc
 | .Call _ [.ListComp _ _ sc _] _ _=>sc
 | _=>{ kind:=.function,names:=[],isGenerator:=false,isCoroutine:=false }
end Dr
namespace PySem
namespace F
theorem lri_no_len:typeLookup (.type "list_reverseiterator") (Str.ofString "__len__")=pure none:=by rw[typeLookup_type,builtinLookup_eq_fast];kernel_rfl
theorem lri_hint:typeLookup (.type "list_reverseiterator") (Str.ofString "__length_hint__")=pure (some (.builtin "list_reverseiterator.__length_hint__")):=by rw[typeLookup_type,builtinLookup_eq_fast];kernel_rfl
end F
section
variable {prog:Program} {w:World} {A:Around} {E:Value->Shared->Prop} {s:Shared}
theorem jN{it:Addr}{Q:Bool->Shared->Prop}(hT:s.TypeIs (.ref it) "list_reverseiterator")(h:Q false s):wpAny (model prog w) A (Builtin.List.listLengthHint (.ref it)) Q E s:=by
 unfold Builtin.List.listLengthHint;refine wpAny_bind (wpAny_specialOf hT F.lri_no_len ?_);show wpAny _ A (specialOf (Value.ref it) (Str.ofString "__length_hint__") >>= _) _ _ _;refine wpAny_bind (wpAny_specialOf hT F.lri_hint ?_);generalize hid:("list_reverseiterator.__length_hint__" : String)=id0
 wp_delta
 rw[show splitId id0=some ("list_reverseiterator","__length_hint__") from by subst hid;decide +kernel];subst hid;refine wpAny_bind (wpAny_isInstance (T:="list_reverseiterator") (b:=true) hT (by rw[isSubtype_type];kernel_rfl) ?_);refine wpAny_ite_split (fun hab=>absurd hab (by decide)) (fun _=>?_);refine wpAny_ite_split (fun _=>?_) (fun hab=>absurd (by decide +kernel) hab);refine wpAny_ite_split (fun hab=>absurd hab (by decide +kernel)) (fun _=>?_);exact wpAny_pure h
theorem iM{R:Result->Shared->Prop}{it l:Addr}{items:Array Value}(hh:A.handled=none)(hit:s.heap.IsRevIter it l ((items.size:Int) - 1))(hl:s.heap.IsList l items)(hne:l≠it)(hn:items.size≤sizeLine)(S:Addr)(res:Value)(c₀:Nat)(hSi:S≠it)(hSl:S≠l)
  (hS:s.heap.get? S=some { cls:=.type "list",data:=.seq #[] c₀ })
  (hR:∀h' tk acc' c',(∀b o,b≠S->b≠it->s.heap.get? b=some o->h'.get? b=some o)->h'.get? S=some { cls:=.type "list",dict:=none,data:=.seq acc' c',slots:=#[] } ->
   ItemsOf (fun i v=>items[items.size - 1 - i]? = some v) acc' items.size->R (.ok (.ret res)) { s with heap:=h',toks:=tk }) :
  wpAny (model prog w) A.in1 (Builtin.List.listExtendWith (.ref S) (.ref it) res)
   (fun fin s'=>match fin with | .done f=>R (.ok f) s' | .again c'=>c'.quiet=true∧codeAny (model prog w) A c' R s') (fun e s'=>R (.error e) s') s:=by
 have W:=(Walks.listRev (prog:=prog) (w:=w) (A:=A.in1) hh it l hne items).toS;have hSf:S∉[it,l]:=fun hm=>by
  simp only[List.mem_cons,List.not_mem_nil,or_false]at hm;rcases hm with e|e
  ·exact hSi e
  ·exact hSl e
 unfold Builtin.List.listExtendWith;refine wpAny_bind (wpAny_typeOf hit.typeIs ?_);have h1:Builtin.List.listSameRef (.ref S) (.ref it)=false:=by simp[Builtin.List.listSameRef,hSi]
 have h2:(Value.type "list_reverseiterator" == Value.type "list")=false:=by decide
 have h3:(Value.type "list_reverseiterator" == Value.type "tuple")=false:=by decide
 simp only[h1,h2,h3,Bool.or_false,Bool.false_eq_true,if_false];refine wpAny_bind (wpAny_pyIter_revIter hit ?_);refine wpAny_bind (wpAny_holding (jN hit.typeIs ?_));refine wpAny_ite_split (fun hab=>absurd hab (by decide +kernel)) (fun _=>?_);refine wpAny_pure ⟨plainId_quiet F.plain_extend_loop _,codeAny_extend_loopS W hn S hSf res items.size 0 s #[] c₀ rfl (Nat.zero_le _) ⟨Nat.zero_le _,by simpa using hit,hl⟩ hS (ItemsOf.nil _) fun s' acc' c' hm hS' hacc=>?_⟩;rw[Moved.eq_with hm];refine hR s'.heap s'.toks acc' c' (fun b o hb hi e=>hm.heap b o (fun hmem=>?_) e) hS' hacc;rcases List.mem_cons.mp hmem with e'|hmem
 ·exact hb e'
 ·exact hi (List.mem_singleton.mp hmem)
theorem k7{Q:Value->Shared->Prop}{it l:Addr}{items:Array Value}(hh:A.handled=none)(hit:s.heap.IsRevIter it l ((items.size:Int) - 1))(hl:s.heap.IsList l items)(hne:l≠it)(hn:items.size≤sizeLine)
  (hQ:∀h' tk acc' c',(∀b o,b≠it->s.heap.get? b=some o->h'.get? b=some o) ->
   h'.get? s.heap.objs.size=some { cls:=.type "list",dict:=none,data:=.seq acc' c',slots:=#[] }->ItemsOf (fun i v=>items[items.size - 1 - i]? = some v) acc' items.size->Q (.ref s.heap.objs.size) { s with heap:=h',toks:=tk }) :
  wpAny (model prog w) A (call (.type "list") [.ref it]) Q E s:=by
 obtain⟨oi,hoi,_⟩:=id hit;obtain⟨ol,hol,_⟩:=id hl;have hi:=Heap.lt_size hoi;have hll:=Heap.lt_size hol;refine callType_codes (Q₁:=fun obj s₁=>obj = .ref s.heap.objs.size∧s₁={ s with heap:=s.heap.push { cls:=.type "list",data:=.seq #[] } }) F.called_list (F.typeCall_list_1 _) F.entry_list_init
  (code_list_new _ ⟨rfl,rfl⟩) fun obj s₁ h₁=>?_
 obtain⟨rfl,rfl⟩:=h₁;have hS:(s.heap.push { cls:=.type "list",data:=.seq #[] }).get? s.heap.objs.size=some { cls:=.type "list",data:=.seq #[] }:=Heap.get?_push_size _ rfl;refine⟨⟨_,hS,rfl⟩,F.args_list_init_2 _ _,?_⟩;show wpAny _ _ (do let old <- Builtin.List.listItems (.ref s.heap.objs.size);Builtin.List.listUpdate (.ref s.heap.objs.size) (fun _=>#[]);letGo old.toList.reverse;Builtin.List.listExtendWith (.ref s.heap.objs.size) (.ref it) .none) _ _ _
 refine wpAny_bind ?_;unfold Builtin.List.listItems;refine wpAny_bind (wpAny_seqItems hS rfl (wpAny_pure ?_));show wpAny _ _ (updateSeq s.heap.objs.size (fun _=>#[]) >>= fun _=>letGo (#[]:Array Value).toList.reverse >>= fun _=>Builtin.List.listExtendWith (.ref s.heap.objs.size) (.ref it) .none) _ _ _;refine wpAny_bind (wpAny_updateSeq hS rfl ?_);have hS₂:=Heap.get?_update_self (Obj.mapSeq (fun _=>(#[]:Array Value))) hS rfl;have oth:∀b o,b≠s.heap.objs.size->s.heap.get? b=some o->((s.heap.push { cls:=.type "list",data:=.seq #[] }).update s.heap.objs.size (Obj.mapSeq (fun _=>(#[]:Array Value)))).get? b=some o :=
  fun b o hb e=>(Heap.get?_update_other _ _ (Ne.symm hb)).trans (Heap.get?_push_of_some _ e)
 refine wpAny_bind (wpAny_letGo ?_);refine iM (A:=A.in1) hh (hit.at fun o e=>oth it o (Nat.ne_of_lt hi) e) (hl.at fun o e=>oth l o (Nat.ne_of_lt hll) e) hne hn _ .none _ (Nat.ne_of_gt hi) (Nat.ne_of_gt hll) hS₂ fun h' tk acc' c' hk hS' hacc=>?_;exact⟨rfl,hQ h' tk acc' c' (fun b o hb e=>hk b o (Nat.ne_of_lt (Heap.lt_size e)) hb (oth b o (Nat.ne_of_lt (Heap.lt_size e)) e)) hS' hacc⟩
end
end PySem
namespace L2
open PySem PySem.Spec PyProof.Rows
section
variable {X:Cx} {e:Expr} {te:TE} {p1 p2 q1 q2:Pos}
theorem pG:bootBuiltins "reversed" = some (.type "reversed"):=by decide +kernel
def tR(K:W.Frag)(te:TE):TE:=fun σ H Q=>te σ H fun x H1=>∃a xs,[x] = [.ref a]∧SqL K H1 a xs∧∀l H2,Same H1 H2->H2 l=some (.lst xs.reverse)->H1 l=none->Q (.ref l) H2
theorem ji(hcalm:X.calm=true)(gl:Gl X "list")(ml:X.mg "list" = none)(gr:Gl X "reversed")(mr:X.mg "reversed" = none)(he:PE X e te)
  (h1:starEach [.Call (.Name "reversed" p1) [e] [] q1] X.env = [(false,eval (.Call (.Name "reversed" p1) [e] [] q1) X.env)]:=by rfl) (h2:starEach [e] X.env = [(false,eval e X.env)]:=by rfl) :
  PE X (.Call (.Name "list" p2) [.Call (.Name "reversed" p1) [e] [] q1] [] q2) (tR X.K te):=by
 intro pins s σ H Q I h;have h':(dB te mj) σ H (fun vs H1=>∃a xs,vs = [.ref a]∧SqL X.K H1 a xs∧∀l H2,Same H1 H2->H2 l=some (.lst xs.reverse)->H1 l=none->Q (.ref l) H2):=h;have inner:wpAny (model X.prog X.w) X.A (eval (.Call (.Name "reversed" p1) [e] [] q1) X.env) (fun u s1=>∃(it a:Addr) (xs:List V) (its:List Value) (H1:Hp),u = .ref it∧zT X pins σ H1 s1∧aO xs its∧s1.heap.IsList a its.toArray∧xs.length≤sizeLine∧a≠it∧eQ X pins H1 it∧s1.heap.IsRevIter it a ((its.toArray.size:Int) - 1) ∧
   ∀l H2,Same H1 H2->H2 l=some (.lst xs.reverse)->H1 l=none->Q (.ref l) H2) X.xe s:=by
  refine wpAny_Call_Name_kw (fW I gr mr pG (PyProof.Rows.callWith_type1 (thn ((aa he ae h2) q1 pins s σ H (fun vs H1=>∃a xs,vs = [.ref a]∧SqL X.K H1 a xs∧∀l H2,Same H1 H2->H2 l=some (.lst xs.reverse)->H1 l=none->Q (.ref l) H2) I ?_) fun us s1 ⟨vs,H1,I1,r1,q⟩=>?_) h2 rfl))
  ·exact h'
  ·obtain⟨a,xs,rfl,hx,k⟩:=q
   obtain⟨u,rfl,ru⟩:=cT r1;cases ru;obtain⟨its,rv,pl,hz⟩:=I1.list hx;refine call_reversed_list pl.isList ?_;have al:a<s1.heap.objs.size:=by obtain⟨_,e,_⟩:=pl.isList;exact Heap.lt_size e
   have kp:∀b o,s1.heap.get? b=some o->(s1.heap.push (revObj a ((its.toArray.size:Int) - 1))).get? b=some o:=fun b o e=>Heap.get?_push_of_some _ e;exact⟨_,a,xs,its,H1,rfl,I1.kept (t':=s1.toks) kp,rv,pl.isList.at fun o e=>kp _ o e,hz,Nat.ne_of_lt al,I1.fpOk (Nat.le_refl _) (I1.hok.fresh (Nat.le_refl _)),⟨_,Heap.get?_push_size _ rfl,rfl,rfl⟩,k⟩
 refine wpAny_Call_Name_kw (fW I gl ml gH (PyProof.Rows.callWith_type1 ?_ h1 rfl));rw[h1];refine Calls.spliced_cons (thn inner fun u s1 ⟨it,a,xs,its,H1,eu,I1,rv,hl,hz,hne,fp,hrev,k⟩=>?_);subst eu;refine Calls.spliced_nil ?_;have hlen:=rv.length;refine k7 (I.ok.hd hcalm) hrev hl hne (by rw[List.size_toArray];omega) fun h' tk acc' c' hk hS hacc=>?_;obtain⟨f0,f1,f2,f3,f4,f5⟩:=fp;have hfr:H1 s1.heap.objs.size=none:=I1.hok.fresh (Nat.le_refl _);have J1:zT X pins σ H1 { s1 with heap:=h',toks:=tk }:=I1.turned (fun b o hb e=>hk b o hb e) f0 f1 f3 f4 f5;have hv:aO xs.reverse acc'.toList:=by
  have e:acc'=its.reverse.toArray:=by
   obtain⟨h3,h4⟩:=hacc;refine Array.ext ?_ fun j hj1 hj2=>?_
   ·rw[h3];simp
   ·have z:=h4 j _ (Array.getElem?_eq_getElem hj1)
    rw[List.size_toArray]at z;have hj:j<its.length:=by simpa using hj2
    have z':its[its.length - 1 - j]? = some acc'[j]:=by simpa using z
    have y:its.reverse[j]? = its[its.length - 1 - j]?:=by rw[List.getElem?_reverse hj]
    rw[z']at y;have y2:its.reverse.toArray[j]? = some acc'[j]:=by simpa using y
    rw[Array.getElem?_eq_getElem hj2]at y2;exact(Option.some.inj y2).symm
  rw[e];exact rv.reverse
 have hn:X.s₀.heap.get? s1.heap.objs.size=none:=by
  cases e:X.s₀.heap.get? s1.heap.objs.size with
  | none=>rfl
  | some o=>exact absurd (Nat.lt_of_lt_of_le (Heap.lt_size e) I1.sz) (Nat.lt_irrefl _)
 obtain⟨g0,g1,g2,g3,g4,g5⟩:=I1.fpOk (H':=H1) (Nat.le_refl _) hfr;have J2:=J1.track (o:=.lst xs.reverse) hfr hn g1 g4 g5 ⟨by rw[List.length_reverse];exact hz,acc'.toList,c',hv,by simpa using hS⟩;exact⟨.ref s1.heap.objs.size,_,J2,rfl,k _ _ (Same.new hfr) upd_same hfr⟩
end
section
variable {X:Cx}
inductive Hy (x:V) (vs:List V) (H:Hp) (Q:VK):Prop
 | mk:∀l xs i k y,(x = .ref l)->(vs = [.int i])->(H l=some (.lst xs))->(-(2^63)≤i)->(i<2^63)->(seqIndex? i xs.length=some k)->(xs[k]? = some y)->(∀H',GP H H' l xs (xs.eraseIdx k)->Q y H')->Hy x vs H Q
theorem sK:MtM X "list.pop" Hy:=fun pins s σ H x xs v us Q I rx rs ⟨l,ys,i,k,y,e1,e2,h,b1,b2,hk,hy,q⟩ =>
 uu pins s σ H x xs v us Q I rx rs ⟨l,ys,i,k,y,e1,e2,h,b1,b2,hk,hy,q _ (.mk' h)⟩
end
end L2
namespace Wk
open PySem PySem.Spec L2 Mth Sp1 Sp2 Sp3 Sp7 Dr
structure Pr where
 p:Addr
 x:Addr
 y:Addr
 a:Int
 b:Int
 c:Int
 d:Int
structure PrAt(H:Hp)(q:Pr):Prop where
 p_:H q.p=some (.tup [.ref q.x,.ref q.y])
 x_:H q.x=some (.tup [.int q.a,.int q.b])
 y_:H q.y=some (.tup [.int q.c,.int q.d])
 lx:AM q.a q.b
 ly:AM q.c q.d
 nx:0≤q.a
 ny:0≤q.c
 ba:au q.a≤200
 bb:au q.b≤60
 bc:au q.c≤200
 bd:au q.d≤60
theorem PrAt.t{H H':Hp}{q:Pr}(h:PrAt H q)(s:SameT H H'):PrAt H' q:=⟨s _ _ h.p_,s _ _ h.x_,s _ _ h.y_,h.lx,h.ly,h.nx,h.ny,h.ba,h.bb,h.bc,h.bd⟩
theorem PrAt.sx{H:Hp}{q:Pr}(h:PrAt H q):Ea q.a q.b:=⟨h.lx.pos,ai h.ba (by decide),ai h.bb (by decide)⟩
theorem PrAt.sy{H:Hp}{q:Pr}(h:PrAt H q):Ea q.c q.d:=⟨h.ly.pos,ai h.bc (by decide),ai h.bd (by decide)⟩
def prs(ps:List Pr):List V:=ps.map fun q=>V.ref q.p
structure zU(H:Hp)(l:Addr)(ps:List Pr):Prop where
 lst:H l=some (.lst (prs ps))
 pr:∀q∈ps,PrAt H q
theorem zU.mono{H H':Hp}{l:Addr}{ps:List Pr}(h:zU H l ps)(s:Same H H'):zU H' l ps:=⟨s _ _ h.lst,fun q hq=>(h.pr q hq).t s.t⟩
theorem aV(ps:List Pr):(prs ps).length=ps.length:=List.length_map _
theorem cV{ps:List Pr}{i:Nat}{v:V}(h:(prs ps)[i]? = some v):∃q,ps[i]? = some q∧v = .ref q.p:=by
 unfold prs at h;rw[List.getElem?_map]at h;obtain⟨q,hq,rfl⟩:=Option.map_eq_some_iff.mp h;exact⟨q,hq,rfl⟩
def aQ:Str:="hops"
def cp:Str:="free"
def gQ:Str:="part"
def wOn:Str:="on"
def isP(a b n:Int):Bool:=decide (a=n) && decide (b=1)
def inB(n m:Int)(q:Pr):Bool:=(decide (q.a≤n*q.b)) && (decide (q.c≤m*q.d))
def cK(n m:Int)(H:Hp):V->Bool
 | .ref p=>match H p with
  | some (.tup [x,y])=>aU n H x && aU m H y
  | _=>false
 | _=>false
def eJ(n m:Int)(H:Hp):V->Bool
 | .ref p=>match H p with
  | some (.lst xs)=>!xs.isEmpty && xs.all (cK n m H)
  | _=>false
 | _=>false
structure IG(H:Hp)(v:V):Prop where
 kn:∃t,Kn H v t
 parts:∀p xs,v = .ref p->H p=some (.tup xs)->∀y∈xs,Ay H y∧∀q a b,y = .ref q->H q=some (.tup [.int a,.int b])->au a≤200∧au b≤60
structure ID(H:Hp)(v:V):Prop where
 kn:∃t,Kn H v t
 parts:∀p xs,v = .ref p->H p=some (.lst xs)->xs.length<900∧∀y∈xs,IG H y
inductive GS (vs:List V) (H:Hp) (Q:VK) (x_3:XK):Prop
 | mk:∀(l1 l2:Addr) (xs1 xs2:List V) (v:V),(vs = [.ref l1,.ref l2,v])->((H l1=some (.lst xs1)∧xs1.length≤100))->((H l2=some (.lst xs2)∧xs2.length≤100))->(IG H v)->(Q (.bl (cK ((xs1.length:Int) - 1) ((xs2.length:Int) - 1) H v)) H)->GS vs H Q x_3
inductive Gn (vs:List V) (H:Hp) (Q:VK) (x_3:XK):Prop
 | mk:∀(l1 l2:Addr) (xs1 xs2:List V) (v:V),(vs = [.ref l1,.ref l2,v])->((H l1=some (.lst xs1)∧xs1.length≤100))->((H l2=some (.lst xs2)∧xs2.length≤100))->(ID H v)->(∀H',Same H H'->Q (.bl (eJ ((xs1.length:Int) - 1) ((xs2.length:Int) - 1) H v)) H')->Gn vs H Q x_3
theorem rC{H H':Hp}{p:Addr}{t:String}{o:HO}(k:Kn H (.ref p) t)(s:Same H H')(e:H' p=some o):H p=some o:=by
 cases k with
 | lst e1=>rw[s _ _ e1]at e;rw[e1];exact e
 | tup e1=>rw[s _ _ e1]at e;rw[e1];exact e
 | dict e1=>rw[s _ _ e1]at e;rw[e1];exact e
theorem IG.mono{H H':Hp}{v:V}(h:IG H v)(s:Same H H'):IG H' v:=by
 obtain⟨⟨t,k⟩,pt⟩:=h;refine⟨⟨t,k.mono s⟩,fun p xs e1 e2 y hy=>?_⟩;subst e1;obtain⟨th,bd⟩:=pt p xs rfl (rC k s e2) y hy;refine⟨Ay.mono th s,fun q a b e3 e4=>?_⟩;subst e3;obtain⟨t2,k2⟩:=th.kn;exact bd q a b rfl (rC k2 s e4)
theorem dh{n:Int}{H H':Hp}{v:V}(h:Ay H v)(s:Same H H'):aU n H' v=aU n H v:=by
 obtain⟨t,k⟩:=h.kn;cases k with
 | non=>rfl
 | bl b=>rfl
 | int i=>rfl
 | str x=>rfl
 | lst e=>simp only[aU,e,s _ _ e]
 | tup e=>simp only[aU,e,s _ _ e]
 | dict e=>simp only[aU,e,s _ _ e]
theorem gw{n m:Int}{H:Hp}{p:Addr}{x y:V}(e:H p=some (.tup [x,y])):cK n m H (.ref p)=(aU n H x && aU m H y):=by simp only[cK,e]
theorem qi{n m:Int}{H H':Hp}{v:V}(h:IG H v)(s:Same H H'):cK n m H' v=cK n m H v:=by
 obtain⟨⟨t,k⟩,pt⟩:=h;cases k with
 | non=>rfl
 | bl b=>rfl
 | int i=>rfl
 | str x=>rfl
 | lst e=>simp only[cK,e,s _ _ e]
 | dict e=>simp only[cK,e,s _ _ e]
 | @tup p xs e =>
  match xs,e with
  | [],e=>simp only[cK,e,s _ _ e]
  | [x],e=>simp only[cK,e,s _ _ e]
  | [x,y],e =>
   rw[gw e,gw (s _ _ e),dh (pt _ _ rfl e x (by simp)).1 s,dh (pt _ _ rfl e y (by simp)).1 s]
  | x::y::z::r,e=>simp only[cK,e,s _ _ e]
theorem sH{n m:Int}{H:Hp}{v:V}(h:IG H v)(hv:cK n m H v=true):∃q:Pr,v = .ref q.p∧PrAt H q∧inB n m q=true:=by
 unfold cK at hv
 split at hv
 ·split at hv
  ·rename_i p _ x y e
   rw[Bool.and_eq_true]at hv;obtain⟨p1,a,b,rfl,e1,lw1,n1,r1⟩:=gY hv.1;obtain⟨p2,c,d,rfl,e2,lw2,n2,r2⟩:=gY hv.2;have b1:=(h.parts p _ rfl e (.ref p1) (by simp)).2 p1 a b rfl e1;have b2:=(h.parts p _ rfl e (.ref p2) (by simp)).2 p2 c d rfl e2;refine⟨⟨p,p1,p2,a,b,c,d⟩,rfl,⟨e,e1,e2,lw1,lw2,n1,n2,b1.1,b1.2,b2.1,b2.2⟩,?_⟩;unfold inB;rw[Bool.and_eq_true,decide_eq_true_eq,decide_eq_true_eq];exact⟨r1,r2⟩
  ·cases hv
 ·cases hv
theorem jY{n m:Int}{H:Hp}{p:Addr}{xs:List V}(e:H p=some (.lst xs)):eJ n m H (.ref p)=(!xs.isEmpty && xs.all (cK n m H)):=by simp only[eJ,e]
theorem qg{n m:Int}{H:Hp}{v:V}(h:ID H v)(hv:eJ n m H v=true):∃(l:Addr) (ps:List Pr),v = .ref l∧zU H l ps∧ps≠[]∧ps.all (inB n m)=true∧ps.length<900:=by
 have hv0:=hv;unfold eJ at hv
 split at hv
 ·split at hv
  ·rename_i p _ xs e
   rw[Bool.and_eq_true]at hv;obtain⟨hl,hy⟩:=h.parts p xs rfl e;have ch:∀xs:List V,(∀y∈xs,IG H y)->xs.all (cK n m H)=true->∃ps:List Pr,xs=prs ps∧(∀q∈ps,PrAt H q)∧ps.all (inB n m)=true:=by
    intro xs
    induction xs with
    | nil=>exact fun _ _=>⟨[],rfl,(fun q h=>nomatch h),rfl⟩
    | cons x xs ih =>
     intro h1 h2;rw[List.all_cons,Bool.and_eq_true]at h2;obtain⟨ps,e1,e2,e3⟩:=ih (fun y hy=>h1 y (List.mem_cons_of_mem _ hy)) h2.2;obtain⟨q,rfl,pq,iq⟩:=sH (h1 x List.mem_cons_self) h2.1;refine⟨q::ps,by rw[e1];rfl,fun r hr=>?_,by rw[List.all_cons,iq,e3];rfl⟩;rcases List.mem_cons.mp hr with rfl|hr
     ·exact pq
     ·exact e2 r hr
   obtain⟨ps,rfl,e2,e3⟩:=ch xs hy hv.2;refine⟨p,ps,rfl,⟨e,e2⟩,fun z=>?_,e3,by rw[aV]at hl;exact hl⟩;subst z;exact absurd hv.1 (by simp[prs])
  ·cases hv
 ·cases hv
theorem Kn.cases_lst'{H:Hp}{n m:Int}{y:V}{t:String}(k:Kn H y t):(∃p xs,y = .ref p∧H p=some (.lst xs)∧t = "list")∨(eJ n m H y=false∧fk t "list" = false):=by
 cases k with
 | lst e=>exact .inl ⟨_,_,rfl,e,rfl⟩
 | non=>exact .inr ⟨rfl,by decide⟩
 | bl b=>exact .inr ⟨rfl,by decide⟩
 | str x=>exact .inr ⟨rfl,by decide⟩
 | int a=>exact .inr ⟨rfl,by decide⟩
 | tup e=>exact .inr ⟨by simp only[eJ,e],by decide⟩
 | dict e=>exact .inr ⟨by simp only[eJ,e],by decide⟩
theorem Kn.cases_tp'{H:Hp}{n m:Int}{y:V}{t:String}(k:Kn H y t):(∃p xs,y = .ref p∧H p=some (.tup xs)∧t = "tuple")∨(cK n m H y=false∧fk t "tuple" = false):=by
 cases k with
 | tup e=>exact .inl ⟨_,_,rfl,e,rfl⟩
 | non=>exact .inr ⟨rfl,by decide⟩
 | bl b=>exact .inr ⟨rfl,by decide⟩
 | str x=>exact .inr ⟨rfl,by decide⟩
 | int a=>exact .inr ⟨rfl,by decide⟩
 | lst e=>exact .inr ⟨by simp only[cK,e],by decide⟩
 | dict e=>exact .inr ⟨by simp only[cK,e],by decide⟩
theorem PrAt.th{H:Hp}{q:Pr}(h:PrAt H q):IG H (.ref q.p):=by
 refine⟨⟨_,.tup h.p_⟩,fun p xs e1 e2 y hy=>?_⟩;cases e1;rw[h.p_]at e2;cases e2;have two:∀{a b:Int} {z:Addr},H z=some (.tup [.int a,.int b])->au a≤200->au b≤60->Ay H (.ref z)∧∀q a b,V.ref z = .ref q->H q=some (.tup [.int a,.int b])->au a≤200∧au b≤60:=fun {a b z} e ha hb=>by
  refine⟨th_tup e fun v hv=>?_,fun q a' b' e1 e2=>?_⟩
  ·simp only[List.mem_cons,List.not_mem_nil,or_false]at hv
   rcases hv with rfl|rfl <;> exact⟨_,.int _⟩
  ·cases e1
   rw[e]at e2;cases e2;exact⟨ha,hb⟩
 simp only[List.mem_cons,List.not_mem_nil,or_false]at hy;rcases hy with rfl|rfl
 ·exact two h.x_ h.ba h.bb
 ·exact two h.y_ h.bc h.bd
theorem zU.th{H:Hp}{l:Addr}{ps:List Pr}(h:zU H l ps)(hl:ps.length<900):ID H (.ref l):=by
 refine⟨⟨_,.lst h.lst⟩,fun p xs e1 e2=>?_⟩;cases e1;rw[h.lst]at e2;cases e2;refine⟨by rw[aV];exact hl,fun y hy=>?_⟩;obtain⟨q,hq,rfl⟩:=List.mem_map.mp hy;exact(h.pr q hq).th
theorem PrAt.pv{n m:Int}{H:Hp}{q:Pr}(h:PrAt H q):cK n m H (.ref q.p)=inB n m q:=by
 rw[gw h.p_,eI h.x_,eI h.y_,oz h.lx,oz h.ly,decide_eq_true h.nx,decide_eq_true h.ny];rfl
theorem zU.pv{n m:Int}{H:Hp}{l:Addr}{ps:List Pr}(h:zU H l ps):eJ n m H (.ref l)=(!ps.isEmpty && ps.all (inB n m)):=by
 rw[jY h.lst];unfold prs;rw[List.all_map]
 congr 1
 ·cases ps <;> rfl
 ·apply Bool.eq_iff_iff.mpr
  rw[List.all_eq_true,List.all_eq_true];exact⟨fun z q hq=>by rw[<- (h.pr q hq).pv];exact z q hq,fun z q hq=>by show cK n m H (.ref q.p)=true;rw[(h.pr q hq).pv];exact z q hq⟩
def gU(w:Str):Prop:=w=wOn∨w=gQ∨w=cp∨w=aQ
instance (w:Str):Decidable (gU w):=inferInstanceAs (Decidable (_∨_))
inductive GQ (C:Addr) (vs:List V) (H:Hp) (Q:VK) (E:XK):Prop
 | mk:∀(x:V) (t:String),(vs = [x])->(Kn H x t)->(((∃w,x = .str w∧gU w∧Q .non H)∨((∀w,x = .str w->¬gU w)∧E (.ref C) none H)))->GQ C vs H Q E
inductive Ih (g:Int->Int->Int->Int->Bool) (vs:List V) (H:Hp) (Q:VK) (x_3:XK):Prop
 | mk:∀(p q:Addr) (a b c d:Int),(vs = [.ref p,.ref q])->(H p=some (.tup [.int a,.int b]))->(H q=some (.tup [.int c,.int d]))->(Ea a b)->(Ea c d)->(∀H',Same H H'->Q (.bl (g a b c d)) H')->Ih g vs H Q x_3
end Wk
namespace L2
open PySem PySem.Spec PyProof.Rows
theorem vR{X:Cx}{K:W.Frag}{pos:Pos}{es:List Expr}{k:Nat}{t:TGs}{n:Nat}(hK:X.K=K)(hc:X.calm=true)(h:PGs X es t)
  (hn:(assignEach es X.env).length=n:=by rfl) (hst:(assignEach es X.env).findIdx? (·.1)=none:=by rfl):PG X (.Tuple es k pos) (I0 K n t):=by
 subst hK;exact cJ hc h hn hst
end L2
namespace Fnc
open PySem PySem.Spec L2 Mth Sp1 Sp2 Sp3 Sp7 Dr Wk
def ltB(a b c d:Int):Bool:=decide (a*d<c*b)
def dz(u v:Pr):Bool:=!ltB u.a u.b v.a v.b && !ltB v.c v.d u.c u.d
def d5(u v:Pr):Bool:=decide ([u.a,u.b] = [v.a,v.b]) && (decide (u.b=1) && bD u.c u.d v.c v.d)
def eU(u v:Pr):Bool:=decide ([u.c,u.d] = [v.c,v.d]) && (decide (u.d=1) && bD u.a u.b v.a v.b)
def oF(n:Int)(u v:Pr):Bool:=if n=0 then d5 u v else eU u v
def cP(u v:Pr):Bool:=d5 u v || eU u v
def dZ(u v:Pr):Bool:=(decide (v.a - u.a≤0) && decide (u.c - v.c≤1)) || (decide (v.a - u.a≤1) && decide (u.c - v.c≤0))
def cR(way:Str)(u v:Pr):Bool:=if way=aQ then dZ u v else if way=cp then cP u v else (dz u v || cP u v)
def aY(way:Str):List Pr->Bool
 | u::v::r=>cR way u v && aY way (v::r)
 | _=>true
def gb(n m:Int)(way:Str)(f l:Pr):Bool:=if way=gQ then (isP f.c f.d m && isP l.c l.d 0) else ((isP f.c f.d m || isP f.a f.b 0) && (isP l.c l.d 0 || isP l.a l.b n))
def aZ(q:Pr):Bool:=decide (q.b=1) && decide (q.d=1)
def bQ(n m:Int)(way:Str)(ps:List Pr):Bool :=
 match ps with
 | []=>false
 | f::r=>(f::r).all (inB n m) && ((if way=aQ then (f::r).all aZ else true) && (gb n m way f ((f::r).getLast (by simp)) && aY way (f::r)))
theorem cg(n m:Int)(way:Str)(f:Pr)(r:List Pr):bQ n m way (f::r)=((f::r).all (inB n m) && ((if way=aQ then (f::r).all aZ else true) && (gb n m way f ((f::r).getLast (by simp)) && aY way (f::r)))):=rfl
theorem dJ{w:Str}:∀{ps:List Pr},aY w ps=true↔∀(j:Nat) u v,ps[j]? = some u->ps[j+1]? = some v->cR w u v=true
 | []=>by simp[aY]
 | [u]=>by simp[aY]
 | u::v::r=>by
  unfold aY;rw[Bool.and_eq_true,dJ (ps:=v::r)];constructor
  ·rintro⟨h1,h2⟩ j x y ex ey
   cases j with
   | zero=>cases ex;cases ey;exact h1
   | succ j=>exact h2 j x y (by simpa using ex) (by simpa using ey)
  ·intro h
   exact⟨h 0 u v rfl rfl,fun j x y ex ey=>h (j+1) x y (by simpa using ex) (by simpa using ey)⟩
inductive DC (g:Pr->Pr->Bool) (vs:List V) (H:Hp) (Q:VK) (x_3:XK):Prop
 | mk:∀u v:Pr,(vs = [.ref u.p,.ref v.p])->(PrAt H u)->(PrAt H v)->(∀H',Same H H'->Q (.bl (g u v)) H')->DC g vs H Q x_3
inductive Gu (vs:List V) (H:Hp) (Q:VK) (x_3:XK):Prop
 | mk:∀(u v:Pr) (n:Int),(vs = [.ref u.p,.ref v.p,.int n])->((n=0∨n=1))->(PrAt H u)->(PrAt H v)->(∀H',Same H H'->Q (.bl (oF n u v)) H')->Gu vs H Q x_3
inductive GW (vs:List V) (H:Hp) (Q:VK) (x_3:XK):Prop
 | mk:∀(u v:Pr) (wy:Str),(vs = [.ref u.p,.ref v.p,.str wy])->(PrAt H u)->(PrAt H v)->(∀H',Same H H'->Q (.bl (cR wy u v)) H')->GW vs H Q x_3
inductive HU (vs:List V) (H:Hp) (Q:VK) (x_3:XK):Prop
 | mk:∀u:Pr,(vs = [.ref u.p])->(PrAt H u)->(Q (.bl (aZ u)) H)->HU vs H Q x_3
inductive Gv (vs:List V) (H:Hp) (Q:VK) (x_3:XK):Prop
 | mk:∀(l1 l2 l:Addr) (xs1 xs2:List V) (f:Pr) (r:List Pr) (wy:Str),(vs = [.ref l1,.ref l2,.ref l,.str wy])->(H l1=some (.lst xs1))->(H l2=some (.lst xs2))->(zU H l (f::r))->(∀H',Same H H'->Q (.bl (gb ((xs1.length:Int) - 1) ((xs2.length:Int) - 1) wy f ((f::r).getLast (by simp)))) H')->Gv vs H Q x_3
inductive FE (vs:List V) (H:Hp) (Q:VK) (x_3:XK):Prop
 | mk:∀(l:Addr) (ps:List Pr) (wy:Str),(vs = [.ref l,.str wy])->(zU H l ps)->(ps.length<900)->(∀H',Same H H'->Q (.bl (aY wy ps)) H')->FE vs H Q x_3
def u5(n m:Int)(wy:Str)(H:Hp)(v:V)(b:Bool):Prop:=(eJ n m H v=false∧b=false)∨∃(l:Addr) (ps:List Pr),v = .ref l∧zU H l ps∧b=bQ n m wy ps
inductive EQ (C:Addr) (vs:List V) (H:Hp) (Q:VK) (E:XK):Prop
 | mk:∀(l1 l2:Addr) (xs1 xs2:List V) (v x:V) (t:String),(vs = [.ref l1,.ref l2,v,x])->((H l1=some (.lst xs1)∧xs1.length≤100))->((H l2=some (.lst xs2)∧xs2.length≤100))->(ID H v)->(Kn H x t)->(((∃wy,x = .str wy∧gU wy∧∀(b:Bool) (H':Hp),Same H H'->u5 ((xs1.length:Int) - 1) ((xs2.length:Int) - 1) wy H v b->Q (.bl b) H')∨((∀wy,x = .str wy->¬gU wy)∧E (.ref C) none H)))->EQ C vs H Q E
theorem di(i j:Int):decide (V.int i=V.int j)=decide (i=j):=by
 rw[Bool.eq_iff_iff];simp
theorem ds{u v:Str}{b:Bool}(h:decide (V.str u=V.str v)=b):decide (u=v)=b:=by
 rw[<- h,Bool.eq_iff_iff];simp
theorem j7{H:Hp}{u v:Pr}(pu:PrAt H u)(pv:PrAt H v):(au u.a≤2000∧au u.b≤2000∧au v.a≤2000∧au v.b≤2000)∧(au v.c≤2000∧au v.d≤2000∧au u.c≤2000∧au u.d≤2000) :=
 ⟨⟨ai pu.ba (by decide),ai pu.bb (by decide),ai pv.ba (by decide),ai pv.bb (by decide)⟩,⟨ai pv.bc (by decide),ai pv.bd (by decide),ai pu.bc (by decide),ai pu.bd (by decide)⟩⟩
theorem rn{a b:Int}:ltB a b a b=false:=by
 unfold ltB;exact decide_eq_false (by omega)
theorem wP(u v:Pr):(dz u v || cP u v)=(dz u v || ((d5 u v && ltB v.c v.d u.c u.d) || (eU u v && ltB u.a u.b v.a v.b))):=by
 cases hb:dz u v with
 | true=>rfl
 | false =>
  rw[Bool.false_or,Bool.false_or];unfold cP;have e1:d5 u v=true->ltB v.c v.d u.c u.d=true:=fun h=>by
   unfold d5 at h;rw[Bool.and_eq_true]at h;have e:=of_decide_eq_true h.1;simp only[List.cons.injEq,and_true]at e;unfold dz at hb;rw[<- e.1,<- e.2,rn]at hb;simpa using hb
  have e2:eU u v=true->ltB u.a u.b v.a v.b=true:=fun h=>by
   unfold eU at h;rw[Bool.and_eq_true]at h;have e:=of_decide_eq_true h.1;simp only[List.cons.injEq,and_true]at e;unfold dz at hb;rw[<- e.1,<- e.2,rn]at hb;simpa using hb
  cases h1:d5 u v with
  | true=>rw[e1 h1];rfl
  | false =>
   cases h2:eU u v with
   | true=>rw[e2 h2];rfl
   | false=>rfl
end Fnc
namespace Fnc
open PySem PySem.Spec L2 Mth Sp1 Sp2 Sp3 Sp7 Dr Wk
def iV(wy:Str)(u v:Pr):Bool:=if wy=aQ then ((aZ u && aZ v) && dZ u v) else cR wy u v
def frB(wy:Str):Bool:=decide (wy=cp)
def lX(wy:Str)(u v:Pr):Bool:=d5 u v && (frB wy || ltB v.c v.d u.c u.d)
def lY(wy:Str)(u v:Pr):Bool:=eU u v && (frB wy || ltB u.a u.b v.a v.b)
theorem xX{wy:Str}{u v:Pr}(h:¬wy=aQ)(hf:¬wy=cp):cR wy u v=(dz u v || (lX wy u v || lY wy u v)):=by
 unfold cR lX lY frB;rw[if_neg h,if_neg hf,decide_eq_false hf,wP];simp
theorem uD{wy:Str}{u v:Pr}(h:¬wy=aQ)(hf:wy=cp):cR wy u v=(lX wy u v || lY wy u v):=by
 unfold cR lX lY frB cP;rw[if_neg h,if_pos hf,decide_eq_true hf];simp
inductive GY (vs:List V) (H:Hp) (Q:VK) (x_3:XK):Prop
 | mk:∀(u v:Pr) (wy:Str),(vs = [.ref u.p,.ref v.p,.str wy])->(PrAt H u)->(PrAt H v)->(∀H',Same H H'->Q (.bl (iV wy u v)) H')->GY vs H Q x_3
theorem sf{wy:Str}{f:Pr}{r:List Pr}(hw:wy=aQ):((f::r).all aZ && aY wy (f::r))=true↔(aZ f=true∧∀(j:Nat) u v,(f::r)[j]? = some u->(f::r)[j+1]? = some v->iV wy u v=true):=by
 rw[Bool.and_eq_true,dJ,List.all_eq_true];have e:∀u v,cR wy u v=dZ u v:=fun u v=>by unfold cR;rw[if_pos hw]
 have e2:∀u v,iV wy u v=((aZ u && aZ v) && dZ u v):=fun u v=>by unfold iV;rw[if_pos hw]
 constructor
 ·rintro⟨h1,h2⟩
  refine⟨h1 f (by simp),fun j u v hu hv=>?_⟩;have h3:=h2 j u v hu hv;rw[e]at h3;rw[e2,h1 u (List.mem_of_getElem? hu),h1 v (List.mem_of_getElem? hv),h3];rfl
 ·rintro⟨h1,h2⟩
  have h3:∀(j:Nat) u,(f::r)[j]? = some u->aZ u=true:=fun j=>by
   induction j with
   | zero=>intro u hu;cases hu;exact h1
   | succ j ih =>
    intro v hv;have hj:=(List.getElem?_eq_some_iff.mp hv).1;have z:=h2 j _ v (List.getElem?_eq_getElem (by omega)) hv;rw[e2,Bool.and_eq_true,Bool.and_eq_true]at z;exact z.1.2
  refine⟨fun x hx=>?_,fun j u v hu hv=>?_⟩
  ·obtain⟨j,hj,ej⟩:=List.getElem_of_mem hx
   exact h3 j x (by rw[List.getElem?_eq_getElem hj,ej])
  ·have z:=h2 j u v hu hv
   rw[e2,Bool.and_eq_true]at z;rw[e];exact z.2
end Fnc
namespace Fnc
open PySem PySem.Spec L2 Mth Sp1 Sp2 Sp3 Sp7 Dr Wk
def fM(wy:Str):List Pr->Bool
 | u::v::r=>iV wy u v && fM wy (v::r)
 | _=>true
theorem fX{w:Str}:∀{ps:List Pr},fM w ps=true↔∀(j:Nat) u v,ps[j]? = some u->ps[j+1]? = some v->iV w u v=true
 | []=>by simp[fM]
 | [u]=>by simp[fM]
 | u::v::r=>by
  unfold fM;rw[Bool.and_eq_true,fX (ps:=v::r)];constructor
  ·rintro⟨h1,h2⟩ j x y ex ey
   cases j with
   | zero=>cases ex;cases ey;exact h1
   | succ j=>exact h2 j x y (by simpa using ex) (by simpa using ey)
  ·intro h
   exact⟨h 0 u v rfl rfl,fun j x y ex ey=>h (j+1) x y (by simpa using ex) (by simpa using ey)⟩
def ptB(wy:Str):Bool:=decide (wy=gQ)
def hfB(wy:Str)(f:Pr):Bool:=if wy=aQ then aZ f else true
def e1B(m:Int)(wy:Str)(f:Pr):Bool:=isP f.c f.d m || (!ptB wy && isP f.a f.b 0)
def e2B(n:Int)(wy:Str)(z:Pr):Bool:=isP z.c z.d 0 || (!ptB wy && isP z.a z.b n)
theorem o7(n m:Int)(wy:Str)(f z:Pr):gb n m wy f z=(e1B m wy f && e2B n wy z):=by
 unfold gb e1B e2B ptB
 by_cases h:wy=gQ
 ·rw[if_pos h,decide_eq_true h]
  simp
 ·rw[if_neg h,decide_eq_false h]
  simp
theorem sN(wy:Str)(f:Pr)(r:List Pr):((if wy=aQ then (f::r).all aZ else true) && aY wy (f::r))=(hfB wy f && fM wy (f::r)):=by
 unfold hfB
 by_cases h:wy=aQ
 ·rw[if_pos h,if_pos h,Bool.eq_iff_iff,sf h,Bool.and_eq_true,fX]
 ·rw[if_neg h,if_neg h,Bool.eq_iff_iff,Bool.true_and,Bool.true_and,dJ,fX]
  have e:∀u v,iV wy u v=cR wy u v:=fun u v=>by unfold iV;rw[if_neg h]
  constructor
  ·intro g j u v hu hv
   rw[e];exact g j u v hu hv
  ·intro g j u v hu hv
   rw[<- e];exact g j u v hu hv
theorem qE(n m:Int)(wy:Str)(f:Pr)(r:List Pr):bQ n m wy (f::r)=((f::r).all (inB n m) && (e1B m wy f && (e2B n wy ((f::r).getLast (by simp)) && (hfB wy f && fM wy (f::r))))):=by
 rw[cg,o7,<- sN];generalize (f::r).all (inB n m)=a;generalize e1B m wy f=b;generalize e2B n wy ((f::r).getLast (by simp))=c;generalize (if wy=aQ then (f::r).all aZ else true)=d
 generalize aY wy (f::r)=e;cases a <;> cases b <;> cases c <;> cases d <;> cases e <;> rfl
inductive FC (vs:List V) (H:Hp) (Q:VK) (x_3:XK):Prop
 | mk:∀(l1 l2 l:Addr) (xs1 xs2:List V) (ps:List Pr) (wy:Str),(vs = [.ref l1,.ref l2,.ref l,.str wy])->((H l1=some (.lst xs1)∧xs1.length≤100))->((H l2=some (.lst xs2)∧xs2.length≤100))->(zU H l ps)->(ps.length<900)->(∀H',Same H H'->Q (.bl (bQ ((xs1.length:Int) - 1) ((xs2.length:Int) - 1) wy ps)) H')->FC vs H Q x_3
end Fnc
namespace Sp11
open PySem PySem.Spec L2 Mth Sp1 Sp2
inductive BH (C:Addr) (vs:List V) (H:Hp) (Q:VK) (E:XK):Prop
 | mk:∀(a b:Int) (n:Nat),(vs = [.int a,.int b])->((au a≤n∧au b≤n∧n≤4500))->((b=0->E (.ref C) none H))->((b≠0->∀(p:Addr) (t u:Int),zV a b t u->au t≤n->au u≤n->H p=none->Q (.ref p) (upd H p (.tup [.int t,.int u]))))->BH C vs H Q E
structure CP(H:Hp)(p:Addr)(a b:Int)(n:Nat):Prop where
 at_:H p=some (.tup [.int a,.int b])
 low:AM a b
 ba:au a≤n
 bb:au b≤n
theorem CP.mono{H H':Hp}{p:Addr}{a b:Int}{n:Nat}(f:CP H p a b n)(s:Same H H'):CP H' p a b n:=⟨s _ _ f.at_,f.low,f.ba,f.bb⟩
theorem CP.wide{H:Hp}{p:Addr}{a b:Int}{m n:Nat}(f:CP H p a b m)(h:m≤n):CP H p a b n:=⟨f.at_,f.low,ai f.ba h,ai f.bb h⟩
inductive Dz (num den:Int->Int->Int->Int->Int) (vs:List V) (H:Hp) (Q:VK) (x_3:XK):Prop
 | mk:∀(p q:Addr) (a b c d:Int) (n:Nat),(vs = [.ref p,.ref q])->(CP H p a b n)->(CP H q c d n)->(n≤2200)->(den a b c d≠0)->(∀(r:Addr) (t u:Int) (H':Hp),zV (num a b c d) (den a b c d) t u->CP H' r t u (2*n+1)->Same H H'->Q (.ref r) H')->Dz num den vs H Q x_3
def numAt(x y t b:Int):Int:=x*b+(y - x)*(t % b)
inductive Gp (vs:List V) (H:Hp) (Q:VK) (x_3:XK):Prop
 | mk:∀(x y:Int) (p:Addr) (t b:Int),(vs = [.int x,.int y,.ref p])->(CP H p t b 200)->(au x≤60)->(au y≤60)->(∀(r:Addr) (u v:Int) (H':Hp),zV (numAt x y t b) b u v->CP H' r u v 262->Same H H'->Q (.ref r) H')->Gp vs H Q x_3
def gS(qs:List (Addr×Int×Int))(t b:Int):Int×Int:=(qs.getD (t / b).toNat (0,0,0)).2
def h8(qs:List (Addr×Int×Int))(t b:Int):Int×Int:=(qs.getD (min ((t / b).toNat+1) (qs.length - 1)) (0,0,0)).2
def ptX(qs:List (Addr×Int×Int))(t b:Int):Int:=numAt (gS qs t b).1 (h8 qs t b).1 t b
def ptY(qs:List (Addr×Int×Int))(t b:Int):Int:=numAt (gS qs t b).2 (h8 qs t b).2 t b
structure FQ(H:Hp)(r:Addr)(X Y b:Int)(n:Nat):Prop where
 ex:∃(rx ry:Addr) (u v c d:Int),H r=some (.tup [.ref rx,.ref ry])∧CP H rx u v n∧CP H ry c d n∧zV X b u v∧zV Y b c d
theorem FQ.mono{H H':Hp}{r:Addr}{X Y b:Int}{n:Nat}(p:FQ H r X Y b n)(s:Same H H'):FQ H' r X Y b n:=by
 obtain⟨rx,ry,u,v,c,d,e,f,g,h,k⟩:=p.ex;exact⟨⟨rx,ry,u,v,c,d,s _ _ e,f.mono s,g.mono s,h,k⟩⟩
inductive Fq (C:Addr) (vs:List V) (H:Hp) (Q:VK) (E:XK):Prop
 | mk:∀(l:Addr) (qs:List (Addr×Int×Int)) (x:V),(vs = [.ref l,x])->(zW H l qs)->(1≤qs.length)->(qs.length≤20)->(Ay H x)->((aU ((qs.length:Int) - 1) H x=false->E (.ref C) none H))->((∀(p:Addr) (t b:Int),x = .ref p->H p=some (.tup [.int t,.int b])->AM t b->0≤t->t≤((qs.length:Int) - 1)*b->au t≤200∧au b≤200 ∧
  ∀(r:Addr) (H':Hp),FQ H' r (ptX qs t b) (ptY qs t b) b 262->Same H H'->Q (.ref r) H'))->Fq C vs H Q E
end Sp11
namespace Sp11
open PySem PySem.Spec L2 Mth Sp1 Sp2
structure HK(H:Hp)(r:Addr)(u v c d:Int)(n:Nat):Prop where
 ex:∃rx ry:Addr,H r=some (.tup [.ref rx,.ref ry])∧CP H rx u v n∧CP H ry c d n
theorem HK.mono{H H':Hp}{r:Addr}{u v c d:Int}{n:Nat}(p:HK H r u v c d n)(s:Same H H'):HK H' r u v c d n:=by
 obtain⟨rx,ry,e,f,g⟩:=p.ex;exact⟨⟨rx,ry,s _ _ e,f.mono s,g.mono s⟩⟩
inductive Gf (vs:List V) (H:Hp) (Q:VK) (x_3:XK):Prop
 | mk:∀(p q:Addr) (u v c d u' v' c' d':Int),(vs = [.ref p,.ref q])->(HK H p u v c d 262)->(HK H q u' v' c' d' 262)->(∀(r:Addr) (a b e f:Int) (H':Hp),zV (u'*v - u*v') (v'*v) a b->zV (c'*d - c*d') (d'*d) e f->HK H' r a b e f 525->Same H H'->Q (.ref r) H')->Gf vs H Q x_3
inductive Fr (vs:List V) (H:Hp) (Q:VK) (x_3:XK):Prop
 | mk:∀(p q:Addr) (a b e f a' b' e' f':Int),(vs = [.ref p,.ref q])->(HK H p a b e f 525)->(HK H q a' b' e' f' 525)->(∀(r:Addr) (m n m' n' s w:Int) (H':Hp),zV (a*a') (b*b') m n->zV (e*e') (f*f') m' n'->zV (m*n'+m'*n) (n*n') s w->CP H' r s w 2103->Same H H'->Q (.ref r) H')->Fr vs H Q x_3
def sqN(X Y b X' Y' b':Int):Int:=(X'*b - X*b')*(X'*b - X*b')+(Y'*b - Y*b')*(Y'*b - Y*b')
def sqD(b b':Int):Int:=(b*b')*(b*b')
inductive Hs (vs:List V) (H:Hp) (Q:VK) (x_3:XK):Prop
 | mk:∀(p q:Addr) (X Y b X' Y' b':Int),(vs = [.ref p,.ref q])->(FQ H p X Y b 262)->(FQ H q X' Y' b' 262)->(0<b)->(0<b')->(∀(r:Addr) (s w:Int) (H':Hp),zV (sqN X Y b X' Y' b') (sqD b b') s w->CP H' r s w 2103->Same H H'->Q (.ref r) H')->Hs vs H Q x_3
theorem rN{X b X' b' u v u' v' a e:Int}(hv:v≠0)(hv':v'≠0)(h1:X*v=u*b)(h2:X'*v'=u'*b')(h3:(u'*v - u*v')*e=a*(v'*v)):(X'*b - X*b')*e=a*(b*b'):=by
 have z:(v*v')*((X'*b - X*b')*e)=(v*v')*(a*(b*b')):=by
  have z1:(v*v')*((X'*b - X*b')*e)=(X'*v'*(b*v) - X*v*(b'*v'))*e:=by grind
  rw[z1,h1,h2];have z2:(u'*b'*(b*v) - u*b*(b'*v'))*e=b*b'*((u'*v - u*v')*e):=by grind
  rw[z2,h3]
  grind
 exact Int.eq_of_mul_eq_mul_left (Int.mul_ne_zero hv hv') z
theorem wZ{D B a e m n:Int}(he:e≠0)(h1:D*e=a*B)(h2:a*a*n=m*(e*e)):D*D*n=m*(B*B):=by
 have z:(e*e)*(D*D*n)=(e*e)*(m*(B*B)):=by
  have z1:(e*e)*(D*D*n)=(D*e)*(D*e)*n:=by grind
  rw[z1,h1];have z2:a*B*(a*B)*n=B*B*(a*a*n):=by grind
  rw[z2,h2]
  grind
 exact Int.eq_of_mul_eq_mul_left (Int.mul_ne_zero he he) z
theorem xu{S T G m n m' n' s w:Int}(hn:n≠0)(hn':n'≠0)(h1:S*n=m*G)(h2:T*n'=m'*G)(h3:(m*n'+m'*n)*w=s*(n*n')):(S+T)*w=s*G:=by
 have z:(n*n')*((S+T)*w)=(n*n')*(s*G):=by
  have z1:(n*n')*((S+T)*w)=(S*n*n'+T*n'*n)*w:=by grind
  rw[z1,h1,h2];have z2:(m*G*n'+m'*G*n)*w=G*((m*n'+m'*n)*w):=by grind
  rw[z2,h3]
  grind
 exact Int.eq_of_mul_eq_mul_left (Int.mul_ne_zero hn hn') z
theorem qP{X Y b X' Y' b' u v c d u' v' c' d' a e a' e' m n m' n' s w:Int}(f1:zV X b u v)(f2:zV Y b c d)(f3:zV X' b' u' v')(f4:zV Y' b' c' d')(g1:zV (u'*v - u*v') (v'*v) a e)(g2:zV (c'*d - c*d') (d'*d) a' e')
  (k1:zV (a*a) (e*e) m n) (k2:zV (a'*a') (e'*e') m' n') (k3:zV (m*n'+m'*n) (n*n') s w):zV (sqN X Y b X' Y' b') (sqD b b') s w:=by
 refine⟨k3.low,?_⟩;have p1:=f1.low.pos;have p2:=f2.low.pos;have p3:=f3.low.pos;have p4:=f4.low.pos;have p5:=g1.low.pos;have p6:=g2.low.pos;have p7:=k1.low.pos;have p8:=k2.low.pos;have q1:=rN (by omega) (by omega) f1.eq f3.eq g1.eq;have q2:=rN (by omega) (by omega) f2.eq f4.eq g2.eq;have q3:=wZ (by omega) q1 k1.eq;have q4:=wZ (by omega) q2 k2.eq;exact xu (by omega) (by omega) q3 q4 k3.eq
structure D8(H:Hp)(p:Addr)(t b n:Int):Prop where
 at_:H p=some (.tup [.int t,.int b])
 low:AM t b
 lo:0≤t
 hi:t≤n*b
 bt:au t≤200
 bb:au b≤200
theorem D8.mono{H H':Hp}{p:Addr}{t b n:Int}(f:D8 H p t b n)(s:Same H H'):D8 H' p t b n:=⟨s _ _ f.at_,f.low,f.lo,f.hi,f.bt,f.bb⟩
theorem D8.th{H:Hp}{p:Addr}{t b n:Int}(f:D8 H p t b n):Ay H (.ref p):=th_tup f.at_ fun v hv=>by
 simp only[List.mem_cons,List.not_mem_nil,or_false]at hv;rcases hv with rfl|rfl <;> exact⟨_,.int _⟩
theorem D8.place{H:Hp}{p:Addr}{t b n:Int}(f:D8 H p t b n):aU n H (.ref p)=true:=gu f.at_ f.low f.lo f.hi
theorem dh{n:Int}{H H':Hp}{x:V}{k:String}(kn:Kn H x k)(s:Same H H'):aU n H' x=aU n H x:=by
 cases kn with
 | non=>rfl
 | bl b=>rfl
 | int i=>rfl
 | str x=>rfl
 | lst e=>simp only[aU,e,s _ _ e]
 | tup e=>simp only[aU,e,s _ _ e]
 | dict e=>simp only[aU,e,s _ _ e]
theorem Ay.mono{H H':Hp}{x:V}(h:Ay H x)(s:Same H H'):Ay H' x:=by
 obtain⟨⟨t,k⟩,pt⟩:=h;refine⟨⟨t,k.mono s⟩,fun p xs e1 e2 y hy=>?_⟩;subst e1;have e3:H p=some (.tup xs):=by
  cases k with
  | lst e=>rw[s _ _ e]at e2;cases e2
  | tup e=>rw[s _ _ e]at e2;cases e2;exact e
  | dict e=>rw[s _ _ e]at e2;cases e2
 obtain⟨t',k'⟩:=pt p xs rfl e3 y hy;exact⟨t',k'.mono s⟩
abbrev Crn:=List (Addr×Int×Int)
def sqF(qs:Crn)(t b:Int)(qs':Crn)(t' b':Int):Int:=sqN (ptX qs t b) (ptY qs t b) b (ptX qs' t' b') (ptY qs' t' b') b'
def aP(qs:Crn):Int:=(qs.length:Int) - 1
inductive Fv (C:Addr) (vs:List V) (H:Hp) (Q:VK) (E:XK):Prop
  | mk:∀(l l':Addr) (qs qs':Crn) (x y:V),(vs = [.ref l,x,.ref l',y])->(zW H l qs)->(zW H l' qs')->((1≤qs.length∧qs.length≤20))->((1≤qs'.length∧qs'.length≤20))->(Ay H x)->(Ay H y)->(((aU (aP qs) H x=false∧E (.ref C) none H) ∨
   (∃(p:Addr) (t b:Int),x = .ref p∧D8 H p t b (aP qs) ∧
     ((aU (aP qs') H y=false∧∀H',Same H H'->E (.ref C) none H') ∨
      (∃(q:Addr) (t' b':Int),y = .ref q∧D8 H q t' b' (aP qs') ∧
        ∀(r:Addr) (s w:Int) (H':Hp),zV (sqF qs t b qs' t' b') (sqD b b') s w->CP H' r s w 2103->Same H H'->Q (.ref r) H')))))->Fv C vs H Q E
inductive Hu (vs:List V) (H:Hp) (Q:VK) (x_3:XK):Prop
 | mk:∀(l p:Addr) (qs:Crn) (t b:Int),(vs = [.ref l,.ref p])->(zW H l qs)->((1≤qs.length∧qs.length≤20))->(D8 H p t b (aP qs))->(∀(r:Addr) (H':Hp),H' r=some (.tup [.int (ptX qs t b),.int (ptY qs t b),.int b])->Same H H'->Q (.ref r) H')->Hu vs H Q x_3
theorem dW{H:Hp}{l:Addr}{qs:Crn}(L:zW H l qs)(j:Nat):au (qs.getD j (0,0,0)).2.1≤50∧au (qs.getD j (0,0,0)).2.2≤50:=by
 rw[List.getD_eq_getElem?_getD]
 by_cases h:j<qs.length
 ·rw[List.getElem?_eq_getElem h]
  exact(L.crn _ (List.getElem_mem h)).2
 ·rw[List.getElem?_eq_none (by omega)]
  exact⟨by decide,by decide⟩
theorem ou{x y t b:Int}(hb:0<b)(bx:au x≤50)(by':au y≤50)(bb:au b≤200):au (numAt x y t b)≤262:=by
 have br:au (t % b)≤200:=de (Int.emod_nonneg _ (by omega)) (Int.le_of_lt (Int.emod_lt_of_pos _ hb)) bb;exact ai (cF (n:=251) (ai (bits_mul bx bb) (by decide)) (bits_mul (bG by' bx) br)) (by decide)
theorem gq{H:Hp}{l:Addr}{qs:Crn}{t b:Int}(L:zW H l qs)(hb:0<b)(bb:au b≤200):au (ptX qs t b)≤262∧au (ptY qs t b)≤262 :=
 ⟨ou hb (dW L _).1 (dW L _).1 bb,ou hb (dW L _).2 (dW L _).2 bb⟩
end Sp11
namespace Sp11
open PySem PySem.Spec L2 Mth Sp1 Sp2
def cr(c:Int×Int->Int)(qs:Crn)(j:Nat):Int:=c (qs.getD j (0,0,0)).2
def ptC(c:Int×Int->Int)(qs:Crn)(t b:Int):Int:=numAt (c (gS qs t b)) (c (h8 qs t b)) t b
theorem xa{c:Int×Int->Int}{qs:Crn}{t b:Int}{k:Nat}(hb:0<b)(hk:k+1<qs.length)(h1:(k:Int)*b≤t)(h2:t≤((k:Int)+1)*b) :
  ptC c qs t b=cr c qs k*b+(cr c qs (k+1) - cr c qs k)*(t - (k:Int)*b):=by
 have e0:=Int.emod_add_mul_ediv t b;rw[Int.mul_comm]at e0;have r0:=Int.emod_nonneg t (show b≠0 by omega);have r1:=Int.emod_lt_of_pos t hb;unfold ptC Sp11.numAt gS h8
 by_cases hlt:t<((k:Int)+1)*b
 ·have ek:t / b=(k:Int):=by
   refine Int.le_antisymm ?_ (rK hb h1);have h3:t / b<(k:Int)+1:=Int.ediv_lt_of_lt_mul hb hlt;omega
  have er:t % b=t - (k:Int)*b:=by rw[ek]at e0;omega
  rw[ek,er,Int.toNat_natCast,Nat.min_eq_left (by omega)];rfl
 ·have et:t=((k:Int)+1)*b:=by omega
  have ek:t / b=(k:Int)+1:=by rw[et];exact Int.mul_ediv_cancel _ (by omega)
  have er:t % b=0:=by rw[et];exact Int.mul_emod_left _ _
  rw[ek,er,show((k:Int)+1).toNat=k+1 by omega,Int.mul_zero,Int.add_zero];have e2:t - (k:Int)*b=b:=by rw[et,Int.add_mul,Int.one_mul];omega
  rw[e2];show cr c qs (k+1)*b=_;generalize cr c qs (k+1)=x;generalize cr c qs k=y;rw[Int.sub_mul];omega
def rq(a b:Int):Rat:=(a:Rat) / (b:Rat)
theorem cz{a:Int}(h:a≠0):(a:Rat)≠0:=fun z=>h (Rat.intCast_eq_zero_iff.mp z)
theorem fL{m n u v:Int}(f:zV m n u v)(hn:n≠0):rq u v=rq m n:=by
 have h1:(m:Rat)*(v:Rat)=(u:Rat)*(n:Rat):=by rw[<- Rat.intCast_mul,<- Rat.intCast_mul,f.eq]
 have h2:=cz hn;have h3:=cz (show v≠0 by have:=f.low.pos;omega);unfold rq
 grind
theorem n9{u v m n:Int}(hv:v≠0)(hn:n≠0)(h:rq u v=rq m n):u*n=m*v:=by
 have h2:=cz hn;have h3:=cz hv;unfold rq at h;have h1:(u:Rat)*(n:Rat)=(m:Rat)*(v:Rat):=by grind
 rw[<- Rat.intCast_mul,<- Rat.intCast_mul]at h1;exact Rat.intCast_inj.mp h1
theorem xx{a b c d:Int}(hb:b≠0)(hd:d≠0):rq (a*d - c*b) (b*d)=rq a b - rq c d:=by
 have:=cz hb;have:=cz hd;unfold rq;rw[Rat.intCast_sub,Rat.intCast_mul,Rat.intCast_mul,Rat.intCast_mul]
 grind
theorem xA{a b c d:Int}(hb:b≠0)(hd:d≠0):rq (a*d+c*b) (b*d)=rq a b+rq c d:=by
 have:=cz hb;have:=cz hd;unfold rq;rw[Rat.intCast_add,Rat.intCast_mul,Rat.intCast_mul,Rat.intCast_mul]
 grind
theorem xy{a b c d:Int}:rq (a*c) (b*d)=rq a b*rq c d:=by
 unfold rq;rw[Rat.intCast_mul,Rat.intCast_mul]
 grind
theorem xz{a b c d:Int}:rq (a*d) (b*c)=rq a b / rq c d:=by
 unfold rq;rw[Rat.intCast_mul,Rat.intCast_mul]
 grind
theorem o8{a b c d s w:Int}(hb:b≠0)(hd:d≠0)(f:zV (a*d - c*b) (b*d) s w):rq s w=rq a b - rq c d:=by
 rw[fL f (Int.mul_ne_zero hb hd),xx hb hd]
theorem va{a b c d s w:Int}(hb:b≠0)(hd:d≠0)(f:zV (a*d+c*b) (b*d) s w):rq s w=rq a b+rq c d:=by
 rw[fL f (Int.mul_ne_zero hb hd),xA hb hd]
theorem o9{a b c d s w:Int}(hb:b≠0)(hd:d≠0)(f:zV (a*c) (b*d) s w):rq s w=rq a b*rq c d:=by
 rw[fL f (Int.mul_ne_zero hb hd),xy]
theorem zi{a b c d s w:Int}(hb:b≠0)(hc:c≠0)(f:zV (a*d) (b*c) s w):rq s w=rq a b / rq c d:=by
 rw[fL f (Int.mul_ne_zero hb hc),xz]
theorem nzl{a b:Int}(h:AM a b):b≠0:=by have:=h.pos;omega
theorem lS{m n u v:Int}{i j:Nat}(hn:0<n)(f:zV m n u v)(hm:au m≤i)(hj:au n≤j):au u≤i∧au v≤j:=by
 have hg:=dO (a:=m) (b:=n) (by omega);obtain⟨e1,e2⟩:=jk (by omega) f (fZ hn);subst e1 e2;exact⟨cH hg hm,cH hg hj⟩
def nM(X Y b X1 Y1 b1 X2 Y2 b2:Int):Int:=((X2*b1 - X1*b2)*(X*b1 - X1*b)+(Y2*b1 - Y1*b2)*(Y*b1 - Y1*b))*b2
def nN(b X1 Y1 b1 X2 Y2 b2:Int):Int:=b*((X2*b1 - X1*b2)*(X2*b1 - X1*b2)+(Y2*b1 - Y1*b2)*(Y2*b1 - Y1*b2))
theorem t6{x y z X1 Y1 z1 X2 Y2 z2:Rat}(hz:z≠0)(h1:z1≠0)(h2:z2≠0)(hN:z*((X2*z1 - X1*z2)*(X2*z1 - X1*z2)+(Y2*z1 - Y1*z2)*(Y2*z1 - Y1*z2))≠0) :
  ((x / z - X1 / z1)*(X2 / z2 - X1 / z1)+(y / z - Y1 / z1)*(Y2 / z2 - Y1 / z1)) / ((X2 / z2 - X1 / z1)*(X2 / z2 - X1 / z1)+(Y2 / z2 - Y1 / z1)*(Y2 / z2 - Y1 / z1)) =
   (((X2*z1 - X1*z2)*(x*z1 - X1*z)+(Y2*z1 - Y1*z2)*(y*z1 - Y1*z))*z2) / (z*((X2*z1 - X1*z2)*(X2*z1 - X1*z2)+(Y2*z1 - Y1*z2)*(Y2*z1 - Y1*z2))):=by
 have k1:x=x / z*z:=by grind
 have k2:y=y / z*z:=by grind
 have k3:X1=X1 / z1*z1:=by grind
 have k4:Y1=Y1 / z1*z1:=by grind
 have k5:X2=X2 / z2*z2:=by grind
 have k6:Y2=Y2 / z2*z2:=by grind
 generalize x / z=p at *;generalize y / z=q at *;generalize X1 / z1=a at *;generalize Y1 / z1=a' at *;generalize X2 / z2=c at *;generalize Y2 / z2=c' at *;subst k1 k2 k3 k4 k5 k6;have m0:∀{u v:Rat},u≠0->v≠0->u*v≠0:=fun hu hv z=>by
  rcases Rat.mul_eq_zero.mp z with z|z
  ·exact hu z
  ·exact hv z
 have hK:z*(z1*z1)*(z2*z2)≠0:=m0 (m0 hz (m0 h1 h1)) (m0 h2 h2);have e1:((c*z2*z1 - a*z1*z2)*(p*z*z1 - a*z1*z)+(c'*z2*z1 - a'*z1*z2)*(q*z*z1 - a'*z1*z))*z2=(z*(z1*z1)*(z2*z2))*((p - a)*(c - a)+(q - a')*(c' - a')):=by grind
 have e2:z*((c*z2*z1 - a*z1*z2)*(c*z2*z1 - a*z1*z2)+(c'*z2*z1 - a'*z1*z2)*(c'*z2*z1 - a'*z1*z2))=(z*(z1*z1)*(z2*z2))*((c - a)*(c - a)+(c' - a')*(c' - a')):=by grind
 rw[e2]at hN;rw[e1,e2];generalize (p - a)*(c - a)+(q - a')*(c' - a')=T at *;generalize (c - a)*(c - a)+(c' - a')*(c' - a')=S at *;generalize z*(z1*z1)*(z2*z2)=k at *;have hS:S≠0:=fun z=>hN (by rw[z,Rat.mul_zero])
 grind
theorem v0{X Y b X1 Y1 b1 X2 Y2 b2 u v c d u1 v1 c1 d1 u2 v2 c2 d2 a e a' e' g h g' h' m n m' n' i j m2 n2 m2' n2' i2 j2 s w:Int}(hb:b≠0)(hb1:b1≠0)(hb2:b2≠0)
  (f1:zV X b u v) (f2:zV Y b c d) (f3:zV X1 b1 u1 v1) (f4:zV Y1 b1 c1 d1) (f5:zV X2 b2 u2 v2) (f6:zV Y2 b2 c2 d2)
  (g1:zV (u2*v1 - u1*v2) (v2*v1) a e) (g2:zV (c2*d1 - c1*d2) (d2*d1) a' e') (g3:zV (u*v1 - u1*v) (v*v1) g h) (g4:zV (c*d1 - c1*d) (d*d1) g' h')
  (k1:zV (g*a) (h*e) m n) (k2:zV (g'*a') (h'*e') m' n') (k3:zV (m*n'+m'*n) (n*n') i j) (l1:zV (a*a) (e*e) m2 n2) (l2:zV (a'*a') (e'*e') m2' n2') (l3:zV (m2*n2'+m2'*n2) (n2*n2') i2 j2)
  (hi:i2≠0) (fin:zV (i*j2) (j*i2) s w) (hN:nN b X1 Y1 b1 X2 Y2 b2≠0):s*nN b X1 Y1 b1 X2 Y2 b2=nM X Y b X1 Y1 b1 X2 Y2 b2*w:=by
 refine n9 (nzl fin.low) hN ?_;have q1:=fL f1 hb;have q2:=fL f2 hb;have q3:=fL f3 hb1;have q4:=fL f4 hb1;have q5:=fL f5 hb2;have q6:=fL f6 hb2;have r1:=o8 (nzl f5.low) (nzl f3.low) g1;have r2:=o8 (nzl f6.low) (nzl f4.low) g2;have r3:=o8 (nzl f1.low) (nzl f3.low) g3;have r4:=o8 (nzl f2.low) (nzl f4.low) g4;have s1:=o9 (nzl g3.low) (nzl g1.low) k1;have s2:=o9 (nzl g4.low) (nzl g2.low) k2;have s3:=va (nzl k1.low) (nzl k2.low) k3;have t1:=o9 (nzl g1.low) (nzl g1.low) l1;have t2:=o9 (nzl g2.low) (nzl g2.low) l2;have t3:=va (nzl l1.low) (nzl l2.low) l3;have w1:=zi (nzl k3.low) hi fin;rw[w1,s3,t3,s1,s2,t1,t2,r1,r2,r3,r4,q1,q2,q3,q4,q5,q6];have hN':=cz hN;unfold nN at hN';unfold rq nM nN;simp only[Rat.intCast_mul,Rat.intCast_add,Rat.intCast_sub]at hN' ⊢;exact t6 (cz hb) (cz hb1) (cz hb2) hN'
theorem ul{X1 Y1 b1 X2 Y2 b2 u1 v1 c1 d1 u2 v2 c2 d2 a e a' e' m2 n2 m2' n2' i2 j2:Int}(hb1:0<b1)(hb2:0<b2)(f3:zV X1 b1 u1 v1)(f4:zV Y1 b1 c1 d1)(f5:zV X2 b2 u2 v2)(f6:zV Y2 b2 c2 d2)
  (g1:zV (u2*v1 - u1*v2) (v2*v1) a e) (g2:zV (c2*d1 - c1*d2) (d2*d1) a' e') (l1:zV (a*a) (e*e) m2 n2) (l2:zV (a'*a') (e'*e') m2' n2') (l3:zV (m2*n2'+m2'*n2) (n2*n2') i2 j2)
  (hS:0<(X2*b1 - X1*b2)*(X2*b1 - X1*b2)+(Y2*b1 - Y1*b2)*(Y2*b1 - Y1*b2)):0<i2:=by
 have f:=qP f3 f4 f5 f6 g1 g2 l1 l2 l3;have e:=f.eq;unfold sqN at e;have hj:=f.low.pos;have hd:0<sqD b1 b2:=Int.mul_pos (Int.mul_pos hb1 hb2) (Int.mul_pos hb1 hb2);have h:0<i2*sqD b1 b2:=by rw[<- e];exact Int.mul_pos hS (by omega)
 exact Int.pos_of_mul_pos_left h hd
def cX(qs:Crn)(k:Nat):Int:=(qs.getD k (0,0,0)).2.1
def cY(qs:Crn)(k:Nat):Int:=(qs.getD k (0,0,0)).2.2
def dL(dx dy:Int):Int:=dx*dx+dy*dy
def dA(X Y b bx by_ dx dy:Int):Int:=(X - bx*b)*dx+(Y - by_*b)*dy
structure He(n k:Nat)(l1 l2 h1 h2:Int):Prop where
 kn:k+1<n
 lo:(k:Int)*l2≤l1
 lt:l1*h2<h1*l2
 hi:h1≤((k:Int)+1)*h2
def Cl(L al b lu l2 hu h2 Tu B:Int):Prop:=(Tu=lu∧B=l2∧(L=0∨al*l2<lu*(L*b)))∨(Tu=hu∧B=h2∧L≠0∧¬al*l2<lu*(L*b)∧hu*(L*b)<al*h2) ∨
 (L≠0∧¬al*l2<lu*(L*b)∧¬hu*(L*b)<al*h2∧Tu*(L*b)=al*B)
def kL(qs:Crn)(k:Nat):Int:=dL (cX qs (k+1) - cX qs k) (cY qs (k+1) - cY qs k)
def kA(X Y b:Int)(qs:Crn)(k:Nat):Int:=dA X Y b (cX qs k) (cY qs k) (cX qs (k+1) - cX qs k) (cY qs (k+1) - cY qs k)
def LPc(X Y b:Int)(qs:Crn)(l1 l2 h1 h2 T B:Int):Prop:=(l1=h1∧l2=h2∧T=l1∧B=l2) ∨
 ∃k:Nat,He qs.length k l1 l2 h1 h2∧Cl (kL qs k) (kA X Y b qs k) b (l1 - (k:Int)*l2) l2 (h1 - (k:Int)*h2) h2 (T - (k:Int)*B) B
def InS(n:Nat)(l1 l2 h1 h2:Int):Prop:=(l1=h1∧l2=h2)∨∃k:Nat,He n k l1 l2 h1 h2
theorem He.fl{n k:Nat}{l1 l2 h1 h2:Int}(h:He n k l1 l2 h1 h2)(hl:0<l2)(hh:0<h2):l1 / l2=(k:Int):=by
 refine Int.le_antisymm ?_ (rK hl h.lo);have h1:l1<((k:Int)+1)*l2:=by
  have a:l1*h2<((k:Int)+1)*l2*h2:=by
   have:=Int.mul_le_mul_of_nonneg_right h.hi (show 0≤l2 by omega);have:=h.lt
   grind
  exact Int.lt_of_mul_lt_mul_right a (by omega)
 have h3:=Int.ediv_lt_of_lt_mul hl h1;omega
theorem mB{qs:Crn}{t b:Int}{k:Nat}(hb:0<b)(hk:k+1<qs.length)(h1:(k:Int)*b≤t)(h2:t≤((k:Int)+1)*b):ptX qs t b=cX qs k*b+(cX qs (k+1) - cX qs k)*(t - (k:Int)*b):=xa (c:=fun z=>z.1) hb hk h1 h2
theorem mz{qs:Crn}{t b:Int}{k:Nat}(hb:0<b)(hk:k+1<qs.length)(h1:(k:Int)*b≤t)(h2:t≤((k:Int)+1)*b):ptY qs t b=cY qs k*b+(cY qs (k+1) - cY qs k)*(t - (k:Int)*b):=xa (c:=fun z=>z.2) hb hk h1 h2
theorem yR{X Y b bx by_ dx dy lu l2 hu h2:Int}:nM X Y b (bx*l2+dx*lu) (by_*l2+dy*lu) l2 (bx*h2+dx*hu) (by_*h2+dy*hu) h2=(hu*l2 - lu*h2)*h2*(l2*dA X Y b bx by_ dx dy - lu*(dL dx dy*b)):=by
 unfold nM dA dL
 grind
theorem yQ{b bx by_ dx dy lu l2 hu h2:Int}:nN b (bx*l2+dx*lu) (by_*l2+dy*lu) l2 (bx*h2+dx*hu) (by_*h2+dy*hu) h2=b*((hu*l2 - lu*h2)*(hu*l2 - lu*h2)*dL dx dy):=by
 unfold nN dL
 grind
theorem ua{l1 l2 h1 h2 s w a e m n T B:Int}(hl:l2≠0)(hh:h2≠0)(hw:w≠0)(f1:zV (h1*l2 - l1*h2) (h2*l2) a e)(f2:zV (s*a) (w*e) m n)(f3:zV (l1*n+m*l2) (l2*n) T B):rq T B=rq l1 l2+rq s w*(rq h1 h2 - rq l1 l2):=by
 rw[va hl (nzl f2.low) f3,o9 hw (nzl f1.low) f2,o8 hh hl f1]
theorem zB:rq 0 1=0:=by decide +kernel
theorem zA:rq 1 1=1:=by decide +kernel
theorem xb{l1 l2 h1 h2 a e m n T B:Int}(Ll:AM l1 l2)(hh:h2≠0)(f1:zV (h1*l2 - l1*h2) (h2*l2) a e)(f2:zV (0*a) (1*e) m n)(f3:zV (l1*n+m*l2) (l2*n) T B):T=l1∧B=l2:=by
 have e:=ua (nzl Ll) hh (by decide) f1 f2 f3;rw[zB,Rat.zero_mul,Rat.add_zero]at e;exact cj f3.low Ll (n9 (nzl f3.low) (nzl Ll) e)
theorem yM{l1 l2 h1 h2 a e m n T B:Int}(hl:l2≠0)(Lh:AM h1 h2)(f1:zV (h1*l2 - l1*h2) (h2*l2) a e)(f2:zV (1*a) (1*e) m n)(f3:zV (l1*n+m*l2) (l2*n) T B):T=h1∧B=h2:=by
 have e:=ua hl (nzl Lh) (by decide) f1 f2 f3;rw[zA,Rat.one_mul,show rq l1 l2+(rq h1 h2 - rq l1 l2)=rq h1 h2 by grind]at e;exact cj f3.low Lh (n9 (nzl f3.low) (nzl Lh) e)
theorem xG{l1 l2 h1 h2 s w a e m n T B k L al b:Int}(hl:0<l2)(hh:0<h2)(hw:w≠0)(hL:0<L)(hb:0<b)(hd:0<h1*l2 - l1*h2)(f1:zV (h1*l2 - l1*h2) (h2*l2) a e)(f2:zV (s*a) (w*e) m n)(f3:zV (l1*n+m*l2) (l2*n) T B)
  (hs:s*(b*((h1*l2 - l1*h2)*(h1*l2 - l1*h2)*L))=(h1*l2 - l1*h2)*h2*(l2*al - (l1 - k*l2)*(L*b))*w):(T - k*B)*(L*b)=al*B:=by
 have e:=ua (by omega) (by omega) hw f1 f2 f3;have hB:=nzl f3.low;have hBq:=cz hB;have q1:=cz (show l2≠0 by omega);have q2:=cz (show h2≠0 by omega);have q3:=cz hw;have q4:=cz (show L≠0 by omega);have q5:=cz (show b≠0 by omega);have q6:=cz (show h1*l2 - l1*h2≠0 by omega);have e2:rq h1 h2 - rq l1 l2=((h1*l2 - l1*h2:Int):Rat)*((h2:Rat)⁻¹*(l2:Rat)⁻¹):=by
  unfold rq;rw[Rat.intCast_sub,Rat.intCast_mul,Rat.intCast_mul]
  grind
 rw[e2]at e;generalize h1*l2 - l1*h2=D at *;have hs':(s:Rat)*(b*(D*D*L))=D*h2*(l2*al - (l1 - k*l2)*(L*b))*w:=by
  have:=congrArg (fun z:Int=>(z:Rat)) hs;simpa only[Rat.intCast_mul,Rat.intCast_sub]using this
 have e3:rq s w*D=h2*(l2*al - (l1 - k*l2)*(L*b))*((L:Rat)⁻¹*(b:Rat)⁻¹):=by
  unfold rq
  grind
 have e4:rq T B=k+al*((L:Rat)⁻¹*(b:Rat)⁻¹):=by
  rw[e,show rq s w*(D*((h2:Rat)⁻¹*(l2:Rat)⁻¹))=(rq s w*D)*((h2:Rat)⁻¹*(l2:Rat)⁻¹) by grind,e3];unfold rq
  grind
 have e5:(T - k*B)*((L:Rat)*b)=al*(B:Rat):=by
  unfold rq at e4
  grind
 have e6:(((T - k*B)*(L*b):Int):Rat)=((al*B:Int):Rat):=by
  simp only[Rat.intCast_mul,Rat.intCast_sub];exact e5
 exact Rat.intCast_inj.mp e6
theorem sqS(X Y b bx by_ dx dy u B:Int):sqN X Y b (bx*B+dx*u) (by_*B+dy*u) B=B*B*((X - bx*b)*(X - bx*b)+(Y - by_*b)*(Y - by_*b)) - 2*B*u*b*dA X Y b bx by_ dx dy+u*u*b*b*dL dx dy:=by
 unfold sqN dA dL
 grind
theorem gC{D E:Int}(h:(0≤D∧0≤E)∨(D≤0∧E≤0)):0≤D*E:=by
 rcases h with⟨h1,h2⟩|⟨h1,h2⟩
 ·exact Int.mul_nonneg h1 h2
 ·have:=Int.mul_nonneg (show 0≤-D by omega) (show 0≤-E by omega)
  rwa [Int.neg_mul_neg]at this
theorem yk{L al b lu l2 hu h2 u B um Bm:Int}(hb:0<b)(hl:0<l2)(hh:0<h2)(hB:0<B)(hm:0<Bm)(hL:0≤L)(zL:L=0->al=0)(h:Cl L al b lu l2 hu h2 u B)(m1:lu*Bm≤um*l2)(m2:um*h2≤hu*Bm) :
  0≤(B*um - Bm*u)*(b*L*(B*um+Bm*u) - 2*B*Bm*al):=by
 have zero:L=0->0≤(B*um - Bm*u)*(b*L*(B*um+Bm*u) - 2*B*Bm*al):=fun z=>by
  rw[zL z,z];simp
 have bL:0≤b*L:=Int.mul_nonneg (by omega) hL;rcases h with⟨rfl,rfl,h|h⟩|⟨rfl,rfl,h0,_,h⟩|⟨h0,_,_,h⟩
 ·exact zero h
 ·refine gC (.inl ⟨by have:=Int.mul_comm u Bm;have:=Int.mul_comm um B;omega,?_⟩)
  have a1:=Int.mul_le_mul_of_nonneg_left (Int.le_of_lt h) (show 0≤Bm by omega);have a2:=Int.mul_le_mul_of_nonneg_left m1 bL
  grind
 ·refine gC (.inr ⟨by have:=Int.mul_comm u Bm;have:=Int.mul_comm um B;omega,?_⟩)
  have a1:=Int.mul_le_mul_of_nonneg_left (Int.le_of_lt h) (show 0≤Bm by omega);have a2:=Int.mul_le_mul_of_nonneg_left m2 bL
  grind
 ·have hLb:0<L*b:=Int.mul_pos (by omega) hb
  have e:(L*b)*((B*um - Bm*u)*(b*L*(B*um+Bm*u) - 2*B*Bm*al))=(B*(um*(L*b) - Bm*al))*(B*(um*(L*b) - Bm*al)):=by
   have e1:(B*um - Bm*u)*(L*b)=B*um*(L*b) - Bm*(u*(L*b)):=by grind
   have e2:b*L*(B*um+Bm*u) - 2*B*Bm*al=B*um*(L*b)+Bm*(u*(L*b)) - 2*B*Bm*al:=by grind
   rw[e2,show(L*b)*((B*um - Bm*u)*(B*um*(L*b)+Bm*(u*(L*b)) - 2*B*Bm*al))=((B*um - Bm*u)*(L*b))*(B*um*(L*b)+Bm*(u*(L*b)) - 2*B*Bm*al) by grind,e1,h]
   grind
  have:0≤(L*b)*((B*um - Bm*u)*(b*L*(B*um+Bm*u) - 2*B*Bm*al)):=by rw[e];exact gC (by omega)
  exact Int.nonneg_of_mul_nonneg_right this hLb
theorem oG(qs:Crn)(k:Nat):0≤kL qs k:=by
 unfold kL dL;have h1:∀x:Int,0≤x*x:=fun x=>gC (by omega);have:=h1 (cX qs (k+1) - cX qs k);have:=h1 (cY qs (k+1) - cY qs k);omega
theorem qO{x y:Int}(h:x*x+y*y=0):x=0∧y=0:=by
 have h1:∀x:Int,0≤x*x:=fun x=>gC (by omega);have a:=h1 x;have b:=h1 y;constructor
 ·have:x*x=0:=by omega
  rcases Int.mul_eq_zero.mp this with z|z <;> exact z
 ·have:y*y=0:=by omega
  rcases Int.mul_eq_zero.mp this with z|z <;> exact z
theorem wc{X Y b:Int}{qs:Crn}{k:Nat}(h:kL qs k=0):kA X Y b qs k=0:=by
 obtain⟨h1,h2⟩:=qO (h:(cX qs (k+1) - cX qs k)*(cX qs (k+1) - cX qs k)+(cY qs (k+1) - cY qs k)*(cY qs (k+1) - cY qs k)=0);unfold kA dA;rw[h1,h2];simp
theorem yg{N D s w:Int}(e:N*w=s*D):¬N*w<s*D:=by omega
theorem xT{qs qs':Crn}{t b l1 l2 h1 h2 T B m1 m2 s w:Int}(hb:0<b)(Ll:AM l1 l2)(Lh:AM h1 h2)(hB:AM T B)(hm:AM m1 m2)(h:LPc (ptX qs t b) (ptY qs t b) b qs' l1 l2 h1 h2 T B)(a1:l1*m2≤m1*l2)(a2:m1*h2≤h1*m2)(f:zV (sqF qs t b qs' T B) (sqD b B) s w)
  (t0:l1*B≤T*l2) (t1:T*h2≤h1*B):¬sqF qs t b qs' m1 m2*w<s*sqD b m2:=by
 have hB:=hB.pos;have hl:=Ll.pos;have hh:=Lh.pos;rcases h with⟨rfl,rfl,rfl,rfl⟩|⟨k,st,cl⟩
 ·obtain⟨rfl,rfl⟩:=cj hm Ll (by omega)
  exact yg f.eq
 ·have hm:=hm.pos
  have i1:∀{u v:Int},0<v->l1*v≤u*l2->(k:Int)*v≤u:=fun {u v} hv z=>by
   have z1:=Int.mul_le_mul_of_nonneg_right st.lo (show 0≤v by omega);have:(k:Int)*v*l2≤u*l2:=by grind
   exact Int.le_of_mul_le_mul_right this (by omega)
  have i2:∀{u v:Int},0<v->u*h2≤h1*v->u≤((k:Int)+1)*v:=fun {u v} hv z=>by
   have z1:=Int.mul_le_mul_of_nonneg_right st.hi (show 0≤v by omega);have:u*h2≤((k:Int)+1)*v*h2:=by grind
   exact Int.le_of_mul_le_mul_right this (by omega)
  have e:=f.eq;have hw:=f.low.pos;unfold sqF at e ⊢;rw[mB (by omega) st.kn (i1 (by omega) t0) (i2 (by omega) t1),mz (by omega) st.kn (i1 (by omega) t0) (i2 (by omega) t1),sqS]at e;rw[mB (by omega) st.kn (i1 (by omega) a1) (i2 (by omega) a2),mz (by omega) st.kn (i1 (by omega) a1) (i2 (by omega) a2),sqS];have z:=yk (um:=m1 - (k:Int)*m2) (Bm:=m2) hb (by omega) (by omega) (by omega) (by omega) (oG qs' k) wc cl (by grind) (by grind)
  change _*w=_ at e
  unfold kA kL at z;generalize dA (ptX qs t b) (ptY qs t b) b (cX qs' k) (cY qs' k) (cX qs' (k+1) - cX qs' k) (cY qs' (k+1) - cY qs' k)=al at *;generalize dL (cX qs' (k+1) - cX qs' k) (cY qs' (k+1) - cY qs' k)=L at *;generalize (ptX qs t b - cX qs' k*b)*(ptX qs t b - cX qs' k*b)+(ptY qs t b - cY qs' k*b)*(ptY qs t b - cY qs' k*b)=G at *;generalize T - (k:Int)*B=u at *;generalize m1 - (k:Int)*m2=um at *;unfold sqD at e ⊢;intro c;have z2:0≤b*((B*um - m2*u)*(b*L*(B*um+m2*u) - 2*B*m2*al)):=Int.mul_nonneg (by omega) z;have z3:(B*B*G - 2*B*u*b*al+u*u*b*b*L)*(m2*m2)≤(m2*m2*G - 2*m2*um*b*al+um*um*b*b*L)*(B*B):=by grind
  generalize B*B*G - 2*B*u*b*al+u*u*b*b*L=NT at *;generalize m2*m2*G - 2*m2*um*b*al+um*um*b*b*L=Nm at *;have hp:0<b*b:=Int.mul_pos hb hb;have c2:=Int.mul_lt_mul_of_pos_right c (Int.mul_pos hp (Int.mul_pos (show 0<B by omega) (show 0<B by omega)));have z4:=Int.mul_le_mul_of_nonneg_right z3 (show 0≤b*b*w from Int.mul_nonneg (by omega) (by omega));have e2:s*(b*m2*(b*m2))*(b*b*(B*B))=NT*w*(m2*m2)*(b*b):=by rw[e];grind
  have e3:Nm*w*(b*b*(B*B))=Nm*(B*B)*(b*b*w):=by grind
  have e4:NT*(m2*m2)*(b*b*w)=NT*w*(m2*m2)*(b*b):=by grind
  omega
def NP(X Y b X1 Y1 b1 X2 Y2 b2 s w:Int):Prop:=((X1*b2=X2*b1∧Y1*b2=Y2*b1)∧s=0∧w=1) ∨
 (0<nN b X1 Y1 b1 X2 Y2 b2∧((nM X Y b X1 Y1 b1 X2 Y2 b2<0∧s=0∧w=1)∨(nN b X1 Y1 b1 X2 Y2 b2<nM X Y b X1 Y1 b1 X2 Y2 b2∧s=1∧w=1) ∨
  (0≤nM X Y b X1 Y1 b1 X2 Y2 b2∧nM X Y b X1 Y1 b1 X2 Y2 b2≤nN b X1 Y1 b1 X2 Y2 b2∧0<w∧s*nN b X1 Y1 b1 X2 Y2 b2=nM X Y b X1 Y1 b1 X2 Y2 b2*w)))
theorem yP{s w M N:Int}(hw:0<w)(hN:0<N)(e:s*N=M*w):(s<0↔M<0)∧(w<s↔N<M):=by
 have sg:∀{a c:Int},0<c->(a<0↔a*c<0):=fun {a c} hc=>⟨fun h=>Int.mul_neg_of_neg_of_pos h hc,fun h=>by
  by_cases z:a<0
  ·exact z
  ·exact absurd h (by have:=Int.mul_nonneg (show 0≤a by omega) (show 0≤c by omega);omega)⟩
 constructor
 ·rw[sg hN,e,<- sg hw]
 ·have h1:w<s↔(w - s)*N<0:=by rw[<- sg hN];omega
  have h2:N<M↔(N - M)*w<0:=by rw[<- sg hw];omega
  rw[h1,h2,Int.sub_mul,Int.sub_mul,e,Int.mul_comm w N]
theorem uO{X Y b:Int}{qs:Crn}{l1 l2 h1 h2 s w a e m n T B:Int}(hb:0<b)(Ll:AM l1 l2)(Lh:AM h1 h2)(ins:InS qs.length l1 l2 h1 h2)(np:NP X Y b (ptX qs l1 l2) (ptY qs l1 l2) l2 (ptX qs h1 h2) (ptY qs h1 h2) h2 s w)
  (f1:zV (h1*l2 - l1*h2) (h2*l2) a e) (f2:zV (s*a) (w*e) m n) (f3:zV (l1*n+m*l2) (l2*n) T B):LPc X Y b qs l1 l2 h1 h2 T B∧l1*B≤T*l2∧T*h2≤h1*B:=by
 have hl:=Ll.pos;have hh:=Lh.pos;rcases ins with⟨rfl,rfl⟩|⟨k,st⟩
 ·rcases np with⟨_,rfl,rfl⟩|⟨h,_⟩
  ·obtain⟨rfl,rfl⟩:=xb Ll (nzl Ll) f1 f2 f3
   exact⟨.inl ⟨rfl,rfl,rfl,rfl⟩,Int.le_refl _,Int.le_refl _⟩
  ·unfold nN at h
   simp at h
 have hlt:=st.lt;have up:l1≤((k:Int)+1)*l2:=by
  have a:l1*h2≤((k:Int)+1)*l2*h2:=by
   have:=Int.mul_le_mul_of_nonneg_right st.hi (show 0≤l2 by omega)
   grind
  exact Int.le_of_mul_le_mul_right a (by omega)
 have lo:(k:Int)*h2≤h1:=by
  have a:(k:Int)*h2*l2≤h1*l2:=by
   have:=Int.mul_le_mul_of_nonneg_right st.lo (show 0≤h2 by omega)
   grind
  exact Int.le_of_mul_le_mul_right a (by omega)
 unfold NP at np;rw[mB (by omega) st.kn st.lo up,mz (by omega) st.kn st.lo up,mB (by omega) st.kn lo st.hi,mz (by omega) st.kn lo st.hi,yQ,yR]at np;have eD:(h1 - (k:Int)*h2)*l2 - (l1 - (k:Int)*l2)*h2=h1*l2 - l1*h2:=by grind
 rw[eD]at np;have hD:0<h1*l2 - l1*h2:=by omega
 have lowC:(kL qs k=0∨kA X Y b qs k*l2<(l1 - (k:Int)*l2)*(kL qs k*b))->s=0->w=1->LPc X Y b qs l1 l2 h1 h2 T B∧l1*B≤T*l2∧T*h2≤h1*B:=fun c es ew=>by
  subst es ew;obtain⟨rfl,rfl⟩:=xb Ll (nzl Lh) f1 f2 f3;exact⟨.inr ⟨k,st,.inl ⟨rfl,rfl,c⟩⟩,Int.le_refl _,by omega⟩
 rcases np with⟨⟨e1,e2⟩,es,ew⟩|⟨hN,np⟩
 ·refine lowC (.inl ?_) es ew
  have g:∀{x d:Int},(x*l2+d*(l1 - (k:Int)*l2))*h2=(x*h2+d*(h1 - (k:Int)*h2))*l2->d=0:=fun {x d} h=>by
   have:d*(h1*l2 - l1*h2)=0:=by grind
   rcases Int.mul_eq_zero.mp this with z|z
   ·exact z
   ·omega
  unfold kL dL;rw[g e1,g e2];rfl
 have hL:0<kL qs k:=by
  have h:=oG qs k
  by_cases z:kL qs k=0
  ·unfold kL at z
   rw[z]at hN;simp at hN
  ·omega
 have hal:kA X Y b qs k=dA X Y b (cX qs k) (cY qs k) (cX qs (k+1) - cX qs k) (cY qs (k+1) - cY qs k):=rfl;have hkl:kL qs k=dL (cX qs (k+1) - cX qs k) (cY qs (k+1) - cY qs k):=rfl;rw[<- hal,<- hkl]at np;have sgn:∀{D x:Int},0<D->(D*x<0↔x<0):=fun {D x} hd=>⟨fun h=>by
  by_cases z:x<0
  ·exact z
  ·exact absurd h (by have:=Int.mul_nonneg (show 0≤D by omega) (show 0≤x by omega);omega),fun h=>Int.mul_neg_of_pos_of_neg hd h⟩
 have hDh:0<(h1*l2 - l1*h2)*h2:=Int.mul_pos hD (by omega);have hDl:0<(h1*l2 - l1*h2)*l2:=Int.mul_pos hD (by omega);have cM:(h1*l2 - l1*h2)*h2*(l2*kA X Y b qs k - (l1 - (k:Int)*l2)*(kL qs k*b))<0↔kA X Y b qs k*l2<(l1 - (k:Int)*l2)*(kL qs k*b):=by
  rw[sgn hDh,Int.mul_comm l2];omega
 have cN:b*((h1*l2 - l1*h2)*(h1*l2 - l1*h2)*kL qs k)<(h1*l2 - l1*h2)*h2*(l2*kA X Y b qs k - (l1 - (k:Int)*l2)*(kL qs k*b))↔(h1 - (k:Int)*h2)*(kL qs k*b)<kA X Y b qs k*h2:=by
  have z:b*((h1*l2 - l1*h2)*(h1*l2 - l1*h2)*kL qs k) - (h1*l2 - l1*h2)*h2*(l2*kA X Y b qs k - (l1 - (k:Int)*l2)*(kL qs k*b))=(h1*l2 - l1*h2)*l2*((h1 - (k:Int)*h2)*(kL qs k*b) - kA X Y b qs k*h2):=by grind
  have y:=sgn (x:=(h1 - (k:Int)*h2)*(kL qs k*b) - kA X Y b qs k*h2) hDl;rw[<- z]at y;omega
 have nneg:∀{x:Int},0≤x->¬x<0:=fun h=>by omega
 rcases np with⟨h,es,ew⟩|⟨h,es,ew⟩|⟨h,h',hw,es⟩
 ·exact lowC (.inr (cM.mp h)) es ew
 ·subst es ew
  obtain⟨rfl,rfl⟩:=yM (nzl Ll) Lh f1 f2 f3;refine⟨.inr ⟨k,st,.inr (.inl ⟨rfl,rfl,by omega,fun c=>?_,cN.mp h⟩)⟩,by omega,Int.le_refl _⟩;have:=cM.mpr c;have hN':0<b*((T*l2 - l1*B)*(T*l2 - l1*B)*kL qs k):=hN;omega
 ·have c1:¬kA X Y b qs k*l2<(l1 - (k:Int)*l2)*(kL qs k*b):=fun c=>nneg h (cM.mpr c)
  have c2:¬(h1 - (k:Int)*h2)*(kL qs k*b)<kA X Y b qs k*h2:=fun c=>by have:=cN.mpr c;omega
  have e:=xG (k:=(k:Int)) (L:=kL qs k) (al:=kA X Y b qs k) (b:=b) (by omega) (by omega) (by omega) hL hb hD f1 f2 f3 es;have hB:=f3.low.pos;have hLb:0<kL qs k*b:=Int.mul_pos hL hb;refine⟨.inr ⟨k,st,.inr (.inr ⟨by omega,c1,c2,e⟩)⟩,?_,?_⟩
  ·have z:=Int.mul_le_mul_of_nonneg_right (Int.not_lt.mp c1) (show 0≤B by omega)
   have r1:(T - (k:Int)*B)*l2*(kL qs k*b)=kA X Y b qs k*l2*B:=by rw[Int.mul_right_comm,e,Int.mul_right_comm]
   have r2:(l1 - (k:Int)*l2)*B*(kL qs k*b)=(l1 - (k:Int)*l2)*(kL qs k*b)*B:=Int.mul_right_comm _ _ _;have z2:(l1 - (k:Int)*l2)*B*(kL qs k*b)≤(T - (k:Int)*B)*l2*(kL qs k*b):=by omega
   have:=Int.le_of_mul_le_mul_right z2 hLb
   grind
  ·have z:=Int.mul_le_mul_of_nonneg_right (Int.not_lt.mp c2) (show 0≤B by omega)
   have r1:(T - (k:Int)*B)*h2*(kL qs k*b)=kA X Y b qs k*h2*B:=by rw[Int.mul_right_comm,e,Int.mul_right_comm]
   have r2:(h1 - (k:Int)*h2)*B*(kL qs k*b)=(h1 - (k:Int)*h2)*(kL qs k*b)*B:=Int.mul_right_comm _ _ _;have z2:(T - (k:Int)*B)*h2*(kL qs k*b)≤(h1 - (k:Int)*h2)*B*(kL qs k*b):=by omega
   have:=Int.le_of_mul_le_mul_right z2 hLb
   grind
theorem rD{H:Hp}{l:Addr}{qs:Crn}(L:zW H l qs)(k:Nat):au (kL qs k)≤103:=by
 have h1:=dW L k;have h2:=dW L (k+1);have a:=bG h2.1 h1.1;have b:=bG h2.2 h1.2;exact ai (cF (bits_mul a a) (bits_mul b b)) (by decide)
theorem we{H:Hp}{l:Addr}{qs:Crn}{X Y b:Int}(L:zW H l qs)(k:Nat)(bX:au X≤262)(bY:au Y≤262)(bb:au b≤60):au (kA X Y b qs k)≤400:=by
 have h1:=dW L k;have h2:=dW L (k+1);have a:=bG h2.1 h1.1;have c:=bG h2.2 h1.2;exact ai (cF (bits_mul (bG bX (ai (bits_mul h1.1 bb) (show 110≤262 by decide))) a) (bits_mul (bG bY (ai (bits_mul h1.2 bb) (show 110≤262 by decide))) c)) (by decide)
theorem v9{H:Hp}{l:Addr}{qs:Crn}{X Y b l1 l2 h1 h2 T B:Int}(L:zW H l qs)(h20:qs.length≤20)(hb:0<b)(bb:au b≤60)(lw:AM T B)(h:LPc X Y b qs l1 l2 h1 h2 T B)(b2:au l2≤60)(b4:au h2≤60)(t0:0≤T)(t1:T≤aP qs*B):au T≤200∧au B≤163:=by
 have hB:=lw.pos;have b3:au B≤163:=by
  rcases h with⟨_,_,rfl,rfl⟩|⟨k,st,⟨_,rfl,_⟩|⟨_,rfl,_⟩|⟨h0,_,_,e⟩⟩
  ·exact ai b2 (by decide)
  ·exact ai b2 (by decide)
  ·exact ai b4 (by decide)
  ·have hL:=oG qs k
   have hLb:0<kL qs k*b:=Int.mul_pos (by omega) hb;have f:zV (kA X Y b qs k+(k:Int)*(kL qs k*b)) (kL qs k*b) T B:=⟨lw,by grind⟩;exact(lS hLb f (Nat.le_refl _) (bits_mul (rD L k) bb)).2
 refine⟨?_,b3⟩;have:aP qs*B≤20*B:=Int.mul_le_mul_of_nonneg_right (by unfold aP;omega) (by omega);exact ai (de t0 (Int.le_trans t1 this) (bits_mul (show au 20≤5 by decide) b3)) (by decide)
theorem sD{H:Hp}{l:Addr}{qs:Crn}{X Y b l1 l2 h1 h2 s w:Int}{k:Nat}(L:zW H l qs)(hb:0<b)(hl:0<l2)(hh:0<h2)(bb:au b≤60)(b2:au l2≤60)(b4:au h2≤60)(st:He qs.length k l1 l2 h1 h2)(bX:au X≤262∧au Y≤262)(lw:AM s w)
  (hN:0<nN b (ptX qs l1 l2) (ptY qs l1 l2) l2 (ptX qs h1 h2) (ptY qs h1 h2) h2) (e:s*nN b (ptX qs l1 l2) (ptY qs l1 l2) l2 (ptX qs h1 h2) (ptY qs h1 h2) h2=nM X Y b (ptX qs l1 l2) (ptY qs l1 l2) l2 (ptX qs h1 h2) (ptY qs h1 h2) h2*w):au s≤900∧au w≤900:=by
 have hlt:=st.lt;have p1:=gq (t:=l1) L hl (ai b2 (by decide));have p2:=gq (t:=h1) L hh (ai b4 (by decide));have q:∀{x:Int} {z:Int},0<z->au z≤60->∀{x:Int},au x≤262->au (x*z)≤322:=fun _ hz _ hx=>bits_mul hx hz;have u1:=bG (bits_mul p2.1 b2) (bits_mul p1.1 b4);have u2:=bG (bits_mul p2.2 b2) (bits_mul p1.2 b4);have v1:=bG (bits_mul bX.1 b2) (bits_mul p1.1 bb);have v2:=bG (bits_mul bX.2 b2) (bits_mul p1.2 bb);have bM:au (nM X Y b (ptX qs l1 l2) (ptY qs l1 l2) l2 (ptX qs h1 h2) (ptY qs h1 h2) h2)≤900:=ai (bits_mul (cF (bits_mul u1 v1) (bits_mul u2 v2)) b4) (by decide);have bN:au (nN b (ptX qs l1 l2) (ptY qs l1 l2) l2 (ptX qs h1 h2) (ptY qs h1 h2) h2)≤900:=ai (bits_mul bb (cF (bits_mul u1 u1) (bits_mul u2 u2))) (by decide);exact lS hN ⟨lw,e.symm⟩ bM bN
end Sp11
namespace L2
open PySem PySem.Spec PyProof.Rows
section
variable {prog:Program} {w:World} {A:Around} {E:Value->Shared->Prop} {s:Shared}
theorem pH{a c n:Nat}(ha:a≤n):sliceBounds (some (a:Int)) (some (c:Int)) none n=((a:Int),((min c n:Nat):Int),1):=by
 rw[W.kms_bounds];have e1:W.kms_lo (some (a:Int)) n=a:=by
  unfold W.kms_lo;dsimp only;rw[if_neg (by omega),Int.toNat_natCast];omega
 have e2:W.kms_hi (some (c:Int)) n=min c n:=by
  unfold W.kms_hi;dsimp only;rw[if_neg (by omega),Int.toNat_natCast]
 rw[e1,e2]
theorem sv{l b sl:Addr}{items new:Array Value}{n n2:Nat}{vl vu:Value}{a c:Nat}{Q:Unit->Shared->Prop}
  (e:s.heap.get? l=some { cls:=.type "list",data:=.seq items n }) (e2:s.heap.get? b=some { cls:=.type "list",data:=.seq new n2 }) (hne:l≠b)
  (hs:s.heap.IsSliceOf sl vl vu .none) (pl:IsPart vl (some (a:Int))) (pu:IsPart vu (some (c:Int))) (hac:a≤c) (ha:a≤items.size)
  (hsz:items.size+new.size≤sizeLine) (h:Q () { s with heap:=s.heap.update l (Obj.mapSeq fun xs=>xs.extract 0 a++new++xs.extract (min c items.size) xs.size) }) :
  wpAny (model prog w) A (setItem (.ref l) (.ref sl) (.ref b)) Q E s:=by
 have hl:s.heap.IsList l items:=PySem.IsL.isList e;have hb:s.heap.IsList b new:=PySem.IsL.isList e2;obtain⟨os,hos,hcs,hds⟩:=id hs;have hm:(max (a:Int) ((min c items.size:Nat):Int)).toNat=min c items.size:=by omega
 have hz':((fun xs:Array Value=>xs.extract 0 a++new++xs.extract (min c items.size) xs.size) items).size≤sizeLine+1:=by
  simp only[Array.size_append,Array.size_extract];omega
 unfold setItem;refine wpAny_holding (wpAny_bind (wpAny_sequenceKey hl.typeIs (by decide) ?_));refine wpAny_bind (wpAny_callSpecial?_slot (name:=Str.ofString "__setitem__") hl.typeIs slot_list_setitem (wpAny_call_entry slot_list_setitem hl.typeIs entry_list_setitem ?_ (args_list_setitem _ _ _)));refine wpAny_bind (m:=Builtin.List.listSubscript? (.ref sl)) ?_;unfold Builtin.List.listSubscript?;refine wpAny_bind (wpAny_specialOf ⟨os,hos,hcs⟩ slice_no_index ?_);simp only[Option.isNone_none,if_true];refine wpAny_pure (wpAny_bind (wpAny_typeOf (T:="slice") ⟨os,hos,hcs⟩ ?_));rw[if_neg (by decide),listSliceParts_eq];refine wpAny_bind (wpAny_bind (wpAny_field hos hds (x:=.none) rfl (wpAny_bind (wpAny_listPart .none ?_))));have h0:¬((rawPart none == rawInt 0)=true):=Bool.false_ne_true;rw[if_neg h0];refine wpAny_bind (wpAny_field hos hds (x:=vl) rfl (wpAny_bind (wpAny_listPart pl ?_)));refine wpAny_bind (wpAny_field hos hds (x:=vu) rfl (wpAny_bind (wpAny_listPart pu (wpAny_pure ?_))));have same:Builtin.List.listSameRef (.ref l) (.ref b)=false:=beq_eq_false_iff_ne.mpr hne;rw[if_neg (by rw[same];exact Bool.false_ne_true)];refine wpAny_bind (m:=Builtin.List.listAllItems (.ref b) "must assign iterable to extended slice") ?_;unfold Builtin.List.listAllItems;refine wpAny_bind (wpAny_typeOf hb.typeIs ?_);rw[if_pos (by decide)];unfold Builtin.List.listItems;refine wpAny_bind (wpAny_seqItems e2 rfl (wpAny_pure (wpAny_bind (wpAny_bind (wpAny_seqItems e rfl (wpAny_pure ?_))))));refine wpAny_bind (wpAny_of_eq ((sliceIndices_raw (some (a:Int)) (some (c:Int)) none items.size (by simp)).trans (congrArg (pure:Int×Int×Int->Sem (Int×Int×Int)) (pH ha))) ?_);show wpAny _ _ (if ((1:Int) == 1)=true then _ else _) _ _ s
 rw[if_pos (by decide)];refine wpAny_bind (wpAny_rule ?_);rw[if_neg (by rw[ow hsz];exact Bool.false_ne_true)];show wpAny _ _ (updateSeq l (fun xs=>xs.extract 0 (a:Int).toNat++new++xs.extract (max (a:Int) ((min c items.size:Nat):Int)).toNat xs.size) >>= _) _ _ s;rw[hm,Int.toNat_natCast];refine wpAny_bind (wpAny_updateSeq (hz:=Nat.le_trans (Nat.le_add_right _ _) hsz) (_hz':=hz') e rfl (wpAny_bind (wpAny_letGo ?_)));exact wpAny_pure ⟨.none,rfl,wpAny_pure h⟩
end
section
variable {X:Cx} {o:Expr} {lo hi:Option Expr} {to:TE} {tl th:TO} {pos p2:Pos}
def zK(to:TE)(tl th:TO):TG:=fun v σ H Q=>to σ H fun o H1=>tl σ H1 fun lo H2=>th σ H2 fun hi H3=>∃l b xs ys a c,o = .ref l∧v = .ref b∧lo=some a∧hi=some c∧l≠b∧H3 l=some (.lst xs)∧H3 b=some (.lst ys) ∧
 0≤a∧a≤c∧a≤xs.length∧xs.length+ys.length≤sizeLine∧Q σ (upd H3 l (.lst (xs.take a.toNat++ys++xs.drop c.toNat)))
theorem xI(ho:PE X o to)(hl:PO X lo tl)(hu:PO X hi th)
  (ha:∀v,assign (.Subscript o (.Slice lo hi none p2) pos) X.env v=(do
   let ov <- holding [v] (eval o X.env)
   let iv <- holding [v,ov] (eval (.Slice lo hi none p2) X.env)
   standAt pos
   holding [v,ov,iv] (setItem ov iv v)
   release [iv,v,ov] []):=by intro _;rfl):PG X (.Subscript o (.Slice lo hi none p2) pos) (zK to tl th):=by
 intro pins s σ H v u Q I r h;rw[ha];refine wpAny_bind (wpAny_holding (thn (ho pins s σ H _ I h) fun ov s1 ⟨x,H1,I1,r1,q1⟩=>?_));refine wpAny_bind (wpAny_holding (wpAny_Slice (thn (hl pins s1 σ H1 _ I1 q1) fun vl s2 ⟨l,H2,I2,pl,q2⟩=>thn (hu pins s2 σ H2 _ I2 q2) fun vu s3 ⟨u',H3,I3,pu,q3⟩=>?_)));rw[evalPart_none];refine wpAny_pure ?_;have I4:zT X pins σ H3 { s3 with heap:=s3.heap.push { cls:=.type "slice",data:=.fields #[vl,vu,.none] } }:=I3.kept (t':=s3.toks) fun b ob q=>Heap.get?_push_of_some _ q;obtain⟨l,b,xs,ys,a,c,rfl,rfl,rfl,rfl,hne,e1,e2,h0,hac,hla,hz,q⟩:=q3;cases r1;cases r;obtain⟨z,its,n,r,hl,f1⟩:=I4.lstM e1;obtain⟨z2,its2,n2,r2,hl2,f2⟩:=I4.lstM e2;obtain⟨a',rfl⟩:=Int.eq_ofNat_of_zero_le h0;obtain⟨c',rfl⟩:=Int.eq_ofNat_of_zero_le (Int.le_trans h0 hac);simp only[Int.toNat_natCast]at q;refine wpAny_bind (wpAny_standAt (wpAny_bind (wpAny_holding ?_)));refine sv (a:=a') (c:=c') f1 f2 hne (Heap.IsSliceOf.new ..) pl pu (by omega) (by rw[List.size_toArray];omega) (by rw[List.size_toArray,List.size_toArray];omega) ?_;refine wpAny_release ⟨σ,_,I4.lset (its':=its.take a'++its2++its.drop c') (t':=_) e1 f1 ?_ (aO.append (aO.append (r.take _) r2) (r.drop _)) ?_,q⟩
 ·show its.toArray.extract 0 a'++its2.toArray++its.toArray.extract (min c' its.toArray.size) its.toArray.size=_
  rw[sq,List.size_toArray]
  congr 2
  rcases Nat.le_total c' its.length with hc|hc
  ·rw[Nat.min_eq_left hc]
  ·rw[Nat.min_eq_right hc,List.drop_of_length_le (Nat.le_refl _),List.drop_of_length_le hc]
 ·rw[List.length_append,List.length_append,List.length_take,List.length_drop]
  omega
end
end L2
namespace L2
open PySem PySem.Spec PyProof.Rows
section
variable {X:Cx}
inductive Jg (x:V) (lo:Option Int) (hi:Option Int) (H:Hp) (Q:VK):Prop
 | mk:∀z,(x = .str z)->((Txt.slice z lo hi).length≤sizeLine)->(Q (.str (Txt.slice z lo hi)) H)->Jg x lo hi H Q
theorem vK:SlR X Jg:=by
 intro pins s σ H x v vl vu lo hi sl Q I rx hs pl pu h;obtain⟨z,rfl,hz,q⟩:=h;obtain⟨t,rfl⟩:=rx;refine⟨"str",_,slot_str_getitem.lookup,typeIs_str s z t,?_⟩;obtain⟨l,el,ml⟩:∃l:Option (Int×Tok),partValue l=vl∧l.map (·.1)=lo:=by
  cases pl with
  | none=>exact⟨none,rfl,rfl⟩
  | int i t=>exact⟨some (i,t),rfl,rfl⟩
 obtain⟨u,eu,mu⟩:∃l:Option (Int×Tok),partValue l=vu∧l.map (·.1)=hi:=by
  cases pu with
  | none=>exact⟨none,rfl,rfl⟩
  | int i t=>exact⟨some (i,t),rfl,rfl⟩
 refine wpAny_getItem_str_slice (l:=l) (u:=u) (st:=none) (by rw[<- el,<- eu]at hs;exact hs) rfl ?_;subst ml mu;unfold Txt.slice at q hz;unfold sliceMade;have e:slicePicked z l u none=Builtin.Str.strSliceIndices (l.map (·.1)) (u.map (·.1)) 1 z.length:=rfl;rw[e]
 by_cases c:(Builtin.Str.strSliceIndices (l.map (·.1)) (u.map (·.1)) 1 z.length).length == z.length
 ·rw[if_pos (show(((none:Option (Int×Tok)).map (·.1)).getD 1 == 1 && _)=true by rw[c];rfl)]
  rw[if_pos (show((1:Int) == 1 && _)=true by rw[c];rfl)]at q;exact⟨.str z,H,I,⟨t,rfl⟩,q⟩
 ·have c:((Builtin.Str.strSliceIndices (l.map (·.1)) (u.map (·.1)) 1 z.length).length == z.length)=false:=by simpa using c
  rw[if_neg (show ¬(((none:Option (Int×Tok)).map (·.1)).getD 1 == 1 && _)=true by rw[c];simp)];rw[if_neg (show ¬((1:Int) == 1 && _)=true by rw[c];simp)]at q hz;exact⟨hz,.str _,H,I.tok _,⟨_,rfl⟩,q⟩
theorem ut:MtR X "str.upper" (fun x xs H Q=>∃z,x = .str z∧xs = []∧z.length≤100000∧Q (.str (Txt.upper z)) H):=by
 intro pins s σ H x xs v us Q I rx rs h;obtain⟨z,rfl,rfl,hz,q⟩:=h;obtain⟨t,rfl⟩:=rx;cases rs;exact SC.upper (fit_upper (by omega)) ⟨.str _,H,I.tok _,⟨_,rfl⟩,q⟩
theorem nV:∀{ys:List Str} {us:List Value},aO (ys.map V.str) us->StrsAre us ys
 | [],_,r=>by
  cases r;exact .nil
 | y::r,_,h=>by
  cases h with
  | cons a b =>
   obtain⟨t,rfl⟩:=a;exact .cons y t (nV b)
inductive IM (K:W.Frag) (x:V) (xs:List V) (H:Hp) (Q:VK):Prop
 | mk:∀z l ys,(x = .str z)->(xs = [.ref l])->(SqL K H l (ys.map V.str))->(((ys.map fun x=>x.length).sum+ys.length*z.length≤16777216))->(Q (.str (Txt.join z ys)) H)->IM K x xs H Q
theorem rk:MtR X "str.join" (IM X.K):=by
 intro pins s σ H x xs v us Q I rx rs h;obtain⟨z,l,ys,rfl,rfl,hl,hz,q⟩:=h;obtain⟨t,rfl⟩:=rx;obtain⟨u,rfl,ru⟩:=cT rs;cases ru;obtain⟨its,r,pl,_⟩:=I.list hl;exact join_list pl.isList (nV r) hz fun t' k=>⟨.str _,H,I.kept (t':=k) fun b ob q=>q,⟨_,rfl⟩,q⟩
end
end L2
namespace L2
open PySem PySem.Spec PyProof.Rows
section
variable {X:Cx}
theorem pV{Cs:Addr->Prop}{n en:Str}{B:Addr}{np hpos pos:Pos}{body:List Stmt}{b₀:Stmt}{suite:List Stmt}{tx:TX}{th:TS}{i:Nat}(stk:X.stack=X.env::X.outer)(hfr:X.env.frame=some X.env.locals)(hb:PXs X body tx)(O:AW X.K X.mg n B)(hg:Gl X n)
  (hm:∀C,Cs C->W.exmOne X.K (.ref C) (.ref B)=some true) (hex:X.ex = []) (hN:X.N.Nodup) (hi:X.N[i]? = some en) (hk:X.env.kindOf en=some .local)
  (hh:∀e:Addr,PSs (X.inH e) (b₀::suite) th) (hdb:(n == ("__debug__" : Str))=false:=by decide) :
  PS X (.Try body [.ExceptHandler (some (.Name n np)) (some en) (b₀::suite) hpos] [] [] pos) (fun D σ H=>tx (fun c σ' H'=>∃C,c = .ref C∧Cs C∧∀e:Addr,H' e=none->th (D.drop i) (σ'.set i (some (.ref e))) (upd H' e (iG C e))) D σ H):=by
 intro pins s σ H D I h;refine wpAny_Try_except (wpAny_mono (hb pins s σ H D _ I h) (fun f s1 q=>?_) fun ev s1 q=>?_)
 ·cases f with
  | next=>exact wpAny_execs_nil q
  | ret v=>exact q
  | brk=>exact q
  | cont=>exact q
 ·obtain⟨s₁,σ₁,H₁,E1,I1,hx,hE⟩:=q
  obtain⟨ea,t,cls,H',B',rfl,os,bare,un,hok,fl,big,q⟩:=hx;obtain⟨C,rfl,hC,rd⟩:=hE _ _ _ q;exact tf (E1:=fun c o H''=>c = .ref C∧H''=H') I1 stk hfr O hg (hm C hC) hex hN hi hk ⟨ea,t,_,H',B',rfl,os,bare,un,hok,fl,big,rfl,rfl⟩ (fun c o H'' z=>by obtain⟨rfl,rfl⟩:=z;exact⟨rfl,rd⟩) hh hdb
inductive Io (K:W.Frag) (Cs:Addr->Prop) (xs:List V) (H:Hp) (Q:VK):Prop
 | mk:∀C,(Cs C)->(IV K C xs H Q)->Io K Cs xs H Q
theorem pE{Cs:Addr->Prop}(h:∀C,Cs C->(∃n,AW X.K X.mg n C)∧Ix X.K C):dX X (.builtin "isinstance") (Io X.K Cs):=by
 intro pins s σ H xs us Q I rs q;obtain⟨C,hC,q⟩:=q;obtain⟨⟨n,O⟩,f⟩:=h C hC;exact qJ O f pins s σ H xs us Q I rs q
end
end L2
namespace L2
open PySem PySem.Spec PyProof.Rows
section
variable {X:Cx}
end
end L2
namespace L2
open PySem PySem.Spec PyProof.Rows PySem.NumText
def Dig(K:W.Frag):Prop:=W.nsIn K cStatics "sys.int_max_str_digits" = some none
theorem ve{K:W.Frag}{h:Heap}(X:K.In h)(l:h.NoLimit)(d:Dig K):h.NoDigits:=by
 obtain⟨mc,G,_⟩:=l;refine⟨mc,G,?_⟩;obtain⟨o,es,ep,ho,hd,_,hf⟩:=G;have e:=d;unfold Dig W.nsIn at e
 split at e
 ·rename_i c d es' n' sl q
  have:=X _ _ q;rw[ho]at this;cases this;cases hd
  split at e
  ·cases e
  ·rename_i he
   rw[<- hf];unfold nsFind findBy;rw[<- Array.find?_toList,he];rfl
 ·cases e
section
variable {X:Cx} {pins:List (Addr×Obj)} {σ:St} {H:Hp} {s:Shared}
theorem zT.nodig(I:zT X pins σ H s)(d:Dig X.K):s.heap.NoDigits:=(ve I.ok.mod.kin I.ok.mod.nolimit d).keeps I.bk
end
def num(n:Int):Str:=Str.ofString (toString n)
def Dg(n:Int):Prop:=n.natAbs<10^4300
section
variable {prog:Program} {w:World} {A:Around} {E:Value->Shared->Prop} {s:Shared} {Q:Value->Shared->Prop} {x:PySem.Str} {t:Tok} {n:Int}
theorem vD{M:Model}{A:Around}{E:Value->Shared->Prop}{s:Shared}{Q:Value->Shared->Prop}{v:Value}{text:List Nat}{n:Int}
  (hs:¬(text.takeWhile (· != 0)).length≤640) (hn:s.heap.NoDigits) (hr:(int_private% "readNumeral") 4300 10 (text.takeWhile (· != 0))=(int_private% "Numeral.value") n)
  (ha:((text.takeWhile (· != 0)).length == text.length)=true) (h:Q (.int n s.toks) { s with toks:=s.toks+1 }) :
  wpAny M A ((int_private% "intFromText") v text 10) Q E s:=by
 show wpAny M A (do
  let limit <- if (text.takeWhile (· != 0)).length≤640 then pure 0 else Builtin.intMaxStrDigits
  _) Q E s
 rw[if_neg hs];unfold Builtin.intMaxStrDigits;obtain⟨mc,hns,hnone⟩:=hn;refine wpAny_bind (wpAny_bind (wpAny_nsGet hns ?_));rw[hnone];refine wpAny_pure ?_;dsimp only;rw[hr];dsimp only
 repeat (any_goals (first
  | assumption
  | (with_reducible refine wpAny_ite_true (decide_eq_true ha) ?_)
  | wp_step))
set_option maxHeartbeats 4000000 in
theorem ql{x:PySem.Str}{u:Tok}{n:Int}(hl:x.length≤4300)(hn:PySem.intText? x=some n)(h6:¬(numSeenOf x).length≤640):Meets (Builtin.«int.__new__» ⟨[.type "int",.str x u],[]⟩) (fun _ R s=>s.heap.NoDigits∧R (.ok (.ret (.int n s.toks))) { s with toks:=s.toks+1 }) :=
 Meets.of_wp fun prog w A R s ⟨nd,h⟩=>by
  have f1:=F.conv_sub_int;have f2:=F.madeHere_int;have f3:=W.KIN.str_int;have f4:=W.KIN.str_idx;have f5:=W.KIN.str_trunc;have f6:typeOf (.str x u)=pure (.type "str"):=rfl;have hr:(int_private% "readNumeral") 4300 10 (numSeenOf x)=(int_private% "Numeral.value") n∧((numSeenOf x).length == (numTextOf x).length)=true:=by
   rcases read4300 x (Nat.le_trans hl (by decide)) with⟨m,h1,h2,h3⟩|⟨h1,_⟩
   ·rw[hn]at h1
    injection h1 with h1;subst h1;exact⟨h3,h2⟩
   ·rw[hn]at h1
    cases h1
  have hk:=W.KIN.Hid.mk (And.intro h6 hr);have nk:=W.KIN.Hid.mk nd;have hq:=W.KIN.Hid.mk h;clear h6 hr hl hn nd h;obtain⟨hp,g,d,tk,os⟩:=s
  repeat (any_goals (first
   | assumption
   | ((with_reducible show wpAny _ _ ((int_private% "intFromText") _ _ _) _ _ _);refine vD hk.out.1 nk.out hk.out.2.1 hk.out.2.2 ?_)
   | wp_step))
  all_goals first|exact⟨_,rfl,hq.out⟩|skip
theorem uR(hn:s.heap.NoDigits)(hc:∀c∈x.cps.toList,c=45∨(48≤c∧c≤57))(hl:x.length≤4300)(e:PySem.intText? x=some n)(h:∀t' k,Q (.int n t') { s with toks:=k }):wpAny (model prog w) A (call (.type "int") [.str x t]) Q E s:=by
 by_cases h7:x.length≤640
 ·exact W.KIN.call_text e h7 (h _ _)
 ·refine PySem.call_int_1 (ql hl e ?_) ⟨hn,rfl,h _ _⟩
  rw[(numText_signs hc).2];have:x.cps.toList.length=x.length:=Array.length_toList;omega
end
section
variable {X:Cx}
inductive II (xs:List V) (H:Hp) (Q:VK):Prop
 | mk:∀n:Int,(xs = [.int n])->(Dg n)->(Q (.str (num n)) H)->II xs H Q
theorem dN{K:W.Frag}(hK:X.K=K)(d:Dig K)(hc:X.calm=true):dX X (.type "str") II:=by
 subst hK;intro pins s σ H xs us Q I rs q;obtain⟨n,rfl,hd,q⟩:=q;obtain⟨u,rfl,ru⟩:=cT rs;obtain⟨t,rfl⟩:=ru;exact str_of_int_or (I.ok.hd hc) (I.nodig d) (fun _=>⟨.str _,H,I.tok _,⟨_,rfl⟩,q⟩) fun hge=>absurd hd (Nat.not_lt.mpr hge)
inductive IN (xs:List V) (H:Hp) (Q:VK):Prop
 | mk:∀(x:Str) (n:Int),(xs = [.str x])->((∀c∈x.cps.toList,c=45∨(48≤c∧c≤57)))->(x.length≤4300)->(PySem.intText? x=some n)->(Q (.int n) H)->IN xs H Q
theorem tj{K:W.Frag}(hK:X.K=K)(d:Dig K):dX X (.type "int") IN:=by
 subst hK;intro pins s σ H xs us Q I rs q;obtain⟨x,n,rfl,hc,hl,e,q⟩:=q;obtain⟨u,rfl,ru⟩:=cT rs;obtain⟨t,rfl⟩:=ru;exact uR (I.nodig d) hc hl e fun t' k=>⟨.int n,H,I.kept (t':=k) fun b ob z=>z,⟨_,rfl⟩,q⟩
theorem kJ:MtR X "str.startswith" (fun x xs H Q=>∃z y,x = .str z∧xs = [.str y]∧Q (.bl (Txt.startswith z y)) H):=by
 intro pins s σ H x xs v us Q I rx rs h;obtain⟨z,y,rfl,rfl,q⟩:=h;obtain⟨t,rfl⟩:=rx;obtain⟨u,rfl,ru⟩:=cT rs;obtain⟨t',rfl⟩:=ru;exact SC.startswith ⟨.bl _,H,I,rfl,q⟩
end
end L2
namespace L2
open PySem PySem.Spec PyProof.Rows PySem.NumText
section
variable {X:Cx}
def zu(te:TE):TE:=fun σ H Q=>te σ H fun v H1=>(∃n,v = .int n∧Dg n∧Q (.str (num n)) H1)∨∃z,v = .str z∧z.length≤sizeLine∧Q (.str z) H1
theorem mF{K:W.Frag}{e:Expr}{te:TE}{pos:Pos}(hK:X.K=K)(d:Dig K)(hc:X.calm=true)(h:PE X e te):PE X (.FormattedValue e (-1) none pos) (zu te):=by
 subst hK;intro pins s σ H Q I q;refine FormattedValue_plain (thn (h pins s σ H _ I q) fun v s1 ⟨x,H1,I1,r1,q1⟩=>?_);rcases q1 with⟨n,rfl,hd,q1⟩|⟨z,rfl,hz,q1⟩
 ·obtain⟨t,rfl⟩:=r1
  exact formatField_int (I1.ok.hd hc) (I1.nodig d) (fun _=>⟨.str _,H1,I1.kept (t':=s1.toks+1+1) fun b ob z=>z,⟨_,rfl⟩,q1⟩) fun hge=>absurd hd (Nat.not_lt.mpr hge)
 ·obtain⟨t,rfl⟩:=r1
  exact formatField_str (fun t' tk=>⟨.str _,H1,I1.kept (t':=tk) fun b ob z=>z,⟨_,rfl⟩,q1⟩) hz
def xq(t1 t2 t3:TE):TE:=fun σ H Q=>t1 σ H fun v1 H1=>∃y1,v1 = .str y1∧y1.length≤sizeLine∧t2 σ H1 fun v2 H2=>∃y2,v2 = .str y2∧y1.length+y2.length≤sizeLine∧t3 σ H2 fun v3 H3=>∃y3,v3 = .str y3∧y1.length+y2.length+y3.length≤sizeLine∧Q (.str (y1++y2++y3)) H3
theorem i8(y:Str):Str.empty++y=y:=by
 show(⟨#[]++y.cps⟩:Str)=y;rw[Array.empty_append]
theorem uc{e1 e2 e3:Expr}{t1 t2 t3:TE}{pos:Pos}(h1:PE X e1 t1)(h2:PE X e2 t2)(h3:PE X e3 t3):PE X (.JoinedStr [e1,e2,e3] pos) (xq t1 t2 t3):=by
 intro pins s σ H Q I q;refine JoinedStr_many (joinParts_cons (thn (h1 pins s σ H _ I q) fun v s1 ⟨x1,H1,I1,r1,y1,e1,z1,q1⟩=>?_));subst e1;obtain⟨t,rfl⟩:=r1;dsimp only;rw[i8];refine⟨z1,joinParts_cons (thn (h2 pins s1 σ H1 _ I1 q1) fun v s2 ⟨x2,H2,I2,r2,y2,e2,z2,q2⟩=>?_)⟩;subst e2;obtain⟨t,rfl⟩:=r2;refine⟨by rw[Str.length_append];exact z2,?_⟩;show wpAny _ _ (joinParts (y1++y2) [eval _ X.env]) _ _ _;refine joinParts_cons (thn (h3 pins s2 σ H2 _ I2 q2) fun v s3 ⟨x3,H3,I3,r3,y3,e3,z3,q3⟩=>?_);subst e3;obtain⟨t,rfl⟩:=r3;refine⟨by rw[Str.length_append,Str.length_append];exact z3,joinParts_nil ⟨.str _,H3,I3.tok _,⟨_,rfl⟩,q3⟩ (by rw[Str.length_append,Str.length_append];exact z3)⟩
def xr(t1 t2:TE):TE:=fun σ H Q=>t1 σ H fun v1 H1=>∃y1,v1 = .str y1∧y1.length≤sizeLine∧t2 σ H1 fun v2 H2=>∃y2,v2 = .str y2∧y1.length+y2.length≤sizeLine∧Q (.str (y1++y2)) H2
theorem og{e1 e2:Expr}{t1 t2:TE}{pos:Pos}(h1:PE X e1 t1)(h2:PE X e2 t2):PE X (.JoinedStr [e1,e2] pos) (xr t1 t2):=by
 intro pins s σ H Q I q;refine JoinedStr_many (joinParts_cons (thn (h1 pins s σ H _ I q) fun v s1 ⟨x1,H1,I1,r1,y1,e1,z1,q1⟩=>?_));subst e1;obtain⟨t,rfl⟩:=r1;dsimp only;rw[i8];refine⟨z1,?_⟩;refine joinParts_cons (thn (h2 pins s1 σ H1 _ I1 q1) fun v s2 ⟨x2,H2,I2,r2,y2,e2,z2,q2⟩=>?_);subst e2;obtain⟨t,rfl⟩:=r2;exact⟨by rw[Str.length_append];exact z2,joinParts_nil ⟨.str _,H2,I2.tok _,⟨_,rfl⟩,q2⟩ (by rw[Str.length_append];exact z2)⟩
theorem xN:OpR X (compareOp .In) (fun x y H Q=>∃a b,x = .str a∧y = .str b∧Q (.bl (Txt.contains b a)) H):=by
 intro pins s σ H x y v u Q I rx ry h;obtain⟨a,b,rfl,rfl,q⟩:=h;obtain⟨t,rfl⟩:=rx;obtain⟨t',rfl⟩:=ry;exact SB.contains ⟨.bl _,H,I,rfl,q⟩
theorem lv:∀{l:List (Str×Tok)},aO ((l.map (·.1)).map V.str) (strValues l)
 | []=>.nil
 | (x,t)::l=>.cons ⟨t,rfl⟩ (lv (l:=l))
theorem ik:MtR X "str.split" (fun x xs H Q=>∃z y,x = .str z∧xs = [.str y]∧(y.length == 0)=false∧z.length≤100000∧∀p H2,Same H H2->H2 p=some (.lst ((Txt.split z y).map V.str))->H p=none->Q (.ref p) H2):=by
 intro pins s σ H x xs v us Q I rx rs h;obtain⟨z,y,rfl,rfl,hy,hz,q⟩:=h;obtain⟨t,rfl⟩:=rx;obtain⟨u,rfl,ru⟩:=cT rs;obtain⟨t',rfl⟩:=ru;have hs:sizeLine=16777216:=sizeLine_eq;have hle:=split_le z y;have fin:∀(l:List (Str×Tok)) (k:Nat),l.map (·.1)=Txt.split z y->EP X pins σ Q (.ref s.heap.objs.size) { s with toks:=k,heap:=s.heap.push { cls:=.type "list",data:=.seq (strValues l).toArray } }:=fun l k e=>by
  have vs:=lv (l:=l);rw[e]at vs;exact⟨.ref _,_,I.lnew (t':=k) vs (by rw[List.length_map];omega),rfl,q _ _ (Same.new I.fresh) upd_same I.fresh⟩
 cases h1:(decide (z.length<y.length) || decide (Builtin.Str.strKind z<Builtin.Str.strKind y))
 ·cases hf:(Builtin.Str.occurrences z y 0 z.length (z.length+1)).isEmpty
  ·have es:Txt.split z y=Builtin.Str.partsBetween z (Builtin.Str.occurrences z y 0 z.length (z.length+1)) y.length:=(if_neg (ne_true_of_eq_false h1)).trans (if_neg (ne_true_of_eq_false hf))
   refine call_meets F.slot_str_split (typeIs_str _ _ _) F.entry_str_split (F.args_str_split_2 _ _) (meets_str_split_sep z y t t' h1 hy hf (by omega) (by rw[<- es];omega)) ?_;show wants _ _ _ { s with toks:=_,heap:=s.heap.push { cls:=.type "list",data:=.seq (strsFrom s.toks (Builtin.Str.partsBetween z (Builtin.Str.occurrences z y 0 z.length (z.length+1)) y.length)).toArray } };rw[strsFrom_eq];exact fin _ _ ((numbered_texts _ _).trans es.symm)
  ·exact call_meets F.slot_str_split (typeIs_str _ _ _) F.entry_str_split (F.args_str_split_2 _ _) (meets_str_split_not_found z y t t' h1 hy hf) (fin [(z,t)] s.toks ((if_neg (ne_true_of_eq_false h1)).trans (if_pos hf)).symm)
 ·exact call_meets F.slot_str_split (typeIs_str _ _ _) F.entry_str_split (F.args_str_split_2 _ _) (meets_str_split_cannot_occur z y t t' h1) (fin [(z,t)] s.toks (if_pos h1).symm)
end
def Its(x:Str):It:=⟨fun i _=>i<x.cps.size,fun i H v H'=>H'=H∧∃c,x.cps.toList[i]? = some c∧v = .str ⟨#[c]⟩,fun i _=>x.cps.size≤i⟩
theorem tJ{P:Program}{w:World}{K:W.Frag}{tg:Expr}(x:Str)(t:Tok)(it:Addr)(ty:String)(hty:ty = "str_ascii_iterator"∨ty = "str_iterator"):Gx P w K tg (Its x) [it] it (fun i h=>h.IsStrIter it ty x t i) where
 mem:=by simp
 obj:=fun i h st b hb=>by
  have e:b=it:=by simpa using hb
  subst e;obtain⟨o,e,c,d⟩:=st;exact⟨o,e,fun v z=>by rw[d]at z;cases z⟩
 keep:=fun i h h' st k=>by
  obtain⟨o,e,c,d⟩:=st;exact⟨o,k it (by simp) o e,c,d⟩
 item:=by
  intro X hP hw hK hc i pins s σ H E I hf st hg;subst hP hw hK;obtain⟨f0,f1,f2,f3,f4,f5⟩:=hf it (by simp);have hi:i<x.cps.size:=hg;have hx:x.cps[i]? = some x.cps[i]:=by simp[hi]
  have hx2:x.cps.toList[i]? = some x.cps[i]:=by simp[hi]
  have go:∀h' tk,h'.IsStrIter it ty x t (i+1)->Heap.SameBut it s.heap h'->∃u,some (Value.str ⟨#[x.cps[i]]⟩ s.toks)=some u∧wpAny (model X.prog X.w) X.A (letOwnedTupleGo tg (.ref it) u) (fun _ s2=>∃v H',zT X pins σ H' s2∧bO v u∧(Its x).yld i H v H'∧s2.heap.IsStrIter it ty x t (i+1)∧∀b∈[it],H' b=none) E { s with heap:=h',toks:=tk }:=fun h' tk st' sb=>by
   have I1:zT X pins σ H { s with heap:=h',toks:=tk }:=I.turned (t':=tk) (fun b o hb e=>(sb.2 b hb).trans e) f0 f1 f3 f4 f5;obtain⟨o,e,c,d⟩:=id st';exact⟨_,rfl,uU (s:={ s with heap:=h',toks:=tk }) e c d (by rcases hty with rfl|rfl <;> decide) ⟨.str ⟨#[x.cps[i]]⟩,H,I1,⟨_,rfl⟩,⟨rfl,_,hx2,rfl⟩,st',fun b hb=>(hf b hb).1⟩⟩
  rcases hty with rfl|rfl
  ·exact wpAny_pyNext_ascii_item st hx fun h' st' sb=>go h' _ st' sb
  ·exact wpAny_pyNext_wide_item st hx fun h' st' sb=>go h' _ st' sb
 done:=by
  intro X hP hw hK hc i pins s σ H E I hf st hg;subst hP hw hK;obtain⟨f0,f1,f2,f3,f4,f5⟩:=hf it (by simp);have hi:x.cps.size≤i:=hg;have hx:x.cps[i]? = none:=by simp[hi]
  rcases hty with rfl|rfl
  ·exact wpAny_pyNext_ascii_end (I.ok.hd hc) st hx fun h' eb=>⟨rfl,I.turned (t':=s.toks) (fun b o hb e=>eb b o hb e) f0 f1 f3 f4 f5⟩
  ·exact wpAny_pyNext_wide_end (I.ok.hd hc) st hx fun h' eb=>⟨rfl,I.turned (t':=s.toks) (fun b o hb e=>eb b o hb e) f0 f1 f3 f4 f5⟩
 self:=fun _ _ _ _ _ st h=>by
  rcases hty with rfl|rfl
  ·exact wpAny_pyIter_striter_ascii st h
  ·exact wpAny_pyIter_striter_wide st h
section
variable {X:Cx} {tg:Expr}
def zH(tl:TE):TI:=fun σ H R=>tl σ H fun v H1=>∃x,v = .str x∧R (Its x) H1
theorem xH{l:Expr}{tl:TE}(hl:PE X l tl):PI X tg l (zH tl):=by
 intro pins s σ H R I h;refine thn (hl pins s σ H _ I h) fun v s1 ⟨y,H1,I1,r1,q1⟩=>?_;obtain⟨x,e,q⟩:=q1;subst e;obtain⟨t,rfl⟩:=r1;refine wpAny_pyIter_strU ?_;refine⟨s1.heap.objs.size,[s1.heap.objs.size],_,_,H1,rfl,I1.kept (t':=s1.toks) fun b o e=>Heap.get?_push_of_some _ e,tJ x t _ (strIterType x) (by unfold strIterType;split <;> simp),⟨_,Heap.get?_push_size _ rfl,rfl,rfl⟩,fun b hb=>?_,q⟩;have e:b=s1.heap.objs.size:=by simpa using hb
 subst e;exact I1.fpOk (Nat.le_refl _) (I1.hok.fresh (Nat.le_refl _))
end
theorem wI{x:Str}{fv:List (Str×Nat)}{te:TE}{σ:St}{H1:Hp}{Q:VK}(hlen:x.cps.size<1000000)(R:Nat->V->Hp->Prop)(hR:∀i v H H',SameT H H'->R i v H->R i v H')
  (hs:∀i c H2 (Kc:VK),x.cps.toList[i]? = some c->Same H1 H2->(∀y H4,Same H2 H4->R i y H4->Kc y H4)->te (some (.str ⟨#[c]⟩)::fvs fv σ) H2 Kc)
  (hd:∀l ys H',H1 l=none->Same H1 H'->H' l=some (.lst ys)->ys.length=x.cps.size->(∀i y,ys[i]? = some y->R i y H')->Q (.ref l) H') :
  nS (Its x) fv te σ H1 Q:=by
 intro l hl;have hz:sizeLine=16777216:=sizeLine_eq;refine⟨fun i m acc H2=>m=x.cps.size - i∧i≤x.cps.size∧acc.length=i∧Same H1 H2∧H2 l=some (.lst acc)∧∀j y,acc[j]? = some y->R j y H2,⟨x.cps.size,by simp,Nat.zero_le _,rfl,Same.new hl,upd_same,fun j y h=>by simp at h⟩,?_⟩;rintro i m acc H2 ⟨rfl,hi,e1,sm,e3,hr⟩;refine⟨e3,by omega,?_⟩
 by_cases hlt:i<x.cps.size
 ·refine .inr ⟨hlt,fun v H3 y=>?_⟩
  obtain⟨rfl,c,hc,rfl⟩:=y;refine hs i c _ _ hc sm fun y H4 s4 ry=>⟨s4 _ _ e3,x.cps.size - (i+1),by omega,rfl,hlt,by simp[e1],(sm.trans s4).upd hl,upd_same,fun j z hz=>?_⟩;have t4:=SameT.upd (ys:=acc++[y]) (s4 _ _ e3);rcases Nat.lt_trichotomy j acc.length with h|h|h
  ·rw[List.getElem?_append_left h]at hz
   exact hR _ _ _ _ (s4.t.trans t4) (hr j z hz)
  ·subst h
   rw[List.getElem?_append_right (Nat.le_refl _),Nat.sub_self]at hz;cases hz;rw[e1];exact hR _ _ _ _ t4 ry
  ·rw[List.getElem?_eq_none (by simp;omega)]at hz
   cases hz
 ·have e:i=x.cps.size:=by omega
  subst e;exact .inl ⟨Nat.le_refl _,hd l acc H2 hl sm e3 e1 hr⟩
end L2
namespace L2
open PySem PySem.NumText
def fO(m:Nat):List Nat:=(Nat.toDigits 10 m).map Char.toNat
theorem dr(m:Nat):AllDigits (fO m):=by
 intro c hc;obtain⟨ch,hch,e⟩:=List.mem_map.mp hc;have r:=PyProof.Rows.digit_range (Nat.isDigit_of_mem_toDigits (by decide) (by decide) hch);rw[<- e];exact r
theorem nw(m:Nat):fO m≠[]:=fun e=>by
 have h:=Nat.length_toDigits_pos (b:=10) (n:=m);rw[List.map_eq_nil_iff.mp e]at h;exact absurd h (by decide)
theorem fw(m:Nat):digitsVal (fO m)=m:=W.KIN.val_back m
theorem pd{m k:Nat}(hk:0<k):(fO m).length≤k↔m<10^k:=by
 unfold fO;rw[List.length_map];exact Nat.length_toDigits_le_iff (by decide) hk
theorem vd{a b:Nat}(h:fO a=fO b):a=b:=by rw[<- fw a,<- fw b,h]
theorem iH:∀(cs:List Nat) (a:Nat),AllDigits cs->cs.foldl (fun acc c=>acc*10+(c - 48)) a<(a+1)*10^cs.length
 | [],a,_=>by simp
 | c::cs,a,h=>by
  have ih:=iH cs (a*10+(c - 48)) h.tail;have hc:=h.head;rw[List.foldl_cons,List.length_cons,Nat.pow_succ];refine Nat.lt_of_lt_of_le ih ?_;have:a*10+(c - 48)+1≤(a+1)*10:=by omega
  calc (a*10+(c - 48)+1)*10^cs.length≤((a+1)*10)*10^cs.length:=Nat.mul_le_mul_right _ this
   _=(a+1)*(10^cs.length*10):=by rw[Nat.mul_assoc,Nat.mul_comm 10]
theorem xm{cs:List Nat}(h:AllDigits cs):digitsVal cs<10^cs.length:=by
 have:=iH cs 0 h;simpa[digitsVal]using this
theorem rj(m:Nat):(num (m:Int)).cps.toList=fO m:=W.KIN.signs_num m
theorem rh(m:Nat):(num (-((m+1:Nat):Int))).cps.toList=45::fO (m+1):=by
 unfold num;rw[PyProof.Rows.signs_ofString];show(Int.repr (Int.negSucc m)).toList.map Char.toNat=_;have e:Int.repr (Int.negSucc m) = "-"++Nat.repr (m+1):=rfl;rw[e,String.toList_append,List.map_append,Nat.toList_repr];rfl
def kY:List Nat->List Nat
 | 45::r=>r
 | l=>l
theorem qC(r:List Nat):kY (45::r)=r:=rfl
theorem nq{l:List Nat}(h:∀r,l≠45::r):kY l=l:=by
 unfold kY
 split
 ·rename_i r
  exact absurd rfl (h r)
 ·rfl
theorem eO{l:List Nat}(h:AllDigits l):∀r,l≠45::r:=fun r e=>by
 subst e;have:=h.head;omega
theorem mG(n:Int):kY (num n).cps.toList=fO n.natAbs:=by
 cases n with
 | ofNat m =>
  rw[show Int.ofNat m=(m:Int) from rfl,rj];exact nq (eO (dr m))
 | negSucc m =>
  rw[show Int.negSucc m = -((m+1:Nat):Int) from rfl,rh];rfl
theorem dG(n:Int):(num n).cps.toList=fO n.natAbs∧0≤n∨(num n).cps.toList=45::fO n.natAbs∧n<0:=by
 cases n with
 | ofNat m=>exact .inl ⟨rj m,Int.natCast_nonneg m⟩
 | negSucc m =>
  refine .inr ⟨?_,by omega⟩;rw[show Int.negSucc m = -((m+1:Nat):Int) from rfl,rh];rfl
theorem lI(n:Int):∀c∈(num n).cps.toList,c=45∨(48≤c∧c≤57):=by
 rcases dG n with⟨e,_⟩|⟨e,_⟩
 ·rw[e]
  exact fun c hc=>.inr (dr _ c hc)
 ·rw[e]
  intro c hc;rcases List.mem_cons.mp hc with rfl|hc
  ·exact .inl rfl
  ·exact .inr (dr _ c hc)
theorem dH(x:Str):x.cps.toList.length=x.length:=Array.length_toList
theorem gz{n:Int}{k:Nat}(hk:0<k)(h:n.natAbs<10^k):(num n).length≤k+1:=by
 have:=(pd hk).mpr h;rw[<- dH];rcases dG n with⟨e,_⟩|⟨e,_⟩
 ·rw[e];omega
 ·rw[e,List.length_cons];omega
theorem wf{n:Int}(h:(num n).length≤4300):intText? (num n)=some n:=by
 rcases dG n with⟨e,h0⟩|⟨e,h0⟩
 ·have:=intText_digits (x:=num n) (by rw[e];exact dr _) (by rw[e];exact nw _) h
  rw[this,e,fw]
  congr 1
  omega
 ·have:=intText_neg (x:=num n) e (dr _) (nw _) h
  rw[this,fw]
  congr 1
  omega
theorem gA{a b:Int}(h:num a=num b):a=b:=by
 have e:=congrArg (fun x=>x.cps.toList) h;have f:fO a.natAbs=fO b.natAbs:=by rw[<- mG a,<- mG b,h]
 have g:=vd f;rcases dG a with⟨e1,h1⟩|⟨e1,h1⟩ <;> rcases dG b with⟨e2,h2⟩|⟨e2,h2⟩
 ·omega
 ·exact absurd (show(num a).cps.toList=45::fO b.natAbs from e.trans e2) (by rw[e1];exact eO (dr _) _)
 ·exact absurd (show(num b).cps.toList=45::fO a.natAbs from e.symm.trans e1) (by rw[e2];exact eO (dr _) _)
 ·omega
theorem pL{x:Str}{k:Nat}(h:AllDigits (kY x.cps.toList))(hne:kY x.cps.toList≠[])(hl:(kY x.cps.toList).length≤k)(hk:k≤4000) :
  ∃v:Int,(∀c∈x.cps.toList,c=45∨(48≤c∧c≤57))∧x.length≤4300∧intText? x=some v∧v.natAbs<10^k∧∀n,x=num n->n=v:=by
 have ll:=dH x;have fin:∀v:Int,x.length≤4300->intText? x=some v->∀n,x=num n->n=v:=fun v h1 h2 n e=>by
  subst e;rw[wf h1]at h2;exact Option.some.inj h2
 have lt:digitsVal (kY x.cps.toList)<10^k:=Nat.lt_of_lt_of_le (xm h) (Nat.pow_le_pow_right (by decide) hl)
 by_cases hm:∃r,x.cps.toList=45::r
 ·obtain⟨r,e⟩:=hm
  rw[e,qC]at h hne hl lt;have h43:x.length≤4300:=by rw[<- ll,e,List.length_cons];omega
  have it:=intText_neg e h hne h43;refine⟨_,?_,h43,it,by omega,fin _ h43 it⟩;rw[e];intro c hc;rcases List.mem_cons.mp hc with rfl|hc
  ·exact .inl rfl
  ·exact .inr (h c hc)
 ·have ef:=nq (l:=x.cps.toList) fun r e=>hm ⟨r,e⟩
  rw[ef]at h hne hl lt;have h43:x.length≤4300:=by omega
  have it:=intText_digits h hne h43;exact⟨_,fun c hc=>.inr (h c hc),h43,it,by omega,fin _ h43 it⟩
theorem Dg.of{n:Int}{k:Nat}(h:n.natAbs<10^k)(hk:k≤4300):Dg n:=Nat.lt_of_lt_of_le h (Nat.pow_le_pow_right (by decide) hk)
theorem iJ{c:Nat}:∀{a b r s:List Nat},c∉a->c∉b->a++c::r=b++c::s->a=b∧r=s
 | [],[],r,s,_,_,e=>⟨rfl,(List.cons.inj e).2⟩
 | [],y::b,r,s,_,hb,e=>absurd (show c∈y::b by rw[(List.cons.inj e).1];exact List.mem_cons_self) hb
 | x::a,[],r,s,ha,_,e=>absurd (show c∈x::a by rw[<- (List.cons.inj e).1];exact List.mem_cons_self) ha
 | x::a,y::b,r,s,ha,hb,e=>by
  obtain⟨h1,h2⟩:=List.cons.inj e;obtain⟨h3,h4⟩:=iJ (fun z=>ha (List.mem_cons_of_mem _ z)) (fun z=>hb (List.mem_cons_of_mem _ z)) h2;exact⟨by rw[h1,h3],h4⟩
theorem bo(a y:Str):(a++y).cps.toList=a.cps.toList++y.cps.toList:=by rw[Str.cps_append,Array.toList_append]
theorem lP{c:Nat}:∀{ps qs:List Str},ps≠[]->qs≠[]->(∀p∈ps,c∉p.cps.toList)->(∀q∈qs,c∉q.cps.toList)->Str.join ⟨#[c]⟩ ps=Str.join ⟨#[c]⟩ qs->ps=qs
 | [],_,h,_,_,_,_=>absurd rfl h
 | _,[],_,h,_,_,_=>absurd rfl h
 | [a],[b],_,_,_,_,e=>by
  have e:a=b:=e;rw[e]
 | [a],b::b2::r,_,_,h1,h2,e=>by
  have e:a=b++⟨#[c]⟩++Str.join ⟨#[c]⟩ (b2::r):=e;refine absurd ?_ (h1 a (List.mem_singleton.mpr rfl));rw[e,bo,bo];simp
 | a::a2::r,[b],_,_,h1,h2,e=>by
  have e:a++⟨#[c]⟩++Str.join ⟨#[c]⟩ (a2::r)=b:=e;refine absurd ?_ (h2 b (List.mem_singleton.mpr rfl));rw[<- e,bo,bo];simp
 | a::a2::r,b::b2::s,_,_,h1,h2,e=>by
  have e:(a++⟨#[c]⟩++Str.join ⟨#[c]⟩ (a2::r)).cps.toList=(b++⟨#[c]⟩++Str.join ⟨#[c]⟩ (b2::s)).cps.toList:=congrArg (fun x=>x.cps.toList) e;simp only[bo]at e;rw[List.append_assoc,List.append_assoc]at e;obtain⟨e1,e2⟩:=iJ (c:=c) (h1 a List.mem_cons_self) (h2 b List.mem_cons_self) e;have e3:=lP (ps:=a2::r) (qs:=b2::s) (by simp) (by simp) (fun p hp=>h1 p (List.mem_cons_of_mem _ hp)) (fun p hp=>h2 p (List.mem_cons_of_mem _ hp)) (PyProof.Rows.ext_toList e2);rw[PyProof.Rows.ext_toList e1,e3]
theorem eC{c:Nat}{qs:List Str}(h:qs≠[])(h2:∀q∈qs,c∉q.cps.toList):Txt.split (Str.join ⟨#[c]⟩ qs) ⟨#[c]⟩=qs :=
 lP (fun e=>by have:=PyProof.Rows.split_pos (Str.join ⟨#[c]⟩ qs) ⟨#[c]⟩;rw[e]at this;exact absurd this (by decide)) h (StrLaws.split_free _ c) h2 (StrLaws.join_split _ _)
end L2
namespace L2
open PySem PySem.Spec PyProof.Rows PySem.NumText
section
variable {X:Cx}
end
end L2
namespace Hd
open PySem PySem.W PySem.Spec L2
def wa(o:Obj):Bool:=match o.data with
 | .freed=>false
 | _=>true
def sJ:Nat->List Obj->Frag
 | _,[]=>[]
 | n,a::r=>bif wa a then (n,a)::sJ (n+1) r else sJ (n+1) r
theorem rg:∀(l:List Obj) (n a:Nat) (o:Obj),(sJ n l).lookup a=some o->n≤a∧l[a - n]? = some o∧wa o=true
 | [],_,_,_,e=>by cases e
 | x::r,n,a,o,e=>by
  have up:(sJ (n+1) r).lookup a=some o->n≤a∧(x::r)[a - n]? = some o∧wa o=true:=fun e=>by
   obtain⟨h1,h2,h3⟩:=rg r (n+1) a o e;refine⟨by omega,?_,h3⟩;have:a - n=(a - (n+1))+1:=by omega
   rw[this];exact h2
  unfold sJ at e;cases hl:wa x with
  | false =>
   rw[hl]at e;exact up e
  | true =>
   rw[hl,cond_true,List.lookup_cons]at e;cases hb:a == n with
   | true =>
    rw[hb]at e;have hb:=beq_iff_eq.mp hb;subst hb;cases e;exact⟨Nat.le_refl _,by simp,hl⟩
   | false =>
    rw[hb]at e;exact up e
def frag(h:Heap):Frag:=sJ 0 h.objs.toList
theorem wx(h:Heap):(frag h).In h:=by
 intro a o e;obtain⟨_,q,hl⟩:=rg _ _ _ _ e;have q:h.objs[a]? = some o:=by simpa using q
 unfold Heap.get?;rw[q];obtain⟨c,d,dt,sl⟩:=o;cases dt <;> first|rfl|cases hl
def fnFact(K:Frag)(x:Str):Option (Arguments×List Stmt×Scope×Value):=match nsIn K mainGlobals x with
 | some (some (.ref f))=>(match K.lookup f with
  | some ⟨_,_,.func fd,_⟩=>(match fd.body,fd.closure with
   | .stmts b,[]=>bif (fd.name == x && (fd.qualname == x && (Nat.beq fd.globals mainGlobals && (Nat.beq fd.builtins builtinsNs && codeIn K fd.code x)))) then some (fd.params,b,fd.scope,fd.defaults) else none
   | _,_=>none)
  | _=>none)
 | _=>none
theorem jl{K:Frag}{x:Str}{a:Arguments}{b:List Stmt}{sc:Scope}{dv:Value}(e:fnFact K x=some (a,b,sc,dv)) :
  ∃(f:Addr) (oc:Value) (od:Option Addr) (kV doc pm:Value) (an:Option Addr) (cdv ct:Value) (osl:Array (Option Value)),
   nsIn K mainGlobals x=some (some (.ref f))∧K.lookup f=some ⟨oc,od,.func (fnOf x x a b sc dv kV doc pm an cdv ct),osl⟩∧codeIn K cdv x=true∧keepIn K (.ref f)=true:=by
 unfold fnFact at e
 split at e
 ·rename_i f hf
  split at e
  ·rename_i oc od fd osl hl
   split at e
   ·rename_i b' hb hc
    cases hq:(fd.name == x && (fd.qualname == x && (Nat.beq fd.globals mainGlobals && (Nat.beq fd.builtins builtinsNs && codeIn K fd.code x)))) with
    | false=>rw[hq]at e;cases e
    | true =>
     rw[hq]at e;simp only[Bool.and_eq_true]at hq;obtain⟨h1,h2,h3,h4,h5⟩:=hq
     replace h1:=eq_of_beq h1
     replace h2:=eq_of_beq h2
     replace h3:=Nat.eq_of_beq_eq_true h3
     replace h4:=Nat.eq_of_beq_eq_true h4
     simp only[cond_true,Option.some.injEq,Prod.mk.injEq]at e;obtain⟨e1,e2,e3,e4⟩:=e;obtain⟨n,qn,ps,bd,s,gl,cl,df,kw,dc,pm,an,cd,ct,bl⟩:=fd;simp only at h1 h2 h3 h4 h5 e1 e2 e3 e4 hb hc;subst h1 h2 h3 h4 e1 e2 e3 e4 hb hc;refine⟨f,oc,od,kw,dc,pm,an,cd,ct,osl,hf,hl,h5,?_⟩;unfold keepIn;dsimp only;rw[hl]
   ·cases e
  ·cases e
 ·cases e
theorem df_of{K:Frag}{mg:Str->Option Value}{h:Heap}{x:Str}{st:Stmt}(X:K.In h)(G:h.Ns mainGlobals mg)(e:fnFact K x=some (bj st,aA st,ag st,.none)):Df K mg x st:=by
 obtain⟨f,oc,od,kV,doc,pm,an,cdv,ct,osl,h1,h2,h3,h4⟩:=jl e;exact zj X G h1 h2 h3 h4
def bareV:Value->V
 | .none=>.non
 | .bool b=>.bl b
 | .int i _=>.int i
 | .str x _=>.str x
 | .bytes b _=>.byt b
 | .float b _=>.flt b
 | .ref a=>.ref a
 | .type n=>.ty n
 | _=>.ty "no plain value"
def iR:Value->Bool
 | .ellipsis | .notImplemented | .builtin _=>false
 | _=>true
theorem tt:∀{v:Value},iR v=true->bO (bareV v) v
 | .none,_=>rfl
 | .bool _,_=>rfl
 | .int _ t,_=>⟨t,rfl⟩
 | .str _ t,_=>⟨t,rfl⟩
 | .bytes _ t,_=>⟨t,rfl⟩
 | .float _ t,_=>⟨t,rfl⟩
 | .ref _,_=>rfl
 | .type _,_=>rfl
 | .ellipsis,h=>by cases h
 | .notImplemented,h=>by cases h
 | .builtin _,h=>by cases h
theorem iN:∀{l:List Value},l.all iR=true->aO (l.map bareV) l
 | [],_=>.nil
 | _::_,h=>by
  rw[List.all_cons,Bool.and_eq_true]at h;exact .cons (tt h.1) (iN h.2)
def tX(K:Frag)(v:Value):Option (List V):=match v with
 | .ref a=>(match K.lookup a with
  | some ⟨_,_,.seq its _,_⟩=>bif its.toList.all iR then some (its.toList.map bareV) else none
  | _=>none)
 | _=>none
theorem pS{K:Frag}{v:Value}{ds:List V}(e:tX K v=some ds):∃(a:Addr) (o:Obj) (its:List Value) (n:Nat),v = .ref a∧K.lookup a=some o∧o.data = .seq its.toArray n∧aO ds its:=by
 unfold tX at e
 split at e
 ·rename_i a
  split at e
  ·rename_i oc od its n osl hl
   cases hq:its.toList.all iR with
   | false=>rw[hq]at e;cases e
   | true =>
    rw[hq]at e;cases e;exact⟨a,_,its.toList,n,rfl,hl,rfl,iN hq⟩
  ·cases e
 ·cases e
def fnFactD(K:Frag)(x:Str):Option (Arguments×List Stmt×Scope×List V):=match fnFact K x with
 | some (a,b,s,dv)=>(match tX K dv with
  | some ds=>some (a,b,s,ds)
  | none=>none)
 | none=>none
theorem dfd_of{K:Frag}{mg:Str->Option Value}{h:Heap}{x:Str}{st:Stmt}{ds:List V}(X:K.In h)(G:h.Ns mainGlobals mg)(e:fnFactD K x=some (bj st,aA st,ag st,ds)):HN K mg x st ds:=by
 unfold fnFactD at e
 split at e
 ·rename_i a b s dv hf
  split at e
  ·rename_i ds' hs
   simp only[Option.some.injEq,Prod.mk.injEq]at e;obtain⟨e1,e2,e3,e4⟩:=e;subst e1 e2 e3 e4;obtain⟨f,oc,od,kV,doc,pm,an,cdv,ct,osl,h1,h2,h3,h4⟩:=jl hf;obtain⟨T,oT,its,n,rfl,hl,hd,hv⟩:=pS hs;exact yi X G h1 h2 h3 h4 hl hd hv
  ·cases e
 ·cases e
def cls(K:Frag)(x:Str):Addr:=match nsIn K mainGlobals x with
 | some (some (.ref C))=>C
 | _=>0
def excFact(K:Frag)(x:Str):Bool:=match nsIn K mainGlobals x with
 | some (some (.ref C))=>excIn K C [.type "ValueError",.type "Exception",.type "BaseException",.type "object"] "ValueError.__new__"
 | _=>false
theorem exc_of{K:Frag}{mg:Str->Option Value}{h:Heap}{x:Str}(X:K.In h)(G:h.Ns mainGlobals mg)(e:excFact K x=true):AW K mg x (cls K x):=by
 unfold excFact at e
 split at e
 ·rename_i C hC
  have:cls K x=C:=by unfold cls;rw[hC]
  rw[this];exact yf X G hC e
 ·cases e
def tupFact(K:Frag)(x:Str):Option (List V):=match nsIn K mainGlobals x with
 | some (some (.ref a))=>(match K.lookup a with
  | some ⟨.type "tuple",_,.seq its _,_⟩=>bif its.toList.all iR then some (its.toList.map bareV) else none
  | _=>none)
 | _=>none
theorem tup_of{K:Frag}{x:Str}{ds:List V}(e:tupFact K x=some ds):∃(a:Addr) (od:Option Addr) (its:List Value) (n:Nat) (osl:Array (Option Value)),nsIn K mainGlobals x=some (some (.ref a))∧K.lookup a=some ⟨.type "tuple",od,.seq its.toArray n,osl⟩∧aO ds its:=by
 unfold tupFact at e
 split at e
 ·rename_i a ha
  split at e
  ·rename_i od its n osl hl
   cases hq:its.toList.all iR with
   | false=>rw[hq]at e;cases e
   | true =>
    rw[hq]at e;cases e;exact⟨a,od,its.toList,n,osl,ha,hl,iN hq⟩
  ·cases e
 ·cases e
def noFact(K:Frag)(x:Str):Bool:=match nsIn K mainGlobals x with
 | some none=>true
 | _=>false
theorem no_of{K:Frag}{x:Str}(e:noFact K x=true):nsIn K mainGlobals x=some none:=by
 unfold noFact at e
 split at e
 ·rename_i h
  exact h
 ·cases e
theorem at_map{α β:Type}{f g:α->β}{l:List α}(e:l.map f=l.map g)(i:Nat){a:α}(h:l[i]? = some a):f a=g a:=by
 have q:=congrArg (fun l:List β=>l[i]?) e;simp only[List.getElem?_map,h,Option.map_some,Option.some.injEq]at q;exact q
theorem at_all{α:Type}{f:α->Bool}{l:List α}(e:l.all f=true)(i:Nat){a:α}(h:l[i]? = some a):f a=true :=
 List.all_eq_true.mp e a (List.mem_of_getElem? h)
theorem at_two{α:Type}{l m:List α}(e:l=m)(i:Nat){a b:α}(h:l[i]? = some a)(h':m[i]? = some b):a=b:=by
 subst e;rw[h]at h';exact Option.some.inj h'
def hook{α:Type}(facts:Frag->α)(val:α):Hook :=
 ⟨α,fun s=>facts (frag s.heap),fun _=>val,fun _ h=>∃K:Frag,K.In h∧facts K=val,fun _ s e=>⟨_,wx s.heap,e⟩,fun _ _ _ ⟨K,hi,e⟩ k=>⟨K,Frag.In.keeps hi k,e⟩⟩
theorem law_walk{l:OpenLaw}{k:Nat}{q:Program}{loose:List Str}{XP:(Str->Option Value)->Heap->Prop}{d:DefRec}{α:Type}{facts:Frag->α}{val:α}(hk:A6 k callerA)(hn:l.most=some 63)(hdf:d.params.defaults = [])
  (F:∀(K:Frag),facts K=val->∀(w:World) (mg:Str->Option Value) (fa:Addr) (h:Heap),K.In h->h.Ns mainGlobals mg->mg d.name=some (.ref fa) ->
   ∃fd:FuncData,(∀(s:Shared) (u:Value),BindsTo s fd ⟨[u],[]⟩ [("script",u)])∧∀base:Heap,K.In base->base.Ns mainGlobals mg->EK l.prog w K mg base CX0 k fa fd ["script"] (nY K)) :
  WalkO q loose XP (Hook.says (hook facts val)) l.row.toRowW d [] (fun f vs=>PySem.call f vs):=by
 intro w s₀ s₁ mg mb G Y;obtain⟨K,hin,hf⟩:=Y;exact L2.law_walk (l:=l) (k:=k) (q:=q) (loose:=loose) (XP:=XP) (YP:=fun _ h=>K.In h) (d:=d) (K:=fun _=>K) hk hn hdf (fun _ _ y=>y) (fun w mg fa h=>F K hf w mg fa h) w s₀ s₁ mg mb G hin
end Hd
namespace Hd
open PySem PySem.W PySem.Spec L2
theorem vals_sz{ds:List V}{its:List Value}(u:aO ds its)(h:ds.length≤100):its.toArray.size≤100:=by
 rw[List.size_toArray,<- u.length];exact h
end Hd
namespace L2
open PySem PySem.Spec PyProof.Rows
structure Iz(K:W.Frag)(mg:Str->Option Value)(x y:Str)(st:Stmt):Prop where
 ex:∃(f:Addr) (oc:Value) (od:Option Addr) (kV doc pm:Value) (an:Option Addr) (cdv ct:Value) (osl:Array (Option Value)),
  mg x=some (.ref f)∧K.lookup f=some ⟨oc,od,.func (W.fnOf y y (bj st) (aA st) (ag st) .none kV doc pm an cdv ct),osl⟩∧W.codeIn K cdv y=true∧W.keepIn K (.ref f)=true
theorem yj{K:W.Frag}{mg:Str->Option Value}{h:Heap}{x y:Str}{st:Stmt}{f:Addr}{oc:Value}{od an:Option Addr}{osl:Array (Option Value)}{kV doc pm cdv ct:Value}(X:K.In h)(G:h.Ns mainGlobals mg)
  (a:W.nsIn K mainGlobals x=some (some (.ref f))) (l:K.lookup f=some ⟨oc,od,.func (W.fnOf y y (bj st) (aA st) (ag st) .none kV doc pm an cdv ct),osl⟩) (c:W.codeIn K cdv y=true) (k:W.keepIn K (.ref f)=true) :
  Iz K mg x y st:=⟨⟨f,oc,od,kV,doc,pm,an,cdv,ct,osl,W.mg_of X G a,l,c,k⟩⟩
theorem Iz.fn{P:Program}{w:World}{K:W.Frag}{mg:Str->Option Value}{base:Heap}{x y:Str}{st:Stmt}{N ps:List Str}{k:Nat}{sp:Sp}(D:Iz K mg x y st)(S:zQ N ps (ag st))
  (hbind:∀(kV doc pm:Value) (an:Option Addr) (cdv ct:Value) (us:List Value),us.length=ps.length->bindArgs (W.fnOf y y (bj st) (aA st) (ag st) .none kV doc pm an cdv ct) ⟨us,[]⟩=pure (ps.zip us))
  (len:∀vs H Q E,sp vs H Q E->vs.length=ps.length)
  (hbody:∀(f:Addr) (cdv:Value) (A:Around) (outer:List Env) (s:Shared) (H:Hp) (vs:List V) (Q:VK) (E:XK),A6 k (A.deeper (envOfC y (ag st) s.heap.objs.size f cdv))->sp vs H Q E ->
   ∃t,PSs (aN CX0 P w K mg base N y (ag st) f cdv A outer s H E).nox (aA st) t∧t { nx:=fun _ H'=>Q .non H',rt:=Q } (fQ N vs) H):Fn P w K mg base x ps (k+1) sp:=by
 obtain⟨f,oc,od,kV,doc,pm,an,cdv,ct,osl,hm,lk,hcd,hk⟩:=D.ex;refine⟨⟨f,_,_,hm,hk,hbind kV doc pm an cdv ct,⟨lk,rfl⟩,rH lk hcd S len fun A outer s H vs Q E hr hsp=>?_⟩⟩;obtain⟨t,h,q⟩:=hbody f cdv A outer s H vs Q E hr hsp;exact⟨t,h.nox,q⟩
end L2
namespace Hd
open PySem PySem.W PySem.Spec L2
theorem pair2{α β:Type _}{a a':α}{b b':β}(h:a=a')(g:b=b'):(a,b)=(a',b'):=by rw[h,g]
def fnFactA(K:Frag)(x y:Str):Option (Arguments×List Stmt×Scope×Value):=match nsIn K mainGlobals x with
 | some (some (.ref f))=>(match K.lookup f with
  | some ⟨_,_,.func fd,_⟩=>(match fd.body,fd.closure with
   | .stmts b,[]=>bif (fd.name == y && (fd.qualname == y && (Nat.beq fd.globals mainGlobals && (Nat.beq fd.builtins builtinsNs && codeIn K fd.code y)))) then some (fd.params,b,fd.scope,fd.defaults) else none
   | _,_=>none)
  | _=>none)
 | _=>none
theorem nj{K:Frag}{x y:Str}{a:Arguments}{b:List Stmt}{sc:Scope}{dv:Value}(e:fnFactA K x y=some (a,b,sc,dv)) :
  ∃(f:Addr) (oc:Value) (od:Option Addr) (kV doc pm:Value) (an:Option Addr) (cdv ct:Value) (osl:Array (Option Value)),
   nsIn K mainGlobals x=some (some (.ref f))∧K.lookup f=some ⟨oc,od,.func (fnOf y y a b sc dv kV doc pm an cdv ct),osl⟩∧codeIn K cdv y=true∧keepIn K (.ref f)=true:=by
 unfold fnFactA at e
 split at e
 ·rename_i f hf
  split at e
  ·rename_i oc od fd osl hl
   split at e
   ·rename_i b' hb hc
    cases hq:(fd.name == y && (fd.qualname == y && (Nat.beq fd.globals mainGlobals && (Nat.beq fd.builtins builtinsNs && codeIn K fd.code y)))) with
    | false=>rw[hq]at e;cases e
    | true =>
     rw[hq]at e;simp only[Bool.and_eq_true]at hq;obtain⟨h1,h2,h3,h4,h5⟩:=hq
     replace h1:=eq_of_beq h1
     replace h2:=eq_of_beq h2
     replace h3:=Nat.eq_of_beq_eq_true h3
     replace h4:=Nat.eq_of_beq_eq_true h4
     simp only[cond_true,Option.some.injEq,Prod.mk.injEq]at e;obtain⟨e1,e2,e3,e4⟩:=e;obtain⟨n,qn,ps,bd,s,gl,cl,df,kw,dc,pm,an,cd,ct,bl⟩:=fd;simp only at h1 h2 h3 h4 h5 e1 e2 e3 e4 hb hc;subst h1 h2 h3 h4 e1 e2 e3 e4 hb hc;refine⟨f,oc,od,kw,dc,pm,an,cd,ct,osl,hf,hl,h5,?_⟩;unfold keepIn;dsimp only;rw[hl]
   ·cases e
  ·cases e
 ·cases e
theorem dfa_of{K:Frag}{mg:Str->Option Value}{h:Heap}{x y:Str}{st:Stmt}(X:K.In h)(G:h.Ns mainGlobals mg)(e:fnFactA K x y=some (bj st,aA st,ag st,.none)):Iz K mg x y st:=by
 obtain⟨f,oc,od,kV,doc,pm,an,cdv,ct,osl,h1,h2,h3,h4⟩:=nj e;exact yj X G h1 h2 h3 h4
end Hd
namespace Hd
open PySem PySem.W PySem.Spec L2
theorem pB{K:Frag}{mg:Str->Option Value}{h:Heap}{x:Str}{v:V}(X:K.In h)(G:h.Ns mainGlobals mg)(e:(nsIn K mainGlobals x).map (fun o=>o.map bareV)=some (some v)):∃u,mg x=some u∧bareV u=v:=by
 cases hn:nsIn K mainGlobals x with
 | none =>
  rw[hn]at e;cases e
 | some o =>
  cases o with
  | none =>
   rw[hn]at e;cases e
  | some u =>
   rw[hn]at e;exact⟨u,mg_of X G hn,Option.some.inj (Option.some.inj e)⟩
theorem int_of{K:Frag}{mg:Str->Option Value}{h:Heap}{x:Str}{i:Int}(X:K.In h)(G:h.Ns mainGlobals mg)(e:(nsIn K mainGlobals x).map (fun o=>o.map bareV)=some (some (.int i))):∃tk,mg x=some (.int i tk):=by
 obtain⟨u,h1,h2⟩:=pB X G e;cases u <;> first|(cases h2;exact⟨_,h1⟩)|cases h2
theorem str_of{K:Frag}{mg:Str->Option Value}{h:Heap}{x z:Str}(X:K.In h)(G:h.Ns mainGlobals mg)(e:(nsIn K mainGlobals x).map (fun o=>o.map bareV)=some (some (.str z))):∃tk,mg x=some (.str z tk):=by
 obtain⟨u,h1,h2⟩:=pB X G e;cases u <;> first|(cases h2;exact⟨_,h1⟩)|cases h2
end Hd
namespace Hd
open PySem PySem.W PySem.Spec L2
def tZ(C:Addr):Value->Bool
 | .ref a=>Nat.beq a C
 | _=>false
def tH(n:String):Value->Bool
 | .type a=>a == n
 | _=>false
theorem tY(C:Addr)(v:Value):(Value.ref C == v)=tZ C v:=by
 rw[Bool.eq_iff_iff,beq_iff_eq];cases v with
 | ref a=>exact⟨fun e=>by cases e;exact Nat.beq_refl _,fun e=>by rw[Nat.eq_of_beq_eq_true e]⟩
 | _=>exact⟨fun e=>(nomatch e),fun e=>(nomatch e)⟩
theorem vE(n:String)(v:Value):(Value.type n == v)=tH n v:=by
 rw[Bool.eq_iff_iff,beq_iff_eq];cases v with
 | type a=>exact⟨fun e=>by cases e;exact beq_self_eq_true n,fun e=>by rw[beq_iff_eq.mp e]⟩
 | _=>exact⟨fun e=>(nomatch e),fun e=>(nomatch e)⟩
theorem wk(l:List Value)(C:Addr):l.contains (.ref C)=l.any (tZ C):=by
 rw[List.contains_eq_any_beq];exact congrArg l.any (funext fun v=>tY C v)
theorem uT(l:List Value)(n:String):l.contains (.type n)=l.any (tH n):=by
 rw[List.contains_eq_any_beq];exact congrArg l.any (funext fun v=>vE n v)
def uw(K:Frag)(C:Addr):Option (List Value):=match K.lookup C with
 | some ⟨_,_,.cls cd,_⟩=>(match cd.mro with
  | []=>none
  | v::r=>some (v::r))
 | _=>none
theorem mH{K:Frag}{C:Addr}{l:List Value}(e:uw K C=some l)(b:Value):mroIn K C b=some (l.contains b):=by
 unfold uw at e
 split at e
 ·rename_i a d cd sl h
  split at e
  ·cases e
  ·rename_i v r hm
   cases e;unfold mroIn clsIn;rw[h];show(if cd.mro.isEmpty then none else some (cd.mro.contains b))=_
   rw[hm];rfl
 ·cases e
def wL(K:Frag)(C:Addr):Bool:=match K.lookup C with
 | some ⟨.type n,_,.cls _,_⟩=>n == "type"
 | _=>false
theorem wK{K:Frag}{C:Addr}(e:wL K C=true):((clsIn K C).isSome && typeIn K (.ref C) == some (.type "type"))=true:=by
 unfold wL at e
 split at e
 ·rename_i n d cd sl h
  have e:=beq_iff_eq.mp e;subst e;unfold clsIn typeIn;rw[h,Bool.and_eq_true];exact⟨rfl,by rw[beq_iff_eq];dsimp only;rw[h];rfl⟩
 ·cases e
def vH(K:Frag)(C D:Addr):Option Bool:=bif wL K D then (match uw K C with
  | some l=>some (l.any (tZ D))
  | none=>none) else none
theorem nU{K:Frag}{C D:Addr}{b:Bool}(e:vH K C D=some b):kitCls K (.ref C) (.ref D)=some b:=by
 unfold vH at e;cases hc:wL K D with
 | false=>rw[hc]at e;cases e
 | true =>
  rw[hc,cond_true]at e
  split at e
  ·rename_i l hl
   cases e;unfold kitCls;dsimp only;rw[if_pos (wK hc),<- wk];exact mH hl _
  ·cases e
def kitR(K:Frag)(C D:Addr):Option Bool:=bif Nat.beq C D then some true else vH K C D
theorem kitR_one{K:Frag}{C D:Addr}{b:Bool}(e:kitR K C D=some b):kitOne K (.ref C) (.ref D)=some b:=by
 unfold kitR at e;unfold kitOne;cases h:Nat.beq C D with
 | true =>
  rw[h,cond_true]at e;have h:=Nat.eq_of_beq_eq_true h;subst h;rw[if_pos (beq_self_eq_true _)];exact e
 | false =>
  rw[h,cond_false]at e;have h:=Nat.ne_of_beq_eq_false h;rw[if_neg (by rw[beq_iff_eq];exact fun x=>h (by cases x;rfl))];exact nU e
def kitRs(K:Frag)(C:Addr):List Addr->Option Bool
 | []=>some false
 | D::r=>match kitR K C D with
  | some true=>some true
  | some false=>kitRs K C r
  | none=>none
theorem kitRs_any{K:Frag}{C:Addr}{b:Bool}:∀{l:List Addr},kitRs K C l=some b->kitAny K (.ref C) (l.map Value.ref)=some b
 | [],e=>e
 | D::r,e=>by
  unfold kitRs at e;rw[List.map_cons];unfold kitAny
  split at e
  ·rename_i h
   rw[kitR_one h];exact e
  ·rename_i h
   rw[kitR_one h];exact kitRs_any e
  ·cases e
theorem v6:kitMeta "ValueError" = true:=by decide +kernel
def kitT(K:Frag)(C:Addr):Option Bool:=match uw K C with
 | some l=>some (l.any (tH "ValueError"))
 | none=>none
theorem kitT_one{K:Frag}{C:Addr}{b:Bool}(e:kitT K C=some b):kitOne K (.ref C) (.type "ValueError")=some b:=by
 unfold kitT at e;unfold kitOne;rw[if_neg (by rw[beq_iff_eq];exact fun x=>by cases x)]
 split at e
 ·rename_i l hl
  cases e;unfold kitCls;dsimp only;rw[if_pos v6,<- uT];exact mH hl _
 ·cases e
def exmR(K:Frag)(C D:Addr):Option Bool:=match uw K D with
 | some l=>bif l.any (tH "BaseException") then vH K C D else none
 | none=>none
theorem exmR_one{K:Frag}{C D:Addr}{b:Bool}(e:exmR K C D=some b):exmOne K (.ref C) (.ref D)=some b:=by
 unfold exmR at e
 split at e
 ·rename_i l hl
  cases h:l.any (tH "BaseException") with
  | false=>rw[h]at e;cases e
  | true =>
   rw[h,cond_true]at e;unfold exmOne;have:subIn K (.ref D) (.type "BaseException")=some true:=by
    rw[<- h,<- uT];exact mH hl _
   rw[this,if_pos (by decide)];exact nU e
 ·cases e
def pM:List Value->Bool
 | [.type a,.type b,.type c,.type d]=>a == "ValueError" && (b == "Exception" && (c == "BaseException" && d == "object"))
 | _=>false
theorem si:∀{l:List Value},pM l=true->l = [.type "ValueError",.type "Exception",.type "BaseException",.type "object"]:=fun {l} e=>by
 unfold pM at e
 split at e
 ·simp only[Bool.and_eq_true,beq_iff_eq]at e
  obtain⟨rfl,rfl,rfl,rfl⟩:=e;rfl
 ·cases e
def nR(K:Frag)(x:Str):List Value->Bool
 | []=>false
 | v::r=>match v with
  | .ref a=>(match K.lookup a with
   | some ⟨_,_,.cls cd,_⟩=>(match nsIn K cd.ns x with
    | some none=>nR K x r
    | _=>false)
   | _=>false)
  | _=>pM (v::r)
theorem mh{K:Frag}{x:Str}{z:Option Value}(hz:alongIn K x [.type "ValueError",.type "Exception",.type "BaseException",.type "object"]=some z):∀{l:List Value},nR K x l=true->alongIn K x l=some z
 | [],e=>by cases e
 | v::r,e=>by
  unfold nR at e
  split at e
  ·rename_i a
   split at e
   ·rename_i a' d cd sl h
    split at e
    ·rename_i hn
     unfold alongIn ownIn;dsimp only;rw[h];dsimp only;rw[hn];exact mh hz e
    ·cases e
   ·cases e
  ·rw[si e]
   exact hz
def findR(K:Frag)(C:Addr)(x:Str):Bool:=match K.lookup C with
 | some ⟨_,_,.cls cd,_⟩=>nR K x cd.mro
 | _=>false
theorem findR_eq{K:Frag}{C:Addr}{x:Str}{z:Option Value}(hz:alongIn K x [.type "ValueError",.type "Exception",.type "BaseException",.type "object"]=some z)(e:findR K C x=true):findIn K (.ref C) x=some z:=by
 unfold findR at e
 split at e
 ·rename_i a d cd sl h
  unfold findIn;dsimp only;rw[h];exact mh hz e
 ·cases e
theorem fE_ga(K:Frag):alongIn K "__getattribute__" [.type "ValueError",.type "Exception",.type "BaseException",.type "object"]=some (some (.builtin "BaseException.__getattribute__")):=by kernel_rfl
theorem fE_gn(K:Frag):alongIn K "__getattr__" [.type "ValueError",.type "Exception",.type "BaseException",.type "object"]=some none:=by kernel_rfl
theorem fE_cl(K:Frag):alongIn K "__class__" [.type "ValueError",.type "Exception",.type "BaseException",.type "object"]=some (some (.builtin "object.__class__")):=by kernel_rfl
end Hd
local macro_rules | `(tactic| walk_at "bt")=>`(tactic| first
 | assumption
 | (apply L2.bits_mul <;> walk_at "bt")
 | (apply L2.bits_add2 <;> walk_at "bt")
 | (apply L2.bits_sub2 <;> walk_at "bt")
 | (apply L2.bits_neg;walk_at "bt")
 | (apply L2.bits_abs;walk_at "bt")
 | exact L2.bits_lit)
local macro_rules | `(tactic| walk_at "bl")=>`(tactic| (apply L2.bits_of_le;(walk_at "bt");decide))
local macro_rules | `(tactic| walk_at "cm")=>`(tactic| first
 | exact L2.CM.l ⟨by decide,by decide⟩
 | exact L2.CM.r ⟨by decide,by decide⟩
 | (apply L2.CM.of;(walk_at "bt");(walk_at "bt");decide))
local macro_rules | `(tactic| walk_at "at")=>`(tactic| first
 | assumption
 | exact L2.upd_same
 | (refine L2.Same.at (by assumption) ?_;walk_at "at")
 | (refine L2.SameT.at (by assumption) ?_;walk_at "at"))
local macro_rules | `(tactic| walk_at "sm")=>`(tactic| first
 | assumption
 | exact L2.Same.rfl'
 | (refine L2.Same.trans ?_ (by assumption);walk_at "sm"))
local macro_rules | `(tactic| walk_at "kn")=>`(tactic| first
 | assumption
 | exact⟨_,.int _⟩|exact⟨_,.bl _⟩|exact⟨_,.str _⟩|exact⟨_,.non⟩
 | exact⟨_,.tup (by walk_at "at")⟩|exact⟨_,.lst (by walk_at "at")⟩|exact⟨_,.dict (by walk_at "at")⟩)
local macro_rules | `(tactic| walk_at "nice")=>`(tactic| first
 | exact L2.nice_int|exact L2.nice_bool|exact L2.nice_tuple|exact L2.nice_list|exact L2.nice_str)
local macro_rules | `(tactic| walk_at "th")=>`(tactic| first
 | assumption
 | exact Sp1.th_flat .non (fun p e=>nomatch e)|exact Sp1.th_flat (.int _) (fun p e=>nomatch e)|exact Sp1.th_flat (.bl _) (fun p e=>nomatch e)|exact Sp1.th_flat (.str _) (fun p e=>nomatch e)
 | exact Sp1.th_lst (by walk_at "at")
 | (refine' Sp1.th_tup ?hat ?hkn;(case hat=>walk_at "at");(case hkn=>(simp only[List.mem_cons,List.not_mem_nil,or_false,forall_eq_or_imp,forall_eq,false_imp_iff,implies_true];(try (first|(walk_at "kn")|(repeat' apply And.intro) <;> walk_at "kn")))))
 )
local macro_rules | `(tactic| walk_at "r1")=>`(tactic| first
 | (refine⟨_,rfl,?_⟩)
 | (refine⟨_,_,rfl,rfl,?_⟩)
 | (refine⟨_,_,rfl,rfl,by walk_at "cm",?_⟩)
 | (refine⟨_,_,rfl,rfl,(by show(0:Int)<_;decide),?_⟩)
 | (refine⟨_,_,rfl,rfl,⟨by decide,by decide⟩,?_⟩)
 | (refine⟨_,_,rfl,rfl,⟨by decide,by decide,by decide⟩,?_⟩)
 | (refine' ⟨_,_,_,_,rfl,rfl,L2.SqT.of ?hat,?hix,?nxt⟩;(case hat=>walk_at "at");(case hix=>exact rfl))
 | (refine' ⟨_,_,_,_,rfl,rfl,L2.SqL.of ?hat,?hix,?nxt⟩;(case hat=>walk_at "at");(case hix=>exact rfl))
 | (refine⟨by walk_at "cm",?_⟩)
 | (refine⟨(by show(0:Int)<_;decide),?_⟩)
 | (refine⟨⟨by decide,by decide⟩,?_⟩)
 | (refine⟨⟨by decide,by decide,by decide⟩,?_⟩)
 | (refine⟨Sp1.sz (by simp),fun _ _ _ _ _=>?_⟩)
 | (refine⟨Sp1.sz (by simp),L2.alloc fun _ _ _ _=>?_⟩)
 | (refine' ⟨_,_,_,_,rfl,rfl,?hat,?hbt,Sp1.sz ?hsz,fun _ _ _ _ _=>?nxt⟩;(case hat=>walk_at "at");(case hbt=>walk_at "at");(case hsz=>simp))
 | (refine' ⟨_,_,_,_,rfl,rfl,?hat,?hbt,Sp1.sz ?hsz,L2.alloc fun _ _ _ _=>?nxt⟩;(case hat=>walk_at "at");(case hbt=>walk_at "at");(case hsz=>simp))
 | (refine' ⟨_,_,rfl,.inl (L2.SqL.of ?hat),?nxt⟩;(case hat=>walk_at "at"))
 | (refine' ⟨_,_,rfl,.inr (L2.SqT.of ?hat),?nxt⟩;(case hat=>walk_at "at"))
 | (refine' L2.alloc fun _ _ _ _=>?nxt))
local macro_rules | `(tactic| walk_at "rd")=>`(tactic| repeat (walk_at "r1"))
namespace K71
open PySem PySem.Spec L2 Mth Sp1 Sp2 Sp11 Sp7 Dr Wk Fnc
def top(i:Nat):Stmt:=Challenge.pw_oneleash_k71_fences_judged.main.body.getD i (.Pass ⟨0,0,0,0⟩)
def jH:List (Str×Nat):=[(Str.ofString "is_whole",10),(Str.ofString "common_divisor",11),(Str.ofString "plus",13),(Str.ofString "minus",14),(Str.ofString "times",15),(Str.ofString "over",16),(Str.ofString "less",17),(Str.ofString "floor_of",18),(Str.ofString "number_of_least",19),(Str.ofString "is_ratio",21),(Str.ofString "is_small",25),(Str.ofString "is_corner",26),(Str.ofString "is_line",27),(Str.ofString "last_of",28),(Str.ofString "is_place",30),(Str.ofString "look_at_place",31),(Str.ofString "is_pair",32),(Str.ofString "are_pairs",33),(Str.ofString "number_at",34),(Str.ofString "point_at",35),(Str.ofString "share_a_stretch",36),(Str.ofString "step_from",37),(Str.ofString "inner_product",38)]
def jG:List (Str×Nat):=[(Str.ofString "square_between",39),(Str.ofString "square_of",40),(Str.ofString "nearest_part",41),(Str.ofString "least_along",42),(Str.ofString "look_at_way",45),(Str.ofString "steps_back",49),(Str.ofString "keeps_corner",50),(Str.ofString "slides",51),(Str.ofString "has_whole_places",52),(Str.ofString "hops_aside",53),(Str.ofString "is_measured_between",59),(Str.ofString "least_between",60),(Str.ofString "slide_square",61),(Str.ofString "measured_squares",62),(Str.ofString "show_ratio",69),(Str.ofString "read_whole",70),(Str.ofString "read_ratio",71),(Str.ofString "two_parts",72),(Str.ofString "read_corner",73),(Str.ofString "read_line",74),(Str.ofString "read_pair",75),(Str.ofString "read_paper",76),(Str.ofString "judged",90)]
def jF:List (Str×Nat):=[(Str.ofString "_law_cell_at",92),(Str.ofString "_law_folded",93),(Str.ofString "_law_begun",94),(Str.ofString "_law_take",95),(Str.ofString "_law_wide",96),(Str.ofString "_law_drawn_line",97),(Str.ofString "_law_drawn_other",98),(Str.ofString "_law_lines",99),(Str.ofString "_law_divisor",100),(Str.ofString "_law_ratio",101),(Str.ofString "_law_below",102),(Str.ofString "_law_whole",103),(Str.ofString "_law_is_ratio",104),(Str.ofString "_law_is_place",105),(Str.ofString "_law_near",106),(Str.ofString "_law_are_pairs",107),(Str.ofString "_law_back",108),(Str.ofString "_law_steps",109),(Str.ofString "_law_is_fence",110),(Str.ofString "_law_point_at",111),(Str.ofString "_law_square_of",112),(Str.ofString "_law_lesser",113),(Str.ofString "_law_foot",114)]
def jE:List (Str×Nat):=[(Str.ofString "_law_least_along",115),(Str.ofString "_law_greater",116),(Str.ofString "_law_spot_on",117),(Str.ofString "_law_any",118),(Str.ofString "_law_down",119),(Str.ofString "_law_over",120),(Str.ofString "_law_next",121),(Str.ofString "_law_ended",122),(Str.ofString "_law_drawn_fence",123),(Str.ofString "_law_spoilt",124),(Str.ofString "_law_drawn_way",125),(Str.ofString "_law_measured",126),(Str.ofString "_law_fence_square",127),(Str.ofString "_law_shown",128),(Str.ofString "_law_line_text",129),(Str.ofString "_law_paper_text",130),(Str.ofString "_law_bad",131),(Str.ofString "_law_told_of",132),(Str.ofString "_law_due_of",133),(Str.ofString "_law_right",134),(Str.ofString "law",135)]
def jC:List (Str×Nat×List V):=[(Str.ofString "ratio",12,[.int 1]),(Str.ofString "is_fence",58,[.str "on"]),(Str.ofString "fence_square",63,[.str "on"]),(Str.ofString "walk_square",88,[.str "on"])]
def zd:List Str:=[Str.ofString "NoRatio",Str.ofString "NoWay",Str.ofString "NoWalk",Str.ofString "LeashError",Str.ofString "NoFence",Str.ofString "NoLine",Str.ofString "NoPlace",Str.ofString "NoText"]
def hNo:List Str:=[Str.ofString "ValueError",Str.ofString "abs",Str.ofString "all",Str.ofString "bool",Str.ofString "enumerate",Str.ofString "int",Str.ofString "isinstance",Str.ofString "len",Str.ofString "list",Str.ofString "max",Str.ofString "min",Str.ofString "range",Str.ofString "reversed",Str.ofString "str",Str.ofString "tuple",Str.ofString "zip"]
def wl:List (Str×List V):=[(Str.ofString "WAYS",[.str "on",.str "part",.str "free",.str "hops"]),(Str.ofString "PAPERS",[.str "walk",.str "fence"])]
def zh(K:W.Frag):List (Option (Option Value)):=[W.nsIn K cStatics "sys.int_max_str_digits"]
def xj:List (Option (Option Value)):=[some none]
def zg(K:W.Frag):List (Option (Option V)):=[(W.nsIn K mainGlobals "FIGURES").map (fun o=>o.map Hd.bareV),(W.nsIn K mainGlobals "MOST_FIGURES").map (fun o=>o.map Hd.bareV),(W.nsIn K mainGlobals "MOST_PAIRS").map (fun o=>o.map Hd.bareV),(W.nsIn K mainGlobals "MOST_CORNERS").map (fun o=>o.map Hd.bareV),(W.nsIn K mainGlobals "LARGEST").map (fun o=>o.map Hd.bareV)]
def xi:List (Option (Option V)):=[some (some (.str (Str.ofString "0123456789"))),some (some (.int 1000)),some (some (.int 200)),some (some (.int 10)),some (some (.int 999999999999))]
def zf(K:W.Frag):List (Option Bool):=[Hd.exmR K (Hd.cls K "NoText") (Hd.cls K "LeashError"),Hd.kitR K (Hd.cls K "NoText") (Hd.cls K "NoText"),Hd.kitR K (Hd.cls K "NoText") (Hd.cls K "NoWalk"),Hd.kitR K (Hd.cls K "NoText") (Hd.cls K "NoFence"),Hd.kitT K (Hd.cls K "NoText"),Hd.kitRs K (Hd.cls K "NoText") [(Hd.cls K "NoLine"),(Hd.cls K "NoPlace"),(Hd.cls K "NoWay")],Hd.exmR K (Hd.cls K "NoFence") (Hd.cls K "LeashError"),Hd.kitR K (Hd.cls K "NoFence") (Hd.cls K "NoText"),Hd.kitR K (Hd.cls K "NoFence") (Hd.cls K "NoWalk"),Hd.kitR K (Hd.cls K "NoFence") (Hd.cls K "NoFence"),Hd.kitT K (Hd.cls K "NoFence"),Hd.kitRs K (Hd.cls K "NoFence") [(Hd.cls K "NoLine"),(Hd.cls K "NoPlace"),(Hd.cls K "NoWay")]]
def xh:List (Option Bool):=[some true,some true,some false,some false,some true,some false,some true,some false,some false,some true,some true,some false]
def ze(K:W.Frag):List (Bool):=[Hd.findR K (Hd.cls K "NoText") "__getattribute__",Hd.findR K (Hd.cls K "NoText") "__getattr__",Hd.findR K (Hd.cls K "NoText") "__class__",Hd.findR K (Hd.cls K "NoFence") "__getattribute__",Hd.findR K (Hd.cls K "NoFence") "__getattr__",Hd.findR K (Hd.cls K "NoFence") "__class__"]
def xg:List (Bool):=[true,true,true,true,true,true]
def jD:List (Str×Str×Nat):=[(Str.ofString "has_right_ends_fences",Str.ofString "has_right_ends",47),(Str.ofString "may_step_fences",Str.ofString "may_step",54),(Str.ofString "has_right_steps_fences",Str.ofString "has_right_steps",56)]
def hF0(K:W.Frag):List (Option (Arguments×List Stmt×Scope×Value)):=jH.map (fun p=>Hd.fnFact K p.1)
def hG0:List (Option (Arguments×List Stmt×Scope×Value)):=jH.map (fun p=>some (bj (top p.2),aA (top p.2),ag (top p.2),.none))
def hF1(K:W.Frag):List (Option (Arguments×List Stmt×Scope×Value)):=jG.map (fun p=>Hd.fnFact K p.1)
def hG1:List (Option (Arguments×List Stmt×Scope×Value)):=jG.map (fun p=>some (bj (top p.2),aA (top p.2),ag (top p.2),.none))
def hF2(K:W.Frag):List (Option (Arguments×List Stmt×Scope×Value)):=jF.map (fun p=>Hd.fnFact K p.1)
def hG2:List (Option (Arguments×List Stmt×Scope×Value)):=jF.map (fun p=>some (bj (top p.2),aA (top p.2),ag (top p.2),.none))
def hF3(K:W.Frag):List (Option (Arguments×List Stmt×Scope×Value)):=jE.map (fun p=>Hd.fnFact K p.1)
def hG3:List (Option (Arguments×List Stmt×Scope×Value)):=jE.map (fun p=>some (bj (top p.2),aA (top p.2),ag (top p.2),.none))
def hF4(K:W.Frag):List (Option (Arguments×List Stmt×Scope×List V))×Bool×Bool×List (Option (List V))×List (Option (Arguments×List Stmt×Scope×Value))×List (Option (Option Value))×List (Option (Option V))×List (Option Bool)×List (Bool):=(jC.map (fun p=>Hd.fnFactD K p.1),zd.all (Hd.excFact K),hNo.all (Hd.noFact K),wl.map (fun p=>Hd.tupFact K p.1),jD.map (fun p=>Hd.fnFactA K p.1 p.2.1),zh K,zg K,zf K,ze K)
def hG4:List (Option (Arguments×List Stmt×Scope×List V))×Bool×Bool×List (Option (List V))×List (Option (Arguments×List Stmt×Scope×Value))×List (Option (Option Value))×List (Option (Option V))×List (Option Bool)×List (Bool):=(jC.map (fun p=>some (bj (top p.2.1),aA (top p.2.1),ag (top p.2.1),p.2.2)),true,true,wl.map (fun p=>some p.2),jD.map (fun p=>some (bj (top p.2.2),aA (top p.2.2),ag (top p.2.2),.none)),xj,xi,xh,xg)
def hFacts(K:W.Frag):(List (Option (Arguments×List Stmt×Scope×Value)))×(List (Option (Arguments×List Stmt×Scope×Value)))×(List (Option (Arguments×List Stmt×Scope×Value)))×(List (Option (Arguments×List Stmt×Scope×Value)))×(List (Option (Arguments×List Stmt×Scope×List V))×Bool×Bool×List (Option (List V))×List (Option (Arguments×List Stmt×Scope×Value))×List (Option (Option Value))×List (Option (Option V))×List (Option Bool)×List (Bool)):=(hF0 (K),hF1 (K),hF2 (K),hF3 (K),hF4 (K))
def hGood:(List (Option (Arguments×List Stmt×Scope×Value)))×(List (Option (Arguments×List Stmt×Scope×Value)))×(List (Option (Arguments×List Stmt×Scope×Value)))×(List (Option (Arguments×List Stmt×Scope×Value)))×(List (Option (Arguments×List Stmt×Scope×List V))×Bool×Bool×List (Option (List V))×List (Option (Arguments×List Stmt×Scope×Value))×List (Option (Option Value))×List (Option (Option V))×List (Option Bool)×List (Bool)):=(hG0,hG1,hG2,hG3,hG4)
def hView:Program:=W.view Challenge.pw_oneleash_k71_fences_judged [135]
def hLoose:List Str:=[Str.ofString "LeashError",Str.ofString "NoRatio",Str.ofString "NoLine",Str.ofString "NoPlace",Str.ofString "NoWay",Str.ofString "NoWalk",Str.ofString "NoFence",Str.ofString "NoText",Str.ofString "is_whole",Str.ofString "common_divisor",Str.ofString "ratio",Str.ofString "plus",Str.ofString "minus",Str.ofString "times",Str.ofString "over",Str.ofString "less",Str.ofString "floor_of",Str.ofString "number_of_least",Str.ofString "number_of_greatest",Str.ofString "is_ratio",Str.ofString "MOST_CORNERS",Str.ofString "LARGEST",Str.ofString "is_small",Str.ofString "is_corner",Str.ofString "is_line",Str.ofString "last_of",Str.ofString "is_place",Str.ofString "look_at_place",Str.ofString "is_pair",Str.ofString "are_pairs",Str.ofString "number_at",Str.ofString "point_at",Str.ofString "share_a_stretch",Str.ofString "step_from",Str.ofString "inner_product",Str.ofString "square_between",Str.ofString "square_of",Str.ofString "nearest_part",Str.ofString "least_along",Str.ofString "WAYS",Str.ofString "look_at_way",Str.ofString "has_right_ends",Str.ofString "has_right_ends_fences",Str.ofString "steps_back",Str.ofString "keeps_corner",Str.ofString "slides",Str.ofString "has_whole_places",Str.ofString "hops_aside",Str.ofString "may_step",Str.ofString "may_step_fences",Str.ofString "has_right_steps",Str.ofString "has_right_steps_fences",Str.ofString "is_fence",Str.ofString "is_measured_between",Str.ofString "least_between",Str.ofString "slide_square",Str.ofString "measured_squares",Str.ofString "fence_square",Str.ofString "MOST_FIGURES",Str.ofString "MOST_PAIRS",Str.ofString "FIGURES",Str.ofString "PAPERS",Str.ofString "show_ratio",Str.ofString "read_whole",Str.ofString "read_ratio",Str.ofString "two_parts",Str.ofString "read_corner",Str.ofString "read_line",Str.ofString "read_pair",Str.ofString "read_paper",Str.ofString "has_right_ends_walks",Str.ofString "goes_on",Str.ofString "goes_freely",Str.ofString "hops",Str.ofString "may_step_walks",Str.ofString "has_right_steps_walks",Str.ofString "is_walk",Str.ofString "walk_square",Str.ofString "judged",Str.ofString "_law_cell_at",Str.ofString "_law_folded",Str.ofString "_law_begun",Str.ofString "_law_take",Str.ofString "_law_wide",Str.ofString "_law_drawn_line",Str.ofString "_law_drawn_other",Str.ofString "_law_lines",Str.ofString "_law_divisor",Str.ofString "_law_ratio",Str.ofString "_law_below",Str.ofString "_law_whole",Str.ofString "_law_is_ratio",Str.ofString "_law_is_place",Str.ofString "_law_near",Str.ofString "_law_are_pairs",Str.ofString "_law_back",Str.ofString "_law_steps",Str.ofString "_law_is_fence",Str.ofString "_law_point_at",Str.ofString "_law_square_of",Str.ofString "_law_lesser",Str.ofString "_law_foot",Str.ofString "_law_least_along",Str.ofString "_law_greater",Str.ofString "_law_spot_on",Str.ofString "_law_any",Str.ofString "_law_down",Str.ofString "_law_over",Str.ofString "_law_next",Str.ofString "_law_ended",Str.ofString "_law_drawn_fence",Str.ofString "_law_spoilt",Str.ofString "_law_drawn_way",Str.ofString "_law_measured",Str.ofString "_law_fence_square",Str.ofString "_law_shown",Str.ofString "_law_line_text",Str.ofString "_law_paper_text",Str.ofString "_law_bad",Str.ofString "_law_told_of",Str.ofString "_law_due_of",Str.ofString "_law_right"]
noncomputable def hRunS(w:World):=(W.openEnds treeTable Challenge.pw_oneleash_k71_fences_judged w 100000).map (fun s=>(W.openSeen hView hLoose (importedModules Challenge.pw_oneleash_k71_fences_judged.main.body) (fun _=>true) true s,hF4 (Hd.frag s.heap)))
noncomputable def hEndS:=some (W.openGood hView hLoose,hG4)
theorem hRunS_self:@hRunS = @hRunS:=rfl
theorem hEndS_self:@hEndS = @hEndS:=rfl
set_option maxHeartbeats 0 in
lay_quick K71.hRunS K71.hEndS
name_quick hRunSQ for K71.hRunS by K71.hRunS_self
name_quick hEndSQ for K71.hEndS by K71.hEndS_self
set_option maxHeartbeats 0 in
theorem wm(w:World):W.Fast.hRunSQ w=W.Fast.hEndSQ:=by kernel_rfl
theorem yZ(w:World):hRunS w=hEndS:=(congrFun W.Fast.hRunSQ_eq w).trans ((wm w).trans W.Fast.hEndSQ_eq.symm)
noncomputable def hRun0(w:World):=(W.openEnds treeTable Challenge.pw_oneleash_k71_fences_judged w 100000).map (fun s=>hF0 (Hd.frag s.heap))
noncomputable def hEnd0:=some (hG0)
theorem hRun0_self:@hRun0 = @hRun0:=rfl
theorem hEnd0_self:@hEnd0 = @hEnd0:=rfl
set_option maxHeartbeats 0 in
lay_quick K71.hRun0 K71.hEnd0
name_quick hRun0Q for K71.hRun0 by K71.hRun0_self
name_quick hEnd0Q for K71.hEnd0 by K71.hEnd0_self
set_option maxHeartbeats 0 in
theorem wt(w:World):W.Fast.hRun0Q w=W.Fast.hEnd0Q:=by kernel_rfl
theorem zc(w:World):hRun0 w=hEnd0:=(congrFun W.Fast.hRun0Q_eq w).trans ((wt w).trans W.Fast.hEnd0Q_eq.symm)
noncomputable def hRun1(w:World):=(W.openEnds treeTable Challenge.pw_oneleash_k71_fences_judged w 100000).map (fun s=>hF1 (Hd.frag s.heap))
noncomputable def hEnd1:=some (hG1)
theorem hRun1_self:@hRun1 = @hRun1:=rfl
theorem hEnd1_self:@hEnd1 = @hEnd1:=rfl
set_option maxHeartbeats 0 in
lay_quick K71.hRun1 K71.hEnd1
name_quick hRun1Q for K71.hRun1 by K71.hRun1_self
name_quick hEnd1Q for K71.hEnd1 by K71.hEnd1_self
set_option maxHeartbeats 0 in
theorem wq(w:World):W.Fast.hRun1Q w=W.Fast.hEnd1Q:=by kernel_rfl
theorem y9(w:World):hRun1 w=hEnd1:=(congrFun W.Fast.hRun1Q_eq w).trans ((wq w).trans W.Fast.hEnd1Q_eq.symm)
noncomputable def hRun2(w:World):=(W.openEnds treeTable Challenge.pw_oneleash_k71_fences_judged w 100000).map (fun s=>hF2 (Hd.frag s.heap))
noncomputable def hEnd2:=some (hG2)
theorem hRun2_self:@hRun2 = @hRun2:=rfl
theorem hEnd2_self:@hEnd2 = @hEnd2:=rfl
set_option maxHeartbeats 0 in
lay_quick K71.hRun2 K71.hEnd2
name_quick hRun2Q for K71.hRun2 by K71.hRun2_self
name_quick hEnd2Q for K71.hEnd2 by K71.hEnd2_self
set_option maxHeartbeats 0 in
theorem wo(w:World):W.Fast.hRun2Q w=W.Fast.hEnd2Q:=by kernel_rfl
theorem y7(w:World):hRun2 w=hEnd2:=(congrFun W.Fast.hRun2Q_eq w).trans ((wo w).trans W.Fast.hEnd2Q_eq.symm)
noncomputable def hRun3(w:World):=(W.openEnds treeTable Challenge.pw_oneleash_k71_fences_judged w 100000).map (fun s=>hF3 (Hd.frag s.heap))
noncomputable def hEnd3:=some (hG3)
theorem hRun3_self:@hRun3 = @hRun3:=rfl
theorem hEnd3_self:@hEnd3 = @hEnd3:=rfl
set_option maxHeartbeats 0 in
lay_quick K71.hRun3 K71.hEnd3
name_quick hRun3Q for K71.hRun3 by K71.hRun3_self
name_quick hEnd3Q for K71.hEnd3 by K71.hEnd3_self
set_option maxHeartbeats 0 in
theorem wn(w:World):W.Fast.hRun3Q w=W.Fast.hEnd3Q:=by kernel_rfl
theorem y4(w:World):hRun3 w=hEnd3:=(congrFun W.Fast.hRun3Q_eq w).trans ((wn w).trans W.Fast.hEnd3Q_eq.symm)
theorem zI(w:World):(W.openEnds treeTable Challenge.pw_oneleash_k71_fences_judged w 100000).map (fun s=>(W.openSeen hView hLoose (importedModules Challenge.pw_oneleash_k71_fences_judged.main.body) (fun _=>true) true s,hFacts (Hd.frag s.heap)))=some (W.openGood hView hLoose,hGood):=by
 have rS:(W.openEnds treeTable Challenge.pw_oneleash_k71_fences_judged w 100000).map (fun s=>(W.openSeen hView hLoose (importedModules Challenge.pw_oneleash_k71_fences_judged.main.body) (fun _=>true) true s,hF4 (Hd.frag s.heap)))=some (W.openGood hView hLoose,hG4):=yZ w;have r0:(W.openEnds treeTable Challenge.pw_oneleash_k71_fences_judged w 100000).map (fun s=>hF0 (Hd.frag s.heap))=some (hG0):=zc w;have r1:(W.openEnds treeTable Challenge.pw_oneleash_k71_fences_judged w 100000).map (fun s=>hF1 (Hd.frag s.heap))=some (hG1):=y9 w;have r2:(W.openEnds treeTable Challenge.pw_oneleash_k71_fences_judged w 100000).map (fun s=>hF2 (Hd.frag s.heap))=some (hG2):=y7 w;have r3:(W.openEnds treeTable Challenge.pw_oneleash_k71_fences_judged w 100000).map (fun s=>hF3 (Hd.frag s.heap))=some (hG3):=y4 w
 skip
 generalize (W.openEnds treeTable Challenge.pw_oneleash_k71_fences_judged w 100000)=x at *;cases x with
 | none=>cases rS
 | some s =>
  have qS:=Option.some.inj rS;have q0:=Option.some.inj r0;have q1:=Option.some.inj r1;have q2:=Option.some.inj r2;have q3:=Option.some.inj r3;show some (W.openSeen hView hLoose (importedModules Challenge.pw_oneleash_k71_fences_judged.main.body) (fun _=>true) true s,hFacts (Hd.frag s.heap))=_;unfold hFacts hGood;have z:=congrArg Prod.fst qS;have q4:=(congrArg Prod.snd qS);exact congrArg some (Hd.pair2 z (Hd.pair2 q0 (Hd.pair2 q1 (Hd.pair2 q2 (Hd.pair2 q3 q4)))))
structure Txt(mg:Str->Option Value):Prop where
 z_ValueError:mg "ValueError" = none
 z_abs:mg "abs" = none
 z_all:mg "all" = none
 z_bool:mg "bool" = none
 z_enumerate:mg "enumerate" = none
 z_int:mg "int" = none
 z_isinstance:mg "isinstance" = none
 z_len:mg "len" = none
 z_list:mg "list" = none
 z_max:mg "max" = none
 z_min:mg "min" = none
 z_range:mg "range" = none
 z_reversed:mg "reversed" = none
 z_str:mg "str" = none
 z_tuple:mg "tuple" = none
 z_zip:mg "zip" = none
section
variable {P:Program} {w:World} {K:W.Frag} {mg:Str->Option Value} {base:Heap}
theorem dI{α:Type}{xs:List α}(h:xs.length=1):∃a,xs = [a]:=match xs,h with | [a],_=>⟨a,rfl⟩
inductive Hz (vs:List V) (H:Hp) (Q:VK) (x_3:XK):Prop
 | mk:∀(p q:Addr) (a b c d:Int),(vs = [.ref p,.ref q])->(H p=some (.tup [.int a,.int b]))->(H q=some (.tup [.int c,.int d]))->((au a≤5000∧au b≤5000∧au c≤5000∧au d≤5000))->(Q (.bl (decide (a*d<c*b))) H)->Hz vs H Q x_3
inductive GV (vs:List V) (H:Hp) (Q:VK) (x_3:XK):Prop
 | mk:∀(p p1 p2:Addr) (X Y b X1 Y1 b1 X2 Y2 b2:Int),(vs = [.ref p,.ref p1,.ref p2])->(FQ H p X Y b 262)->(FQ H p1 X1 Y1 b1 262)->(FQ H p2 X2 Y2 b2 262)->(0<b)->(0<b1)->(0<b2)->(∀(r:Addr) (t u:Int) (H':Hp),CP H' r t u 4207->NP X Y b X1 Y1 b1 X2 Y2 b2 t u->Same H H'->Q (.ref r) H')->GV vs H Q x_3
def yz(l l':Addr)(qs qs':Crn)(t b l1 l2 h1 h2:Int)(H:Hp)(Q:VK):Prop:=au b≤60∧au l2≤60∧au h2≤60∧InS qs'.length l1 l2 h1 h2 ∧
 ∀(r rs rp:Addr) (s w T B:Int) (H':Hp),H' r=some (.tup [.ref rs,.ref rp])->CP H' rs s w 2103->D8 H' rp T B (aP qs')->LPc (ptX qs t b) (ptY qs t b) b qs' l1 l2 h1 h2 T B->l1*B≤T*l2->T*h2≤h1*B->zV (sqF qs t b qs' T B) (sqD b B) s w->Same H H'->Q (.ref r) H'
inductive Gr (C:Addr) (vs:List V) (H:Hp) (Q:VK) (E:XK):Prop
 | mk:∀(l l':Addr) (qs qs':Crn) (x y z:V),(vs = [.ref l,x,.ref l',y,z])->(zW H l qs)->(zW H l' qs')->((1≤qs.length∧qs.length≤20))->((1≤qs'.length∧qs'.length≤20))->(Ay H x)->(Ay H y)->(Ay H z)->(((aU (aP qs) H x=false∧E (.ref C) none H)∨∃(p:Addr) (t b:Int),x = .ref p∧D8 H p t b (aP qs) ∧
  ((aU (aP qs') H y=false∧∀H',Same H H'->E (.ref C) none H')∨∃(q:Addr) (l1 l2:Int),y = .ref q∧D8 H q l1 l2 (aP qs') ∧
   ((aU (aP qs') H z=false∧∀H',Same H H'->E (.ref C) none H')∨∃(q':Addr) (h1 h2:Int),z = .ref q'∧D8 H q' h1 h2 (aP qs')∧yz l l' qs qs' t b l1 l2 h1 h2 H Q))))->Gr C vs H Q E
theorem vQ{p:Addr}{qs:Crn}{t b:Int}{H:Hp}{G:Prop}(pl:D8 H p t b (aP qs))(z:aU ((qs.length:Int) - 1) H (.ref p)=false):G:=by
 rw[show aU ((qs.length:Int) - 1) H (.ref p)=true from pl.place]at z;cases z
theorem vP{p:Addr}{qs:Crn}{t b:Int}{H:Hp}{G:Addr->Hp->Prop}(pl:D8 H p t b (aP qs))(k:∀(r:Addr) (H':Hp),FQ H' r (ptX qs t b) (ptY qs t b) b 262->Same H H'->G r H')(p0:Addr)(t0 b0:Int)(e0:V.ref p = .ref p0)(eH:H p0=some (.tup [.int t0,.int b0]))(_:AM t0 b0)(_:0≤t0)(_:t0≤((qs.length:Int) - 1)*b0) :
  au t0≤200∧au b0≤200∧∀(r:Addr) (H':Hp),FQ H' r (ptX qs t0 b0) (ptY qs t0 b0) b0 262->Same H H'->G r H':=by
 cases e0;have e2:=pl.at_;rw[eH]at e2;cases e2;exact⟨pl.bt,pl.bb,k⟩
theorem xE{qs:Crn}{x:V}{H:Hp}(no:aU (aP qs) H x=false){p0:Addr}{t0 b0:Int}(e0:x = .ref p0)(eH:H p0=some (.tup [.int t0,.int b0]))(lw:AM t0 b0)(t00:0≤t0)(t01:t0≤((qs.length:Int) - 1)*b0){G:Prop}:G:=by
 subst e0;rw[show aU (aP qs) H (.ref p0)=true from gu eH lw t00 t01]at no;cases no
theorem w9{H:Hp}{r:Addr}{u v c d:Int}{n:Nat}(p:HK H r u v c d n):Rp H 9 (.ref r) (.tup [.tup [.int u,.int v],.tup [.int c,.int d]]):=by
 obtain⟨rx,ry,e,f,g⟩:=p.ex;exact Rp.t2 e (Rp.t2 f.at_ .int .int) (Rp.t2 g.at_ .int .int)
theorem jJ{X1 b1 X2 b2 u1 v1 u2 v2:Int}(h1:b1≠0)(h2:b2≠0)(f:zV X1 b1 u1 v1)(g:zV X2 b2 u2 v2):X1*b2=X2*b1↔(u1=u2∧v1=v2):=by
 have e1:=fL f h1;have e2:=fL g h2;constructor
 ·intro h
  refine cj f.low g.low (n9 (nzl f.low) (nzl g.low) ?_);rw[e1,e2];have q1:=cz h1;have q2:=cz h2;have h3:(X1:Rat)*(b2:Rat)=(X2:Rat)*(b1:Rat):=by rw[<- Rat.intCast_mul,<- Rat.intCast_mul,h]
  unfold rq
  grind
 ·rintro⟨rfl,rfl⟩
  exact n9 h1 h2 (by rw[<- e1,<- e2])
theorem yc{x:Str}{ps:List Str}{k:Nat}{ds:List V}{sp sp':Sp}(F:Fx P w K mg base x ps k ds sp)(h:∀vs H Q E,sp' vs H Q E->sp vs H Q E):Fx P w K mg base x ps k ds sp':=by
 obtain⟨f,fd,its,h1,h2,h3,h4,h5,h6⟩:=F.ex;exact⟨⟨f,fd,its,h1,h2,h3,h4,h5,h6.imp h⟩⟩
theorem pU{C:Addr}(F:Fx P w K mg base "ratio" ["top","bottom"] 2 [.int 1] (BH C)):Fx P w K mg base "ratio" ["top","bottom"] 2 [.int 1] (Gm C) :=
 yc F fun vs H Q E ⟨a,b,e,bd,h0,h1⟩=>⟨a,b,2000,e,⟨bd.1,bd.2,by decide⟩,h0,h1⟩
theorem ye{x:Str}{ps:List Str}{k:Nat}{sp sp':Sp}(F:Fn P w K mg base x ps k sp)(h:∀vs H Q E,sp' vs H Q E->sp vs H Q E):Fn P w K mg base x ps k sp':=by
 obtain⟨f,fd,o,h1,h2,h3,h4,h6⟩:=F.ex;exact⟨⟨f,fd,o,h1,h2,h3,h4,h6.imp h⟩⟩
theorem lL(F:Fn P w K mg base "less" ["a","b"] 1 Hz):Fn P w K mg base "less" ["a","b"] 1 Bh :=
 ye F fun vs H Q E ⟨p,q,a,b,c,d,e,h1,h2,⟨b1,b2,b3,b4⟩,k⟩=>⟨p,q,a,b,c,d,e,h1,h2,⟨ai b1 (by decide),ai b2 (by decide),ai b3 (by decide),ai b4 (by decide)⟩,k⟩
theorem smk{N M:List Str}{c:Scope}(a:c.kind=.function:=by rfl)(b:c.isCoroutine=false:=by rfl)(d:c.isGenerator=false:=by rfl)(e:N.Nodup:=by decide +kernel)(f:N.take M.length=M:=by rfl)(g:∀x∈M,c.names.lookup x=some .local∨c.names.lookup x=some .cell:=by decide +kernel)(h:∀y∈c.names,y.2≠.free:=by decide +kernel):zQ N M c:=⟨a,b,d,e,f,g,h⟩
theorem Hg:zQ ["thing"] ["thing"] (ag (top 10)):=smk
theorem oZ(EA:Df K mg "is_whole" (top 10))(T:Txt mg):Fn P w K mg base "is_whole" ["thing"] 1 EG:=by
 refine EA.fn Hg (fun _ _ _ _ _ _ us hl=>by obtain⟨_,rfl⟩:=dI hl;rfl) (fun vs H Q E h=>?_) (fun f cdv A outer s H vs Q E hr h=>?_)
 ·obtain⟨x,t,rfl,_⟩:=h
  rfl
 ·obtain⟨x,t,rfl,k,q⟩:=h
  refine⟨_,(ah (am (bZ (az bI (by rfl) T.z_isinstance aL (aa (pv 0) (aa (eT T.z_int nI) ae))) (bJ (fF (az bI (by rfl) T.z_isinstance aL (aa (pv 0) (aa (eT T.z_bool rW) ae)))))))),?_⟩;refine⟨_,rfl,x,t,"int",rfl,k,.inl rfl,_,rfl,?_⟩;refine aB (fun hc=>?_) (fun hc=>?_)
  ·refine⟨_,rfl,x,t,"bool",rfl,k,.inr (.inl rfl),_,rfl,?_⟩
   rw[(lh k).1 hc];exact q
  ·rw[(lh k).2 hc]at q
   exact q
theorem Aj:zQ ["one","other","rest"] ["one","other"] (ag (top 11)):=smk
theorem iE(BD:Df K mg "common_divisor" (top 11))(T:Txt mg):Fn P w K mg base "common_divisor" ["one","other"] 1 Hv:=by
 refine BD.fn Aj (fun _ _ _ _ _ _ us hl=>by obtain⟨_,_,rfl⟩:=cO hl;rfl) (fun vs H Q E h=>?_) (fun f cdv A outer s H vs Q E hr h=>?_)
 ·obtain⟨a,b,rfl,_⟩:=h
  rfl
 ·obtain⟨a,b,rfl,q⟩:=h
  refine⟨_,(af (av (i:=0) Aj.nd rfl (Or.inl rfl) (az gh (by rfl) T.z_abs kD (aa (pv 0) ae))) (af (av (i:=1) Aj.nd rfl (Or.inl rfl) (az gh (by rfl) T.z_abs kD (aa (pv 1) ae))) (af (jQ PassesOwn.never (ar dU (pv 1) ac (aq _)) (af (av (i:=2) Aj.nd rfl (Or.inl rfl) (ap dE (pv 0) (pv 1))) (af (av (i:=0) Aj.nd rfl (Or.inl rfl) (pv 1)) (ah (av (i:=1) Aj.nd rfl (Or.inl rfl) (pv 2)))))) (ah (am (pv 0)))))),?_⟩;refine⟨_,rfl,a,rfl,_,rfl,b,rfl,?_⟩;refine jO (fun σ H'=>∃x y r,σ = [some (.int x),some (.int y),r]∧H'=H∧0≤x∧0≤y∧Int.gcd x y=Int.gcd a b)
   (fun σ _=>match σ with | [_,some (.int y),_]=>y.toNat|_=>0) ⟨_,_,_,rfl,rfl,kF a,kF b,by rw[rF,uX]⟩ ?_ ?_
  ·rintro σ H' ⟨x,y,r,rfl,rfl,hx,hy,hg⟩
   refine⟨_,rfl,rfl,_,rfl,?_⟩;refine aB (fun hc=>?_) (fun hc=>?_)
   ·have hy0:¬y=0:=by simpa using hc
    have hy1:0<y:=by omega
    refine⟨_,rfl,_,rfl,x,y,rfl,rfl,hy1,_,rfl,_,rfl,⟨y,x % y,_,rfl,rfl,hy,Int.emod_nonneg _ hy0,?_⟩,?_⟩
    ·rw[uW hx hy1]
     exact hg
    ·have h1:=Int.emod_lt_of_pos x hy1
     have h2:=Int.emod_nonneg x hy0;show(x % y).toNat<y.toNat;omega
   ·have hy0:y=0:=by simpa using hc
    subst hy0;refine⟨_,rfl,?_⟩;have e:(Int.gcd a b:Int)=x:=by rw[<- hg];exact gcd_zero hx
    rw[e]at q;exact q
  ·rintro σ H' Q1 Q2 hq ⟨v,e,hs,k,ek,r⟩
   exact⟨v,e,hs,k,ek,hq _ _ r⟩
theorem Gz:zQ ["top","bottom","divisor"] ["top","bottom"] (ag (top 12)):=smk
theorem uZ{C:Addr}(GE:HN K mg "ratio" (top 12) [.int 1])(EZ:AW K mg "NoRatio" C)(Ap:Fn P w K mg base "is_whole" ["thing"] 1 EG)(Am:Fn P w K mg base "common_divisor" ["one","other"] 1 Hv):Fx P w K mg base "ratio" ["top","bottom"] 2 [.int 1] (BH C):=by
 refine GE.fx Gz (fun T kV doc pm an cdv ct us its oT n s hv hl ho hs=>?_) (fun T kV doc pm an cdv ct us its oT n s hv hl ho hs=>?_) (fun vs H Q E h=>?_) (fun f cdv A outer s H vs Q E hr h=>?_)
 ·obtain⟨u,rfl,_⟩:=cT hv
  match us,hl with
  | [_,_],_=>exact BindsTo.of_defaults rfl ho hs rfl rfl
 ·obtain⟨u,rfl,_⟩:=cT hv
  have hl1:us.length=1:=by simpa using hl
  match us,hl1 with
  | [_],_=>exact BindsTo.of_defaults rfl ho hs rfl rfl
 ·obtain⟨a,b,nb,rfl,_⟩:=h
  rfl
 ·obtain⟨a,b,nb,rfl,⟨ba,bb,hnb⟩,k0,k1⟩:=h
  refine⟨_,(af (aF (cf (bq (aM (ao Ap (hr.mono (by decide)) (by rfl) (aa (pv 0) ae)))) (cf (bq (aM (ao Ap (hr.mono (by decide)) (by rfl) (aa (pv 1) ae)))) (ce (ar aW (pv 1) ac (aq _))))).pt (ah (cU EZ (by rfl))) aw) (af (av (i:=2) Gz.nd rfl (Or.inl rfl) (ao Am (hr.mono (by decide)) (by rfl) (aa (pv 0) (aa (pv 1) ae)))) (af (aF (ar lH (pv 1) ac (aq _)) (ah (av (i:=2) Gz.nd rfl (Or.inl rfl) (jh fP (pv 2)))) aw) (ah (am (pZ (aa (ap oq (pv 0) (pv 2)) (aa (ap oq (pv 1) (pv 2)) ae)))))))),?_⟩;refine⟨_,rfl,_,_,rfl,.int a,_,rfl,jn ?_⟩;refine⟨_,rfl,_,_,rfl,.int b,_,rfl,jn ?_⟩;refine⟨_,rfl,rfl,_,rfl,?_⟩;refine aB (fun hc=>?_) (fun hc=>?_)
  ·exact k0 (by simpa using hc)
  ·have hb:b≠0:=by simpa using hc
   have hg:=dO (a:=a) (b:=b) hb;have bg:au (Int.gcd a b:Int)≤8000:=ai (lQ hb bb) (by omega);refine⟨_,rfl,_,rfl,a,b,rfl,?_⟩;refine⟨_,rfl,_,_,rfl,rfl,_,rfl,?_⟩;refine aB (fun hd=>?_) (fun hd=>?_)
   ·have hlt:b<0:=by simpa using hd
    refine⟨_,rfl,_,rfl,?_⟩;refine⟨_,rfl,_,rfl,_,_,rfl,rfl,⟨by omega,bits_neg bg⟩,_,rfl,_,rfl,_,_,rfl,rfl,⟨by omega,bits_neg bg⟩,sz (by simp),fun p hp=>?_⟩;exact k1 hb p _ _ (lR hb _ (by rw[if_pos hlt])) (gJ ba) (gJ bb) hp
   ·have hlt:¬b<0:=by simpa using hd
    refine⟨_,rfl,_,rfl,_,_,rfl,rfl,⟨by omega,bg⟩,_,rfl,_,rfl,_,_,rfl,rfl,⟨by omega,bg⟩,sz (by simp),fun p hp=>?_⟩;exact k1 hb p _ _ (lR hb _ (by rw[if_neg hlt])) (gJ ba) (gJ bb) hp
theorem Hl:zQ ["a"] ["a"] (ag (top 18)):=smk
theorem o6(EF:Df K mg "floor_of" (top 18)):Fn P w K mg base "floor_of" ["a"] 1 Fs:=by
 refine EF.fn Hl (fun _ _ _ _ _ _ us hl=>by obtain⟨_,rfl⟩:=dI hl;rfl) (fun vs H Q E h=>?_) (fun f cdv A outer s H vs Q E hr h=>?_)
 ·obtain⟨p,a,b,rfl,_⟩:=h
  rfl
 ·obtain⟨p,a,b,rfl,hp,⟨hb,bb⟩,k⟩:=h
  refine⟨_,(ah (am (ap cv (aj ak (pv 0) ac (fun _ _=>rfl)) (aj ak (pv 0) ac (fun _ _=>rfl))))),?_⟩;exact⟨_,rfl,p,_,_,_,rfl,rfl,SqT.of hp,rfl,_,rfl,p,_,_,_,rfl,rfl,SqT.of hp,rfl,a,b,rfl,rfl,⟨hb,ai bb (by decide)⟩,k⟩
theorem Hi:zQ ["thing"] ["thing"] (ag (top 21)):=smk
theorem o3(EC:Df K mg "is_ratio" (top 21))(Ap:Fn P w K mg base "is_whole" ["thing"] 1 EG)(Am:Fn P w K mg base "common_divisor" ["one","other"] 1 Hv)(T:Txt mg):Fn P w K mg base "is_ratio" ["thing"] 2 Ht:=by
 refine EC.fn Hi (fun _ _ _ _ _ _ us hl=>by obtain⟨_,rfl⟩:=dI hl;rfl) (fun vs H Q E h=>?_) (fun f cdv A outer s H vs Q E hr h=>?_)
 ·obtain⟨x,rfl,_⟩:=h
  rfl
 ·obtain⟨x,rfl,th,q⟩:=h
  obtain⟨t,k⟩:=th.kn;refine⟨_,(af (aF (cf (bq (aM (az bI (by rfl) T.z_isinstance aL (aa (pv 0) (aa (eT T.z_tuple gi) ae))))) (ce (ar dU (az aK (by rfl) T.z_len ck (aa (pv 0) ae)) ac (aq _)))).pt (ah (am bW)) aw) (af (aF (cf (bq (aM (ao Ap (hr.mono (by decide)) (by rfl) (aa (aj ak (pv 0) ac (fun _ _=>rfl)) ae)))) (ce (bq (aM (ao Ap (hr.mono (by decide)) (by rfl) (aa (aj ak (pv 0) ac (fun _ _=>rfl)) ae)))))).pt (ah (am bW)) aw) (ah (am (bZ (aT qZ (aj ak (pv 0) ac (fun _ _=>rfl)) ac (aq _)) (bJ (aT aW (ao Am (hr.mono (by decide)) (by rfl) (aa (aj ak (pv 0) ac (fun _ _=>rfl)) (aa (aj ak (pv 0) ac (fun _ _=>rfl)) ae))) ac (aq _)))))))),?_⟩;refine⟨_,rfl,x,t,"tuple",rfl,k,.inr (.inr (.inl rfl)),_,rfl,?_⟩;rcases Kn.cases_tup k with⟨p,xs,rfl,e,rfl⟩|⟨hl,hs⟩
  ·-- a tuple
   rw[uH e]at q;refine jn ?_;refine⟨_,rfl,p,xs,rfl,.inr (SqT.of e),rfl,_,rfl,?_⟩;refine aB (fun hc=>?_) (fun hc=>?_)
   ·have hn:xs.length≠2:=by
     intro z;rw[z]at hc;exact absurd hc (by decide)
    rw[uJ hn]at q;exact q
   ·have hn:xs.length=2:=by
     have z:(xs.length:Int)=2:=by simpa using hc
     omega
    match xs,hn,e,q with
    | [y,z],_,e,q =>
     obtain⟨ty,ky⟩:=th.parts p _ rfl e y (by simp);obtain⟨tz,kz⟩:=th.parts p _ rfl e z (by simp);refine⟨_,rfl,p,_,_,_,rfl,rfl,SqT.of e,rfl,y,ty,rfl,ky,_,rfl,?_⟩;rcases Kn.cases_int ky with⟨a,rfl,rfl⟩|⟨ny,ey⟩
     ·refine jn ?_
      refine⟨_,rfl,p,_,_,_,rfl,rfl,SqT.of e,rfl,z,tz,rfl,kz,_,rfl,?_⟩;rcases Kn.cases_int kz with⟨b,rfl,rfl⟩|⟨nz,ez⟩
      ·refine jn ?_
       refine⟨_,rfl,p,_,_,_,rfl,rfl,SqT.of e,rfl,b,1,rfl,rfl,_,rfl,?_⟩;have q':Q (.bl (j9 a b)) H:=q;unfold j9 at q';refine aB (fun hc=>?_) (fun hc=>?_)
       ·refine⟨_,rfl,p,_,_,_,rfl,rfl,SqT.of e,rfl,_,rfl,p,_,_,_,rfl,rfl,SqT.of e,rfl,a,b,rfl,rfl,?_⟩
        rw[hc,Bool.true_and]at q';have e1:decide (V.int (Int.gcd a b:Int)=V.int 1)=decide (Int.gcd a b=1):=by
         rw[Bool.eq_iff_iff];simp;omega
        rw[<- e1]at q';exact q'
       ·rw[hc,Bool.false_and]at q'
        exact q'
      ·rw[ez,uI nz]at *
       exact q
     ·rw[ey,uK ny]at *
      exact q
  ·rw[hs]
   rw[hl]at q;exact q
theorem HG:zQ ["line"] ["line"] (ag (top 28)):=smk
theorem qw(E9:Df K mg "last_of" (top 28))(T:Txt mg):Fn P w K mg base "last_of" ["line"] 1 FA:=by
 refine E9.fn HG (fun _ _ _ _ _ _ us hl=>by obtain⟨_,rfl⟩:=dI hl;rfl) (fun vs H Q E h=>?_) (fun f cdv A outer s H vs Q E hr h=>?_)
 ·obtain⟨p,xs,rfl,_⟩:=h
  rfl
 ·obtain⟨p,xs,rfl,e,q⟩:=h
  exact⟨_,(ah (am (ap bE (az aK (by rfl) T.z_len ck (aa (pv 0) ae)) ac))),_,rfl,p,xs,rfl,.inl (SqL.of e),_,_,rfl,rfl,q⟩
theorem Hj:zQ ["line","thing"] ["line","thing"] (ag (top 30)):=smk
theorem o4(ED:Df K mg "is_place" (top 30))(By:Fn P w K mg base "is_ratio" ["thing"] 2 Ht)(AH:Fn P w K mg base "last_of" ["line"] 1 FA):Fn P w K mg base "is_place" ["line","thing"] 3 D7:=by
 refine ED.fn Hj (fun _ _ _ _ _ _ us hl=>by obtain⟨_,_,rfl⟩:=cO hl;rfl) (fun vs H Q E h=>?_) (fun f cdv A outer s H vs Q E hr h=>?_)
 ·obtain⟨p,xs,x,rfl,_⟩:=h
  rfl
 ·obtain⟨p,xs,x,rfl,e,hl,th,q⟩:=h
  refine⟨_,(ah (am (bZ (ao By (hr.mono (by decide)) (by rfl) (aa (pv 1) ae)) (bJ (jW dn dn ac (aj ak (pv 1) ac (fun _ _=>rfl)) (ap aJ (ao AH (hr.mono (by decide)) (by rfl) (aa (pv 0) ae)) (aj ak (pv 1) ac (fun _ _=>rfl)))))))),?_⟩;refine⟨_,rfl,x,rfl,th,_,rfl,aB (fun hc=>?_) (fun hc=>?_)⟩
  ·obtain⟨u,a,b,rfl,eu,lw⟩:=oA hc
   rw[eI eu,oz lw,Bool.true_and]at q;refine⟨_,rfl,u,_,_,_,rfl,rfl,SqT.of eu,rfl,_,_,rfl,rfl,_,rfl,aB (fun hd=>?_) (fun hd=>?_)⟩
   ·rw[hd,Bool.true_and]at q
    exact⟨_,rfl,p,xs,rfl,e,_,rfl,u,_,_,_,rfl,rfl,SqT.of eu,rfl,_,_,rfl,rfl,CM.l (uE (by omega) (by omega)),_,_,rfl,rfl,q⟩
   ·rw[hd,Bool.false_and]at q
    exact q
  ·rw[jS hc]at q
   exact q
theorem Fj:zQ ["line","thing"] ["line","thing"] (ag (top 31)):=smk
theorem iY{C:Addr}(BN:Df K mg "look_at_place" (top 31))(BW:AW K mg "NoPlace" C)(A9:Fn P w K mg base "is_place" ["line","thing"] 3 D7):Fx P w K mg base "look_at_place" ["line","thing"] 4 [] (GX C):=by
 refine BN.fx Fj (fun _ _ _ _ _ _ us hl=>by obtain⟨_,_,rfl⟩:=cO hl;rfl) (fun vs H Q E h=>?_) (fun f cdv A outer s H vs Q E hr h=>?_)
 ·obtain⟨p,xs,x,rfl,_⟩:=h
  rfl
 ·obtain⟨p,xs,x,rfl,e,hl,th,k0,k1⟩:=h
  refine⟨_,(ah (aF (bq (aM (ao A9 (hr.mono (by decide)) (by rfl) (aa (pv 0) (aa (pv 1) ae))))) (ah (cU BW (by rfl))) aw)),?_⟩;refine⟨_,rfl,_,rfl,p,xs,x,rfl,e,hl,th,_,rfl,aB (fun hc=>?_) (fun hc=>?_)⟩
  ·exact k0 (by simpa using hc)
  ·exact k1 (by simpa using hc)
theorem Ja:zQ ["a","b"] ["a","b"] (ag (top 13)):=smk
theorem wA{C:Addr}(Ho:Df K mg "plus" (top 13))(Aq:Fx P w K mg base "ratio" ["top","bottom"] 2 [.int 1] (BH C)):Fn P w K mg base "plus" ["a","b"] 3 (Dz (fun a b c d=>a*d+c*b) (fun a b c d=>b*d)):=by
 refine Ho.fn Ja (fun _ _ _ _ _ _ us hl=>by obtain⟨_,_,rfl⟩:=cO hl;rfl) (fun vs H Q E h=>?_) (fun f cdv A outer s H vs Q E hr h=>?_)
 ·obtain⟨p,q,a,b,c,d,n,rfl,_⟩:=h
  rfl
 ·obtain⟨p,q,a,b,c,d,n,rfl,fp,fq,hn,hden,k⟩:=h
  have ep:=fp.at_;have eq:=fq.at_;have cm:∀{i j:Int},au i≤n->au j≤n->CM i j:=fun hi hj=>CM.b hi hj (Nat.le_trans hn (by decide)) (Nat.le_trans hn (by decide));have fin:∀(r:Addr) (t u:Int),zV (a*d+c*b) (b*d) t u->au t≤2*n+1->au u≤2*n+1->H r=none->Q (.ref r) (upd H r (.tup [.int t,.int u])):=fun r t u fr bt bu hr'=>by
   obtain⟨H1,e1,s1,f1⟩:=oI (o:=.tup [.int t,.int u]) hr';rw[e1];exact k r t u H1 fr ⟨f1,fr.low,bt,bu⟩ s1
  refine⟨_,(ah (am (gZ Aq (hr.mono (by decide)) (by rfl) (aa (ap bz (ap aJ (aj ak (pv 0) ac (fun _ _=>rfl)) (aj ak (pv 1) ac (fun _ _=>rfl))) (ap aJ (aj ak (pv 1) ac (fun _ _=>rfl)) (aj ak (pv 0) ac (fun _ _=>rfl)))) (aa (ap aJ (aj ak (pv 0) ac (fun _ _=>rfl)) (aj ak (pv 1) ac (fun _ _=>rfl))) ae))))),?_⟩;refine⟨_,rfl,p,_,_,_,rfl,rfl,SqT.of ep,rfl,_,rfl,q,_,_,_,rfl,rfl,SqT.of eq,rfl,_,_,rfl,rfl,cm fp.ba fq.bb,_,rfl,q,_,_,_,rfl,rfl,SqT.of eq,rfl,_,rfl,p,_,_,_,rfl,rfl,SqT.of ep,rfl,_,_,rfl,rfl,cm fq.ba fp.bb,_,_,rfl,rfl,?_⟩;refine⟨_,rfl,p,_,_,_,rfl,rfl,SqT.of ep,rfl,_,rfl,q,_,_,_,rfl,rfl,SqT.of eq,rfl,_,_,rfl,rfl,cm fp.bb fq.bb,_,_,2*n+1,rfl,⟨ai (cF (n:=2*n) (ai (bits_mul fp.ba fq.bb) (by omega)) (ai (bits_mul fq.ba fp.bb) (by omega))) (by omega),ai (bits_mul fp.bb fq.bb) (by omega),by omega⟩,fun z=>absurd z hden,fun _ r t u fr bt bu hr'=>fin r t u fr bt bu hr'⟩
theorem IC:zQ ["a","b"] ["a","b"] (ag (top 14)):=smk
theorem u3{C:Addr}(GF:Df K mg "minus" (top 14))(Aq:Fx P w K mg base "ratio" ["top","bottom"] 2 [.int 1] (BH C)):Fn P w K mg base "minus" ["a","b"] 3 (Dz (fun a b c d=>a*d - c*b) (fun a b c d=>b*d)):=by
 refine GF.fn IC (fun _ _ _ _ _ _ us hl=>by obtain⟨_,_,rfl⟩:=cO hl;rfl) (fun vs H Q E h=>?_) (fun f cdv A outer s H vs Q E hr h=>?_)
 ·obtain⟨p,q,a,b,c,d,n,rfl,_⟩:=h
  rfl
 ·obtain⟨p,q,a,b,c,d,n,rfl,fp,fq,hn,hden,k⟩:=h
  have ep:=fp.at_;have eq:=fq.at_;have cm:∀{i j:Int},au i≤n->au j≤n->CM i j:=fun hi hj=>CM.b hi hj (Nat.le_trans hn (by decide)) (Nat.le_trans hn (by decide));have fin:∀(r:Addr) (t u:Int),zV (a*d - c*b) (b*d) t u->au t≤2*n+1->au u≤2*n+1->H r=none->Q (.ref r) (upd H r (.tup [.int t,.int u])):=fun r t u fr bt bu hr'=>by
   obtain⟨H1,e1,s1,f1⟩:=oI (o:=.tup [.int t,.int u]) hr';rw[e1];exact k r t u H1 fr ⟨f1,fr.low,bt,bu⟩ s1
  refine⟨_,(ah (am (gZ Aq (hr.mono (by decide)) (by rfl) (aa (ap bE (ap aJ (aj ak (pv 0) ac (fun _ _=>rfl)) (aj ak (pv 1) ac (fun _ _=>rfl))) (ap aJ (aj ak (pv 1) ac (fun _ _=>rfl)) (aj ak (pv 0) ac (fun _ _=>rfl)))) (aa (ap aJ (aj ak (pv 0) ac (fun _ _=>rfl)) (aj ak (pv 1) ac (fun _ _=>rfl))) ae))))),?_⟩;refine⟨_,rfl,p,_,_,_,rfl,rfl,SqT.of ep,rfl,_,rfl,q,_,_,_,rfl,rfl,SqT.of eq,rfl,_,_,rfl,rfl,cm fp.ba fq.bb,_,rfl,q,_,_,_,rfl,rfl,SqT.of eq,rfl,_,rfl,p,_,_,_,rfl,rfl,SqT.of ep,rfl,_,_,rfl,rfl,cm fq.ba fp.bb,_,_,rfl,rfl,?_⟩;refine⟨_,rfl,p,_,_,_,rfl,rfl,SqT.of ep,rfl,_,rfl,q,_,_,_,rfl,rfl,SqT.of eq,rfl,_,_,rfl,rfl,cm fp.bb fq.bb,_,_,2*n+1,rfl,⟨ai (bG (n:=2*n) (ai (bits_mul fp.ba fq.bb) (by omega)) (ai (bits_mul fq.ba fp.bb) (by omega))) (by omega),ai (bits_mul fp.bb fq.bb) (by omega),by omega⟩,fun z=>absurd z hden,fun _ r t u fr bt bu hr'=>fin r t u fr bt bu hr'⟩
theorem IB:zQ ["a","b"] ["a","b"] (ag (top 15)):=smk
theorem uY{C:Addr}(GD:Df K mg "times" (top 15))(Aq:Fx P w K mg base "ratio" ["top","bottom"] 2 [.int 1] (BH C)):Fn P w K mg base "times" ["a","b"] 3 (Dz (fun a b c d=>a*c) (fun a b c d=>b*d)):=by
 refine GD.fn IB (fun _ _ _ _ _ _ us hl=>by obtain⟨_,_,rfl⟩:=cO hl;rfl) (fun vs H Q E h=>?_) (fun f cdv A outer s H vs Q E hr h=>?_)
 ·obtain⟨p,q,a,b,c,d,n,rfl,_⟩:=h
  rfl
 ·obtain⟨p,q,a,b,c,d,n,rfl,fp,fq,hn,hden,k⟩:=h
  have ep:=fp.at_;have eq:=fq.at_;have cm:∀{i j:Int},au i≤n->au j≤n->CM i j:=fun hi hj=>CM.b hi hj (Nat.le_trans hn (by decide)) (Nat.le_trans hn (by decide));have fin:∀(r:Addr) (t u:Int),zV (a*c) (b*d) t u->au t≤2*n+1->au u≤2*n+1->H r=none->Q (.ref r) (upd H r (.tup [.int t,.int u])):=fun r t u fr bt bu hr'=>by
   obtain⟨H1,e1,s1,f1⟩:=oI (o:=.tup [.int t,.int u]) hr';rw[e1];exact k r t u H1 fr ⟨f1,fr.low,bt,bu⟩ s1
  refine⟨_,(ah (am (gZ Aq (hr.mono (by decide)) (by rfl) (aa (ap aJ (aj ak (pv 0) ac (fun _ _=>rfl)) (aj ak (pv 1) ac (fun _ _=>rfl))) (aa (ap aJ (aj ak (pv 0) ac (fun _ _=>rfl)) (aj ak (pv 1) ac (fun _ _=>rfl))) ae))))),?_⟩;exact⟨_,rfl,p,_,_,_,rfl,rfl,SqT.of ep,rfl,_,rfl,q,_,_,_,rfl,rfl,SqT.of eq,rfl,_,_,rfl,rfl,cm fp.ba fq.ba,_,rfl,p,_,_,_,rfl,rfl,SqT.of ep,rfl,_,rfl,q,_,_,_,rfl,rfl,SqT.of eq,rfl,_,_,rfl,rfl,cm fp.bb fq.bb,_,_,2*n+1,rfl,⟨ai (bits_mul fp.ba fq.ba) (by omega),ai (bits_mul fp.bb fq.bb) (by omega),by omega⟩,fun z=>absurd z hden,fun _ r t u fr bt bu hr'=>fin r t u fr bt bu hr'⟩
theorem Jb:zQ ["a","b"] ["a","b"] (ag (top 16)):=smk
theorem wB{C:Addr}(Hq:Df K mg "over" (top 16))(Aq:Fx P w K mg base "ratio" ["top","bottom"] 2 [.int 1] (BH C)):Fn P w K mg base "over" ["a","b"] 3 (Dz (fun a b c d=>a*d) (fun a b c d=>b*c)):=by
 refine Hq.fn Jb (fun _ _ _ _ _ _ us hl=>by obtain⟨_,_,rfl⟩:=cO hl;rfl) (fun vs H Q E h=>?_) (fun f cdv A outer s H vs Q E hr h=>?_)
 ·obtain⟨p,q,a,b,c,d,n,rfl,_⟩:=h
  rfl
 ·obtain⟨p,q,a,b,c,d,n,rfl,fp,fq,hn,hden,k⟩:=h
  have ep:=fp.at_;have eq:=fq.at_;have cm:∀{i j:Int},au i≤n->au j≤n->CM i j:=fun hi hj=>CM.b hi hj (Nat.le_trans hn (by decide)) (Nat.le_trans hn (by decide));have fin:∀(r:Addr) (t u:Int),zV (a*d) (b*c) t u->au t≤2*n+1->au u≤2*n+1->H r=none->Q (.ref r) (upd H r (.tup [.int t,.int u])):=fun r t u fr bt bu hr'=>by
   obtain⟨H1,e1,s1,f1⟩:=oI (o:=.tup [.int t,.int u]) hr';rw[e1];exact k r t u H1 fr ⟨f1,fr.low,bt,bu⟩ s1
  refine⟨_,(ah (am (gZ Aq (hr.mono (by decide)) (by rfl) (aa (ap aJ (aj ak (pv 0) ac (fun _ _=>rfl)) (aj ak (pv 1) ac (fun _ _=>rfl))) (aa (ap aJ (aj ak (pv 0) ac (fun _ _=>rfl)) (aj ak (pv 1) ac (fun _ _=>rfl))) ae))))),?_⟩;exact⟨_,rfl,p,_,_,_,rfl,rfl,SqT.of ep,rfl,_,rfl,q,_,_,_,rfl,rfl,SqT.of eq,rfl,_,_,rfl,rfl,cm fp.ba fq.bb,_,rfl,p,_,_,_,rfl,rfl,SqT.of ep,rfl,_,rfl,q,_,_,_,rfl,rfl,SqT.of eq,rfl,_,_,rfl,rfl,cm fp.bb fq.ba,_,_,2*n+1,rfl,⟨ai (bits_mul fp.ba fq.bb) (by omega),ai (bits_mul fp.bb fq.ba) (by omega),by omega⟩,fun z=>absurd z hden,fun _ r t u fr bt bu hr'=>fin r t u fr bt bu hr'⟩
theorem Jc:zQ ["a","b"] ["a","b"] (ag (top 17)):=smk
theorem wC(Hr:Df K mg "less" (top 17)):Fn P w K mg base "less" ["a","b"] 1 Hz:=by
 refine Hr.fn Jc (fun _ _ _ _ _ _ us hl=>by obtain⟨_,_,rfl⟩:=cO hl;rfl) (fun vs H Q E h=>?_) (fun f cdv A outer s H vs Q E hr h=>?_)
 ·obtain⟨p,q,a,b,c,d,rfl,_⟩:=h
  rfl
 ·obtain⟨p,q,a,b,c,d,rfl,hp,hq,⟨ba,bb,bc,bd⟩,k⟩:=h
  refine⟨_,(ah (am (aT lH (ap aJ (aj ak (pv 0) ac (fun _ _=>rfl)) (aj ak (pv 1) ac (fun _ _=>rfl))) (ap aJ (aj ak (pv 1) ac (fun _ _=>rfl)) (aj ak (pv 0) ac (fun _ _=>rfl))) (aq _)))),?_⟩;refine⟨_,rfl,p,_,_,_,rfl,rfl,SqT.of hp,rfl,_,rfl,q,_,_,_,rfl,rfl,SqT.of hq,rfl,a,d,rfl,rfl,CM.b ba bd (by decide) (by decide),?_⟩;refine⟨_,rfl,q,_,_,_,rfl,rfl,SqT.of hq,rfl,_,rfl,p,_,_,_,rfl,rfl,SqT.of hp,rfl,c,b,rfl,rfl,CM.b bc bb (by decide) (by decide),?_⟩;exact⟨_,_,rfl,rfl,k⟩
theorem Ff:zQ ["begin","end","place","rest"] ["begin","end","place"] (ag (top 34)):=smk
theorem mU{C:Addr}(DU:Df K mg "number_at" (top 34))(Aq:Fx P w K mg base "ratio" ["top","bottom"] 2 [.int 1] (BH C)):Fn P w K mg base "number_at" ["begin","end","place"] 3 Gp:=by
 refine DU.fn Ff (fun _ _ _ _ _ _ us hl=>by obtain⟨_,_,_,rfl⟩:=fI hl;rfl) (fun vs H Q E h=>?_) (fun f cdv A outer s H vs Q E hr h=>?_)
 ·obtain⟨x,y,p,t,b,rfl,_⟩:=h
  rfl
 ·obtain⟨x,y,p,t,b,rfl,fp,bx,by',k⟩:=h
  have hb:=fp.low.pos;have ep:=fp.at_;have br:au (t % b)≤200:=de (Int.emod_nonneg _ (by omega)) (Int.le_of_lt (Int.emod_lt_of_pos _ (by omega))) fp.bb;refine⟨_,(af (av (i:=3) Ff.nd rfl (Or.inl rfl) (ap dE (aj ak (pv 2) ac (fun _ _=>rfl)) (aj ak (pv 2) ac (fun _ _=>rfl)))) (ah (am (gZ Aq (hr.mono (by decide)) (by rfl) (aa (ap bz (ap aJ (pv 0) (aj ak (pv 2) ac (fun _ _=>rfl))) (ap aJ (ap bE (pv 1) (pv 0)) (pv 3))) (aa (aj ak (pv 2) ac (fun _ _=>rfl)) ae)))))),?_⟩;refine⟨_,rfl,p,_,_,_,rfl,rfl,SqT.of ep,rfl,_,rfl,p,_,_,_,rfl,rfl,SqT.of ep,rfl,_,_,rfl,rfl,(by show(0:Int)<b;omega),?_⟩;refine⟨_,rfl,_,rfl,p,_,_,_,rfl,rfl,SqT.of ep,rfl,_,_,rfl,rfl,CM.b bx fp.bb (by decide) (by decide),_,rfl,_,rfl,_,_,rfl,rfl,_,rfl,_,_,rfl,rfl,CM.b (bG by' bx) br (by decide) (by decide),_,_,rfl,rfl,?_⟩;refine⟨_,rfl,p,_,_,_,rfl,rfl,SqT.of ep,rfl,_,_,262,rfl,⟨ai (cF (n:=261) (ai (bits_mul bx fp.bb) (by decide)) (bits_mul (bG by' bx) br)) (by decide),ai fp.bb (by decide),by decide⟩,fun z=>absurd z (by omega),fun _ r u v fr bu bv hr'=>?_⟩;obtain⟨H1,e1,s1,f1⟩:=oI (o:=.tup [.int u,.int v]) hr';rw[e1];exact k r u v H1 fr ⟨f1,fr.low,bu,bv⟩ s1
theorem CV:zQ ["line","place","corner","begin","end"] ["line","place"] (ag (top 35)):=smk
theorem oP{C:Addr}(Ep:Df K mg "point_at" (top 35))(BL:Fx P w K mg base "look_at_place" ["line","thing"] 4 [] (GX C))(Bz:Fn P w K mg base "floor_of" ["a"] 1 Fs)(AH:Fn P w K mg base "last_of" ["line"] 1 FA)(Co:Fn P w K mg base "number_at" ["begin","end","place"] 3 Gp)(T:Txt mg) :
  Fx P w K mg base "point_at" ["line","place"] 5 [] (Fq C):=by
 refine Ep.fx CV (fun _ _ _ _ _ _ us hl=>by obtain⟨_,_,rfl⟩:=cO hl;rfl) (fun vs H Q E h=>?_) (fun f cdv A outer s H vs Q E hr h=>?_)
 ·obtain⟨l,qs,x,rfl,_⟩:=h
  rfl
 ·obtain⟨l,qs,x,rfl,L,h1,h20,th,k0,k1⟩:=h
  have hll:(qs.map fun (q:Addr×Int×Int)=>V.ref q.1).length=qs.length:=List.length_map _;refine⟨_,(af (eS (dj BL (hr.mono (by decide)) (by rfl) (aa (pv 0) (aa (pv 1) ae)))) (af (av (i:=2) CV.nd rfl (Or.inl rfl) (ao Bz (hr.mono (by decide)) (by rfl) (aa (pv 1) ae))) (af (av (i:=3) CV.nd rfl (Or.inl rfl) (aj aC (pv 0) (pv 2) (fun _ _=>rfl))) (af (av (i:=4) CV.nd rfl (Or.inl rfl) (aj aC (pv 0) (az (je rfl) (by rfl) T.z_min qK (aa (ap bz (pv 2) ac) (aa (ao AH (hr.mono (by decide)) (by rfl) (aa (pv 0) ae)) ae))) (fun _ _=>rfl))) (ah (am (pZ (aa (ao Co (hr.mono (by decide)) (by rfl) (aa (aj ak (pv 3) ac (fun _ _=>rfl)) (aa (aj ak (pv 4) ac (fun _ _=>rfl)) (aa (pv 1) ae)))) (aa (ao Co (hr.mono (by decide)) (by rfl) (aa (aj ak (pv 3) ac (fun _ _=>rfl)) (aa (aj ak (pv 4) ac (fun _ _=>rfl)) (aa (pv 1) ae)))) ae))))))))),?_⟩;refine⟨_,rfl,_,rfl,l,_,x,rfl,L.lst,by rw[hll];omega,th,fun z=>k0 (by rw[hll]at z;exact z),fun hx=>?_⟩;rw[hll]at hx;obtain⟨p,t,b,rfl,ep,lw,t0,t1⟩:=gY hx;obtain⟨bt,bb,k⟩:=k1 p t b rfl ep lw t0 t1;have hb:=lw.pos;have fp:CP H p t b 200:=⟨ep,lw,bt,bb⟩;have q0:0≤t / b:=lV (by omega) t0;have qn:t / b≤(qs.length:Int) - 1:=Int.ediv_le_of_le_mul (by omega) t1;refine⟨_,rfl,p,t,b,rfl,ep,⟨by omega,ai bb (by decide)⟩,?_⟩;have atq:∀(j:Nat) (k:Int),k=(j:Int)->j<qs.length->atI (qs.map fun (q:Addr×Int×Int)=>V.ref q.1) k=some (.ref (qs.getD j (0,0,0)).1)∧qs.getD j (0,0,0)∈qs:=fun j k ek hj=>by
   have e1:qs.getD j (0,0,0)=qs[j]:=by rw[List.getD_eq_getElem?_getD,List.getElem?_eq_getElem hj];rfl
   rw[e1];subst ek;exact⟨dP (by rw[List.getElem?_map,List.getElem?_eq_getElem hj];rfl),List.getElem_mem hj⟩
  obtain⟨a0,m0⟩:=atq (t / b).toNat (t / b) (by omega) (by omega);refine⟨_,rfl,_,rfl,l,_,_,_,rfl,rfl,SqL.of L.lst,a0,?_⟩;obtain⟨a1,m1⟩:=atq (min ((t / b).toNat+1) (qs.length - 1)) (if ((((qs.map fun (q:Addr×Int×Int)=>V.ref q.1).length:Nat):Int) - 1)<t / b+1 then ((((qs.map fun (q:Addr×Int×Int)=>V.ref q.1).length:Nat):Int) - 1) else t / b+1) (by rw[hll];split <;> omega) (by omega)
  refine⟨_,rfl,_,rfl,_,_,rfl,rfl,_,rfl,l,_,rfl,L.lst,_,_,rfl,l,_,_,_,rfl,rfl,SqL.of L.lst,a1,?_⟩;have c0:=L.crn _ m0;have c1:=L.crn _ m1;refine⟨_,rfl,_,_,_,_,rfl,rfl,SqT.of c0.1,rfl,_,rfl,_,_,_,_,rfl,rfl,SqT.of c1.1,rfl,_,rfl,_,_,p,t,b,rfl,fp,ai c0.2.1 (by decide),ai c1.2.1 (by decide),fun rx u v H1 fr1 g1 s1=>?_⟩;refine⟨_,rfl,_,_,_,_,rfl,rfl,SqT.of (s1 _ _ c0.1),rfl,_,rfl,_,_,_,_,rfl,rfl,SqT.of (s1 _ _ c1.1),rfl,_,rfl,_,_,p,t,b,rfl,fp.mono s1,ai c0.2.2 (by decide),ai c1.2.2 (by decide),fun ry c d H2 fr2 g2 s2=>?_⟩;refine⟨sz (by simp),fun r hr'=>?_⟩;obtain⟨H3,e3,s3,f3⟩:=oI (o:=.tup [.ref rx,.ref ry]) hr';rw[e3];exact k r H3 ⟨⟨rx,ry,u,v,c,d,f3,(g1.mono s2).mono s3,g2.mono s3,fr1,fr2⟩⟩ (s1.trans (s2.trans s3))
theorem GH:zQ ["begin","end"] ["begin","end"] (ag (top 37)):=smk
theorem mQ(DQ:Df K mg "step_from" (top 37))(Dc:Fn P w K mg base "minus" ["a","b"] 3 (Dz (fun a b c d=>a*d - c*b) (fun a b c d=>b*d))):Fn P w K mg base "step_from" ["begin","end"] 4 Gf:=by
 refine DQ.fn GH (fun _ _ _ _ _ _ us hl=>by obtain⟨_,_,rfl⟩:=cO hl;rfl) (fun vs H Q E h=>?_) (fun f cdv A outer s H vs Q E hr h=>?_)
 ·obtain⟨p,q,u,v,c,d,u',v',c',d',rfl,_⟩:=h
  rfl
 ·obtain⟨p,q,u,v,c,d,u',v',c',d',rfl,fp,fq,k⟩:=h
  obtain⟨px,py,ep,gx,gy⟩:=fp.ex;obtain⟨qx,qy,eq,hx,hy⟩:=fq.ex;have nz:∀{x y:Int},1≤x->1≤y->x*y≠0:=fun hx hy=>Int.mul_ne_zero (by omega) (by omega);refine⟨_,(ah (am (pZ (aa (ao Dc (hr.mono (by decide)) (by rfl) (aa (aj ak (pv 1) ac (fun _ _=>rfl)) (aa (aj ak (pv 0) ac (fun _ _=>rfl)) ae))) (aa (ao Dc (hr.mono (by decide)) (by rfl) (aa (aj ak (pv 1) ac (fun _ _=>rfl)) (aa (aj ak (pv 0) ac (fun _ _=>rfl)) ae))) ae))))),?_⟩;refine⟨_,rfl,q,_,_,_,rfl,rfl,SqT.of eq,rfl,_,rfl,p,_,_,_,rfl,rfl,SqT.of ep,rfl,qx,px,u',v',u,v,262,rfl,hx,gx,by decide,nz hx.low.pos gx.low.pos,fun r1 a b H1 fr1 g1 s1=>?_⟩;refine⟨_,rfl,q,_,_,_,rfl,rfl,SqT.of (s1 _ _ eq),rfl,_,rfl,p,_,_,_,rfl,rfl,SqT.of (s1 _ _ ep),rfl,qy,py,c',d',c,d,262,rfl,hy.mono s1,gy.mono s1,by decide,nz hy.low.pos gy.low.pos,fun r2 e f H2 fr2 g2 s2=>?_⟩;refine⟨sz (by simp),fun r hr'=>?_⟩;obtain⟨H3,e3,s3,f3⟩:=oI (o:=.tup [.ref r1,.ref r2]) hr';rw[e3];exact k r a b e f H3 fr1 fr2 ⟨⟨r1,r2,f3,(g1.mono s2).mono s3,g2.mono s3⟩⟩ (s1.trans (s2.trans s3))
theorem Fm:zQ ["one","other"] ["one","other"] (ag (top 38)):=smk
theorem i7(BT:Df K mg "inner_product" (top 38))(E2:Fn P w K mg base "plus" ["a","b"] 3 (Dz (fun a b c d=>a*d+c*b) (fun a b c d=>b*d)))(Da:Fn P w K mg base "times" ["a","b"] 3 (Dz (fun a b c d=>a*c) (fun a b c d=>b*d))):Fn P w K mg base "inner_product" ["one","other"] 4 Fr:=by
 refine BT.fn Fm (fun _ _ _ _ _ _ us hl=>by obtain⟨_,_,rfl⟩:=cO hl;rfl) (fun vs H Q E h=>?_) (fun f cdv A outer s H vs Q E hr h=>?_)
 ·obtain⟨p,q,a,b,e,f,a',b',e',f',rfl,_⟩:=h
  rfl
 ·obtain⟨p,q,a,b,e,f,a',b',e',f',rfl,fp,fq,k⟩:=h
  obtain⟨qx,qy,eq,hx,hy⟩:=fq.ex;obtain⟨px,py,ep,gx,gy⟩:=fp.ex;have nz:∀{x y:Int},1≤x->1≤y->x*y≠0:=fun hx hy=>Int.mul_ne_zero (by omega) (by omega);refine⟨_,(ah (am (ao E2 (hr.mono (by decide)) (by rfl) (aa (ao Da (hr.mono (by decide)) (by rfl) (aa (aj ak (pv 0) ac (fun _ _=>rfl)) (aa (aj ak (pv 1) ac (fun _ _=>rfl)) ae))) (aa (ao Da (hr.mono (by decide)) (by rfl) (aa (aj ak (pv 0) ac (fun _ _=>rfl)) (aa (aj ak (pv 1) ac (fun _ _=>rfl)) ae))) ae))))),?_⟩;refine⟨_,rfl,p,_,_,_,rfl,rfl,SqT.of ep,rfl,_,rfl,q,_,_,_,rfl,rfl,SqT.of eq,rfl,px,qx,a,b,a',b',525,rfl,gx,hx,by decide,nz gx.low.pos hx.low.pos,fun r1 m n H1 fr1 g1 s1=>?_⟩;refine⟨_,rfl,p,_,_,_,rfl,rfl,SqT.of (s1 _ _ ep),rfl,_,rfl,q,_,_,_,rfl,rfl,SqT.of (s1 _ _ eq),rfl,py,qy,e,f,e',f',525,rfl,gy.mono s1,hy.mono s1,by decide,nz gy.low.pos hy.low.pos,fun r2 m' n' H2 fr2 g2 s2=>?_⟩;exact⟨r1,r2,m,n,m',n',1051,rfl,g1.mono s2,g2,by decide,nz g1.low.pos g2.low.pos,fun r s' w' H3 fr3 g3 s3=>k r m n m' n' s' w' H3 fr1 fr2 fr3 g3 (s1.trans (s2.trans s3))⟩
theorem CL:zQ ["begin","end","step"] ["begin","end"] (ag (top 39)):=smk
theorem iB(BA:Df K mg "square_between" (top 39))(AR:Fn P w K mg base "step_from" ["begin","end"] 4 Gf)(Ai:Fn P w K mg base "inner_product" ["one","other"] 4 Fr):Fn P w K mg base "square_between" ["begin","end"] 5 Hs:=by
 refine BA.fn CL (fun _ _ _ _ _ _ us hl=>by obtain⟨_,_,rfl⟩:=cO hl;rfl) (fun vs H Q E h=>?_) (fun f cdv A outer s H vs Q E hr h=>?_)
 ·obtain⟨p,q,X,Y,b,X',Y',b',rfl,_⟩:=h
  rfl
 ·obtain⟨p,q,X,Y,b,X',Y',b',rfl,fp,fq,hb,hb',k⟩:=h
  obtain⟨px,py,u,v,c,d,ep,gx,gy,f1,f2⟩:=fp.ex;obtain⟨qx,qy,u',v',c',d',eq,hx,hy,f3,f4⟩:=fq.ex;refine⟨_,(af (av (i:=2) CL.nd rfl (Or.inl rfl) (ao AR (hr.mono (by decide)) (by rfl) (aa (pv 0) (aa (pv 1) ae)))) (ah (am (ao Ai (hr.mono (by decide)) (by rfl) (aa (pv 2) (aa (pv 2) ae)))))),?_⟩;refine⟨_,rfl,_,rfl,p,q,u,v,c,d,u',v',c',d',rfl,⟨⟨px,py,ep,gx,gy⟩⟩,⟨⟨qx,qy,eq,hx,hy⟩⟩,fun r a e a' e' H1 g1 g2 pf s1=>?_⟩;exact⟨_,rfl,_,rfl,r,r,a,e,a',e',a,e,a',e',rfl,pf,pf,fun r2 m n m' n' s' w' H2 k1 k2 k3 g3 s2=>k r2 s' w' H2 (qP f1 f2 f3 f4 g1 g2 k1 k2 k3) g3 (s1.trans s2)⟩
theorem GI:zQ ["one","x","other","y"] ["one","x","other","y"] (ag (top 40)):=smk
theorem mR{C:Addr}(DR:Df K mg "square_of" (top 40))(Ak:Fn P w K mg base "square_between" ["begin","end"] 5 Hs)(Av:Fx P w K mg base "point_at" ["line","place"] 5 [] (Fq C)):Fx P w K mg base "square_of" ["one","x","other","y"] 6 [] (Fv C):=by
 refine DR.fx GI (fun _ _ _ _ _ _ us hl=>by obtain⟨_,_,_,_,rfl⟩:=ir hl;rfl) (fun vs H Q E h=>?_) (fun f cdv A outer s H vs Q E hr h=>?_)
 ·obtain⟨l,l',qs,qs',x,y,rfl,_⟩:=h
  rfl
 ·obtain⟨l,l',qs,qs',x,y,rfl,L,L',h1,h1',tx,ty,h⟩:=h
  refine⟨_,(ah (am (ao Ak (hr.mono (by decide)) (by rfl) (aa (dj Av (hr.mono (by decide)) (by rfl) (aa (pv 0) (aa (pv 1) ae))) (aa (dj Av (hr.mono (by decide)) (by rfl) (aa (pv 2) (aa (pv 3) ae))) ae))))),?_⟩;refine⟨_,rfl,_,rfl,l,qs,x,rfl,L,h1.1,h1.2,tx,fun z=>?_,fun p t b ep eH lw t0 t1=>?_⟩
  ·rcases h with h|⟨p,t,b,rfl,pl,_⟩
   ·exact h.2
   ·rw[show aU ((qs.length:Int) - 1) H (.ref p)=true from pl.place]at z
    cases z
  rcases h with h|⟨p',t',b',rfl,pl,h⟩
  ·subst ep
   have z:=h.1;rw[show aU (aP qs) H (.ref p)=true from gu eH lw t0 t1]at z;cases z
  cases ep;have e2:=pl.at_;rw[eH]at e2;cases e2;refine⟨pl.bt,pl.bb,fun r H1 pt s1=>?_⟩;refine⟨_,rfl,_,rfl,l',qs',y,rfl,L'.mono s1,h1'.1,h1'.2,Ay.mono ty s1,fun z=>?_,fun q u c eq' eH' lw' u0 u1=>?_⟩
  ·rcases h with h|⟨q,u,c,rfl,pl',_⟩
   ·exact h.2 H1 s1
   ·rw[show aU ((qs'.length:Int) - 1) H1 (.ref q)=true from(pl'.mono s1).place]at z
    cases z
  rcases h with h|⟨q',u',c',rfl,pl',k⟩
  ·subst eq'
   have z:=h.1;obtain⟨kd,kn⟩:=ty.kn;rw[<- dh kn s1,show aU (aP qs') H1 (.ref q)=true from gu eH' lw' u0 u1]at z;cases z
  cases eq';have e3:=(pl'.mono s1).at_;rw[eH']at e3;cases e3;refine⟨pl'.bt,pl'.bb,fun r' H2 pt' s2=>?_⟩;have hb:=lw.pos;have hc:=lw'.pos;exact⟨r,r',_,_,_,_,_,_,rfl,pt.mono s2,pt',by omega,by omega,fun r2 s' w' H3 fr f3 s3=>k r2 s' w' H3 fr f3 (s1.trans (s2.trans s3))⟩
theorem Ar:zQ ["one","other","low","high"] ["one","other"] (ag (top 36)):=smk
theorem g9{C:Addr}(Bp:Df K mg "share_a_stretch" (top 36))(AI:Fn P w K mg base "less" ["a","b"] 1 Bh)(Bz:Fn P w K mg base "floor_of" ["a"] 1 Fs)(Aq:Fx P w K mg base "ratio" ["top","bottom"] 2 [.int 1] (Gm C)):Fn P w K mg base "share_a_stretch" ["one","other"] 3 Gh:=by
 refine Bp.fn Ar (fun _ _ _ _ _ _ us hl=>by obtain⟨_,_,rfl⟩:=cO hl;rfl) (fun vs H Q E h=>?_) (fun f cdv A outer s H vs Q E hr h=>?_)
 ·obtain⟨p,q,a,b,c,d,rfl,_⟩:=h
  rfl
 ·obtain⟨p,q,a,b,c,d,rfl,ep,eq,sa,sc,k⟩:=h
  have R:∃u:TS,PSs (aN CX0 P w K mg base ["one","other","low","high"] "share_a_stretch" (ag (top 36)) f cdv A outer s H E).nox ((aA (top 36)).drop 3) u∧∀(z1 z2:Option V) (lo hi:Addr) (a b c d:Int),H lo=some (.tup [.int a,.int b])->H hi=some (.tup [.int c,.int d])->Ea a b->Ea c d ->
    (∀H',Same H H'->Q (.bl (!decide ((a / b+1)*d<c*1))) H')->u { nx:=fun _ H'=>Q .non H',rt:=Q } [z1,z2,some (.ref lo),some (.ref hi)] H:=by
   refine⟨_,(ah (am (fF (ao AI (hr.mono (by decide)) (by rfl) (aa (vS Aq (hr.mono (by decide)) (by rfl) (aa (ap bz (ao Bz (hr.mono (by decide)) (by rfl) (aa (pv 2) ae)) ac) ae)) (aa (pv 3) ae)))))),?_⟩;intro z1 z2 lo hi a b c d elo ehi sa sc k;have b1:au 1≤2000:=ai (m:=1) (by decide) (by decide);have bf:au (a / b+1)≤1001:=cF (cH sa.pos sa.ba) (ai (m:=1) (by decide) (by decide));refine⟨_,rfl,lo,a,b,rfl,elo,⟨sa.pos,ai sa.bb (by decide)⟩,_,_,rfl,rfl,_,1,rfl,⟨ai bf (by decide),b1⟩,fun z=>absurd z (by decide),fun _ r t u fr bt bu hr'=>?_⟩;obtain⟨et,eu⟩:=jk (by decide) fr (sT ⟨Int.le_refl 1,Int.gcd_one⟩);subst et eu;obtain⟨H1,e1,s1,f1⟩:=oI (o:=.tup [.int (a / b+1),.int 1]) hr';rw[e1];exact⟨_,rfl,r,hi,a / b+1,1,c,d,rfl,f1,s1 _ _ ehi,⟨ai bf (by decide),b1,ai sc.ba (by decide),ai sc.bb (by decide)⟩,_,rfl,k H1 s1⟩
  obtain⟨u,hu,rd⟩:=R;refine⟨_,(af (av (i:=2) Ar.nd rfl (Or.inl rfl) (pv 0)) (af (av (i:=3) Ar.nd rfl (Or.inl rfl) (pv 1)) (af (aF (aM (ao AI (hr.mono (by decide)) (by rfl) (aa (pv 1) (aa (pv 0) ae)))) (af (av (i:=2) Ar.nd rfl (Or.inl rfl) (pv 1)) (ah (av (i:=3) Ar.nd rfl (Or.inl rfl) (pv 0)))) aw) hu))),?_⟩;refine⟨_,rfl,_,rfl,?_⟩;refine⟨_,rfl,_,rfl,q,p,c,d,a,b,rfl,eq,ep,⟨ai sc.ba (by decide),ai sc.bb (by decide),ai sa.ba (by decide),ai sa.bb (by decide)⟩,_,rfl,aB (fun hc=>?_) (fun hc=>?_)⟩
  ·have h:c*b<a*d:=by simpa using hc
   refine⟨_,rfl,_,rfl,rd _ _ q p c d a b eq ep sc sa fun H' s'=>?_⟩;have z:=k H' s';unfold bD at z;rw[if_pos h]at z;exact z
  ·have h:¬c*b<a*d:=by simpa using hc
   refine rd _ _ p q a b c d ep eq sa sc fun H' s'=>?_;have z:=k H' s';unfold bD at z;rw[if_neg h]at z;exact z
theorem BX:zQ ["point","begin","end","step","part"] ["point","begin","end"] (ag (top 41)):=smk
theorem jq(Ce:Df K mg "nearest_part" (top 41))(AR:Fn P w K mg base "step_from" ["begin","end"] 4 Gf)(Ai:Fn P w K mg base "inner_product" ["one","other"] 4 Fr)(Hn:Fn P w K mg base "over" ["a","b"] 3 (Dz (fun a b c d=>a*d) (fun a b c d=>b*c)))(AI:Fn P w K mg base "less" ["a","b"] 1 Hz):Fn P w K mg base "nearest_part" ["point","begin","end"] 5 GV:=by
 refine Ce.fn BX (fun _ _ _ _ _ _ us hl=>by obtain⟨_,_,_,rfl⟩:=fI hl;rfl) (fun vs H Q E h=>?_) (fun f cdv A outer s H vs Q E hr h=>?_)
 ·obtain⟨p,p1,p2,X,Y,b,X1,Y1,b1,X2,Y2,b2,rfl,_⟩:=h
  rfl
 ·obtain⟨p,p1,p2,X,Y,b,X1,Y1,b1,X2,Y2,b2,rfl,pt,pt1,pt2,hb,hb1,hb2,k⟩:=h
  refine⟨_,(af (aF (ar (qk hr.units10) (pv 1) (pv 2) (aq _)) (ah (am (aG (aa ac (aa ac ae))))) aw) (af (av (i:=3) BX.nd rfl (Or.inl rfl) (ao AR (hr.mono (by decide)) (by rfl) (aa (pv 1) (aa (pv 2) ae)))) (af (av (i:=4) BX.nd rfl (Or.inl rfl) (ao Hn (hr.mono (by decide)) (by rfl) (aa (ao Ai (hr.mono (by decide)) (by rfl) (aa (ao AR (hr.mono (by decide)) (by rfl) (aa (pv 1) (aa (pv 0) ae))) (aa (pv 3) ae))) (aa (ao Ai (hr.mono (by decide)) (by rfl) (aa (pv 3) (aa (pv 3) ae))) ae)))) (af (aF (aM (ao AI (hr.mono (by decide)) (by rfl) (aa (pv 4) (aa (aG (aa ac (aa ac ae))) ae)))) (ah (am (aG (aa ac (aa ac ae))))) aw) (af (aF (aM (ao AI (hr.mono (by decide)) (by rfl) (aa (aG (aa ac (aa ac ae))) (aa (pv 4) ae)))) (ah (am (aG (aa ac (aa ac ae))))) aw) (ah (am (pv 4)))))))),?_⟩;obtain⟨px,py,u,v,c,d,ep,gx,gy,f1,f2⟩:=pt.ex;obtain⟨qx,qy,u1,v1,c1,d1,eq,hx,hy,f3,f4⟩:=pt1.ex;obtain⟨rx,ry,u2,v2,c2,d2,er,kx,ky,f5,f6⟩:=pt2.ex;have F0:HK H p u v c d 262:=⟨⟨px,py,ep,gx,gy⟩⟩;have F1:HK H p1 u1 v1 c1 d1 262:=⟨⟨qx,qy,eq,hx,hy⟩⟩;have F2:HK H p2 u2 v2 c2 d2 262:=⟨⟨rx,ry,er,kx,ky⟩⟩;have b01:au 0≤4207∧au 1≤4207:=⟨by decide,by decide⟩;have Z:∀{H':Hp} {r:Addr},H' r=some (.tup [.int 0,.int 1])->CP H' r 0 1 4207:=fun e=>⟨e,⟨by decide,by decide⟩,b01.1,b01.2⟩;have O:∀{H':Hp} {r:Addr},H' r=some (.tup [.int 1,.int 1])->CP H' r 1 1 4207:=fun e=>⟨e,⟨by decide,by decide⟩,b01.2,b01.2⟩;refine⟨_,rfl,_,rfl,_,_,w9 F1,w9 F2,_,rfl,aB (fun h1=>?_) (fun h1=>?_)⟩
  ·have h1:(u1=u2∧v1=v2)∧(c1=c2∧d1=d2):=by simpa[deq,gO]using h1
   exact⟨sz (by simp),fun r H1 s1 f1' _=>k r 0 1 H1 (Z f1') (.inl ⟨⟨(jJ (by omega) (by omega) f3 f5).mpr h1.1,(jJ (by omega) (by omega) f4 f6).mpr h1.2⟩,rfl,rfl⟩) s1⟩
  have h1:¬((u1=u2∧v1=v2)∧(c1=c2∧d1=d2)):=by simpa[deq,gO]using h1
  have hS:0<(X2*b1 - X1*b2)*(X2*b1 - X1*b2)+(Y2*b1 - Y1*b2)*(Y2*b1 - Y1*b2):=by
   have q:∀x:Int,0≤x*x:=fun x=>gC (by omega);have q1:=q (X2*b1 - X1*b2);have q2:=q (Y2*b1 - Y1*b2)
   by_cases z:(X2*b1 - X1*b2)*(X2*b1 - X1*b2)+(Y2*b1 - Y1*b2)*(Y2*b1 - Y1*b2)=0
   ·obtain⟨z1,z2⟩:=qO z
    exact absurd ⟨(jJ (by omega) (by omega) f3 f5).mp (by omega),(jJ (by omega) (by omega) f4 f6).mp (by omega)⟩ h1
   ·omega
  have hN:0<nN b X1 Y1 b1 X2 Y2 b2:=Int.mul_pos hb hS;refine⟨_,rfl,_,rfl,p1,p2,u1,v1,c1,d1,u2,v2,c2,d2,rfl,F1,F2,fun st a e a' e' H1 g1 g2 pf s1=>?_⟩;refine⟨_,rfl,_,rfl,p1,p,u1,v1,c1,d1,u,v,c,d,rfl,F1.mono s1,F0.mono s1,fun st2 a2 e2 a2' e2' H2 g3 g4 pf2 s2=>?_⟩;refine⟨_,rfl,st2,st,a2,e2,a2',e2',a,e,a',e',rfl,pf2,pf.mono s2,fun r1 m n m' n' i j H3 k1 k2 k3 g5 s3=>?_⟩;refine⟨_,rfl,_,rfl,st,st,a,e,a',e',a,e,a',e',rfl,(pf.mono s2).mono s3,(pf.mono s2).mono s3,fun r2 m2 n2 m2' n2' i2 j2 H4 l1 l2 l3 g6 s4=>?_⟩;have hi:=ul hb1 hb2 f3 f4 f5 f6 g1 g2 l1 l2 l3 hS;have hj:=k3.low.pos;refine⟨r1,r2,i,j,i2,j2,2103,rfl,g5.mono s4,g6,by decide,Int.mul_ne_zero (by omega) (by omega),fun rp t w' H5 fin g7 s5=>?_⟩;have eN:=v0 (by omega) (by omega) (by omega) f1 f2 f3 f4 f5 f6 g1 g2 g3 g4 k1 k2 k3 l1 l2 l3 (by omega) fin (by omega);have hw:=fin.low.pos;obtain⟨c1',c2'⟩:=yP (by omega) hN eN;have S5:=s1.trans (s2.trans (s3.trans (s4.trans s5)));have bt:=g7.ba;have bw:=g7.bb;refine⟨_,rfl,sz (by simp),fun zp H6 s6 f6' _=>?_⟩;refine⟨rp,zp,t,w',0,1,rfl,(g7.mono s6).at_,f6',⟨ai bt (by decide),ai bw (by decide),by decide,by decide⟩,_,rfl,aB (fun h2=>?_) (fun h2=>?_)⟩
  ·have h2:t*1<0*w':=bF h2
   exact⟨sz (by simp),fun r H7 s7 f7 _=>k r 0 1 H7 (Z f7) (.inr ⟨hN,.inl ⟨c1'.mp (by omega),rfl,rfl⟩⟩) (S5.trans (s6.trans s7))⟩
  have h2:¬t*1<0*w':=ci h2;refine⟨sz (by simp),fun op H7 s7 f7 _=>?_⟩;have G7:=(g7.mono s6).mono s7;refine⟨_,rfl,op,rp,1,1,t,w',rfl,f7,G7.at_,⟨by decide,by decide,ai bt (by decide),ai bw (by decide)⟩,_,rfl,aB (fun h3=>?_) (fun h3=>?_)⟩
  ·have h3:1*w'<t*1:=bF h3
   exact⟨sz (by simp),fun r H8 s8 f8 _=>k r 1 1 H8 (O f8) (.inr ⟨hN,.inr (.inl ⟨c2'.mp (by omega),rfl,rfl⟩)⟩) (S5.trans (s6.trans (s7.trans s8)))⟩
  have h3:¬1*w'<t*1:=ci h3;exact⟨_,rfl,k rp t w' H7 G7 (.inr ⟨hN,.inr (.inr ⟨by omega,by omega,by omega,eN⟩)⟩) (S5.trans (s6.trans s7))⟩
theorem BE:zQ ["one","x","other","low","high","point","part","place"] ["one","x","other","low","high"] (ag (top 42)):=smk
theorem kl{C:Addr}(CB:Df K mg "least_along" (top 42))(Av:Fx P w K mg base "point_at" ["line","place"] 5 [] (Fq C))(B0:Fn P w K mg base "nearest_part" ["point","begin","end"] 5 GV)(E2:Fn P w K mg base "plus" ["a","b"] 3 (Dz (fun a b c d=>a*d+c*b) (fun a b c d=>b*d)))(Da:Fn P w K mg base "times" ["a","b"] 3 (Dz (fun a b c d=>a*c) (fun a b c d=>b*d)))(Dc:Fn P w K mg base "minus" ["a","b"] 3 (Dz (fun a b c d=>a*d - c*b) (fun a b c d=>b*d)))(Ak:Fn P w K mg base "square_between" ["begin","end"] 5 Hs):Fx P w K mg base "least_along" ["one","x","other","low","high"] 6 [] (Gr C):=by
 refine CB.fx BE (fun _ _ _ _ _ _ us hl=>by obtain⟨_,_,_,_,_,rfl⟩:=uN hl;rfl) (fun vs H Q E h=>?_) (fun f cdv A outer s H vs Q E hr h=>?_)
 ·obtain⟨l,l',qs,qs',x,y,z,rfl,_⟩:=h
  rfl
 ·obtain⟨l,l',qs,qs',x,y,z,rfl,L,L',h1,h1',tx,ty,tz,h⟩:=h
  refine⟨_,(af (av (i:=5) BE.nd rfl (Or.inl rfl) (dj Av (hr.mono (by decide)) (by rfl) (aa (pv 0) (aa (pv 1) ae)))) (af (av (i:=6) BE.nd rfl (Or.inl rfl) (ao B0 (hr.mono (by decide)) (by rfl) (aa (pv 5) (aa (dj Av (hr.mono (by decide)) (by rfl) (aa (pv 2) (aa (pv 3) ae))) (aa (dj Av (hr.mono (by decide)) (by rfl) (aa (pv 2) (aa (pv 4) ae))) ae))))) (af (av (i:=7) BE.nd rfl (Or.inl rfl) (ao E2 (hr.mono (by decide)) (by rfl) (aa (pv 3) (aa (ao Da (hr.mono (by decide)) (by rfl) (aa (pv 6) (aa (ao Dc (hr.mono (by decide)) (by rfl) (aa (pv 4) (aa (pv 3) ae))) ae))) ae)))) (ah (am (aG (aa (ao Ak (hr.mono (by decide)) (by rfl) (aa (pv 5) (aa (dj Av (hr.mono (by decide)) (by rfl) (aa (pv 2) (aa (pv 7) ae))) ae))) (aa (pv 7) ae)))))))),?_⟩;rcases h with h|⟨p,t,b,rfl,pl,h⟩
  ·exact⟨_,rfl,_,rfl,_,_,_,rfl,L,h1.1,h1.2,tx,fun _=>h.2,fun _ _ _ e0 eH lw t0 t1=>xE h.1 e0 eH lw t0 t1⟩
  refine⟨_,rfl,_,rfl,_,_,_,rfl,L,h1.1,h1.2,D8.th pl,vQ pl,vP pl fun r H1 pt s1=>?_⟩;obtain⟨ky,ny⟩:=ty.kn;obtain⟨kz,nz⟩:=tz.kn;rcases h with h|⟨q,l1,l2,rfl,pq,h⟩
  ·exact⟨_,rfl,_,rfl,_,rfl,_,_,_,rfl,(L'.mono s1),h1'.1,h1'.2,(Ay.mono ty s1),fun _=>(h.2 H1 s1),fun _ _ _ e0 eH lw t0 t1=>xE (by rw[dh ny s1];exact h.1) e0 eH lw t0 t1⟩
  refine⟨_,rfl,_,rfl,_,rfl,_,_,_,rfl,(L'.mono s1),h1'.1,h1'.2,D8.th (pq.mono s1),vQ (pq.mono s1),vP (pq.mono s1) fun r1 H2 pt1 s2=>?_⟩;have S2:=s1.trans s2;rcases h with h|⟨q',hi1,hi2,rfl,pq',bb,b2,b4,ins,k⟩
  ·exact⟨_,rfl,_,rfl,_,_,_,rfl,(L'.mono S2),h1'.1,h1'.2,(Ay.mono tz S2),fun _=>(h.2 H2 S2),fun _ _ _ e0 eH lw t0 t1=>xE (by rw[dh nz S2];exact h.1) e0 eH lw t0 t1⟩
  have hb:(0:Int)<b:=pl.low.pos;have hl:(0:Int)<l2:=pq.low.pos;have hh:(0:Int)<hi2:=pq'.low.pos;refine⟨_,rfl,_,rfl,_,_,_,rfl,(L'.mono S2),h1'.1,h1'.2,D8.th (pq'.mono S2),vQ (pq'.mono S2),vP (pq'.mono S2) fun r2 H3 pt2 s3=>?_⟩;refine⟨r,r1,r2,_,_,_,_,_,_,_,_,_,rfl,(pt.mono s2).mono s3,pt1.mono s3,pt2,hb,hl,hh,fun rp ps pw H4 gp np s4=>?_⟩;have S4:=S2.trans (s3.trans s4);have G1:CP H4 q l1 l2 200:=⟨(pq.mono S4).at_,pq.low,pq.bt,pq.bb⟩;have G2:CP H4 q' hi1 hi2 200:=⟨(pq'.mono S4).at_,pq'.low,pq'.bt,pq'.bb⟩;have hpb:au ps≤900∧au pw≤900:=by
   have z1:au 0≤900∧au 1≤900:=⟨by decide,by decide⟩;rcases np with⟨_,rfl,rfl⟩|⟨hN,⟨_,rfl,rfl⟩|⟨_,rfl,rfl⟩|⟨_,_,_,e⟩⟩
   ·exact z1
   ·exact z1
   ·exact⟨z1.2,z1.2⟩
   ·rcases ins with⟨rfl,rfl⟩|⟨kk,st⟩
    ·unfold nN at hN
     simp at hN
    ·exact sD (L'.mono S4) hb hl hh bb b2 b4 st (gq L hb pl.bb) gp.low hN e
  have gpb:CP H4 rp ps pw 900:=⟨gp.at_,gp.low,hpb.1,hpb.2⟩;refine⟨_,rfl,_,rfl,_,rfl,_,rfl,q',q,hi1,hi2,l1,l2,200,rfl,G2,G1,by decide,Int.mul_ne_zero (by omega) (by omega),fun rm a e H5 fm gm s5=>?_⟩;refine⟨rp,rm,ps,pw,a,e,900,rfl,gpb.mono s5,gm.wide (by decide),by decide,Int.mul_ne_zero (nzl gp.low) (nzl gm.low),fun rt m n H6 ft gt s6=>?_⟩;refine⟨q,rt,l1,l2,m,n,1801,rfl,((G1.mono s5).mono s6).wide (by decide),gt,by decide,Int.mul_ne_zero (by omega) (nzl gt.low),fun rpl T B H7 fT gT s7=>?_⟩;obtain⟨lp,r0,r1'⟩:=uO hb pq.low pq'.low ins np fm ft fT;have S7:=S4.trans (s5.trans (s6.trans s7));have hB:(0:Int)<B:=fT.low.pos;have t0:0≤T:=by
   have z:=Int.mul_nonneg pq.lo (show 0≤B by omega)
   by_cases c:0≤T
   ·exact c
   ·have:=Int.mul_neg_of_neg_of_pos (show T<0 by omega) hl
    omega
  have t1:T≤aP qs'*B:=by
   have z:=Int.mul_le_mul_of_nonneg_right pq'.hi (show 0≤B by omega);have:T*hi2≤aP qs'*B*hi2:=by rw[Int.mul_right_comm];omega
   exact Int.le_of_mul_le_mul_right this hh
  obtain⟨bT,bB⟩:=v9 L' h1'.2 hb bb fT.low lp b2 b4 t0 t1;have PL:D8 H7 rpl T B (aP qs'):=⟨gT.at_,fT.low,t0,t1,bT,ai bB (by decide)⟩;refine⟨_,rfl,_,rfl,_,rfl,_,_,_,rfl,(L'.mono S7),h1'.1,h1'.2,D8.th PL,vQ PL,vP PL fun r3 H8 pt3 s8=>?_⟩;refine⟨r,r3,_,_,_,_,_,_,rfl,(pt.mono (s2.trans (s3.trans (s4.trans (s5.trans (s6.trans s7)))))).mono s8,pt3,hb,hB,fun rs sn sw H9 fs gs s9=>?_⟩;refine⟨_,rfl,sz (by simp),fun rr H10 s10 f10 _=>?_⟩;exact k rr rs rpl sn sw T B H10 f10 (gs.mono s10) (PL.mono (s8.trans (s9.trans s10))) lp r0 r1' fs (S7.trans (s8.trans (s9.trans s10)))
theorem Gc:zQ ["script","k"] ["script","k"] (ag (top 92)):=smk
theorem ku(CJ:Df K mg "_law_cell_at" (top 92))(T:Txt mg):Fn P w K mg base "_law_cell_at" ["script","k"] 1 (Dr.spCell K):=by
 refine CJ.fn Gc (fun _ _ _ _ _ _ us hl=>by obtain⟨_,_,rfl⟩:=cO hl;rfl) (fun vs H Q E h=>?_) (fun f cdv A outer s H vs Q E hr h=>?_)
 ·obtain⟨sa,ss,k,rfl,_⟩:=h
  rfl
 ·obtain⟨sa,ss,k,rfl,hS,hk,q⟩:=h
  refine⟨_,(af (aF (ar lH (pv 1) (az aK (by rfl) T.z_len ck (aa (pv 0) ae)) (aq _)) (ah (am (aj aC (pv 0) (pv 1) (fun _ _=>rfl)))) aw) (ah (am ac))),?_⟩;refine⟨_,rfl,_,rfl,sa,_,rfl,.inl hS,_,_,rfl,rfl,_,rfl,aB (fun h1=>?_) (fun h1=>?_)⟩
  ·have h1:k<(((ss.map V.int).length:Nat):Int):=bF h1
   rw[List.length_map]at h1;exact⟨_,rfl,_,rfl,sa,_,_,_,rfl,rfl,hS,vB k.toNat (by omega) (by omega),q _⟩
  ·exact q _
theorem DE:zQ ["cell","rest"] ["cell"] (ag (top 94)):=smk
theorem na(D3:Df K mg "_law_begun" (top 94))(T:Txt mg):Fn P w K mg base "_law_begun" ["cell"] 1 Dr.spBegun:=by
 refine D3.fn DE (fun _ _ _ _ _ _ us hl=>by obtain⟨_,rfl⟩:=dI hl;rfl) (fun vs H Q E h=>?_) (fun f cdv A outer s H vs Q E hr h=>?_)
 ·obtain⟨c,rfl,_⟩:=h
  rfl
 ·obtain⟨c,rfl,q⟩:=h
  refine⟨_,(af (av (i:=1) DE.nd rfl (Or.inl rfl) ac) (af (aF (ar qZ (az gh (by rfl) T.z_abs kD (aa (pv 0) ae)) (ap jZ ac ac) (aq _)) (ah (av (i:=1) DE.nd rfl (Or.inl rfl) (ap bz (ap bE (az gh (by rfl) T.z_abs kD (aa (pv 0) ae)) (ap jZ ac ac)) ac))) aw) (ah (am (cu (aa (pv 1) (aa ac (aa (ap dE (pv 0) ac) ae)))))))),?_⟩;refine⟨_,rfl,_,rfl,_,_,rfl,rfl,⟨by decide,by decide,by decide⟩,_,_,rfl,rfl,_,rfl,aB (fun h1=>?_) (fun h1=>?_)⟩
  ·refine⟨_,rfl,_,rfl,_,_,rfl,rfl,⟨by decide,by decide,by decide⟩,_,_,rfl,rfl,_,_,rfl,rfl,?_⟩
   refine⟨_,rfl,_,rfl,_,_,rfl,rfl,(by show(0:Int)<2147483647;decide),sz (by simp),fun p H2 s2 f2 n2=>?_⟩;exact q p H2 s2 n2 ⟨_,_,_,f2,Int.le_refl 0,Int.le_refl 0,Int.emod_nonneg _ (by decide),Int.emod_lt_of_pos _ (by decide)⟩
  ·refine⟨_,rfl,_,rfl,_,_,rfl,rfl,(by show(0:Int)<2147483647;decide),sz (by simp),fun p H2 s2 f2 n2=>?_⟩
   exact q p H2 s2 n2 ⟨_,_,_,f2,Int.le_refl 0,Int.le_refl 0,Int.emod_nonneg _ (by decide),Int.emod_lt_of_pos _ (by decide)⟩
theorem CY:zQ ["pot","size","digit","mixed"] ["pot","size"] (ag (top 95)):=smk
theorem oR(Es:Df K mg "_law_take" (top 95)):Fn P w K mg base "_law_take" ["pot","size"] 1 Dr.spTk:=by
 refine Es.fn CY (fun _ _ _ _ _ _ us hl=>by obtain⟨_,_,rfl⟩:=cO hl;rfl) (fun vs H Q E h=>?_) (fun f cdv A outer s H vs Q E hr h=>?_)
 ·obtain⟨p,m,k,rfl,_⟩:=h
  rfl
 ·obtain⟨p,m,k,rfl,⟨a,b,c,e,hb0,hb1,hc0,hc1⟩,hk,⟨hm,bm⟩,q⟩:=h
  refine⟨_,(af (aF (ar dq (aj aC (pv 0) ac (fun _ _=>rfl)) ac (aq _)) (af (av (i:=2) CY.nd rfl (Or.inl rfl) (ap dE (aj aC (pv 0) ac (fun _ _=>rfl)) (pv 1))) (af (cI (ap cv (aj aC (pv 0) ac (fun _ _=>rfl)) (pv 1)) (jU (pv 0) ac ff)) (ah (am (pv 2))))) aw) (af (cI (ap bz (aj aC (pv 0) ac (fun _ _=>rfl)) ac) (jU (pv 0) ac ff)) (af (av (i:=3) CY.nd rfl (Or.inl rfl) (ap dE (ap bz (ap bz (ap bz (aj aC (pv 0) ac (fun _ _=>rfl)) (ap aJ (ap aJ ac (aj aC (pv 0) ac (fun _ _=>rfl))) (aj aC (pv 0) ac (fun _ _=>rfl)))) (ap aJ ac (aj aC (pv 0) ac (fun _ _=>rfl)))) ac) ac)) (af (av (i:=3) CY.nd rfl (Or.inl rfl) (ap dE (ap aJ (ap dE (ap aJ (pv 3) (pv 3)) ac) ac) ac)) (ah (am (ap dE (ap cv (pv 3) ac) (pv 1)))))))),?_⟩;refine⟨_,rfl,p,_,_,_,rfl,rfl,SqL.of e,rfl,_,_,rfl,rfl,_,rfl,aB (fun h1=>?_) (fun h1=>?_)⟩
  ·refine⟨_,rfl,p,_,_,_,rfl,rfl,SqL.of e,rfl,_,rfl,_,_,rfl,rfl,hm,?_⟩
   refine⟨_,rfl,p,_,_,_,rfl,rfl,SqL.of e,rfl,_,rfl,_,_,rfl,rfl,⟨hm,bm⟩,_,rfl,p,_,_,0,rfl,rfl,e,rfl,fun H2 u=>?_⟩;exact⟨_,rfl,q _ _ (Int.emod_nonneg _ (by omega)) (Int.emod_lt_of_pos _ hm) (fun b o nb e=>u.at nb e) ⟨_,_,_,u.now,hb0,by omega,hc0,hc1⟩⟩
  ·have e64:(2:Int)^64=18446744073709551616:=by decide
   refine⟨_,rfl,p,_,_,_,rfl,rfl,SqL.of e,rfl,_,_,rfl,rfl,_,rfl,p,_,_,1,rfl,rfl,e,rfl,fun H2 u=>?_⟩;have e2:H2 p=some (.lst [.int a,.int (b+1),.int c]):=u.now;refine⟨_,rfl,p,_,_,_,rfl,rfl,SqL.of e2,rfl,_,rfl,p,_,_,_,rfl,rfl,SqL.of e2,rfl,_,_,rfl,rfl,CM.l ⟨by decide,by decide⟩,_,rfl,p,_,_,_,rfl,rfl,SqL.of e2,rfl,_,_,rfl,rfl,CM.l (by rw[e64];omega),_,_,rfl,rfl,_,rfl,p,_,_,_,rfl,rfl,SqL.of e2,rfl,_,_,rfl,rfl,CM.l ⟨by decide,by decide⟩,_,_,rfl,rfl,_,_,rfl,rfl,_,_,rfl,rfl,(by show(0:Int)<2147483647;decide),?_⟩;have r0:=Int.emod_nonneg (c+977*(b+1)*(b+1)+40693*(b+1)+1) (show(2147483647:Int)≠0 by decide);have r1:=Int.emod_lt_of_pos (c+977*(b+1)*(b+1)+40693*(b+1)+1) (show(0:Int)<2147483647 by decide);refine⟨_,rfl,_,rfl,_,_,rfl,rfl,CM.l (by rw[e64];omega),_,_,rfl,rfl,(by show(0:Int)<1000000007;decide),_,_,rfl,rfl,CM.r ⟨by decide,by decide⟩,_,_,rfl,rfl,(by show(0:Int)<998244353;decide),?_⟩;refine⟨_,rfl,_,_,rfl,rfl,⟨by decide,by decide⟩,_,rfl,_,_,rfl,rfl,hm,?_⟩;exact q _ _ (Int.emod_nonneg _ (by omega)) (Int.emod_lt_of_pos _ hm) (fun b o nb e=>u.at nb e) ⟨_,_,_,u.now,by omega,by omega,hc0,hc1⟩
theorem CW:zQ ["pot","size","number","turn"] ["pot","size"] (ag (top 96)):=smk
theorem oQ(Er:Df K mg "_law_wide" (top 96))(zR:Fn P w K mg base "_law_take" ["pot","size"] 1 Dr.spTk)(T:Txt mg):Fn P w K mg base "_law_wide" ["pot","size"] 2 Dr.spWd:=by
 refine Er.fn CW (fun _ _ _ _ _ _ us hl=>by obtain⟨_,_,rfl⟩:=cO hl;rfl) (fun vs H Q E h=>?_) (fun f cdv A outer s H vs Q E hr h=>?_)
 ·obtain⟨p,m,k,rfl,_⟩:=h
  rfl
 ·obtain⟨p,m,k,rfl,pt,hk,⟨hm,bm⟩,q⟩:=h
  refine⟨_,(af (aF (cf (ar dq (aj aC (pv 0) ac (fun _ _=>rfl)) ac (aq _)) (ce (ar lH (pv 1) (ap jZ ac ac) (aq _)))).pt (ah (am (ao zR (hr.mono (by decide)) (by rfl) (aa (pv 0) (aa (pv 1) ae))))) aw) (af (av (i:=2) CW.nd rfl (Or.inl rfl) ac) (af (eV PassesOwn.never rfl (iS rfl T.z_range (aa ac ae)) (aI (i:=3) CW.nd rfl (Or.inl rfl)) (ah (av (i:=2) CW.nd rfl (Or.inl rfl) (ap bz (ap aJ (pv 2) ac) (ao zR (hr.mono (by decide)) (by rfl) (aa (pv 0) (aa ac ae))))))) (ah (am (ap dE (pv 2) (pv 1))))))),?_⟩;obtain⟨a,b,c,e,rest⟩:=id pt;have tk:∀H1,H1=H->spTk [.ref p,.int m] H1 Q E0:=fun H1 e1=>by
   subst e1;exact⟨p,m,k,rfl,pt,by omega,⟨hm,bm⟩,fun r H2 h0 h1 b2 p2=>q r H2 h0 h1 b2 (p2.mono (by omega))⟩
  refine⟨_,rfl,p,_,_,_,rfl,rfl,SqL.of e,rfl,_,_,rfl,rfl,_,rfl,aB (fun h1=>?_) (fun h1=>?_)⟩
  ·exact⟨_,rfl,_,rfl,tk _ rfl⟩
  refine⟨_,rfl,_,_,rfl,rfl,⟨by decide,by decide,by decide⟩,_,_,rfl,rfl,_,rfl,aB (fun h2=>?_) (fun h2=>?_)⟩
  ·exact⟨_,rfl,_,rfl,tk _ rfl⟩
  refine⟨4,rfl,by decide,by decide,iX (n:=4) (lo:=0) (fun i σ H2=>∃(n:Int) (z:Option V),σ = [some (.ref p),some (.int m),some (.int n),z]∧But p H H2∧Pot H2 p (k+(i:Int))) ⟨_,_,rfl,But.refl,by simpa using pt⟩ ?_ ?_⟩
  ·rintro i σ H2 hi ⟨n,z,rfl,b2,p2⟩
   refine⟨_,rfl,_,_,rfl,rfl,CM.r ⟨by decide,by decide⟩,_,rfl,p,_,_,rfl,p2,by omega,⟨by decide,by decide⟩,fun r H3 h0 h1 b3 p3=>⟨_,_,rfl,rfl,_,_,rfl,b2.trans b3,p3.mono (by omega)⟩⟩
  ·rintro σ H2 ⟨n,z,rfl,b2,p2⟩
   exact⟨_,rfl,_,rfl,_,_,rfl,rfl,hm,q _ _ (Int.emod_nonneg _ (by omega)) (Int.emod_lt_of_pos _ hm) b2 p2⟩
theorem zY:zQ ["pot","many","span","half","line","k","at"] ["pot"] (ag (top 97)):=smk
theorem iD(BC:Df K mg "_law_drawn_line" (top 97))(zR:Fn P w K mg base "_law_take" ["pot","size"] 1 Dr.spTk)(AS:Fn P w K mg base "_law_wide" ["pot","size"] 2 Dr.spWd)(T:Txt mg):Fn P w K mg base "_law_drawn_line" ["pot"] 3 Dr.spDLine:=by
 refine BC.fn zY (fun _ _ _ _ _ _ us hl=>by obtain⟨_,rfl⟩:=dI hl;rfl) (fun vs H Q E h=>?_) (fun f cdv A outer s H vs Q E hr h=>?_)
 ·obtain⟨p,k,rfl,_⟩:=h
  rfl
 ·obtain⟨p,k,rfl,pt,hk,q⟩:=h
  have CN:AX (aN CX0 P w K mg base ["pot","many","span","half","line","k","at"] "_law_drawn_line" (ag (top 97)) f cdv A outer s H E).nox (ib (yb ((aA (top 97)).getD 5 (.Pass ⟨0,0,0,0⟩)))) [] "corner" [] :=
   ⟨by rfl,rfl,by decide +kernel,by decide +kernel,rfl,(fun p hp=>nomatch hp),by rfl,by decide +kernel,(fun p hp=>nomatch hp),⟨rfl,rfl⟩,rfl⟩
  have R:∃u,PSs (aN CX0 P w K mg base ["pot","many","span","half","line","k","at"] "_law_drawn_line" (ag (top 97)) f cdv A outer s H E).nox ((aA (top 97)).drop 6) u∧∀(l:Addr) (qs:Crn) (H1:Hp) (S F:Int) (z5 z6:Option V),LineM H1 l qs->1≤qs.length->qs.length≤10->H l=none->l≠p->But p H H1->Pot H1 p (k+90) ->
    u { nx:=fun _ H'=>Q .non H',rt:=Q } [some (.ref p),some (.int (qs.length:Int)),some (.int S),some (.int F),some (.ref l),z5,z6] H1:=by
   refine⟨_,(af (aF (bR (ar dq (pv 1) ac (aq _)) (bU (ar aW (ao zR (hr.mono (by decide)) (by rfl) (aa (pv 0) (aa ac ae))) ac (aq _)))).pt (af (av (i:=6) zY.nd rfl (Or.inl rfl) (ap bz ac (ao zR (hr.mono (by decide)) (by rfl) (aa (pv 0) (aa (ap bE (pv 1) ac) ae))))) (ah (cI (aj aC (pv 4) (ap bE (pv 6) ac) (fun _ _=>rfl)) (jU (pv 4) (pv 6) ff)))) aw) (ah (am (pv 4)))),fun l qs H1 S F z5 z6 L1 h1 h10 nl np b1 p1=>?_⟩;have hll:(qs.map fun (q:Addr×Int×Int)=>V.ref q.1).length=qs.length:=List.length_map _;have fin:∀{z5 z6:Option V} {H2:Hp},LineM H2 l qs->But p H H2->Pot H2 p (k+95)->(vF (CK 4)) { nx:=fun _ H'=>Q .non H',rt:=Q } [some (.ref p),some (.int (qs.length:Int)),some (.int S),some (.int F),some (.ref l),z5,z6] H2:=fun L2 b2 p2=>⟨_,rfl,q l qs _ L2 h1 h10 nl b2 (p2.mono (by omega))⟩;refine⟨_,rfl,_,_,rfl,rfl,_,rfl,aB (fun g1=>?_) (fun g1=>?_)⟩
   ·have g1:1<(qs.length:Int):=bF g1
    refine⟨_,rfl,p,_,_,rfl,p1,by omega,⟨by decide,by decide⟩,fun r2 H2 _ _ b2 p2=>?_⟩;have L2':=L1.but b2 p1 np;refine⟨rfl,_,rfl,aB (fun g2=>?_) (fun g2=>?_)⟩
    ·refine⟨_,rfl,_,rfl,_,_,rfl,rfl,p,_,_,rfl,p2,by omega,⟨by omega,ai (bV (by omega) (by omega)) (by decide)⟩,fun r3 H3 a3 b3' b3 p3=>⟨_,_,rfl,rfl,?_⟩⟩
     have L3:=L2'.but b3 p2 np;obtain⟨qa,hqa,eqa⟩:=yu (qs:=qs) (k:=1+r3 - 1) (by omega) (by omega);refine⟨_,rfl,_,rfl,_,_,rfl,rfl,l,_,_,_,rfl,rfl,SqL.of L3.lst,eqa,_,rfl,_,rfl,l,_,_,_,rfl,rfl,L3.lst,mJ (by omega) (by rw[hll];omega),fun H4 u=>?_⟩;have e4:(qs.map fun (q:Addr×Int×Int)=>V.ref q.1).set (1+r3).toNat (.ref qa.1)=(qs.set (1+r3).toNat qa).map fun (q:Addr×Int×Int)=>V.ref q.1:=by rw[List.map_set]
     have L4:LineM H4 l (qs.set (1+r3).toNat qa):=by
      refine⟨by rw[<- e4];exact u.now,fun q hq=>?_⟩;rcases List.mem_or_eq_of_mem_set hq with hq|rfl
      ·exact⟨u.t _ _ (L3.crn q hq).1,(L3.crn q hq).2⟩
      ·have m:=List.mem_of_getElem? hqa
       exact⟨u.t _ _ (L3.crn _ m).1,(L3.crn _ m).2⟩
     have b4:But p H H4:=fun b o nb e=>u.at (fun z=>by subst z;rw[nl]at e;cases e) (b3 b o nb (b2 b o nb (b1 b o nb e)));obtain⟨x,y,z,ep,rest⟩:=p3;have p4:Pot H4 p (k+90+1+1):=⟨x,y,z,u.at (Ne.symm np) ep,rest⟩;exact⟨_,rfl,q l _ _ L4 (by rw[List.length_set];exact h1) (by rw[List.length_set];exact h10) nl b4 (p4.mono (by omega))⟩
    ·exact fin L2' (b1.trans b2) (p2.mono (by omega))
   ·exact fin L1 b1 (p1.mono (by omega))
  obtain⟨u,hu,ru⟩:=R;refine⟨_,(af (av (i:=1) zY.nd rfl (Or.inl rfl) (ap bz ac (ao zR (hr.mono (by decide)) (by rfl) (aa (pv 0) (aa (aj aC (@cu _ _ _ _ (@aa _ _ _ _ _ ac (@aa _ _ _ _ _ ac (@aa _ _ _ _ _ ac (@aa _ _ _ _ _ ac (@aa _ _ _ _ _ ac (@aa _ _ _ _ _ ac (@aa _ _ _ _ _ ac (@aa _ _ _ _ _ ac ae (by rfl)) (by rfl)) (by rfl)) (by rfl)) (by rfl)) (by rfl)) (by rfl)) (by rfl))) (ao zR (hr.mono (by decide)) (by rfl) (aa (pv 0) (aa ac ae))) (fun _ _=>rfl)) ae))))) (af (av (i:=2) zY.nd rfl (Or.inl rfl) (aj aC (cu (aa ac (aa ac (aa ac (aa (ap bE (ap aJ ac (ap jZ ac ac)) ac) ae))))) (ao zR (hr.mono (by decide)) (by rfl) (aa (pv 0) (aa ac ae))) (fun _ _=>rfl))) (af (av (i:=3) zY.nd rfl (Or.inl rfl) (ap cv (pv 2) ac)) (af (av (i:=4) zY.nd rfl (Or.inl rfl) (cu ae)) (af (eV PassesOwn.never rfl (iS rfl T.z_range (aa (pv 1) ae)) (aI (i:=5) zY.nd rfl (Or.inl rfl)) (ah (eS (fg F.plainAttrs_list F.slot_list_append F.type_list_append eK (pv 4) (aa (aG (aa (ap bE (ao AS (hr.mono (by decide)) (by rfl) (aa (pv 0) (aa (pv 2) ae))) (pv 3)) (aa (ap bE (ao AS (hr.mono (by decide)) (by rfl) (aa (pv 0) (aa (pv 2) ae))) (pv 3)) ae))) ae))))) (af (aF (ar aW (ao zR (hr.mono (by decide)) (by rfl) (aa (pv 0) (aa ac ae))) ac (aq _)) (ah (jg (j:=4) rfl CN zY.nd rfl rfl (cW (pv 4)) (fun fp s₀ H₀=>(aG (aa (aj (fJ (K:=K) rfl) (pv 0) ac (fun _ _=>rfl)) (aa ac ae)))))) aw) hu)))))),?_⟩;refine⟨_,rfl,sz (by simp),fun pl H1 s1 f1 n1=>?_⟩;have np1:=Pot.ne pt n1;have p1:=pt.same s1;refine⟨_,rfl,p,_,_,rfl,p1,by omega,⟨by decide,by decide⟩,fun r2 H2 a2 b2' b2 p2=>?_⟩;refine uz (fun m=>2≤m∧m≤10) (b2 _ _ np1 f1) a2 (by simpa using b2') (fun v hv=>?_) fun m hm=>?_
  ·simp only[List.mem_cons,List.not_mem_nil,or_false]at hv
   rcases hv with rfl|rfl|rfl|rfl|rfl|rfl|rfl|rfl <;> exact⟨_,rfl,by decide,by decide⟩
  refine⟨p,_,_,rfl,p2,by omega,⟨by omega,ai (bV (by omega) (by omega)) (by decide)⟩,fun r3 H3 a3 b3' b3 p3=>⟨_,_,rfl,rfl,?_⟩⟩;have B3:But p H H3:=(But.of s1).trans (b2.trans b3);refine⟨_,_,rfl,rfl,⟨by decide,by decide,by decide⟩,_,_,rfl,rfl,CM.l ⟨by decide,by decide⟩,_,_,rfl,rfl,sz (by simp),fun ps H4 s4 f4 n4=>?_⟩;have np4:=Pot.ne p3 n4;have p4:=p3.same s4;have e12:(2*(10:Int)^(12:Int).toNat - 1)=1999999999999:=by decide +kernel
  refine⟨_,rfl,p,_,_,rfl,p4,by omega,⟨by decide,by decide⟩,fun r5 H5 a5 b5' b5 p5=>?_⟩;refine uz (fun m=>3≤m∧m≤1999999999999) (b5 _ _ np4 f4) a5 (by simpa using b5') (fun v hv=>?_) fun S hS=>?_
  ·simp only[List.mem_cons,List.not_mem_nil,or_false]at hv
   rcases hv with rfl|rfl|rfl|rfl
   ·exact⟨_,rfl,by decide,by decide⟩
   ·exact⟨_,rfl,by decide,by decide⟩
   ·exact⟨_,rfl,by decide,by decide⟩
   ·exact⟨_,rfl,by rw[e12];decide,by rw[e12];decide⟩
  have B5:But p H H5:=(B3.trans (But.of s4)).trans b5;have bS:au S≤8000:=ai (m:=50) (d9 (by show _<1125899906842624;omega)) (by decide);refine⟨_,rfl,_,_,rfl,rfl,⟨by decide,by decide⟩,?_⟩;refine⟨sz (by simp),fun l H6 s6 f6 n6=>?_⟩;have npl:=Pot.ne p5 n6;have nl:H l=none:=B5.none npl n6;have p6:=p5.same s6;refine⟨_,rfl,_,rfl,by omega,by omega,?_⟩;refine iX (n:=(1+r3).toNat) (lo:=0) (fun i σ H7=>∃(z5 z6:Option V) (qs:Crn),σ = [some (.ref p),some (.int (1+r3)),some (.int S),some (.int (S / 2)),some (.ref l),z5,z6]∧qs.length=i∧LineM H7 l qs∧But p H H7∧Pot H7 p (k+3+8*(i:Int)))
   ⟨_,_,[],rfl,rfl,⟨f6,fun q h=>nomatch h⟩,B5.trans (But.of s6),p6.mono (by omega)⟩ ?_ ?_
  ·rintro i σ H7 hi ⟨z5,z6,qs,rfl,hl,L7,b7,p7⟩
   have hi10:i<10:=by omega
   refine⟨_,rfl,.inl ⟨rfl,_,SqL.of L7.lst⟩,?_⟩;refine⟨_,rfl,_,rfl,p,_,_,rfl,p7,by omega,⟨by omega,bS⟩,fun r8 H8 a8 b8' b8 p8=>⟨_,rfl,_,_,rfl,rfl,?_⟩⟩;refine⟨_,rfl,_,rfl,p,_,_,rfl,p8,by omega,⟨by omega,bS⟩,fun r9 H9 a9 b9' b9 p9=>⟨_,rfl,_,_,rfl,rfl,sz (by simp),fun pp H10 s10 f10 n10=>?_⟩⟩;have L10:=((L7.but b8 p7 npl).but b9 p8 npl).mono s10;refine⟨l,_,_,rfl,rfl,L10.lst,cG (by rw[List.length_map];omega),fun H11 u=>⟨_,_,qs++[(pp,r8 - S / 2,r9 - S / 2)],rfl,by simp[hl],⟨by rw[u.now];simp,fun q hq=>?_⟩,fun b o nb e=>?_,?_⟩⟩
   ·rcases List.mem_append.mp hq with hq|hq
    ·exact⟨u.t _ _ (L10.crn q hq).1,(L10.crn q hq).2⟩
    ·rw[List.mem_singleton.mp hq]
     refine⟨u.t _ _ f10,?_,?_⟩ <;> (show -999999999999≤_∧_≤999999999999;dsimp only;omega)
   ·exact u.at (fun z=>by subst z;rw[nl]at e;cases e) (s10 _ _ (b9 b o nb (b8 b o nb (b7 b o nb e))))
   ·obtain⟨x,y,z,ep,rest⟩:=(p9.same s10).mono (k':=k+3+8*((i+1:Nat):Int)) (by omega)
    exact⟨x,y,z,u.at (Ne.symm npl) ep,rest⟩
  ·rintro σ H7 ⟨z5,z6,qs,rfl,hl,L7,b7,p7⟩
   have hmany:(qs.length:Int)=1+r3:=by omega
   refine⟨_,rfl,p,_,_,rfl,p7,by omega,⟨by decide,by decide⟩,fun r8 H8 _ _ b8 p8=>?_⟩;have L8:=L7.but b8 p7 npl;rw[<- hmany];refine⟨rfl,_,rfl,aB (fun g1=>?_) (fun g1=>?_)⟩
   ·refine⟨_,rfl,l,rfl,⟨_,SqL.of L8.lst⟩,jd (SqL.of L8.lst) (by rw[List.length_map];omega) (fun _ v H=>∃p x,v = .ref p∧H p=some (.tup [.int x,.int 0])∧Sm x) (fun i v H H' st ⟨p,x,e,c,s⟩=>⟨p,x,e,st _ _ c,s⟩) ?_ ?_⟩
    ·intro i x H9 Kc hx s9 kk
     rw[List.getElem?_map]at hx;obtain⟨q,hq,rfl⟩:=Option.map_eq_some_iff.mp hx;have c:=s9 _ _ (L8.crn q (List.mem_of_getElem? hq)).1;refine⟨_,rfl,q.1,_,_,_,rfl,rfl,SqT.of c,rfl,sz (by simp),fun pp H10 s10 f10 n10=>kk _ _ s10 ⟨pp,_,rfl,f10,(L8.crn q (List.mem_of_getElem? hq)).2.1⟩⟩
    ·intro l2 ys H9 nl2 s9 f9 hly hr
     rw[List.length_map]at hly;have np2:=Pot.ne p8 nl2;have ex:∃rs:Crn,rs.length=qs.length∧LineM H9 l2 rs:=by
      have hch:∀ys:List V,(∀y∈ys,∃(p:Addr) (x:Int),y = .ref p∧H9 p=some (.tup [.int x,.int 0])∧Sm x)->∃rs:Crn,ys=rs.map (fun q=>V.ref q.1)∧∀q∈rs,H9 q.1=some (.tup [.int q.2.1,.int q.2.2])∧Sm q.2.1∧Sm q.2.2:=by
       intro ys
       induction ys with
       | nil=>exact fun _=>⟨[],rfl,fun q h=>nomatch h⟩
       | cons y ys ih =>
        intro h;obtain⟨rs,e,hrs⟩:=ih fun z hz=>h z (List.mem_cons_of_mem _ hz);obtain⟨pp,x,rfl,c,sx⟩:=h y List.mem_cons_self;refine⟨(pp,x,0)::rs,by rw[e];rfl,fun q hq=>?_⟩;rcases List.mem_cons.mp hq with rfl|hq
        ·exact⟨c,sx,by show -999999999999≤(0:Int)∧(0:Int)≤999999999999;decide⟩
        ·exact hrs q hq
      obtain⟨rs,e,hrs⟩:=hch ys fun y hy=>by
       obtain⟨i,hi⟩:=List.getElem?_of_mem hy;exact hr i y hi
      refine⟨rs,?_,⟨by rw[f9,e],hrs⟩⟩;rw[e,List.length_map]at hly;exact hly
     obtain⟨rs,hrl,L9⟩:=ex;have:=ru l2 rs H9 S (S / 2) z5 z6 L9 (by omega) (by omega) ((b7.trans b8).none np2 nl2) np2 ((b7.trans b8).trans (But.of s9)) ((p8.same s9).mono (by omega));rw[hrl]at this;exact this
   ·exact ru l qs H8 S (S / 2) z5 z6 L8 (by omega) (by omega) nl npl (b7.trans b8) (p8.mono (by omega))
theorem Ga:zQ ["way"] ["way"] (ag (top 45)):=smk
theorem kj{C pW:Addr}(CA:Df K mg "look_at_way" (top 45))(D9:AW K mg "NoWay" C)(Hm:mg "WAYS" = some (.ref pW))(hW:∀H,SqT K H pW [.str wOn,.str gQ,.str cp,.str aQ])(T:Txt mg):Fx P w K mg base "look_at_way" ["way"] 1 [] (GQ C):=by
 refine CA.fx Ga (fun _ _ _ _ _ _ us hl=>by obtain⟨_,rfl⟩:=dI hl;rfl) (fun vs H Q E h=>?_) (fun f cdv A outer s H vs Q E hr h=>?_)
 ·obtain⟨x,t,rfl,_⟩:=h
  rfl
 ·obtain⟨x,t,rfl,kn,h⟩:=h
  refine⟨_,(ah (aF (cf (bq (aM (az bI (by rfl) T.z_isinstance aL (aa (pv 0) (aa (eT T.z_str gj) ae))))) (ce (ar fG (pv 0) (cC (v:=.ref _) (by rfl) Hm rfl) (by rfl)))).pt (ah (cU D9 (by rfl))) aw)),?_⟩;refine⟨_,rfl,x,t,"str",rfl,kn,nice_str,_,rfl,?_⟩;rcases h with⟨w,rfl,hw,q⟩|⟨hn,hE⟩
  ·cases kn
   refine aX (by decide) ?_;refine⟨_,rfl,pW,_,rfl,.inr (hW _),rfl,rfl,_,rfl,aX ?_ q⟩;rcases hw with rfl|rfl|rfl|rfl <;> decide
  ·cases hs:fk t "str" with
   | false=>exact jm hE
   | true =>
    obtain⟨w,rfl⟩:∃w,x = .str w:=by
     cases kn with
     | str w=>exact⟨w,rfl⟩
     | non=>exact absurd hs (by decide)
     | bl b=>exact absurd hs (by decide)
     | int i=>exact absurd hs (by decide)
     | lst e=>exact absurd hs (by decide)
     | tup e=>exact absurd hs (by decide)
     | dict e=>exact absurd hs (by decide)
    refine jn ?_;refine⟨_,rfl,pW,_,rfl,.inr (hW _),rfl,rfl,_,rfl,cZ ?_ hE⟩;have hn':=hn w rfl;have e:inV (.str w) [.str wOn,.str gQ,.str cp,.str aQ]=false:=by
     rw[Bool.eq_false_iff];intro z;apply hn';have z':(wOn == w || (gQ == w || (cp == w || (aQ == w || false))))=true:=z;simp only[Bool.or_eq_true,beq_iff_eq,Bool.false_eq_true,or_false]at z';rcases z' with h|h|h|h
     ·exact .inl h.symm
     ·exact .inr (.inl h.symm)
     ·exact .inr (.inr (.inl h.symm))
     ·exact .inr (.inr (.inr h.symm))
    show(if true=true then !inV (.str w) _ else _)=true
    rw[e];rfl
theorem HH:zQ ["one","other","thing"] ["one","other","thing"] (ag (top 32)):=smk
theorem qz(Fa:Df K mg "is_pair" (top 32))(A9:Fn P w K mg base "is_place" ["line","thing"] 3 D7)(T:Txt mg):Fn P w K mg base "is_pair" ["one","other","thing"] 4 GS:=by
 refine Fa.fn HH (fun _ _ _ _ _ _ us hl=>by obtain⟨_,_,_,rfl⟩:=fI hl;rfl) (fun vs H Q E h=>?_) (fun f cdv A outer s H vs Q E hr h=>?_)
 ·obtain⟨l1,l2,xs1,xs2,v,rfl,_⟩:=h
  rfl
 ·obtain⟨l1,l2,xs1,xs2,v,rfl,⟨e1,n1⟩,⟨e2,n2⟩,pt,q⟩:=h
  refine⟨_,(af (aF (cf (bq (aM (az bI (by rfl) T.z_isinstance aL (aa (pv 2) (aa (eT T.z_tuple gi) ae))))) (ce (ar dU (az aK (by rfl) T.z_len ck (aa (pv 2) ae)) ac (aq _)))).pt (ah (am bW)) aw) (ah (am (bZ (ao A9 (hr.mono (by decide)) (by rfl) (aa (pv 0) (aa (aj ak (pv 2) ac (fun _ _=>rfl)) ae))) (bJ (ao A9 (hr.mono (by decide)) (by rfl) (aa (pv 1) (aa (aj ak (pv 2) ac (fun _ _=>rfl)) ae)))))))),?_⟩;obtain⟨t,kn⟩:=pt.kn;refine⟨_,rfl,v,t,"tuple",rfl,kn,nice_tuple,_,rfl,?_⟩;rcases Kn.cases_tp' (n:=(xs1.length:Int) - 1) (m:=(xs2.length:Int) - 1) kn with⟨p,xs,rfl,e,rfl⟩|⟨hv,hs⟩
  ·refine aX (by decide) ?_
   refine⟨_,rfl,p,xs,rfl,.inr (SqT.of e),rfl,_,rfl,aB (fun hc=>?_) (fun hc=>?_)⟩
   ·have hn:xs.length≠2:=by
     intro z;rw[z]at hc;exact absurd hc (by decide)
    have z:cK ((xs1.length:Int) - 1) ((xs2.length:Int) - 1) H (.ref p)=false:=by
     unfold cK;simp only[e]
     split
     ·rename_i h
      cases h;exact absurd rfl hn
     ·rfl
    rw[z]at q;exact q
   ·have hn:xs.length=2:=by
     have z:(xs.length:Int)=2:=by simpa using hc
     omega
    obtain⟨x,y,rfl⟩:=cO hn;rw[gw e]at q;have tx:=(pt.parts p _ rfl e x (by simp)).1;have ty:=(pt.parts p _ rfl e y (by simp)).1;refine⟨_,rfl,_,rfl,p,_,_,_,rfl,rfl,SqT.of e,rfl,l1,_,_,rfl,e1,n1,tx,_,rfl,aB (fun h1=>?_) (fun h1=>?_)⟩
    ·rw[h1,Bool.true_and]at q
     exact⟨_,rfl,_,rfl,p,_,_,_,rfl,rfl,SqT.of e,rfl,l2,_,_,rfl,e2,n2,ty,q⟩
    ·rw[h1,Bool.false_and]at q
     exact q
  ·rw[hv]at q
   rw[hs];exact jm q
theorem GN:zQ ["one","other","thing"] ["one","other","thing"] (ag (top 33)):=smk
theorem ni(D5:Df K mg "are_pairs" (top 33))(E5:Fn P w K mg base "is_pair" ["one","other","thing"] 4 GS)(T:Txt mg):Fn P w K mg base "are_pairs" ["one","other","thing"] 5 Gn:=by
 refine D5.fn GN (fun _ _ _ _ _ _ us hl=>by obtain⟨_,_,_,rfl⟩:=fI hl;rfl) (fun vs H Q E h=>?_) (fun f cdv A outer s H vs Q E hr h=>?_)
 ·obtain⟨l1,l2,xs1,xs2,v,rfl,_⟩:=h
  rfl
 ·obtain⟨l1,l2,xs1,xs2,v,rfl,⟨e1,n1⟩,⟨e2,n2⟩,pt,q⟩:=h
  have CN:AX (aN CX0 P w K mg base ["one","other","thing"] "are_pairs" (ag (top 33)) f cdv A outer s H E).nox (Dr.compScope (qU ((aA (top 33)).getD 1 (.Pass ⟨0,0,0,0⟩)))) [("other",s.heap.objs.size+2),("one",s.heap.objs.size+1)] "pair" [("one",0),("other",1)] :=
   ⟨by rfl,rfl,by decide +kernel,by decide +kernel,rfl,(fun p hp=>by simp only[List.mem_cons,List.not_mem_nil,or_false]at hp;rcases hp with rfl|rfl <;> rfl),by rfl,by decide +kernel,(fun p hp=>by simp only[List.mem_cons,List.not_mem_nil,or_false]at hp;rcases hp with rfl|rfl <;> exact⟨rfl,rfl,.inr (.inl rfl),rfl,rfl⟩),⟨rfl,rfl⟩,rfl⟩
  refine⟨_,(af (aF (cf (bq (aM (az bI (by rfl) T.z_isinstance aL (aa (pv 2) (aa (eT T.z_list gH) ae))))) (ce (ar aW (az aK (by rfl) T.z_len ck (aa (pv 2) ae)) ac (aq _)))).pt (ah (am bW)) aw) (ah (am (az (gg rfl) (by rfl) T.z_all kC (aa (fS rfl CN (cW (pv 2)) (fun fp s₀ H₀=>(ao E5 (hr.mono (by decide)) (by rfl) (aa (pv 1) (aa (pv 2) (aa (pv 0) ae)))))) ae))))),?_⟩;obtain⟨t,kn⟩:=pt.kn;refine⟨_,rfl,v,t,"list",rfl,kn,nice_list,_,rfl,?_⟩;rcases Kn.cases_lst' (n:=(xs1.length:Int) - 1) (m:=(xs2.length:Int) - 1) kn with⟨p,xs,rfl,e,rfl⟩|⟨hv,hs⟩
  ·refine aX (by decide) ?_
   rw[jY e]at q;obtain⟨hlen,hth⟩:=pt.parts p xs rfl e;refine⟨_,rfl,p,xs,rfl,.inl (SqL.of e),rfl,_,rfl,aB (fun hc=>?_) (fun hc=>?_)⟩
   ·have hn:xs = []:=by
     have z:(xs.length:Int)=0:=by simpa using hc
     exact List.length_eq_zero_iff.mp (by omega)
    subst hn;exact q H (Same.refl _)
   ·have hn:xs≠[]:=fun z=>by
     subst z;exact absurd hc (by decide)
    have hne:xs.isEmpty=false:=by cases xs with|nil=>exact absurd rfl hn|cons x r=>rfl
    rw[hne]at q;refine⟨_,rfl,p,rfl,⟨_,SqL.of e⟩,jd (SqL.of e) (by omega) (fun i v' _=>v' = .bl (cK ((xs1.length:Int) - 1) ((xs2.length:Int) - 1) H (xs.getD i .non))) (fun _ _ _ _ _ h=>h) ?_ ?_⟩
    ·intro i x H2 Kc hx s2 kk
     have hm:=List.mem_of_getElem? hx;refine⟨_,rfl,_,rfl,_,rfl,l1,l2,_,_,_,rfl,⟨s2 _ _ e1,n1⟩,⟨s2 _ _ e2,n2⟩,(hth x hm).mono s2,kk _ _ (Same.refl _) ?_⟩;rw[qi (hth x hm) s2,List.getD_eq_getElem?_getD,hx];rfl
    ·intro l ys H2 nl s2 f2 hl hr
     have ey:ys=(xs.map (cK ((xs1.length:Int) - 1) ((xs2.length:Int) - 1) H)).map V.bl:=by
      refine List.ext_getElem? fun i=>?_
      by_cases hi:i<xs.length
      ·have h1:ys[i]? = some ys[i]:=List.getElem?_eq_getElem (by omega)
       rw[h1,hr i _ h1,List.getElem?_map,List.getElem?_map,List.getElem?_eq_getElem hi,List.getD_eq_getElem?_getD,List.getElem?_eq_getElem hi];rfl
      ·rw[List.getElem?_eq_none (by omega),List.getElem?_eq_none (by simp;omega)]
     rw[ey]at f2;refine⟨l,_,rfl,SqL.of f2,?_⟩;have z:=q H2 s2;rw[List.all_map];exact z
  ·rw[hs]
   have z:=q H (Same.refl _);rw[hv]at z;exact jm z
theorem iL(f:Pr)(r:List Pr):atI (prs (f::r)) (-1)=some (.ref ((f::r).getLast (by simp)).p):=by
 have h:prs (f::r)=prs ((f::r).dropLast)++[V.ref ((f::r).getLast (by simp)).p]:=by
  unfold prs;rw[<- List.map_singleton (f:=fun (q:Pr)=>V.ref q.p),<- List.map_append,List.dropLast_concat_getLast]
 rw[h];exact vC _ _
theorem fB(a b n:Int):decide ([a,b] = [n,1])=isP a b n:=by
 unfold isP;rw[Bool.eq_iff_iff];simp
theorem zZ:zQ ["one","other","fence","way","first","last","begins_on_top","ends_on_ground"] ["one","other","fence","way"] (ag (top 47)):=smk
theorem eZ(AA:Iz K mg "has_right_ends_fences" "has_right_ends" (top 47))(AH:Fn P w K mg base "last_of" ["line"] 1 FA):Fn P w K mg base "has_right_ends_fences" ["one","other","fence","way"] 2 Gv:=by
 refine AA.fn zZ (fun _ _ _ _ _ _ us hl=>by obtain⟨_,_,_,_,rfl⟩:=ir hl;rfl) (fun vs H Q E h=>?_) (fun f cdv A outer s H vs Q E hr h=>?_)
 ·obtain⟨l1,l2,l,xs1,xs2,f,r,wy,rfl,_⟩:=h
  rfl
 ·obtain⟨l1,l2,l,xs1,xs2,f,r,wy,rfl,e1,e2,P,q⟩:=h
  refine⟨_,(af (av (i:=4) zZ.nd rfl (Or.inl rfl) (aj aC (pv 2) ac (fun _ _=>rfl))) (af (av (i:=5) zZ.nd rfl (Or.inl rfl) (aj aC (pv 2) (jh fP ac) (fun _ _=>rfl))) (af (av (i:=6) zZ.nd rfl (Or.inl rfl) (aT (eW hr.units0) (aj ak (pv 4) ac (fun _ _=>rfl)) (aG (aa (ao AH (hr.mono (by decide)) (by rfl) (aa (pv 1) ae)) (aa ac ae))) (aq _))) (af (av (i:=7) zZ.nd rfl (Or.inl rfl) (aT (eW hr.units0) (aj ak (pv 5) ac (fun _ _=>rfl)) (aG (aa ac (aa ac ae))) (aq _))) (af (aF (ar aW (pv 3) aE (aq _)) (ah (am (bZ (pv 6) (bJ (pv 7))))) aw) (ah (am (bZ (ic (pv 6) (bJ (aT (eW hr.units0) (aj ak (pv 4) ac (fun _ _=>rfl)) (aG (aa ac (aa ac ae))) (aq _)))) (bJ (ic (pv 7) (bJ (aT (eW hr.units0) (aj ak (pv 5) ac (fun _ _=>rfl)) (aG (aa (ao AH (hr.mono (by decide)) (by rfl) (aa (pv 0) ae)) (aa ac ae))) (aq _))))))))))))),?_⟩;have hf:=P.pr f (by simp);have hl:=P.pr _ (List.getLast_mem (l:=f::r) (by simp));refine⟨_,rfl,l,_,_,_,rfl,rfl,SqL.of P.lst,jL (V.ref f.p) (prs r),?_⟩;refine⟨_,rfl,_,rfl,l,_,_,_,rfl,rfl,SqL.of P.lst,iL f r,?_⟩;generalize (f::r).getLast (by simp)=z at *;refine⟨_,rfl,f.p,_,_,_,rfl,rfl,SqT.of hf.p_,rfl,_,rfl,l2,xs2,rfl,e2,sz (by simp),fun t1 H1 s1 g1 _=>?_⟩;refine⟨f.y,t1,[f.c,f.d],[(xs2.length:Int) - 1,1],rfl,rfl,SqT.of (s1 _ _ hf.y_),SqT.of g1,?_⟩;have hl1:=hl.t s1.t;refine⟨_,rfl,z.p,_,_,_,rfl,rfl,SqT.of hl1.p_,rfl,sz (by simp),fun t2 H2 s2 g2 _=>?_⟩;refine⟨z.y,t2,[z.c,z.d],[0,1],rfl,rfl,SqT.of (s2 _ _ hl1.y_),SqT.of g2,?_⟩;have S2:=s1.trans s2;have hf2:=hf.t S2.t;have hl2:=hl.t S2.t;have ef:(if false=true then !decide ([f.c,f.d] = [(xs2.length:Int) - 1,1]) else decide ([f.c,f.d] = [(xs2.length:Int) - 1,1]))=isP f.c f.d ((xs2.length:Int) - 1):=by rw[if_neg (by decide),fB]
  have ez:(if false=true then !decide ([z.c,z.d] = [(0:Int),1]) else decide ([z.c,z.d] = [(0:Int),1]))=isP z.c z.d 0:=by rw[if_neg (by decide),fB]
  unfold gb at q;refine⟨_,rfl,rfl,_,rfl,aB (fun c3=>?_) (fun c3=>?_)⟩
  ·rw[if_pos (show wy=gQ from bF (ds c3))]at q
   refine⟨_,rfl,_,rfl,aB (fun c4=>?_) (fun c4=>?_)⟩
   ·rw[ef]at c4
    rw[c4,Bool.true_and,<- ez]at q;exact⟨_,rfl,q H2 S2⟩
   ·have y:=q H2 S2
    rw[ef]at c4;rw[c4,Bool.false_and]at y;exact y
  rw[if_neg (show ¬wy=gQ from ci (ds c3))]at q;refine⟨_,rfl,_,rfl,aB (fun c4=>?_) (fun c4=>?_)⟩
  ·rw[ef]at c4
   have E1:(isP f.c f.d ((xs2.length:Int) - 1) || isP f.a f.b 0)=true:=by rw[c4,Bool.true_or]
   refine⟨_,rfl,jm ?_⟩;refine⟨_,rfl,_,rfl,aB (fun c5=>?_) (fun c5=>?_)⟩
   ·rw[ez]at c5
    have y:=q H2 S2;rw[E1,c5]at y;exact y
   ·rw[ez]at c5
    refine⟨_,rfl,z.p,_,_,_,rfl,rfl,SqT.of (hl.t S2.t).p_,rfl,_,rfl,l1,xs1,rfl,S2 _ _ e1,sz (by simp),fun t5 H5 s5 g5 _=>?_⟩;refine⟨z.x,t5,[z.a,z.b],[(xs1.length:Int) - 1,1],rfl,rfl,SqT.of (s5 _ _ (hl.t S2.t).x_),SqT.of g5,?_⟩;have y:=q H5 (S2.trans s5);rw[E1,c5,Bool.true_and,Bool.false_or,<- fB]at y;exact y
  ·rw[ef]at c4
   refine⟨_,rfl,f.p,_,_,_,rfl,rfl,SqT.of hf2.p_,rfl,sz (by simp),fun t3 H3 s3 g3 _=>?_⟩;refine⟨f.x,t3,[f.a,f.b],[0,1],rfl,rfl,SqT.of (s3 _ _ hf2.x_),SqT.of g3,_,rfl,?_⟩;show if (decide ([f.a,f.b] = [(0:Int),1]))=true then _ else _
   rw[fB];have S3:=S2.trans s3;refine aB (fun c6=>?_) (fun c6=>?_)
   ·have E1:(isP f.c f.d ((xs2.length:Int) - 1) || isP f.a f.b 0)=true:=by rw[c6,Bool.or_true]
    refine⟨_,rfl,_,rfl,aB (fun c5=>?_) (fun c5=>?_)⟩
    ·rw[ez]at c5
     have y:=q H3 S3;rw[E1,c5]at y;exact y
    ·rw[ez]at c5
     refine⟨_,rfl,z.p,_,_,_,rfl,rfl,SqT.of (hl.t S3.t).p_,rfl,_,rfl,l1,xs1,rfl,S3 _ _ e1,sz (by simp),fun t5 H5 s5 g5 _=>?_⟩;refine⟨z.x,t5,[z.a,z.b],[(xs1.length:Int) - 1,1],rfl,rfl,SqT.of (s5 _ _ (hl.t S3.t).x_),SqT.of g5,?_⟩;have y:=q H5 (S3.trans s5);rw[E1,c5,Bool.true_and,Bool.false_or,<- fB]at y;exact y
   ·have y:=q H3 S3
    rw[c4,c6]at y;exact y
theorem Gy:zQ ["begin","end"] ["begin","end"] (ag (top 49)):=smk
theorem kM(Dn:Df K mg "steps_back" (top 49))(AI:Fn P w K mg base "less" ["a","b"] 1 Bh):Fn P w K mg base "steps_back" ["begin","end"] 2 (DC dz):=by
 refine Dn.fn Gy (fun _ _ _ _ _ _ us hl=>by obtain⟨_,_,rfl⟩:=cO hl;rfl) (fun vs H Q E h=>?_) (fun f cdv A outer s H vs Q E hr h=>?_)
 ·obtain⟨u,v,rfl,_⟩:=h
  rfl
 ·obtain⟨u,v,rfl,pu,qv,q⟩:=h
  refine⟨_,(ah (am (bZ (fF (ao AI (hr.mono (by decide)) (by rfl) (aa (aj ak (pv 0) ac (fun _ _=>rfl)) (aa (aj ak (pv 1) ac (fun _ _=>rfl)) ae)))) (bJ (fF (ao AI (hr.mono (by decide)) (by rfl) (aa (aj ak (pv 1) ac (fun _ _=>rfl)) (aa (aj ak (pv 0) ac (fun _ _=>rfl)) ae)))))))),?_⟩;unfold dz ltB at q;have b:=j7 pu qv;refine⟨_,rfl,u.p,_,_,_,rfl,rfl,SqT.of pu.p_,rfl,_,rfl,v.p,_,_,_,rfl,rfl,SqT.of qv.p_,rfl,u.x,v.x,_,_,_,_,rfl,pu.x_,qv.x_,b.1,_,rfl,_,rfl,aB (fun h1=>?_) (fun h1=>?_)⟩
  ·have y:=q H (Same.refl _)
   rw[h1,Bool.true_and]at y;exact⟨_,rfl,v.p,_,_,_,rfl,rfl,SqT.of qv.p_,rfl,_,rfl,u.p,_,_,_,rfl,rfl,SqT.of pu.p_,rfl,v.y,u.y,_,_,_,_,rfl,qv.y_,pu.y_,b.2,_,rfl,y⟩
  ·have y:=q H (Same.refl _)
   rw[h1,Bool.false_and]at y;exact y
theorem DF:zQ ["begin","end","number","kept"] ["begin","end","number"] (ag (top 50)):=smk
theorem jw(Ck:Df K mg "keeps_corner" (top 50))(Bi:Fn P w K mg base "share_a_stretch" ["one","other"] 3 Gh):Fn P w K mg base "keeps_corner" ["begin","end","number"] 4 Gu:=by
 refine Ck.fn DF (fun _ _ _ _ _ _ us hl=>by obtain⟨_,_,_,rfl⟩:=fI hl;rfl) (fun vs H Q E h=>?_) (fun f cdv A outer s H vs Q E hr h=>?_)
 ·obtain⟨u,v,n,rfl,_⟩:=h
  rfl
 ·obtain⟨u,v,n,rfl,hn,pu,qv,q⟩:=h
  refine⟨_,(af (av (i:=3) DF.nd rfl (Or.inl rfl) (aj ak (pv 0) (pv 2) (fun _ _=>rfl))) (ah (am (bZ (aT (eW hr.units0) (pv 3) (aj ak (pv 1) (pv 2) (fun _ _=>rfl)) (aq _)) (bZ (aT aW (aj ak (pv 3) ac (fun _ _=>rfl)) ac (aq _)) (bJ (ao Bi (hr.mono (by decide)) (by rfl) (aa (aj ak (pv 0) (ap bE ac (pv 2)) (fun _ _=>rfl)) (aa (aj ak (pv 1) (ap bE ac (pv 2)) (fun _ _=>rfl)) ae))))))))),?_⟩;rcases hn with rfl|rfl
  ·unfold oF at q
   rw[if_pos rfl]at q;refine⟨_,rfl,_,rfl,u.p,_,_,_,rfl,rfl,SqT.of pu.p_,rfl,?_⟩;unfold d5 at q;refine⟨_,rfl,_,rfl,_,rfl,v.p,_,_,_,rfl,rfl,SqT.of qv.p_,rfl,u.x,v.x,[u.a,u.b],[v.a,v.b],rfl,rfl,SqT.of pu.x_,SqT.of qv.x_,_,rfl,?_⟩;rw[if_neg (show ¬(false=true) by decide)];refine aB (fun h1=>?_) (fun h1=>?_)
   ·rw[h1,Bool.true_and]at q
    refine⟨_,rfl,u.x,_,_,_,rfl,rfl,SqT.of pu.x_,rfl,rfl,_,rfl,?_⟩;rw[di];refine aB (fun h2=>?_) (fun h2=>?_)
    ·rw[h2,Bool.true_and]at q
     exact⟨_,rfl,_,rfl,_,_,rfl,rfl,u.p,_,_,_,rfl,rfl,SqT.of pu.p_,rfl,_,rfl,_,rfl,_,_,rfl,rfl,v.p,_,_,_,rfl,rfl,SqT.of qv.p_,rfl,u.y,v.y,_,_,_,_,rfl,pu.y_,qv.y_,pu.sy,qv.sy,q⟩
    ·have y:=q H (Same.refl _)
     rw[h2,Bool.false_and]at y;exact y
   ·have y:=q H (Same.refl _)
    rw[h1,Bool.false_and]at y;exact y
  ·unfold oF at q
   rw[if_neg (show ¬(1:Int)=0 by decide)]at q;refine⟨_,rfl,_,rfl,u.p,_,_,_,rfl,rfl,SqT.of pu.p_,rfl,?_⟩;unfold eU at q;refine⟨_,rfl,_,rfl,_,rfl,v.p,_,_,_,rfl,rfl,SqT.of qv.p_,rfl,u.y,v.y,[u.c,u.d],[v.c,v.d],rfl,rfl,SqT.of pu.y_,SqT.of qv.y_,_,rfl,?_⟩;rw[if_neg (show ¬(false=true) by decide)];refine aB (fun h1=>?_) (fun h1=>?_)
   ·rw[h1,Bool.true_and]at q
    refine⟨_,rfl,u.y,_,_,_,rfl,rfl,SqT.of pu.y_,rfl,rfl,_,rfl,?_⟩;rw[di];refine aB (fun h2=>?_) (fun h2=>?_)
    ·rw[h2,Bool.true_and]at q
     exact⟨_,rfl,_,rfl,_,_,rfl,rfl,u.p,_,_,_,rfl,rfl,SqT.of pu.p_,rfl,_,rfl,_,rfl,_,_,rfl,rfl,v.p,_,_,_,rfl,rfl,SqT.of qv.p_,rfl,u.x,v.x,_,_,_,_,rfl,pu.x_,qv.x_,pu.sx,qv.sx,q⟩
    ·have y:=q H (Same.refl _)
     rw[h2,Bool.false_and]at y;exact y
   ·have y:=q H (Same.refl _)
    rw[h1,Bool.false_and]at y;exact y
theorem Is:zQ ["begin","end"] ["begin","end"] (ag (top 51)):=smk
theorem sU(FY:Df K mg "slides" (top 51))(Ao:Fn P w K mg base "keeps_corner" ["begin","end","number"] 4 Gu):Fn P w K mg base "slides" ["begin","end"] 5 (DC cP):=by
 refine FY.fn Is (fun _ _ _ _ _ _ us hl=>by obtain⟨_,_,rfl⟩:=cO hl;rfl) (fun vs H Q E h=>?_) (fun f cdv A outer s H vs Q E hr h=>?_)
 ·obtain⟨u,v,rfl,_⟩:=h
  rfl
 ·obtain⟨u,v,rfl,pu,qv,q⟩:=h
  refine⟨_,(ah (am (ic (ao Ao (hr.mono (by decide)) (by rfl) (aa (pv 0) (aa (pv 1) (aa ac ae)))) (bJ (ao Ao (hr.mono (by decide)) (by rfl) (aa (pv 0) (aa (pv 1) (aa ac ae)))))))),?_⟩;unfold cP at q;refine⟨_,rfl,_,rfl,u,v,0,rfl,.inl rfl,pu,qv,fun H1 s1=>⟨_,rfl,?_⟩⟩;rw[show oF 0 u v=d5 u v from rfl];refine aB (fun h1=>?_) (fun h1=>?_)
  ·have y:=q H1 s1
   rw[h1,Bool.true_or]at y;exact y
  ·rw[h1,Bool.false_or]at q
   exact⟨_,rfl,_,rfl,u,v,1,rfl,.inr rfl,pu.t s1.t,qv.t s1.t,fun H2 s2=>q H2 (s1.trans s2)⟩
theorem El:zQ ["pair"] ["pair"] (ag (top 52)):=smk
theorem gN(Bd:Df K mg "has_whole_places" (top 52)):Fn P w K mg base "has_whole_places" ["pair"] 1 HU:=by
 refine Bd.fn El (fun _ _ _ _ _ _ us hl=>by obtain⟨_,rfl⟩:=dI hl;rfl) (fun vs H Q E h=>?_) (fun f cdv A outer s H vs Q E hr h=>?_)
 ·obtain⟨u,rfl,_⟩:=h
  rfl
 ·obtain⟨u,rfl,pu,q⟩:=h
  refine⟨_,(ah (am (bZ (aT aW (aj ak (aj ak (pv 0) ac (fun _ _=>rfl)) ac (fun _ _=>rfl)) ac (aq _)) (bJ (aT aW (aj ak (aj ak (pv 0) ac (fun _ _=>rfl)) ac (fun _ _=>rfl)) ac (aq _)))))),?_⟩;unfold aZ at q;refine⟨_,rfl,u.p,_,_,_,rfl,rfl,SqT.of pu.p_,rfl,u.x,_,_,_,rfl,rfl,SqT.of pu.x_,rfl,rfl,_,rfl,?_⟩;rw[di];refine aB (fun h1=>?_) (fun h1=>?_)
  ·rw[h1,Bool.true_and,<- di]at q
   exact⟨_,rfl,u.p,_,_,_,rfl,rfl,SqT.of pu.p_,rfl,u.y,_,_,_,rfl,rfl,SqT.of pu.y_,rfl,rfl,q⟩
  ·rw[h1,Bool.false_and]at q
   exact q
theorem C7:zQ ["begin","end","rise","fall"] ["begin","end"] (ag (top 53)):=smk
theorem kX(Dy:Df K mg "hops_aside" (top 53)):Fn P w K mg base "hops_aside" ["begin","end"] 1 (DC dZ):=by
 refine Dy.fn C7 (fun _ _ _ _ _ _ us hl=>by obtain⟨_,_,rfl⟩:=cO hl;rfl) (fun vs H Q E h=>?_) (fun f cdv A outer s H vs Q E hr h=>?_)
 ·obtain⟨u,v,rfl,_⟩:=h
  rfl
 ·obtain⟨u,v,rfl,pu,qv,q⟩:=h
  refine⟨_,(af (av (i:=2) C7.nd rfl (Or.inl rfl) (ap bE (aj ak (aj ak (pv 1) ac (fun _ _=>rfl)) ac (fun _ _=>rfl)) (aj ak (aj ak (pv 0) ac (fun _ _=>rfl)) ac (fun _ _=>rfl)))) (af (av (i:=3) C7.nd rfl (Or.inl rfl) (ap bE (aj ak (aj ak (pv 0) ac (fun _ _=>rfl)) ac (fun _ _=>rfl)) (aj ak (aj ak (pv 1) ac (fun _ _=>rfl)) ac (fun _ _=>rfl)))) (ah (am (ic (bZ (aT dn (pv 2) ac (aq _)) (bJ (aT dn (pv 3) ac (aq _)))) (bJ (bZ (aT dn (pv 2) ac (aq _)) (bJ (aT dn (pv 3) ac (aq _)))))))))),?_⟩;have q:=q H (Same.refl _);unfold dZ at q;have P1:=SqT.of (K:=K) pu.p_;have P2:=SqT.of (K:=K) qv.p_;refine⟨_,rfl,v.p,_,_,_,rfl,rfl,P2,rfl,v.x,_,_,_,rfl,rfl,SqT.of qv.x_,rfl,_,rfl,u.p,_,_,_,rfl,rfl,P1,rfl,u.x,_,_,_,rfl,rfl,SqT.of pu.x_,rfl,_,_,rfl,rfl,?_⟩;refine⟨_,rfl,u.p,_,_,_,rfl,rfl,P1,rfl,u.y,_,_,_,rfl,rfl,SqT.of pu.y_,rfl,_,rfl,v.p,_,_,_,rfl,rfl,P2,rfl,v.y,_,_,_,rfl,rfl,SqT.of qv.y_,rfl,_,_,rfl,rfl,?_⟩;have tl:(decide (v.a - u.a≤0) && decide (u.c - v.c≤1))=false->Q (.bl (decide (v.a - u.a≤1) && decide (u.c - v.c≤0))) H:=fun e=>by rw[e,Bool.false_or]at q;exact q
  refine⟨_,rfl,_,_,rfl,rfl,_,rfl,aB (fun h1=>?_) (fun h1=>?_)⟩
  ·refine⟨_,rfl,_,_,rfl,rfl,_,rfl,aB (fun h2=>?_) (fun h2=>?_)⟩
   ·rw[h1,h2]at q
    exact q
   ·have t:=tl (by rw[h1,h2];rfl)
    refine⟨_,rfl,_,_,rfl,rfl,_,rfl,aB (fun h3=>?_) (fun h3=>?_)⟩
    ·rw[h3,Bool.true_and]at t
     exact⟨_,rfl,_,_,rfl,rfl,t⟩
    ·rw[h3,Bool.false_and]at t
     exact t
  ·have t:=tl (by rw[h1];rfl)
   refine⟨_,rfl,jn ?_⟩;refine⟨_,rfl,_,_,rfl,rfl,_,rfl,aB (fun h3=>?_) (fun h3=>?_)⟩
   ·rw[h3,Bool.true_and]at t
    exact⟨_,rfl,_,_,rfl,rfl,t⟩
   ·rw[h3,Bool.false_and]at t
    exact t
theorem EI:zQ ["begin","end","way"] ["begin","end","way"] (ag (top 54)):=smk
theorem hJ(Br:Iz K mg "may_step_fences" "may_step" (top 54))(Dm:Fn P w K mg base "hops_aside" ["begin","end"] 1 (DC dZ))(EL:Fn P w K mg base "slides" ["begin","end"] 5 (DC cP))(AV:Fn P w K mg base "steps_back" ["begin","end"] 2 (DC dz)):Fn P w K mg base "may_step_fences" ["begin","end","way"] 6 GW:=by
 refine Br.fn EI (fun _ _ _ _ _ _ us hl=>by obtain⟨_,_,_,rfl⟩:=fI hl;rfl) (fun vs H Q E h=>?_) (fun f cdv A outer s H vs Q E hr h=>?_)
 ·obtain⟨u,v,wy,rfl,_⟩:=h
  rfl
 ·obtain⟨u,v,wy,rfl,pu,qv,k⟩:=h
  refine⟨_,(af (aF (ar aW (pv 2) aE (aq _)) (ah (am (ao Dm (hr.mono (by decide)) (by rfl) (aa (pv 0) (aa (pv 1) ae))))) aw) (af (aF (ar aW (pv 2) aE (aq _)) (ah (am (ao EL (hr.mono (by decide)) (by rfl) (aa (pv 0) (aa (pv 1) ae))))) aw) (ah (am (ic (ao AV (hr.mono (by decide)) (by rfl) (aa (pv 0) (aa (pv 1) ae))) (bJ (ao EL (hr.mono (by decide)) (by rfl) (aa (pv 0) (aa (pv 1) ae))))))))),?_⟩;unfold cR at k;refine⟨_,rfl,rfl,_,rfl,aB (fun h1=>?_) (fun h1=>?_)⟩
  ·rw[if_pos (show wy=aQ from bF (ds h1))]at k
   exact⟨_,rfl,_,rfl,u,v,rfl,pu,qv,k⟩
  rw[if_neg (show ¬wy=aQ from ci (ds h1))]at k;refine⟨_,rfl,rfl,_,rfl,aB (fun h2=>?_) (fun h2=>?_)⟩
  ·rw[if_pos (show wy=cp from bF (ds h2))]at k
   exact⟨_,rfl,_,rfl,u,v,rfl,pu,qv,k⟩
  rw[if_neg (show ¬wy=cp from ci (ds h2))]at k;refine⟨_,rfl,_,rfl,u,v,rfl,pu,qv,fun H1 s1=>⟨_,rfl,aB (fun h3=>?_) (fun h3=>?_)⟩⟩
  ·have y:=k H1 s1
   rw[h3,Bool.true_or]at y;exact y
  ·rw[h3,Bool.false_or]at k
   exact⟨_,rfl,_,rfl,u,v,rfl,pu.t s1.t,qv.t s1.t,fun H2 s2=>k H2 (s1.trans s2)⟩
def vZ(s:Stmt):Expr:=match s with
 | .If (.BoolOp _ [_,.UnaryOp _ e _] _) _ _ _=>e
 | _=>.Name "" ⟨0,0,0,0⟩
def pr0:Pr:=⟨0,0,0,0,0,0,0⟩
def uC(wy:Str)(ps:List Pr):List Bool:=(List.range (ps.length - 1)).map fun i=>cR wy (ps.getD i pr0) (ps.getD (i+1) pr0)
theorem uB(wy:Str)(ps:List Pr):(uC wy ps).all id=aY wy ps:=by
 rw[Bool.eq_iff_iff,List.all_eq_true,dJ];unfold uC;constructor
 ·intro h j u v eu ev
  have hj:=(List.getElem?_eq_some_iff.mp ev).1;have z:=h _ (List.mem_map.mpr ⟨j,List.mem_range.mpr (by omega),rfl⟩);rw[List.getD_eq_getElem?_getD,List.getD_eq_getElem?_getD,eu,ev]at z;exact z
 ·intro h x hx
  obtain⟨j,hj,rfl⟩:=List.mem_map.mp hx;have hj:=List.mem_range.mp hj;have eu:ps[j]? = some ps[j]:=List.getElem?_eq_getElem (by omega);have ev:ps[j+1]? = some ps[j+1]:=List.getElem?_eq_getElem (by omega);rw[List.getD_eq_getElem?_getD,List.getD_eq_getElem?_getD,eu,ev];exact h j _ _ eu ev
theorem jK(ps:List Pr):ja (prs ps) (some 1) none=prs (ps.drop 1):=by
 unfold ja prs;rw[show(1:Int)=((1:Nat):Int) from rfl,HT.sIx_nat,HT.sIx_none,List.length_map,<- List.map_drop]
 by_cases h:1≤ps.length
 ·rw[Nat.min_eq_left h,List.take_of_length_le (by rw[List.length_map,List.length_drop];exact Nat.le_refl _)]
 ·have e0:ps = []:=List.length_eq_zero_iff.mp (by omega)
  subst e0;rfl
theorem Cq:zQ ["fence","way"] ["fence","way"] (ag (top 56)):=smk
theorem eP(Ax:Iz K mg "has_right_steps_fences" "has_right_steps" (top 56))(Bk:Fn P w K mg base "may_step_fences" ["begin","end","way"] 6 GW)(T:Txt mg):Fn P w K mg base "has_right_steps_fences" ["fence","way"] 7 FE:=by
 refine Ax.fn Cq (fun _ _ _ _ _ _ us hl=>by obtain⟨_,_,rfl⟩:=cO hl;rfl) (fun vs H Q E h=>?_) (fun f cdv A outer s H vs Q E hr h=>?_)
 ·obtain⟨l,ps,wy,rfl,_⟩:=h
  rfl
 ·obtain⟨l,ps,wy,rfl,PP,hlen,k⟩:=h
  have CM2:GO (aN CX0 P w K mg base ["fence","way"] "has_right_steps" (ag (top 56)) f cdv A outer s H E).nox (Sp7.retScope ((aA (top 56)).getD 0 (.Pass ⟨0,0,0,0⟩))) [("way",s.heap.objs.size+1)] ["begin","end"] [("way",1)] :=
   ⟨by rfl,rfl,by decide +kernel,by decide +kernel,(fun x hx=>by simp only[List.mem_cons,List.not_mem_nil,or_false]at hx;rcases hx with rfl|rfl <;> rfl),(fun p hp=>by simp only[List.mem_cons,List.not_mem_nil,or_false]at hp;subst hp;rfl),by rfl,by decide +kernel,(fun p hp=>by simp only[List.mem_cons,List.not_mem_nil,or_false]at hp;subst hp;exact⟨rfl,rfl,.inr (.inl rfl),rfl,rfl⟩),⟨rfl,rfl⟩,rfl⟩
  refine⟨_,(ah (am (az (gg rfl) (by rfl) T.z_all kC (aa (uf rfl CM2 (mE rfl T.z_zip (aa (pv 0) (aa (dR eF (pv 0) (dl ac) fE) ae))) (fun fp s₀ H₀=>(vR (K:=K) (n:=2) rfl rfl (aH (aI (i:=0) CM2.nd rfl (Or.inl rfl) (Or.inr rfl)) (aH (aI (i:=1) CM2.nd rfl (Or.inl rfl) (Or.inr rfl)) cn)))) (fun fp s₀ H₀=>vO) (fun fp s₀ H₀=>(ao Bk (hr.mono (by decide)) (by rfl) (aa (pv 0) (aa (pv 1) (aa (pv 2) ae)))))) ae)))),?_⟩;refine⟨_,rfl,_,rfl,_,rfl,l,_,rfl,SqL.of PP.lst,fun l2 H1 s1 f1 n1=>?_⟩;rw[jK]at f1;have P1:=PP.mono s1;have lmin:min (prs ps).length (prs (ps.drop 1)).length=ps.length - 1:=by rw[aV,aV,List.length_drop];omega
  refine⟨l,l2,rfl,⟨_,SqL.of P1.lst⟩,⟨_,SqL.of f1⟩,td (K:=K) (k:=2) (SqL.of P1.lst) (SqL.of f1) (by rw[lmin];omega) (fun i v _=>v = .bl (cR wy (ps.getD i pr0) (ps.getD (i+1) pr0))) (fun _ _ _ _ _ h=>h) ?_ ?_⟩
  ·intro i x y p H2 τ Kc hx hy s2 ep hτ kk
   obtain⟨τ0,τ1,rfl⟩:∃τ0 τ1,τ = [τ0,τ1]:=by
    match τ,hτ with
    | [a,b],_=>exact⟨a,b,rfl⟩
   obtain⟨u,hu,rfl⟩:=cV hx;obtain⟨v,hv,rfl⟩:=cV hy;have hv':ps[i+1]? = some v:=by rw[List.getElem?_drop]at hv;rw[Nat.add_comm];exact hv
   have qu:=(P1.pr u (List.mem_of_getElem? hu)).t s2.t;have qv:=(P1.pr v (List.mem_of_getElem? hv')).t s2.t;refine⟨p,_,rfl,SqT.of ep,rfl,_,_,rfl,_,_,rfl,rfl,⟨[some (.ref u.p),some (.ref v.p)],rfl,rfl⟩,?_⟩;refine⟨_,rfl,_,rfl,_,rfl,u,v,wy,rfl,qu,qv,fun H4 s4=>kk _ H4 s4 ?_⟩;rw[List.getD_eq_getElem?_getD,List.getD_eq_getElem?_getD,hu,hv'];rfl
  ·intro l3 zs H2 nl s2 f2 hl hr
   have ey:zs=(uC wy ps).map V.bl:=by
    rw[lmin]at hl;refine List.ext_getElem? fun i=>?_;unfold uC
    by_cases hi:i<ps.length - 1
    ·have h1:zs[i]? = some zs[i]:=List.getElem?_eq_getElem (by omega)
     rw[h1,hr i _ h1,List.getElem?_map,List.getElem?_map,List.getElem?_range hi];rfl
    ·rw[List.getElem?_eq_none (by omega),List.getElem?_eq_none (by simp;omega)]
   rw[ey]at f2;refine⟨l3,uC wy ps,rfl,SqL.of f2,?_⟩;rw[uB];exact k H2 (s1.trans s2)
theorem Hk:zQ ["one","other","thing","way"] ["one","other","thing","way"] (ag (top 58)):=smk
theorem o5{C:Addr}(EE:HN K mg "is_fence" (top 58) [.str "on"])(Cu:Fx P w K mg base "look_at_way" ["way"] 1 [] (GQ C))(DO:Fn P w K mg base "are_pairs" ["one","other","thing"] 5 Gn)(Ba:Fn P w K mg base "has_whole_places" ["pair"] 1 HU)(Az:Fn P w K mg base "has_right_ends_fences" ["one","other","fence","way"] 2 Gv)(Aw:Fn P w K mg base "has_right_steps_fences" ["fence","way"] 7 FE)(T:Txt mg):Fx P w K mg base "is_fence" ["one","other","thing","way"] 8 [.str "on"] (EQ C):=by
 refine EE.fx Hk (fun T kV doc pm an cdv ct us its oT n s hv hl ho hs=>?_) (fun T kV doc pm an cdv ct us its oT n s hv hl ho hs=>?_) (fun vs H Q E h=>?_) (fun f cdv A outer s H vs Q E hr h=>?_)
 ·obtain⟨u,rfl,_⟩:=cT hv
  obtain⟨_,_,_,_,rfl⟩:=ir hl;exact BindsTo.of_defaults rfl ho hs rfl rfl
 ·obtain⟨u,rfl,_⟩:=cT hv
  have hl1:us.length=3:=by simpa using hl
  obtain⟨_,_,_,rfl⟩:=fI hl1;exact BindsTo.of_defaults rfl ho hs rfl rfl
 ·obtain⟨l1,l2,xs1,xs2,v,x,t,rfl,_⟩:=h
  rfl
 ·obtain⟨l1,l2,xs1,xs2,v,x,t,rfl,⟨e1,n1⟩,⟨e2,n2⟩,pt,kn,h⟩:=h
  have CN:AX (aN (CXE P w) P w K mg base ["one","other","thing","way"] "is_fence" (ag (top 58)) f cdv A outer s H E) (Dr.compScope (vZ ((aA (top 58)).getD 2 (.Pass ⟨0,0,0,0⟩)))) [] "pair" [] :=
   ⟨by rfl,rfl,by decide +kernel,by decide +kernel,rfl,(fun p hp=>nomatch hp),by rfl,by decide +kernel,(fun p hp=>nomatch hp),⟨rfl,rfl⟩,rfl⟩
  refine⟨_,(af (eS (dj Cu (hr.mono (by decide)) (by rfl) (aa (pv 3) ae))) (af (aF (bq (aM (ao DO (hr.mono (by decide)) (by rfl) (aa (pv 0) (aa (pv 1) (aa (pv 2) ae)))))) (ah (am bW)) aw) (af (aF (bR (ar aW (pv 3) aE (aq _)) (bU (bq (aM (az (gg rfl) (by rfl) T.z_all kC (aa (fS rfl CN (cW (pv 2)) (fun fp s₀ H₀=>(ao Ba (hr.mono (by decide)) (by rfl) (aa (pv 0) ae)))) ae)))))).pt (ah (am bW)) aw) (ah (am (bZ (ao Az (hr.mono (by decide)) (by rfl) (aa (pv 0) (aa (pv 1) (aa (pv 2) (aa (pv 3) ae))))) (bJ (ao Aw (hr.mono (by decide)) (by rfl) (aa (pv 2) (aa (pv 3) ae)))))))))),?_⟩;rcases h with⟨wy,rfl,hw,q⟩|⟨hn,hE⟩
  ·refine⟨_,rfl,_,_,rfl,kn,.inl ⟨wy,rfl,hw,?_⟩⟩
   refine⟨_,rfl,_,rfl,_,rfl,l1,l2,xs1,xs2,v,rfl,⟨e1,n1⟩,⟨e2,n2⟩,pt,fun H1 s1=>⟨_,rfl,aB (fun h1=>?_) (fun h1=>?_)⟩⟩
   ·exact q false H1 s1 (.inl ⟨by simpa using h1,rfl⟩)
   have h1:eJ ((xs1.length:Int) - 1) ((xs2.length:Int) - 1) H v=true:=by simpa using h1
   obtain⟨l,ps,rfl,PP,hne,hin,hlen⟩:=qg pt h1
   match ps,hne,PP,hin,hlen with
   | f::r,_,PP,hin,hlen =>
   refine⟨_,rfl,rfl,_,rfl,aB (fun c1=>?_) (fun c1=>?_)⟩
   ·have ew:wy=aQ:=bF (ds c1)
    have P1:=PP.mono s1;refine⟨_,rfl,l,rfl,⟨_,SqL.of P1.lst⟩,jd (SqL.of P1.lst) (by rw[aV];omega) (fun i v' _=>v' = .bl (aZ ((f::r).getD i pr0))) (fun _ _ _ _ _ h=>h) ?_ ?_⟩
    ·intro i x H2 Kc hx s2 kk
     obtain⟨u,hu,rfl⟩:=cV hx;refine⟨_,rfl,u,rfl,(P1.pr u (List.mem_of_getElem? hu)).t s2.t,kk _ _ (Same.refl _) ?_⟩;rw[List.getD_eq_getElem?_getD,hu];rfl
    ·intro l3 ys H2 nl s2 f2 hl hr
     have ey:ys=((f::r).map aZ).map V.bl:=by
      rw[aV]at hl;refine List.ext_getElem? fun i=>?_
      by_cases hi:i<(f::r).length
      ·have g1:ys[i]? = some ys[i]:=List.getElem?_eq_getElem (by omega)
       rw[g1,hr i _ g1,List.getElem?_map,List.getElem?_map,List.getElem?_eq_getElem hi,List.getD_eq_getElem?_getD,List.getElem?_eq_getElem hi];rfl
      ·rw[List.getElem?_eq_none (by omega),List.getElem?_eq_none (by simp at hi ⊢;omega)]
     rw[ey]at f2;refine⟨l3,(f::r).map aZ,rfl,SqL.of f2,_,rfl,?_⟩;rw[List.all_map];have S2:=s1.trans s2;refine aB (fun c2=>?_) (fun c2=>?_)
     ·have c2:(f::r).all (id ∘ aZ)=false:=by simpa only[Bool.not_eq_true']using c2
      have c2:(f::r).all aZ=false:=c2;refine q false H2 S2 (.inr ⟨l,f::r,rfl,PP,?_⟩);rw[cg,hin,if_pos ew,c2];rfl
     ·have c2:(f::r).all (id ∘ aZ)=true:=by simpa only[Bool.not_eq_false']using c2
      have c2:(f::r).all aZ=true:=c2;have E3:(if wy=aQ then (f::r).all aZ else true)=true:=by rw[if_pos ew,c2]
      refine⟨_,rfl,_,rfl,_,rfl,_,rfl,l1,l2,l,xs1,xs2,f,r,wy,rfl,S2 _ _ e1,S2 _ _ e2,PP.mono S2,fun H5 s5=>⟨_,rfl,aB (fun h2=>?_) (fun h2=>?_)⟩⟩
      ·refine⟨_,rfl,_,rfl,l,f::r,wy,rfl,(PP.mono S2).mono s5,hlen,fun H6 s6=>q _ H6 (S2.trans (s5.trans s6)) (.inr ⟨l,f::r,rfl,PP,?_⟩)⟩
       rw[cg,hin,E3,h2];rfl
      ·refine q _ H5 (S2.trans s5) (.inr ⟨l,f::r,rfl,PP,?_⟩)
       rw[cg,hin,E3,h2];rfl
   ·have ew:¬wy=aQ:=ci (ds c1)
    have E3:(if wy=aQ then (f::r).all aZ else true)=true:=by rw[if_neg ew]
    refine⟨_,rfl,_,rfl,_,rfl,_,rfl,l1,l2,l,xs1,xs2,f,r,wy,rfl,s1 _ _ e1,s1 _ _ e2,PP.mono s1,fun H5 s5=>⟨_,rfl,aB (fun h2=>?_) (fun h2=>?_)⟩⟩
    ·refine⟨_,rfl,_,rfl,l,f::r,wy,rfl,(PP.mono s1).mono s5,hlen,fun H6 s6=>q _ H6 (s1.trans (s5.trans s6)) (.inr ⟨l,f::r,rfl,PP,?_⟩)⟩
     rw[cg,hin,E3,h2];rfl
    ·refine q _ H5 (s1.trans s5) (.inr ⟨l,f::r,rfl,PP,?_⟩)
     rw[cg,hin,E3,h2];rfl
  ·exact⟨_,rfl,_,_,rfl,kn,.inr ⟨hn,hE⟩⟩
theorem sS{a b:Int}(hb:0<b):Int.gcd b (a % b)=Int.gcd a b:=by
 have e:a=a % b+a / b*b:=by
  have:=Int.emod_add_mul_ediv a b;rw[Int.mul_comm]at this;omega
 have h:=Int.gcd_add_mul_right_right b (a % b) (a / b);rw[<- e]at h;rw[Int.gcd_comm a b,h]
inductive Hw (vs:List V) (H:Hp) (Q:VK) (x_3:XK):Prop
 | mk:∀a b:Int,(vs = [.int a,.int b])->(0≤b)->(Q (.int (Int.gcd a b:Int)) H)->Hw vs H Q x_3
inductive FB (vs:List V) (H:Hp) (Q:VK) (x_3:XK):Prop
 | mk:∀a b:Int,(vs = [.int a,.int b])->((0<b∧au b≤2000))->(∀(p:Addr) (t u:Int) (H':Hp),zV a b t u->t=a / (Int.gcd a b:Int)->u=b / (Int.gcd a b:Int)->Same H H'->H' p=some (.tup [.int t,.int u])->H p=none->Q (.ref p) H')->FB vs H Q x_3
inductive Fw (vs:List V) (H:Hp) (Q:VK) (x_3:XK):Prop
 | mk:∀(p:Addr) (n k:Int),(vs = [.ref p,.int n])->(Pot H p k)->(k≤800000)->((0≤n∧n≤100))->(∀(z:Addr) (t b:Int) (H':Hp),AM t b->n*b≤t->t≤(n+1)*b->au t≤200->au b≤60->But p H H'->H' z=some (.tup [.int t,.int b])->Pot H' p (k+10)->Q (.ref z) H')->Fw vs H Q x_3
structure Dp(H:Hp)(z:Addr)(t b n:Int)(w:Str):Prop where
 at_:H z=some (.tup [.int t,.int b])
 low:AM t b
 n0:0≤t
 n1:t≤n*b
 bt:au t≤200
 bb:au b≤60
 hop:w=aQ->b=1
theorem Dp.t'{H H':Hp}{z:Addr}{t b n:Int}{w:Str}(d:Dp H z t b n w)(s:SameT H H'):Dp H' z t b n w:=⟨s _ _ d.at_,d.low,d.n0,d.n1,d.bt,d.bb,d.hop⟩
inductive Hx (vs:List V) (H:Hp) (Q:VK) (x_3:XK):Prop
 | mk:∀(p:Addr) (n k:Int) (w:Str),(vs = [.ref p,.int n,.str w])->(Pot H p k)->(k≤700000)->((0≤n∧n≤50))->(∀(z:Addr) (t b:Int) (H':Hp),Dp H' z t b n w->But p H H'->Pot H' p (k+20)->Q (.ref z) H')->Hx vs H Q x_3
theorem cA{k a b c d:Int}(hb:0<b)(hd:0<d)(h1:k*b≤a)(h2:a≤(k+1)*b)(h3:k*d≤c)(h4:c≤(k+1)*d):bD a b c d=true:=by
 unfold bD
 split
 ·have q:=rK hd h3
  have q2:(k+1)*b≤(c / d+1)*b:=Int.mul_le_mul_of_nonneg_right (by omega) (by omega);rw[decide_eq_false (by rw[Int.mul_one];omega)];rfl
 ·have q:=rK hb h1
  have q2:(k+1)*d≤(a / b+1)*d:=Int.mul_le_mul_of_nonneg_right (by omega) (by omega);rw[decide_eq_false (by rw[Int.mul_one];omega)];rfl
theorem rJ{t b n:Int}(hb:0<b)(h:t≤n*b):t / b≤n:=Int.ediv_le_of_le_mul hb h
theorem rL{t b n:Int}(h:AM t b)(h1:t≤n*b)(e:t / b=n):t=n∧b=1:=by
 have hb:0<b:=h.pos;have q:=dC (a:=t) hb;rw[e]at q;have et:t=n*b:=by omega
 have z:=cj h (⟨by decide,Int.gcd_one⟩:AM n 1) (by rw[et];rw[Int.mul_one]);exact z
theorem EJ:zQ ["pot","line"] ["pot","line"] (ag (top 98)):=smk
theorem hV(Bt:Df K mg "_law_drawn_other" (top 98))(zR:Fn P w K mg base "_law_take" ["pot","size"] 1 Dr.spTk)(Al:Fn P w K mg base "_law_drawn_line" ["pot"] 3 Dr.spDLine)(T:Txt mg):Fn P w K mg base "_law_drawn_other" ["pot","line"] 4 Go:=by
 refine Bt.fn EJ (fun _ _ _ _ _ _ us hl=>by obtain⟨_,_,rfl⟩:=cO hl;rfl) (fun vs H Q E h=>?_) (fun f cdv A outer s H vs Q E hr h=>?_)
 ·obtain⟨p,l,qs,k,rfl,_⟩:=h
  rfl
 ·obtain⟨p,l,qs,k,rfl,pt,hk,L,⟨hq1,hq10⟩,q⟩:=h
  refine⟨_,(af (aF (ar aW (ao zR (hr.mono (by decide)) (by rfl) (aa (pv 0) (aa ac ae))) ac (aq _)) (ah (am (ji rfl rfl T.z_list rfl T.z_reversed (pv 1)))) aw) (ah (am (ao Al (hr.mono (by decide)) (by rfl) (aa (pv 0) ae))))),?_⟩;have npl:l≠p:=fun z=>by
   obtain⟨x,y,w,ep,_⟩:=pt;subst z;have e:=L.lst;rw[ep]at e;cases qs with
   | nil=>exact absurd hq1 (by simp)
   | cons c cs =>
    have e':=congrArg (fun o=>match o with|some (HO.lst (V.ref _::_))=>true|_=>false) e
    exact absurd e' (by simp)
  refine⟨_,rfl,p,_,_,rfl,pt,by omega,⟨by decide,by decide⟩,fun r1 H1 _ _ b1 p1=>?_⟩;have L1:=L.but b1 pt npl;refine⟨rfl,_,rfl,aB (fun h2=>?_) (fun h2=>?_)⟩
  ·refine⟨_,rfl,l,_,rfl,SqL.of L1.lst,fun r H2 s2 f2 n2=>?_⟩
   have npr:=Pot.ne p1 n2;have er:(qs.map fun (q:Addr×Int×Int)=>V.ref q.1).reverse=qs.reverse.map fun (q:Addr×Int×Int)=>V.ref q.1:=by rw[List.map_reverse]
   rw[er]at f2;exact q r qs.reverse H2 ⟨f2,fun z hz=>⟨s2 _ _ (L1.crn z (List.mem_reverse.mp hz)).1,(L1.crn z (List.mem_reverse.mp hz)).2⟩⟩ (by rw[List.length_reverse];exact hq1) (by rw[List.length_reverse];exact hq10) (b1.none npr n2) (b1.trans (But.of s2))
  ·refine⟨_,rfl,p,_,rfl,p1,by omega,fun r rs H2 L2 h1' h2' n2 b2 p2=>?_⟩
   have npr:=Pot.ne p1 n2;exact q r rs H2 L2 h1' h2' (b1.none npr n2) (b1.trans b2)
theorem Fi:zQ ["script","one"] ["script"] (ag (top 99)):=smk
theorem m4(D0:Df K mg "_law_lines" (top 99))(BG:Fn P w K mg base "_law_cell_at" ["script","k"] 1 (Dr.spCell K))(AU:Fn P w K mg base "_law_begun" ["cell"] 1 Dr.spBegun)(Al:Fn P w K mg base "_law_drawn_line" ["pot"] 3 Dr.spDLine)(Bn:Fn P w K mg base "_law_drawn_other" ["pot","line"] 4 Go):Fn P w K mg base "_law_lines" ["script"] 5 (Gq K):=by
 refine D0.fn Fi (fun _ _ _ _ _ _ us hl=>by obtain⟨_,rfl⟩:=dI hl;rfl) (fun vs H Q E h=>?_) (fun f cdv A outer s H vs Q E hr h=>?_)
 ·obtain⟨sa,ss,rfl,_⟩:=h
  rfl
 ·obtain⟨sa,ss,rfl,hS,q⟩:=h
  refine⟨_,(af (av (i:=1) Fi.nd rfl (Or.inl rfl) (ao Al (hr.mono (by decide)) (by rfl) (aa (ao AU (hr.mono (by decide)) (by rfl) (aa (ao BG (hr.mono (by decide)) (by rfl) (aa (pv 0) (aa ac ae))) ae)) ae))) (ah (am (aG (aa (pv 1) (aa (ao Bn (hr.mono (by decide)) (by rfl) (aa (ao AU (hr.mono (by decide)) (by rfl) (aa (ao BG (hr.mono (by decide)) (by rfl) (aa (pv 0) (aa ac ae))) ae)) (aa (pv 1) ae))) ae)))))),?_⟩;refine⟨_,rfl,sa,ss,0,rfl,hS,by decide,fun c0=>?_⟩;refine⟨c0,rfl,fun p0 H0 s0 n0 pt0=>?_⟩;refine⟨p0,0,rfl,pt0,by decide,fun l qs H1 L1 h1 h10 nl b1 _=>?_⟩;have s1:Same H H1:=b1.same s0 n0;refine⟨_,rfl,_,rfl,sa,ss,1,rfl,s1.seq hS,by decide,fun c1=>?_⟩;refine⟨c1,rfl,fun p2 H2 s2 n2 pt2=>⟨_,rfl,p2,l,qs,0,rfl,pt2,by decide,L1.mono s2,⟨h1,h10⟩,fun r rs H3 L3 h3 h30 nr b3=>?_⟩⟩;have nlp:l≠p2:=aS L1.lst n2;have s3:Same H1 H3:=b3.same s2 n2;have L3':LineM H3 l qs:=L1.mono s3;refine⟨sz (by simp),fun t H4 s4 f4 n4=>?_⟩;exact q t l r qs rs H4 (s1.trans (s3.trans s4)) f4 (L3'.mono s4) ⟨h1,h10⟩ (L3.mono s4) ⟨h3,h30⟩ (s0.free nl) (s1.free (s2.free nr)) (aS (s2 _ _ L1.lst) nr)
theorem Ed:zQ ["one","other"] ["one","other"] (ag (top 100)):=smk
theorem kr(CI:Df K mg "_law_divisor" (top 100))(T:Txt mg):Fn P w K mg base "_law_divisor" ["one","other"] 1 Hw:=by
 refine CI.fn Ed (fun _ _ _ _ _ _ us hl=>by obtain⟨_,_,rfl⟩:=cO hl;rfl) (fun vs H Q E h=>?_) (fun f cdv A outer s H vs Q E hr h=>?_)
 ·obtain⟨a,b,rfl,_⟩:=h
  rfl
 ·obtain⟨a,b,rfl,hb,q⟩:=h
  refine⟨_,(af (jQ PassesOwn.never (ar dU (pv 1) ac (aq _)) (ah (xF (i:=0) (j:=1) rfl Ed.nd rfl rfl (by decide) rfl rfl (aa (pv 1) (aa (ap dE (pv 0) (pv 1)) ae)) (by rfl)))) (ah (am (az gh (by rfl) T.z_abs kD (aa (pv 0) ae))))),?_⟩;refine jO (fun σ H'=>∃x y:Int,σ = [some (.int x),some (.int y)]∧H'=H∧0≤y∧Int.gcd x y=Int.gcd a b)
   (fun σ _=>match σ with | [_,some (.int y)]=>y.toNat|_=>0) ⟨_,_,rfl,rfl,hb,rfl⟩ ?_ ?_
  ·rintro σ H' ⟨x,y,rfl,rfl,hy,hg⟩
   refine⟨_,rfl,rfl,_,rfl,?_⟩;refine aB (fun hc=>?_) (fun hc=>?_)
   ·have hy0:¬y=0:=by simpa using hc
    have hy1:0<y:=by omega
    refine⟨_,rfl,_,rfl,_,rfl,x,y,rfl,rfl,hy1,_,_,rfl,⟨y,x % y,rfl,rfl,Int.emod_nonneg _ hy0,?_⟩,?_⟩
    ·rw[sS hy1]
     exact hg
    ·have h1:=Int.emod_lt_of_pos x hy1
     have h2:=Int.emod_nonneg x hy0;show(x % y).toNat<y.toNat;omega
   ·have hy0:y=0:=by simpa using hc
    subst hy0;refine⟨_,rfl,x,rfl,?_⟩;have e:(Int.gcd a b:Int)=(if x<0 then -x else x):=by rw[<- hg,Int.gcd_zero];split <;> omega
    rw[e]at q;exact q
  ·rintro σ H' Q1 Q2 hq ⟨v,e,hs,k,ek,r⟩
   exact⟨v,e,hs,k,ek,hq _ _ r⟩
theorem Fh:zQ ["top","bottom","by"] ["top","bottom"] (ag (top 101)):=smk
theorem mZ(DZ:Df K mg "_law_ratio" (top 101))(AG:Fn P w K mg base "_law_divisor" ["one","other"] 1 Hw):Fn P w K mg base "_law_ratio" ["top","bottom"] 2 FB:=by
 refine DZ.fn Fh (fun _ _ _ _ _ _ us hl=>by obtain⟨_,_,rfl⟩:=cO hl;rfl) (fun vs H Q E h=>?_) (fun f cdv A outer s H vs Q E hr h=>?_)
 ·obtain⟨a,b,rfl,_⟩:=h
  rfl
 ·obtain⟨a,b,rfl,⟨hb,bb⟩,q⟩:=h
  refine⟨_,(af (av (i:=2) Fh.nd rfl (Or.inl rfl) (ao AG (hr.mono (by decide)) (by rfl) (aa (pv 0) (aa (pv 1) ae)))) (ah (am (aG (aa (ap cv (pv 0) (pv 2)) (aa (ap cv (pv 1) (pv 2)) ae)))))),?_⟩;refine⟨_,rfl,_,rfl,a,b,rfl,by omega,?_⟩;have hg:=dO (a:=a) (b:=b) (by omega);have bg:au (Int.gcd a b:Int)≤8000:=ai (lQ (by omega) bb) (by decide);refine⟨_,rfl,_,rfl,_,_,rfl,rfl,⟨hg,bg⟩,_,rfl,_,rfl,_,_,rfl,rfl,⟨hg,bg⟩,sz (by simp),fun p H1 s1 f1 n1=>?_⟩;exact q p _ _ H1 (fZ hb) rfl rfl s1 f1 n1
theorem GL:zQ ["one","other"] ["one","other"] (ag (top 102)):=smk
theorem m9(D2:Df K mg "_law_below" (top 102)):Fn P w K mg base "_law_below" ["one","other"] 1 Bh:=by
 refine D2.fn GL (fun _ _ _ _ _ _ us hl=>by obtain⟨_,_,rfl⟩:=cO hl;rfl) (fun vs H Q E h=>?_) (fun f cdv A outer s H vs Q E hr h=>?_)
 ·obtain⟨p,q,a,b,c,d,rfl,_⟩:=h
  rfl
 ·obtain⟨p,q,a,b,c,d,rfl,hp,hq,⟨ba,bb,bc,bd⟩,k⟩:=h
  refine⟨_,(ah (am (aT lH (ap aJ (aj ak (pv 0) ac (fun _ _=>rfl)) (aj ak (pv 1) ac (fun _ _=>rfl))) (ap aJ (aj ak (pv 1) ac (fun _ _=>rfl)) (aj ak (pv 0) ac (fun _ _=>rfl))) (aq _)))),?_⟩
  walk_at "rd"
  exact k
theorem Ec:zQ ["pot","at","parts"] ["pot","at"] (ag (top 117)):=smk
theorem ko(CG:Df K mg "_law_spot_on" (top 117))(zR:Fn P w K mg base "_law_take" ["pot","size"] 1 Dr.spTk)(AS:Fn P w K mg base "_law_wide" ["pot","size"] 2 Dr.spWd)(At:Fn P w K mg base "_law_ratio" ["top","bottom"] 2 FB):Fn P w K mg base "_law_spot_on" ["pot","at"] 3 Fw:=by
 refine CG.fn Ec (fun _ _ _ _ _ _ us hl=>by obtain⟨_,_,rfl⟩:=cO hl;rfl) (fun vs H Q E h=>?_) (fun f cdv A outer s H vs Q E hr h=>?_)
 ·obtain⟨p,n,k,rfl,_⟩:=h
  rfl
 ·obtain⟨p,n,k,rfl,pt,hk,⟨hn0,hn1⟩,q⟩:=h
  refine⟨_,(af (av (i:=2) Ec.nd rfl (Or.inl rfl) (ap bz ac (ao AS (hr.mono (by decide)) (by rfl) (aa (pv 0) (aa (aj aC (cu (aa ac (aa ac (aa ac (aa (ap jZ ac ac) ae))))) (ao zR (hr.mono (by decide)) (by rfl) (aa (pv 0) (aa ac ae))) (fun _ _=>rfl)) ae))))) (ah (am (ao At (hr.mono (by decide)) (by rfl) (aa (ap bz (ap aJ (pv 1) (pv 2)) (ao AS (hr.mono (by decide)) (by rfl) (aa (pv 0) (aa (ap bz (pv 2) ac) ae)))) (aa (pv 2) ae)))))),?_⟩;have e18:(10:Int)^(18:Int).toNat=1000000000000000000:=by decide +kernel
  refine⟨_,rfl,_,_,rfl,rfl,⟨by decide,by decide,by decide⟩,sz (by simp),fun pl H1 s1 f1 n1=>?_⟩;have np1:=Pot.ne pt n1;have p1:=pt.same s1;refine⟨_,rfl,p,_,_,rfl,p1,by omega,⟨by decide,by decide⟩,fun r2 H2 a2 b2' b2 p2=>?_⟩;refine uz (fun m=>1≤m∧m≤1000000000000000000) (b2 _ _ np1 f1) a2 (by simpa using b2') (fun v hv=>?_) fun m hm=>?_
  ·simp only[List.mem_cons,List.not_mem_nil,or_false]at hv
   rcases hv with rfl|rfl|rfl|rfl
   ·exact⟨_,rfl,by decide,by decide⟩
   ·exact⟨_,rfl,by decide,by decide⟩
   ·exact⟨_,rfl,by decide,by decide⟩
   ·exact⟨_,rfl,by rw[e18];decide,by rw[e18];decide⟩
  have bits61:∀{z:Int},0≤z->z≤1000000000000000001->au z≤61:=fun {z} h0 h1=>d9 (n:=61) (by show _<2305843009213693952;omega);refine⟨p,_,_,rfl,p2,by omega,⟨by omega,ai (bits61 (by omega) (by omega)) (by decide)⟩,fun r3 H3 a3 b3' b3 p3=>⟨_,_,rfl,rfl,?_⟩⟩;have bn:au n≤10:=bV (by omega) (by omega);have bp:au (1+r3)≤61:=bits61 (by omega) (by omega);have bp60:au (1+r3)≤60:=d9 (n:=60) (by show _<1152921504606846976;omega);refine⟨_,rfl,_,rfl,_,_,rfl,rfl,CM.l (uE (by omega) (by omega)),_,rfl,_,rfl,_,_,rfl,rfl,p,_,_,rfl,p3,by omega,⟨by omega,ai (bits61 (by omega) (by omega)) (by decide)⟩,fun r4 H4 a4 b4' b4 p4=>⟨_,_,rfl,rfl,?_⟩⟩;have B4:But p H H4:=((But.of s1).trans b2).trans (b3.trans b4);refine⟨_,rfl,_,_,rfl,⟨by omega,ai bp (by decide)⟩,fun z t b H5 fr et eb s5 f5 n5=>?_⟩;have hb:0<b:=fr.low.pos;have hpp:0<1+r3:=by omega
  have heq:=fr.eq;have br4:au r4≤61:=bits61 (by omega) (by omega);have btop:au (n*(1+r3)+r4)≤100:=by walk_at "bl"
  refine q z t b H5 fr.low ?_ ?_ ?_ ?_ (B4.trans (But.of s5)) f5 ((p4.same s5).mono (by omega))
  ·have h1:n*b*(1+r3)≤t*(1+r3):=by
    rw[<- heq];have:0≤r4*b:=Int.mul_nonneg a4 (by omega);have e:(n*(1+r3)+r4)*b=n*b*(1+r3)+r4*b:=by grind
    omega
   exact Int.le_of_mul_le_mul_right h1 hpp
  ·have h1:t*(1+r3)≤(n+1)*b*(1+r3):=by
    rw[<- heq];have:r4*b≤(1+r3)*b:=Int.mul_le_mul_of_nonneg_right (by omega) (by omega);have e:(n*(1+r3)+r4)*b=n*b*(1+r3)+r4*b:=by grind
    have e2:(n+1)*b*(1+r3)=n*b*(1+r3)+(1+r3)*b:=by grind
    omega
   exact Int.le_of_mul_le_mul_right h1 hpp
  ·rw[et]
   exact ai (cH (dO (by omega)) btop) (by decide)
  ·rw[eb]
   exact cH (dO (by omega)) bp60
theorem HF:zQ ["pot","last","way"] ["pot","last","way"] (ag (top 118)):=smk
theorem qr(E8:Df K mg "_law_any" (top 118))(zR:Fn P w K mg base "_law_take" ["pot","size"] 1 Dr.spTk)(Ae:Fn P w K mg base "_law_spot_on" ["pot","at"] 3 Fw):Fn P w K mg base "_law_any" ["pot","last","way"] 4 Hx:=by
 refine E8.fn HF (fun _ _ _ _ _ _ us hl=>by obtain⟨_,_,_,rfl⟩:=fI hl;rfl) (fun vs H Q E h=>?_) (fun f cdv A outer s H vs Q E hr h=>?_)
 ·obtain⟨p,n,k,w,rfl,_⟩:=h
  rfl
 ·obtain⟨p,n,k,w,rfl,pt,hk,⟨hn0,hn1⟩,q⟩:=h
  refine⟨_,(af (aF (cf (ar aW (pv 1) ac (aq _)) (cf (ar aW (pv 2) aE (aq _)) (ce (ar aW (ao zR (hr.mono (by decide)) (by rfl) (aa (pv 0) (aa ac ae))) ac (aq _))))).pt (ah (am (aG (aa (ao zR (hr.mono (by decide)) (by rfl) (aa (pv 0) (aa (ap bz (pv 1) ac) ae))) (aa ac ae))))) aw) (ah (am (ao Ae (hr.mono (by decide)) (by rfl) (aa (pv 0) (aa (ao zR (hr.mono (by decide)) (by rfl) (aa (pv 0) (aa (pv 1) ae))) ae)))))),?_⟩;have whole:∀(H1:Hp) (k':Int),But p H H1->Pot H1 p k'->k'≤k+5->(vF (tP (dB (gR spTk [] E0 (dB (CK 0) (dB (tOp (Ip fun i j=>.int (i+j)) (CK 1) (tC (.int 1))) mj))) (dB (tC (.int 1)) mj)))) { nx:=fun _ H'=>Q .non H',rt:=Q } [some (.ref p),some (.int n),some (.str w)] H1:=fun H1 k' b1 p1 hk'=>by
   refine⟨_,rfl,_,rfl,_,_,rfl,rfl,p,_,_,rfl,p1,by omega,⟨by omega,ai (bV (by omega) (by omega)) (by decide)⟩,fun r2 H2 a2 b2' b2 p2=>?_⟩;refine⟨sz (by simp),fun z H3 s3 f3 n3=>q z r2 1 H3 ⟨f3,⟨by decide,Int.gcd_one⟩,a2,by omega,ai (bV (by omega) (by omega)) (by decide),by decide,fun _=>rfl⟩ (b1.trans (b2.trans (But.of s3))) ((p2.same s3).mono (by omega))⟩
  refine⟨_,rfl,rfl,_,rfl,aB (fun h1=>?_) (fun h1=>?_)⟩
  ·exact whole H k But.refl pt (by omega)
  have hn:n≠0:=by
   intro z;subst z;exact absurd h1 (by decide)
  refine⟨_,rfl,rfl,_,rfl,aB (fun h2=>?_) (fun h2=>?_)⟩
  ·exact whole H k But.refl pt (by omega)
  have hw:w≠aQ:=fun z=>by
   subst z;exact absurd h2 (by decide)
  refine⟨_,rfl,p,_,_,rfl,pt,by omega,⟨by decide,by decide⟩,fun r1 H1 _ _ b1 p1=>?_⟩;refine⟨rfl,_,rfl,aB (fun h3=>?_) (fun h3=>?_)⟩
  ·exact whole H1 (k+1) b1 p1 (by omega)
  refine⟨_,rfl,_,rfl,_,rfl,p,_,_,rfl,p1,by omega,⟨by omega,ai (bV (by omega) (by omega)) (by decide)⟩,fun r2 H2 a2 b2' b2 p2=>?_⟩;refine⟨p,_,_,rfl,p2,by omega,⟨a2,by omega⟩,fun z t b H3 lw g1 g2 bt bb b3 f3 p3=>?_⟩;have hb:=lw.pos;have h0:0≤r2*b:=Int.mul_nonneg a2 (by omega);have h9:(r2+1)*b≤n*b:=Int.mul_le_mul_of_nonneg_right (by omega) (by omega);exact q z t b H3 ⟨f3,lw,by omega,by omega,bt,bb,fun z=>absurd z hw⟩ (b1.trans (b2.trans b3)) (p3.mono (by omega))
inductive IT (vs:List V) (H:Hp) (Q:VK) (x_3:XK):Prop
 | mk:∀a:Int,(vs = [.int a])->(Q (.bl true) H)->IT vs H Q x_3
inductive Ib (vs:List V) (H:Hp) (Q:VK) (x_3:XK):Prop
 | mk:∀(p:Addr) (a b:Int),(vs = [.ref p])->(H p=some (.tup [.int a,.int b]))->(AM a b)->(Q (.bl true) H)->Ib vs H Q x_3
inductive Id (vs:List V) (H:Hp) (Q:VK) (x_3:XK):Prop
 | mk:∀(l p:Addr) (xs:List V) (a b:Int),(vs = [.ref l,.ref p])->(H l=some (.lst xs))->(xs.length≤100)->(H p=some (.tup [.int a,.int b]))->(AM a b)->(0≤a)->(Q (.bl (decide (a≤((xs.length:Int) - 1)*b))) H)->Id vs H Q x_3
inductive HZ (vs:List V) (H:Hp) (Q:VK) (x_3:XK):Prop
 | mk:∀(l1 l2 l:Addr) (xs1 xs2:List V) (ps:List Pr),(vs = [.ref l1,.ref l2,.ref l])->((H l1=some (.lst xs1)∧xs1.length≤100))->((H l2=some (.lst xs2)∧xs2.length≤100))->(zU H l ps)->(∀H',Same H H'->Q (.bl (!ps.isEmpty && ps.all (inB ((xs1.length:Int) - 1) ((xs2.length:Int) - 1)))) H')->HZ vs H Q x_3
def dPr(q:Pr):D:=.tup [.tup [.int q.a,.int q.b],.tup [.int q.c,.int q.d]]
theorem yL{H:Hp}{q:Pr}(h:PrAt H q):Rp H 8 (.ref q.p) (dPr q):=Rp.t2 h.p_ (Rp.t2 h.x_ .int .int) (Rp.t2 h.y_ .int .int)
theorem t8{H:Hp}{l:Addr}{ps:List Pr}(P:zU H l ps):Rp H 9 (.ref l) (.lst (ps.map dPr)):=.lst P.lst (by rw[aV,List.length_map]) fun j x d a b=>by
 obtain⟨q,hq,rfl⟩:=cV a;rw[List.getElem?_map,hq]at b;cases b;exact yL (P.pr q (List.mem_of_getElem? hq))
theorem GJ:zQ ["found"] ["found"] (ag (top 103)):=smk
theorem mV(DV:Df K mg "_law_whole" (top 103))(T:Txt mg):Fn P w K mg base "_law_whole" ["found"] 1 IT:=by
 refine DV.fn GJ (fun _ _ _ _ _ _ us hl=>by obtain⟨_,rfl⟩:=dI hl;rfl) (fun vs H Q E h=>?_) (fun f cdv A outer s H vs Q E hr h=>?_)
 ·obtain⟨a,rfl,_⟩:=h
  rfl
 ·obtain⟨a,rfl,q⟩:=h
  refine⟨_,(ah (am (bZ (az bI (by rfl) T.z_isinstance aL (aa (pv 0) (aa (eT T.z_int nI) ae))) (bJ (fF (az bI (by rfl) T.z_isinstance aL (aa (pv 0) (aa (eT T.z_bool rW) ae)))))))),?_⟩;refine⟨_,rfl,_,_,"int",rfl,.int a,nice_int,_,rfl,cZ (by decide) ?_⟩;refine⟨_,rfl,_,_,"bool",rfl,.int a,nice_bool,_,rfl,?_⟩;exact q
theorem FO:zQ ["thing"] ["thing"] (ag (top 104)):=smk
theorem jt(Ch:Df K mg "_law_is_ratio" (top 104))(Cp:Fn P w K mg base "_law_whole" ["found"] 1 IT)(AG:Fn P w K mg base "_law_divisor" ["one","other"] 1 Hw)(T:Txt mg):Fn P w K mg base "_law_is_ratio" ["thing"] 2 Ib:=by
 refine Ch.fn FO (fun _ _ _ _ _ _ us hl=>by obtain⟨_,rfl⟩:=dI hl;rfl) (fun vs H Q E h=>?_) (fun f cdv A outer s H vs Q E hr h=>?_)
 ·obtain⟨p,a,b,rfl,_⟩:=h
  rfl
 ·obtain⟨p,a,b,rfl,e,lw,q⟩:=h
  refine⟨_,(af (aF (cf (bq (aM (az bI (by rfl) T.z_isinstance aL (aa (pv 0) (aa (eT T.z_tuple gi) ae))))) (cf (ar dU (az aK (by rfl) T.z_len ck (aa (pv 0) ae)) ac (aq _)) (cf (bq (aM (ao Cp (hr.mono (by decide)) (by rfl) (aa (aj ak (pv 0) ac (fun _ _=>rfl)) ae)))) (ce (bq (aM (ao Cp (hr.mono (by decide)) (by rfl) (aa (aj ak (pv 0) ac (fun _ _=>rfl)) ae)))))))).pt (ah (am bW)) aw) (ah (am (bZ (aT dq (aj ak (pv 0) ac (fun _ _=>rfl)) ac (aq _)) (bJ (aT aW (ao AG (hr.mono (by decide)) (by rfl) (aa (aj ak (pv 0) ac (fun _ _=>rfl)) (aa (aj ak (pv 0) ac (fun _ _=>rfl)) ae))) ac (aq _))))))),?_⟩;refine⟨_,rfl,_,_,"tuple",rfl,.tup e,nice_tuple,_,rfl,aX (by decide) ?_⟩;refine⟨_,rfl,p,_,rfl,.inr (SqT.of e),rfl,_,rfl,aX rfl ?_⟩;refine⟨_,rfl,p,_,_,_,rfl,rfl,SqT.of e,rfl,a,rfl,_,rfl,aX (by decide) ?_⟩;refine⟨_,rfl,p,_,_,_,rfl,rfl,SqT.of e,rfl,b,rfl,_,rfl,aX (by decide) ?_⟩;have hb:(0:Int)<b:=lw.pos;refine⟨_,rfl,p,_,_,_,rfl,rfl,SqT.of e,rfl,_,_,rfl,rfl,_,rfl,cZ (decide_eq_true hb) ?_⟩;refine⟨_,rfl,p,_,_,_,rfl,rfl,SqT.of e,rfl,_,rfl,p,_,_,_,rfl,rfl,SqT.of e,rfl,a,b,rfl,by omega,rfl,?_⟩;rw[show(Int.gcd a b:Int)=1 by rw[lw.one];rfl,decide_eq_true rfl];exact q
theorem FP:zQ ["line","thing"] ["line","thing"] (ag (top 105)):=smk
theorem ju(Ci:Df K mg "_law_is_place" (top 105))(Ca:Fn P w K mg base "_law_is_ratio" ["thing"] 2 Ib)(T:Txt mg):Fn P w K mg base "_law_is_place" ["line","thing"] 3 Id:=by
 refine Ci.fn FP (fun _ _ _ _ _ _ us hl=>by obtain⟨_,_,rfl⟩:=cO hl;rfl) (fun vs H Q E h=>?_) (fun f cdv A outer s H vs Q E hr h=>?_)
 ·obtain⟨l,p,xs,a,b,rfl,_⟩:=h
  rfl
 ·obtain⟨l,p,xs,a,b,rfl,el,hl,e,lw,h0,q⟩:=h
  refine⟨_,(ah (am (bZ (ao Ca (hr.mono (by decide)) (by rfl) (aa (pv 1) ae)) (bJ (jW dn dn ac (aj ak (pv 1) ac (fun _ _=>rfl)) (ap aJ (ap bE (az aK (by rfl) T.z_len ck (aa (pv 0) ae)) ac) (aj ak (pv 1) ac (fun _ _=>rfl)))))))),?_⟩;refine⟨_,rfl,p,a,b,rfl,e,lw,_,rfl,cZ rfl ?_⟩;refine⟨_,rfl,p,_,_,_,rfl,rfl,SqT.of e,rfl,_,_,rfl,rfl,_,rfl,cZ (decide_eq_true h0) ?_⟩;exact⟨_,rfl,l,xs,rfl,.inl (SqL.of el),_,_,rfl,rfl,_,rfl,p,_,_,_,rfl,rfl,SqT.of e,rfl,_,_,rfl,rfl,CM.l (uE (by omega) (by omega)),_,_,rfl,rfl,q⟩
theorem BY:zQ ["here","there","low","high"] ["here","there"] (ag (top 106)):=smk
theorem oV(Ev:Df K mg "_law_near" (top 106))(zS:Fn P w K mg base "_law_below" ["one","other"] 1 Bh):Fn P w K mg base "_law_near" ["here","there"] 2 (Ih bD):=by
 refine Ev.fn BY (fun _ _ _ _ _ _ us hl=>by obtain⟨_,_,rfl⟩:=cO hl;rfl) (fun vs H Q E h=>?_) (fun f cdv A outer s H vs Q E hr h=>?_)
 ·obtain⟨p,q,a,b,c,d,rfl,_⟩:=h
  rfl
 ·obtain⟨p,q,a,b,c,d,rfl,ep,eq,sa,sc,k⟩:=h
  have y:=k H (Same.refl _);unfold bD at y;have R:∃u,PSs (aN CX0 P w K mg base ["here","there","low","high"] "_law_near" (ag (top 106)) f cdv A outer s H E).nox ((aA (top 106)).drop 3) u∧∀{lo hi:Addr} {a b c d:Int},H lo=some (.tup [.int a,.int b])->H hi=some (.tup [.int c,.int d])->Ea a b->Ea c d->Q (.bl (!decide ((a / b+1)*d<c*1))) H->u { nx:=fun _ H'=>Q .non H',rt:=Q } [some (.ref p),some (.ref q),some (.ref lo),some (.ref hi)] H:=by
   refine⟨_,(ah (am (aT dn (aj ak (pv 3) ac (fun _ _=>rfl)) (ap aJ (ap bz (ap cv (aj ak (pv 2) ac (fun _ _=>rfl)) (aj ak (pv 2) ac (fun _ _=>rfl))) ac) (aj ak (pv 3) ac (fun _ _=>rfl))) (aq _)))),fun {lo hi a b c d} elo ehi sa sc q=>?_⟩;have bf:au (a / b+1)≤1001:=cF (cH sa.pos sa.ba) (ai (m:=1) (by decide) (by decide));refine⟨_,rfl,hi,_,_,_,rfl,rfl,SqT.of ehi,rfl,_,rfl,lo,_,_,_,rfl,rfl,SqT.of elo,rfl,_,rfl,lo,_,_,_,rfl,rfl,SqT.of elo,rfl,_,_,rfl,rfl,⟨sa.pos,ai sa.bb (by decide)⟩,_,_,rfl,rfl,_,rfl,hi,_,_,_,rfl,rfl,SqT.of ehi,rfl,_,_,rfl,rfl,CM.of bf sc.bb (by decide),_,_,rfl,rfl,?_⟩;have e:(!decide ((a / b+1)*d<c*1))=decide (c≤(a / b+1)*d):=by
    rw[Int.mul_one,Bool.eq_iff_iff];simp
   rw[e]at q;exact q
  obtain⟨u,hu,fin⟩:=R;refine⟨_,(af (av (i:=2) BY.nd rfl (Or.inl rfl) (pv 0)) (af (av (i:=3) BY.nd rfl (Or.inl rfl) (pv 1)) (af (aF (aM (ao zS (hr.mono (by decide)) (by rfl) (aa (pv 1) (aa (pv 0) ae)))) (af (av (i:=2) BY.nd rfl (Or.inl rfl) (pv 1)) (ah (av (i:=3) BY.nd rfl (Or.inl rfl) (pv 0)))) aw) hu))),?_⟩;refine⟨_,rfl,_,rfl,?_⟩;refine⟨_,rfl,_,rfl,q,p,c,d,a,b,rfl,eq,ep,⟨ai sc.ba (by decide),ai sc.bb (by decide),ai sa.ba (by decide),ai sa.bb (by decide)⟩,_,rfl,aB (fun hc=>?_) (fun hc=>?_)⟩
  ·rw[if_pos (bF hc)]at y
   exact⟨_,rfl,_,rfl,fin eq ep sc sa y⟩
  ·rw[if_neg (ci hc)]at y
   exact fin ep eq sa sc y
theorem DA:zQ ["one","other","thing","pair"] ["one","other","thing"] (ag (top 107)):=smk
theorem i6(BS:Df K mg "_law_are_pairs" (top 107))(Bl:Fn P w K mg base "_law_is_place" ["line","thing"] 3 Id)(T:Txt mg):Fn P w K mg base "_law_are_pairs" ["one","other","thing"] 4 HZ:=by
 refine BS.fn DA (fun _ _ _ _ _ _ us hl=>by obtain⟨_,_,_,rfl⟩:=fI hl;rfl) (fun vs H Q E h=>?_) (fun f cdv A outer s H vs Q E hr h=>?_)
 ·obtain⟨l1,l2,l,xs1,xs2,ps,rfl,_⟩:=h
  rfl
 ·obtain⟨l1,l2,l,xs1,xs2,ps,rfl,⟨e1,n1⟩,⟨e2,n2⟩,PP,q⟩:=h
  refine⟨_,(af (aF (cf (bq (aM (az bI (by rfl) T.z_isinstance aL (aa (pv 2) (aa (eT T.z_list gH) ae))))) (ce (ar (qk hr.units10) (pv 2) (cu ae) (aq _)))).pt (ah (am bW)) aw) (af (eV PassesOwn.never rfl (cW (pv 2)) (aI (i:=3) DA.nd rfl (Or.inl rfl)) (af (aF (cf (bq (aM (az bI (by rfl) T.z_isinstance aL (aa (pv 3) (aa (eT T.z_tuple gi) ae))))) (ce (ar dU (az aK (by rfl) T.z_len ck (aa (pv 3) ae)) ac (aq _)))).pt (ah (am bW)) aw) (ah (aF (cf (bq (aM (ao Bl (hr.mono (by decide)) (by rfl) (aa (pv 0) (aa (aj ak (pv 3) ac (fun _ _=>rfl)) ae))))) (ce (bq (aM (ao Bl (hr.mono (by decide)) (by rfl) (aa (pv 1) (aa (aj ak (pv 3) ac (fun _ _=>rfl)) ae))))))).pt (ah (am bW)) aw)))) (ah (am bW)))),?_⟩;refine⟨_,rfl,_,_,"list",rfl,.lst PP.lst,nice_list,_,rfl,aX (by decide) ?_⟩;refine⟨_,rfl,sz (by simp),fun le H1 s1 f1 n1'=>?_⟩;have P1:=PP.mono s1;refine⟨_,_,t8 P1,Rp.l0 f1,_,rfl,?_⟩;cases ps with
  | nil=>exact cZ (by rfl) (q H1 s1)
  | cons f r =>
   refine aX (by rfl) ?_;refine⟨_,rfl,l,rfl,⟨_,SqL.of P1.lst⟩,oM (K:=K) (xs:=prs (f::r)) (fun i σ H2=>∃z,σ = [some (.ref l1),some (.ref l2),some (.ref l),z]∧H2=H1∧∀(j:Nat) u,j<i->(f::r)[j]? = some u->inB ((xs1.length:Int) - 1) ((xs2.length:Int) - 1) u=true)
    ⟨_,rfl,rfl,fun j u h=>absurd h (by omega)⟩ (fun i σ H2 _ ⟨_,_,e,_⟩=>by rw[e];exact SqL.of P1.lst) ?_ ?_⟩
   ·rintro i x σ H2 hx ⟨z,rfl,rfl,hin⟩
    obtain⟨u,hu,rfl⟩:=cV hx;have pu:=P1.pr u (List.mem_of_getElem? hu);have bad:inB ((xs1.length:Int) - 1) ((xs2.length:Int) - 1) u=false->Q (.bl false) H2:=fun hb=>by
     have y:=q H2 s1;have zz:((f::r).all (inB ((xs1.length:Int) - 1) ((xs2.length:Int) - 1)))=false:=by
      rw[Bool.eq_false_iff];intro w;rw[List.all_eq_true.mp w u (List.mem_of_getElem? hu)]at hb;cases hb
     rw[zz,Bool.and_false]at y;exact y
    refine⟨_,rfl,_,_,"tuple",rfl,.tup pu.p_,nice_tuple,_,rfl,aX (by decide) ?_⟩;refine⟨_,rfl,u.p,_,rfl,.inr (SqT.of pu.p_),rfl,_,rfl,aX rfl ?_⟩;refine⟨_,rfl,_,rfl,u.p,_,_,_,rfl,rfl,SqT.of pu.p_,rfl,l1,u.x,_,_,_,rfl,s1 _ _ e1,n1,pu.x_,pu.lx,pu.nx,_,rfl,aB (fun h1=>?_) (fun h1=>?_)⟩
    ·refine bad ?_
     unfold inB;rw[show decide (u.a≤((xs1.length:Int) - 1)*u.b)=false by simpa only[Bool.not_eq_true']using h1,Bool.false_and]
    ·have h1:decide (u.a≤((xs1.length:Int) - 1)*u.b)=true:=by simpa only[Bool.not_eq_false']using h1
     refine⟨_,rfl,_,rfl,u.p,_,_,_,rfl,rfl,SqT.of pu.p_,rfl,l2,u.y,_,_,_,rfl,s1 _ _ e2,n2,pu.y_,pu.ly,pu.ny,_,rfl,aB (fun h2=>?_) (fun h2=>?_)⟩
     ·refine bad ?_
      unfold inB;rw[show decide (u.c≤((xs2.length:Int) - 1)*u.d)=false by simpa only[Bool.not_eq_true']using h2,Bool.and_false]
     ·have h2:decide (u.c≤((xs2.length:Int) - 1)*u.d)=true:=by simpa only[Bool.not_eq_false']using h2
      refine⟨_,rfl,rfl,fun j v hj hv=>?_⟩
      by_cases hji:j=i
      ·subst hji
       rw[hu]at hv;cases hv;unfold inB;rw[h1,h2];rfl
      ·exact hin j v (by omega) hv
   ·rintro σ H2 ⟨z,rfl,rfl,hin⟩
    have y:=q H2 s1;have zz:((f::r).all (inB ((xs1.length:Int) - 1) ((xs2.length:Int) - 1)))=true:=by
     rw[List.all_eq_true];intro u hu;obtain⟨j,hj,e⟩:=List.getElem_of_mem hu;exact hin j u (by rw[aV];exact hj) (by rw[List.getElem?_eq_getElem hj,e])
    rw[zz]at y;exact y
theorem Hf:zQ ["pair","later"] ["pair","later"] (ag (top 108)):=smk
theorem oY(Ez:Df K mg "_law_back" (top 108))(zS:Fn P w K mg base "_law_below" ["one","other"] 1 Bh):Fn P w K mg base "_law_back" ["pair","later"] 2 (DC dz):=by
 refine Ez.fn Hf (fun _ _ _ _ _ _ us hl=>by obtain⟨_,_,rfl⟩:=cO hl;rfl) (fun vs H Q E h=>?_) (fun f cdv A outer s H vs Q E hr h=>?_)
 ·obtain⟨u,v,rfl,_⟩:=h
  rfl
 ·obtain⟨u,v,rfl,pu,qv,q⟩:=h
  refine⟨_,(ah (am (bZ (fF (ao zS (hr.mono (by decide)) (by rfl) (aa (aj ak (pv 0) ac (fun _ _=>rfl)) (aa (aj ak (pv 1) ac (fun _ _=>rfl)) ae)))) (bJ (fF (ao zS (hr.mono (by decide)) (by rfl) (aa (aj ak (pv 1) ac (fun _ _=>rfl)) (aa (aj ak (pv 0) ac (fun _ _=>rfl)) ae)))))))),?_⟩;unfold dz ltB at q;have b:=j7 pu qv;refine⟨_,rfl,u.p,_,_,_,rfl,rfl,SqT.of pu.p_,rfl,_,rfl,v.p,_,_,_,rfl,rfl,SqT.of qv.p_,rfl,u.x,v.x,_,_,_,_,rfl,pu.x_,qv.x_,b.1,_,rfl,_,rfl,aB (fun h1=>?_) (fun h1=>?_)⟩
  ·have y:=q H (Same.refl _)
   rw[h1,Bool.true_and]at y;exact⟨_,rfl,v.p,_,_,_,rfl,rfl,SqT.of qv.p_,rfl,_,rfl,u.p,_,_,_,rfl,rfl,SqT.of pu.p_,rfl,v.y,u.y,_,_,_,_,rfl,qv.y_,pu.y_,b.2,_,rfl,y⟩
  ·have y:=q H (Same.refl _)
   rw[h1,Bool.false_and]at y;exact y
theorem BI:zQ ["pair","later","way","x","y","a","b"] ["pair","later","way"] (ag (top 109)):=smk
theorem mW(DW:Df K mg "_law_steps" (top 109))(Bx:Fn P w K mg base "_law_back" ["pair","later"] 2 (DC dz))(Dh:Fn P w K mg base "_law_near" ["here","there"] 2 (Ih bD))(zS:Fn P w K mg base "_law_below" ["one","other"] 1 Bh):Fn P w K mg base "_law_steps" ["pair","later","way"] 3 GY:=by
 refine DW.fn BI (fun _ _ _ _ _ _ us hl=>by obtain⟨_,_,_,rfl⟩:=fI hl;rfl) (fun vs H Q E h=>?_) (fun f cdv A outer s H vs Q E hr h=>?_)
 ·obtain⟨u,v,wy,rfl,_⟩:=h
  rfl
 ·obtain⟨u,v,wy,rfl,pu,qv,k⟩:=h
  have bb:=j7 pu qv;have R5:∃p5,PSs (aN CX0 P w K mg base ["pair","later","way","x","y","a","b"] "_law_steps" (ag (top 109)) f cdv A outer s H E).nox ((aA (top 109)).drop 5) p5∧∀H2,Same H H2->(∀H',Same H2 H'->Q (.bl (lY wy u v)) H')->p5 { nx:=fun _ H'=>Q .non H',rt:=Q } [some (.ref u.p),some (.ref v.p),some (.str wy),some (.ref u.x),some (.ref u.y),some (.ref v.x),some (.ref v.y)] H2:=by
   refine⟨_,(ah (am (bZ (aT (eW hr.units0) (pv 4) (pv 6) (aq _)) (bZ (aT aW (aj ak (pv 4) ac (fun _ _=>rfl)) ac (aq _)) (bZ (ao Dh (hr.mono (by decide)) (by rfl) (aa (pv 3) (aa (pv 5) ae))) (bJ (ic (aT aW (pv 2) aE (aq _)) (bJ (ao zS (hr.mono (by decide)) (by rfl) (aa (pv 3) (aa (pv 5) ae))))))))))),fun H2 s2 q=>?_⟩;have p2:=pu.t s2.t;have q2:=qv.t s2.t;unfold lY eU at q;refine⟨_,rfl,_,rfl,u.y,v.y,[u.c,u.d],[v.c,v.d],rfl,rfl,SqT.of p2.y_,SqT.of q2.y_,_,rfl,?_⟩;rw[if_neg (show ¬(false=true) by decide)];refine aB (fun h1=>?_) (fun h1=>?_)
   ·refine⟨_,rfl,u.y,_,_,_,rfl,rfl,SqT.of p2.y_,rfl,rfl,_,rfl,?_⟩
    rw[di];refine aB (fun h2=>?_) (fun h2=>?_)
    ·refine⟨_,rfl,_,rfl,u.x,v.x,_,_,_,_,rfl,p2.x_,q2.x_,p2.sx,q2.sx,fun H3 s3=>⟨_,rfl,aB (fun h3=>?_) (fun h3=>?_)⟩⟩
     ·have y:=q H3 s3
      rw[h1,h2,h3]at y;refine⟨_,rfl,rfl,_,rfl,aB (fun c=>?_) (fun c=>?_)⟩
      ·rw[show frB wy=true from ds c]at y
       exact y
      ·rw[show frB wy=false from ds c]at y
       have p3:=p2.t s3.t;have q3:=q2.t s3.t;exact⟨_,rfl,_,rfl,u.x,v.x,_,_,_,_,rfl,p3.x_,q3.x_,bb.1,y⟩
     ·have y:=q H3 s3
      rw[h1,h2,h3]at y;exact y
    ·have y:=q H2 (Same.refl _)
     rw[h1,h2]at y;exact y
   ·have y:=q H2 (Same.refl _)
    rw[h1]at y;exact y
  obtain⟨p5,hp5,rd5⟩:=R5;have R4:∃p4,PSs (aN CX0 P w K mg base ["pair","later","way","x","y","a","b"] "_law_steps" (ag (top 109)) f cdv A outer s H E).nox ((aA (top 109)).drop 4) p4∧∀H2,Same H H2->(∀H',Same H2 H'->Q (.bl (lX wy u v || lY wy u v)) H')->p4 { nx:=fun _ H'=>Q .non H',rt:=Q } [some (.ref u.p),some (.ref v.p),some (.str wy),some (.ref u.x),some (.ref u.y),some (.ref v.x),some (.ref v.y)] H2:=by
   refine⟨_,af (aF (bR (ar (eW hr.units0) (pv 3) (pv 5) (aq _)) (bR (ar aW (aj ak (pv 3) ac (fun _ _=>rfl)) ac (aq _)) (bR (aM (ao Dh (hr.mono (by decide)) (by rfl) (aa (pv 4) (aa (pv 6) ae)))) (bU (cf (ar aW (pv 2) aE (aq _)) (ce (aM (ao zS (hr.mono (by decide)) (by rfl) (aa (pv 6) (aa (pv 4) ae)))))).pt)))).pt (ah (am bW)) aw) hp5,fun H2 s2 q=>?_⟩;have p2:=pu.t s2.t;have q2:=qv.t s2.t;have no:lX wy u v=false->∀H3,Same H2 H3->p5 { nx:=fun _ H'=>Q .non H',rt:=Q } [some (.ref u.p),some (.ref v.p),some (.str wy),some (.ref u.x),some (.ref u.y),some (.ref v.x),some (.ref v.y)] H3:=fun e H3 s3=>rd5 H3 (s2.trans s3) fun H' s'=>by
    have y:=q H' (s3.trans s');rw[e,Bool.false_or]at y;exact y
   have yes:lX wy u v=true->∀H3,Same H2 H3->Q (.bl true) H3:=fun e H3 s3=>by
    have y:=q H3 s3;rw[e,Bool.true_or]at y;exact y
   unfold lX d5 at no yes;refine⟨_,rfl,_,rfl,u.x,v.x,[u.a,u.b],[v.a,v.b],rfl,rfl,SqT.of p2.x_,SqT.of q2.x_,_,rfl,?_⟩;rw[if_neg (show ¬(false=true) by decide)];refine aB (fun h1=>?_) (fun h1=>?_)
   ·refine⟨_,rfl,u.x,_,_,_,rfl,rfl,SqT.of p2.x_,rfl,rfl,_,rfl,?_⟩
    rw[di];refine aB (fun h2=>?_) (fun h2=>?_)
    ·refine⟨_,rfl,_,rfl,u.y,v.y,_,_,_,_,rfl,p2.y_,q2.y_,p2.sy,q2.sy,fun H3 s3=>⟨_,rfl,aB (fun h3=>?_) (fun h3=>?_)⟩⟩
     ·rw[h1,h2,h3]at no yes
      refine⟨_,rfl,rfl,_,rfl,aB (fun c=>?_) (fun c=>?_)⟩
      ·exact yes (by rw[show frB wy=true from ds c];rfl) H3 s3
      ·rw[show frB wy=false from ds c]at no yes
       have p3:=p2.t s3.t;have q3:=q2.t s3.t;refine⟨_,rfl,_,rfl,v.y,u.y,_,_,_,_,rfl,q3.y_,p3.y_,bb.2,_,rfl,aB (fun h4=>?_) (fun h4=>?_)⟩
       ·exact yes (by unfold ltB;rw[h4];rfl) H3 s3
       ·exact no (by unfold ltB;rw[h4];rfl) H3 s3
     ·exact no (by rw[h1,h2,h3];rfl) H3 s3
    ·exact no (by rw[h1,h2];rfl) H2 (Same.refl _)
   ·exact no (by rw[h1];rfl) H2 (Same.refl _)
  obtain⟨p4,hp4,rd4⟩:=R4;refine⟨_,(af (cI (pv 0) (cJ rfl (aH (aI (i:=3) BI.nd rfl (Or.inl rfl)) (aH (aI (i:=4) BI.nd rfl (Or.inl rfl)) cn)))) (af (cI (pv 1) (cJ rfl (aH (aI (i:=5) BI.nd rfl (Or.inl rfl)) (aH (aI (i:=6) BI.nd rfl (Or.inl rfl)) cn)))) (af (aF (ar aW (pv 2) aE (aq _)) (af (aF (cf (ar dq (aj ak (pv 3) ac (fun _ _=>rfl)) ac (aq _)) (cf (ar dq (aj ak (pv 4) ac (fun _ _=>rfl)) ac (aq _)) (cf (ar dq (aj ak (pv 5) ac (fun _ _=>rfl)) ac (aq _)) (ce (ar dq (aj ak (pv 6) ac (fun _ _=>rfl)) ac (aq _)))))).pt (ah (am bW)) aw) (ah (am (ic (bZ (aT dn (aj ak (pv 5) ac (fun _ _=>rfl)) (aj ak (pv 3) ac (fun _ _=>rfl)) (aq _)) (bJ (aT qZ (aj ak (pv 6) ac (fun _ _=>rfl)) (ap bE (aj ak (pv 4) ac (fun _ _=>rfl)) ac) (aq _)))) (bJ (bZ (aT dn (aj ak (pv 5) ac (fun _ _=>rfl)) (ap bz (aj ak (pv 3) ac (fun _ _=>rfl)) ac) (aq _)) (bJ (aT qZ (aj ak (pv 6) ac (fun _ _=>rfl)) (aj ak (pv 4) ac (fun _ _=>rfl)) (aq _))))))))) aw) (af (aF (bR (ar dU (pv 2) aE (aq _)) (bU (aM (ao Bx (hr.mono (by decide)) (by rfl) (aa (pv 0) (aa (pv 1) ae)))))).pt (ah (am bW)) aw) hp4)))),?_⟩;refine⟨_,rfl,u.p,_,rfl,SqT.of pu.p_,rfl,_,_,rfl,_,_,rfl,rfl,?_⟩;refine⟨_,rfl,v.p,_,rfl,SqT.of qv.p_,rfl,_,_,rfl,_,_,rfl,rfl,?_⟩;refine⟨_,rfl,rfl,_,rfl,aB (fun c1=>?_) (fun c1=>?_)⟩
  ·have ew:wy=aQ:=bF (ds c1)
   have y:=k H (Same.refl _);unfold iV aZ at y;rw[if_pos ew]at y;have gt:∀{n:Int} {b:Bool},1≤n->decide (n>1)=b->decide (n=1) = !b:=fun {n b} hn h=>by
    cases b with
    | true=>exact decide_eq_false (by have:=bF h;omega)
    | false=>exact decide_eq_true (by have:=ci h;omega)
   refine⟨_,rfl,u.x,_,_,_,rfl,rfl,SqT.of pu.x_,rfl,_,_,rfl,rfl,_,rfl,aB (fun g1=>?_) (fun g1=>?_)⟩
   ·rw[gt pu.lx.pos g1]at y
    exact y
   refine⟨_,rfl,u.y,_,_,_,rfl,rfl,SqT.of pu.y_,rfl,_,_,rfl,rfl,_,rfl,aB (fun g2=>?_) (fun g2=>?_)⟩
   ·rw[gt pu.lx.pos g1,gt pu.ly.pos g2]at y
    exact y
   refine⟨_,rfl,v.x,_,_,_,rfl,rfl,SqT.of qv.x_,rfl,_,_,rfl,rfl,_,rfl,aB (fun g3=>?_) (fun g3=>?_)⟩
   ·rw[gt pu.lx.pos g1,gt pu.ly.pos g2,gt qv.lx.pos g3]at y
    exact y
   refine⟨_,rfl,v.y,_,_,_,rfl,rfl,SqT.of qv.y_,rfl,_,_,rfl,rfl,_,rfl,aB (fun g4=>?_) (fun g4=>?_)⟩
   ·rw[gt pu.lx.pos g1,gt pu.ly.pos g2,gt qv.lx.pos g3,gt qv.ly.pos g4]at y
    exact y
   rw[gt pu.lx.pos g1,gt pu.ly.pos g2,gt qv.lx.pos g3,gt qv.ly.pos g4]at y;have y:Q (.bl (dZ u v)) H:=y;unfold dZ at y;have e1:∀{b:Bool},decide (v.a≤u.a)=b->decide (v.a - u.a≤0)=b:=fun h=>by rw[<- h];exact decide_eq_decide.mpr (by omega)
   have e2:∀{b:Bool},decide (v.c≥u.c - 1)=b->decide (u.c - v.c≤1)=b:=fun h=>by rw[<- h];exact decide_eq_decide.mpr (by omega)
   have e3:∀{b:Bool},decide (v.a≤u.a+1)=b->decide (v.a - u.a≤1)=b:=fun h=>by rw[<- h];exact decide_eq_decide.mpr (by omega)
   have e4:decide (u.c - v.c≤0)=decide (v.c≥u.c):=decide_eq_decide.mpr (by omega);have X1:=SqT.of (K:=K) pu.x_;have Y1:=SqT.of (K:=K) pu.y_;have X2:=SqT.of (K:=K) qv.x_;have Y2:=SqT.of (K:=K) qv.y_;rw[e4]at y;refine⟨_,rfl,v.x,_,_,_,rfl,rfl,X2,rfl,_,rfl,u.x,_,_,_,rfl,rfl,X1,rfl,_,_,rfl,rfl,_,rfl,aB (fun d1=>?_) (fun d1=>?_)⟩
   ·rw[e1 d1]at y
    refine⟨_,rfl,v.y,_,_,_,rfl,rfl,Y2,rfl,_,rfl,u.y,_,_,_,rfl,rfl,Y1,rfl,_,_,rfl,rfl,_,_,rfl,rfl,_,rfl,aB (fun d2=>?_) (fun d2=>?_)⟩
    ·rw[e2 d2]at y
     exact y
    ·rw[e2 d2]at y
     refine⟨_,rfl,v.x,_,_,_,rfl,rfl,X2,rfl,_,rfl,u.x,_,_,_,rfl,rfl,X1,rfl,_,_,rfl,rfl,_,_,rfl,rfl,_,rfl,aB (fun d3=>?_) (fun d3=>?_)⟩
     ·rw[e3 d3]at y
      exact⟨_,rfl,v.y,_,_,_,rfl,rfl,Y2,rfl,_,rfl,u.y,_,_,_,rfl,rfl,Y1,rfl,_,_,rfl,rfl,y⟩
     ·rw[e3 d3]at y
      exact y
   ·rw[e1 d1]at y
    refine⟨_,rfl,jn ?_⟩;refine⟨_,rfl,v.x,_,_,_,rfl,rfl,X2,rfl,_,rfl,u.x,_,_,_,rfl,rfl,X1,rfl,_,_,rfl,rfl,_,_,rfl,rfl,_,rfl,aB (fun d3=>?_) (fun d3=>?_)⟩
    ·rw[e3 d3]at y
     exact⟨_,rfl,v.y,_,_,_,rfl,rfl,Y2,rfl,_,rfl,u.y,_,_,_,rfl,rfl,Y1,rfl,_,_,rfl,rfl,y⟩
    ·rw[e3 d3]at y
     exact y
  have ew:¬wy=aQ:=ci (ds c1);unfold iV at k;rw[if_neg ew]at k;refine⟨_,rfl,rfl,_,rfl,aB (fun c2=>?_) (fun c2=>?_)⟩
  ·have ef:¬wy=cp:=ci (ds (show decide (V.str wy=V.str (Str.ofString "free"))=false by simpa only[Bool.not_eq_true']using c2))
   rw[xX ew ef]at k;refine⟨_,rfl,_,rfl,u,v,rfl,pu,qv,fun H1 s1=>⟨_,rfl,aB (fun h3=>?_) (fun h3=>?_)⟩⟩
   ·have y:=k H1 s1
    rw[h3,Bool.true_or]at y;exact y
   ·rw[h3,Bool.false_or]at k
    exact rd4 H1 s1 fun H' s'=>k H' (s1.trans s')
  ·have ef:wy=cp:=bF (ds (show decide (V.str wy=V.str (Str.ofString "free"))=true by simpa only[Bool.not_eq_false']using c2))
   rw[uD ew ef]at k;exact rd4 H (Same.refl _) k
theorem AQ:zQ ["one","other","thing","way","first","last","pair","later"] ["one","other","thing","way"] (ag (top 110)):=smk
theorem jv(Cj:Df K mg "_law_is_fence" (top 110))(BM:Fn P w K mg base "_law_are_pairs" ["one","other","thing"] 4 HZ)(DK:Fn P w K mg base "_law_steps" ["pair","later","way"] 3 GY)(T:Txt mg):Fn P w K mg base "_law_is_fence" ["one","other","thing","way"] 5 FC:=by
 refine Cj.fn AQ (fun _ _ _ _ _ _ us hl=>by obtain⟨_,_,_,_,rfl⟩:=ir hl;rfl) (fun vs H Q E h=>?_) (fun f cdv A outer s H vs Q E hr h=>?_)
 ·obtain⟨l1,l2,l,xs1,xs2,ps,wy,rfl,_⟩:=h
  rfl
 ·obtain⟨l1,l2,l,xs1,xs2,ps,wy,rfl,⟨e1,n1⟩,⟨e2,n2⟩,PP,hlen,q⟩:=h
  have R6:∃p6,PSs (aN CX0 P w K mg base ["one","other","thing","way","first","last","pair","later"] "_law_is_fence" (ag (top 110)) f cdv A outer s H E).nox ((aA (top 110)).drop 6) p6∧∀(f z:Pr) (r:List Pr) (H3:Hp),zU H3 l (f::r)->(∀H',Same H3 H'->Q (.bl (fM wy (f::r))) H')->p6 { nx:=fun _ H'=>Q .non H',rt:=Q } [some (.ref l1),some (.ref l2),some (.ref l),some (.str wy),some (.ref f.p),some (.ref z.p),none,none] H3:=by
   refine⟨_,(af (eV PassesOwn.never rfl (mE rfl T.z_zip (aa (pv 2) (aa (dR eF (pv 2) (dl ac) fE) ae))) (cJ rfl (aH (aI (i:=6) AQ.nd rfl (Or.inl rfl)) (aH (aI (i:=7) AQ.nd rfl (Or.inl rfl)) cn))) (ah (aF (bq (aM (ao DK (hr.mono (by decide)) (by rfl) (aa (pv 6) (aa (pv 7) (aa (pv 3) ae)))))) (ah (am bW)) aw))) (ah (am bW))),fun f z r H3 P3 kk=>?_⟩;refine⟨_,rfl,_,rfl,_,rfl,l,_,rfl,SqL.of P3.lst,fun l2' H4 s4 f4 n4=>?_⟩;rw[jK]at f4;have P4:=P3.mono s4;refine⟨l,l2',rfl,⟨_,SqL.of P4.lst⟩,⟨_,SqL.of f4⟩,mO (K:=K) (xs:=prs (f::r)) (ys:=prs ((f::r).drop 1)) (fun i σ H5=>∃z1 z2,σ = [some (.ref l1),some (.ref l2),some (.ref l),some (.str wy),some (.ref f.p),some (.ref z.p),z1,z2]∧Same H4 H5∧∀(j:Nat) u v,j<i->(f::r)[j]? = some u->(f::r)[j+1]? = some v->iV wy u v=true)
    ⟨_,_,rfl,Same.refl _,fun j u v h=>absurd h (by omega)⟩ (fun i σ H5 _ ⟨_,_,_,s5,_⟩=>⟨SqL.of (s5 _ _ P4.lst),SqL.of (s5 _ _ f4)⟩) ?_ ?_⟩
   ·rintro i x y pp σ H5 H6 hx hy ⟨z1,z2,rfl,s5,hst⟩ s6 f6
    obtain⟨u,hu,rfl⟩:=cV hx;obtain⟨v,hv,rfl⟩:=cV hy;have hv':(f::r)[i+1]? = some v:=by rw[List.getElem?_drop]at hv;rw[Nat.add_comm];exact hv
    have pu:=(P4.pr u (List.mem_of_getElem? hu)).t (s5.trans s6).t;have qv:=(P4.pr v (List.mem_of_getElem? hv')).t (s5.trans s6).t;have S6:=s4.trans (s5.trans s6);refine⟨pp,_,rfl,SqT.of f6,rfl,_,_,rfl,_,_,rfl,rfl,?_⟩;refine⟨_,rfl,_,rfl,_,rfl,u,v,wy,rfl,pu,qv,fun H7 s7=>⟨_,rfl,aB (fun h1=>?_) (fun h1=>?_)⟩⟩
    ·have h1:iV wy u v=false:=by simpa only[Bool.not_eq_true']using h1
     have y:=kk H7 (S6.trans s7);have zz:fM wy (f::r)=false:=by
      rw[Bool.eq_false_iff];intro zz;rw[fX.mp zz i u v hu hv']at h1;cases h1
     rw[zz]at y;exact y
    have h1:iV wy u v=true:=by simpa only[Bool.not_eq_false']using h1
    refine⟨_,_,rfl,s5.trans (s6.trans s7),fun j a b hj ha hb=>?_⟩
    by_cases hji:j=i
    ·subst hji
     rw[hu]at ha;rw[hv']at hb;cases ha;cases hb;exact h1
    ·exact hst j a b (by omega) ha hb
   ·rintro σ H5 ⟨z1,z2,rfl,s5,hst⟩
    have y:=kk H5 (s4.trans s5);have zz:fM wy (f::r)=true:=by
     rw[fX];intro j u v hu hv;refine hst j u v ?_ hu hv;have:=(List.getElem?_eq_some_iff.mp hv).1;rw[aV,aV,List.length_drop];omega
    rw[zz]at y;exact y
  obtain⟨p6,hp6,rd6⟩:=R6;have R5:∃p5,PSs (aN CX0 P w K mg base ["one","other","thing","way","first","last","pair","later"] "_law_is_fence" (ag (top 110)) f cdv A outer s H E).nox ((aA (top 110)).drop 5) p5∧∀(f z:Pr) (r:List Pr) (H3:Hp),zU H3 l (f::r)->(∀H',Same H3 H'->Q (.bl (hfB wy f && fM wy (f::r))) H')->p5 { nx:=fun _ H'=>Q .non H',rt:=Q } [some (.ref l1),some (.ref l2),some (.ref l),some (.str wy),some (.ref f.p),some (.ref z.p),none,none] H3:=by
   refine⟨_,af (aF (bR (ar aW (pv 3) aE (aq _)) (bU (cf (ar dq (aj ak (aj ak (pv 4) ac (fun _ _=>rfl)) ac (fun _ _=>rfl)) ac (aq _)) (ce (ar dq (aj ak (aj ak (pv 4) ac (fun _ _=>rfl)) ac (fun _ _=>rfl)) ac (aq _)))).pt)).pt (ah (am bW)) aw) hp6,fun f z r H3 P3 kk=>?_⟩;have pf:=P3.pr f (by simp);have F0:=SqT.of (K:=K) pf.p_;unfold hfB aZ at kk;have gt:∀{n:Int} {b:Bool},1≤n->decide (n>1)=b->decide (n=1) = !b:=fun {n b} hn h=>by
    cases b with
    | true=>exact decide_eq_false (by have:=bF h;omega)
    | false=>exact decide_eq_true (by have:=ci h;omega)
   refine⟨_,rfl,rfl,_,rfl,aB (fun c1=>?_) (fun c1=>?_)⟩
   ·rw[if_pos (show wy=aQ from bF (ds c1))]at kk
    refine⟨_,rfl,f.p,_,_,_,rfl,rfl,F0,rfl,f.x,_,_,_,rfl,rfl,SqT.of pf.x_,rfl,_,_,rfl,rfl,_,rfl,aB (fun g1=>?_) (fun g1=>?_)⟩
    ·have y:=kk H3 (Same.refl _)
     rw[gt pf.lx.pos g1]at y;exact y
    refine⟨_,rfl,f.p,_,_,_,rfl,rfl,F0,rfl,f.y,_,_,_,rfl,rfl,SqT.of pf.y_,rfl,_,_,rfl,rfl,_,rfl,aB (fun g2=>?_) (fun g2=>?_)⟩
    ·have y:=kk H3 (Same.refl _)
     rw[gt pf.lx.pos g1,gt pf.ly.pos g2]at y;exact y
    rw[gt pf.lx.pos g1,gt pf.ly.pos g2]at kk;exact rd6 f z r H3 P3 kk
   ·rw[if_neg (show ¬wy=aQ from ci (ds c1))]at kk
    exact rd6 f z r H3 P3 kk
  obtain⟨p5,hp5,rd5⟩:=R5;have R4:∃p4,PSs (aN CX0 P w K mg base ["one","other","thing","way","first","last","pair","later"] "_law_is_fence" (ag (top 110)) f cdv A outer s H E).nox ((aA (top 110)).drop 4) p4∧∀(f z:Pr) (r:List Pr) (H3:Hp),Same H H3->zU H3 l (f::r)->PrAt H3 z->(∀H',Same H3 H'->Q (.bl (e2B ((xs1.length:Int) - 1) wy z && (hfB wy f && fM wy (f::r)))) H')->p4 { nx:=fun _ H'=>Q .non H',rt:=Q } [some (.ref l1),some (.ref l2),some (.ref l),some (.str wy),some (.ref f.p),some (.ref z.p),none,none] H3:=by
   refine⟨_,af (aF (bR (ar (iU hr.units0) (aj ak (pv 5) ac (fun _ _=>rfl)) (aG (aa ac (aa ac ae))) (aq _)) (bU (cf (ar aW (pv 3) aE (aq _)) (ce (ar (iU hr.units0) (aj ak (pv 5) ac (fun _ _=>rfl)) (aG (aa (ap bE (az aK (by rfl) T.z_len ck (aa (pv 0) ae)) ac) (aa ac ae))) (aq _)))).pt)).pt (ah (am bW)) aw) hp5,fun f z r H3 s3 P3 hz kk=>?_⟩;unfold e2B at kk;refine⟨_,rfl,z.p,_,_,_,rfl,rfl,SqT.of hz.p_,rfl,sz (by simp),fun t1 H4 s4 g4 _=>?_⟩;refine⟨z.y,t1,[z.c,z.d],[0,1],rfl,rfl,SqT.of (s4 _ _ hz.y_),SqT.of g4,_,rfl,?_⟩;show if (!decide ([z.c,z.d] = [0,1]))=true then _ else _
   rw[fB];refine aB (fun c1=>?_) (fun c1=>?_)
   ·have c1:isP z.c z.d 0=false:=by simpa using c1
    rw[c1,Bool.false_or]at kk;refine⟨_,rfl,rfl,_,rfl,aB (fun c2=>?_) (fun c2=>?_)⟩
    ·have y:=kk H4 s4
     rw[show ptB wy=true from ds c2]at y;exact y
    rw[show ptB wy=false from ds c2]at kk;have hz4:=hz.t s4.t;refine⟨_,rfl,z.p,_,_,_,rfl,rfl,SqT.of hz4.p_,rfl,_,rfl,l1,xs1,rfl,.inl (SqL.of ((s3.trans s4) _ _ e1)),_,_,rfl,rfl,sz (by simp),fun t2 H5 s5 g5 _=>?_⟩;refine⟨z.x,t2,[z.a,z.b],[(xs1.length:Int) - 1,1],rfl,rfl,SqT.of (s5 _ _ hz4.x_),SqT.of g5,_,rfl,?_⟩;show if (!decide ([z.a,z.b] = [(xs1.length:Int) - 1,1]))=true then _ else _
    rw[fB];have S5:=s4.trans s5;refine aB (fun c3=>?_) (fun c3=>?_)
    ·have c3:isP z.a z.b ((xs1.length:Int) - 1)=false:=by simpa using c3
     have y:=kk H5 S5;rw[c3]at y;exact y
    ·have c3:isP z.a z.b ((xs1.length:Int) - 1)=true:=by simpa using c3
     rw[c3]at kk;exact rd5 f z r H5 (P3.mono S5) fun H' s'=>kk H' (S5.trans s')
   ·have c1:isP z.c z.d 0=true:=by simpa using c1
    rw[c1]at kk;exact rd5 f z r H4 (P3.mono s4) fun H' s'=>kk H' (s4.trans s')
  obtain⟨p4,hp4,rd4⟩:=R4;refine⟨_,(af (aF (bq (aM (ao BM (hr.mono (by decide)) (by rfl) (aa (pv 0) (aa (pv 1) (aa (pv 2) ae)))))) (ah (am bW)) aw) (af (av (i:=4) AQ.nd rfl (Or.inl rfl) (aj aC (pv 2) ac (fun _ _=>rfl))) (af (av (i:=5) AQ.nd rfl (Or.inl rfl) (aj aC (pv 2) (jh fP ac) (fun _ _=>rfl))) (af (aF (bR (ar (iU hr.units0) (aj ak (pv 4) ac (fun _ _=>rfl)) (aG (aa (ap bE (az aK (by rfl) T.z_len ck (aa (pv 1) ae)) ac) (aa ac ae))) (aq _)) (bU (cf (ar aW (pv 3) aE (aq _)) (ce (ar (iU hr.units0) (aj ak (pv 4) ac (fun _ _=>rfl)) (aG (aa ac (aa ac ae))) (aq _)))).pt)).pt (ah (am bW)) aw) hp4)))),?_⟩;refine⟨_,rfl,_,rfl,_,rfl,l1,l2,l,xs1,xs2,ps,rfl,⟨e1,n1⟩,⟨e2,n2⟩,PP,fun H0 s0=>⟨_,rfl,aB (fun h0=>?_) (fun h0=>?_)⟩⟩
  ·have h0:(!ps.isEmpty && ps.all (inB ((xs1.length:Int) - 1) ((xs2.length:Int) - 1)))=false:=by simpa only[Bool.not_eq_true']using h0
   have y:=q H0 s0;have z:bQ ((xs1.length:Int) - 1) ((xs2.length:Int) - 1) wy ps=false:=by
    cases ps with
    | nil=>rfl
    | cons f r =>
     rw[cg];rw[show(f::r).all (inB ((xs1.length:Int) - 1) ((xs2.length:Int) - 1))=false from h0,Bool.false_and]
   rw[z]at y;exact y
  have h0:(!ps.isEmpty && ps.all (inB ((xs1.length:Int) - 1) ((xs2.length:Int) - 1)))=true:=by simpa only[Bool.not_eq_false']using h0
  match ps,PP,hlen,q,h0 with
  | [],PP,hlen,q,h0=>cases h0
  | f::r,PP,hlen,q,h0 =>
  have h0:(f::r).all (inB ((xs1.length:Int) - 1) ((xs2.length:Int) - 1))=true:=h0;rw[qE,h0,Bool.true_and]at q;have PP:=PP.mono s0;have hf:=PP.pr f (by simp);have hl:=PP.pr _ (List.getLast_mem (l:=f::r) (by simp));refine⟨_,rfl,l,_,_,_,rfl,rfl,SqL.of PP.lst,jL (V.ref f.p) (prs r),?_⟩;refine⟨_,rfl,_,rfl,l,_,_,_,rfl,rfl,SqL.of PP.lst,iL f r,?_⟩;generalize (f::r).getLast (by simp)=z at *;unfold e1B at q;refine⟨_,rfl,f.p,_,_,_,rfl,rfl,SqT.of hf.p_,rfl,_,rfl,l2,xs2,rfl,.inl (SqL.of (s0 _ _ e2)),_,_,rfl,rfl,sz (by simp),fun t1 H1 s1 g1 _=>?_⟩;refine⟨f.y,t1,[f.c,f.d],[(xs2.length:Int) - 1,1],rfl,rfl,SqT.of (s1 _ _ hf.y_),SqT.of g1,_,rfl,?_⟩;show if (!decide ([f.c,f.d] = [(xs2.length:Int) - 1,1]))=true then _ else _
  rw[fB];have S1:=s0.trans s1;refine aB (fun c1=>?_) (fun c1=>?_)
  ·have c1:isP f.c f.d ((xs2.length:Int) - 1)=false:=by simpa using c1
   rw[c1,Bool.false_or]at q;refine⟨_,rfl,rfl,_,rfl,aB (fun c2=>?_) (fun c2=>?_)⟩
   ·have y:=q H1 S1
    rw[show ptB wy=true from ds c2]at y;exact y
   rw[show ptB wy=false from ds c2]at q;have hf1:=hf.t s1.t;refine⟨_,rfl,f.p,_,_,_,rfl,rfl,SqT.of hf1.p_,rfl,sz (by simp),fun t2 H2 s2 g2 _=>?_⟩;refine⟨f.x,t2,[f.a,f.b],[0,1],rfl,rfl,SqT.of (s2 _ _ hf1.x_),SqT.of g2,_,rfl,?_⟩;show if (!decide ([f.a,f.b] = [0,1]))=true then _ else _
   rw[fB];have S2:=S1.trans s2;refine aB (fun c3=>?_) (fun c3=>?_)
   ·have c3:isP f.a f.b 0=false:=by simpa using c3
    have y:=q H2 S2;rw[c3]at y;exact y
   ·have c3:isP f.a f.b 0=true:=by simpa using c3
    rw[c3]at q;exact rd4 f z r H2 S2 (PP.mono (s1.trans s2)) (hl.t (s1.trans s2).t) fun H' s'=>q H' (S2.trans s')
  ·have c1:isP f.c f.d ((xs2.length:Int) - 1)=true:=by simpa using c1
   rw[c1]at q;exact rd4 f z r H1 S1 (PP.mono s1) (hl.t s1.t) fun H' s'=>q H' (S1.trans s')
inductive G0 (vs:List V) (H:Hp) (Q:VK) (x_3:XK):Prop
 | mk:∀(p z0:Addr) (t0 b0 n k:Int) (wy:Str),(vs = [.ref p,.ref z0,.str wy])->(Pot H p k)->(k≤700000)->((0≤n∧n≤50))->(Dp H z0 t0 b0 n wy)->(∀(z:Addr) (t b:Int) (H':Hp),Dp H' z t b n wy->bD t0 b0 t b=true->(wy=aQ->t0 - t≤1)->But p H H'->Pot H' p (k+20)->Q (.ref z) H')->G0 vs H Q x_3
inductive GT (vs:List V) (H:Hp) (Q:VK) (x_3:XK):Prop
 | mk:∀(p z0:Addr) (t0 b0 n k:Int) (wy:Str),(vs = [.ref p,.ref z0,.int n,.str wy])->(Pot H p k)->(k≤700000)->((0≤n∧n≤50))->(Dp H z0 t0 b0 n wy)->(∀(z:Addr) (t b:Int) (H':Hp),Dp H' z t b n wy->bD t0 b0 t b=true->(wy=aQ->t - t0≤1)->But p H H'->Pot H' p (k+20)->Q (.ref z) H')->GT vs H Q x_3
inductive DD (g:Int->Int->Int->Int->Bool) (vs:List V) (H:Hp) (Q:VK) (x_3:XK):Prop
 | mk:∀(p q:Addr) (a b c d:Int),(vs = [.ref p,.ref q])->(H p=some (.tup [.int a,.int b]))->(H q=some (.tup [.int c,.int d]))->((au a≤2000∧au b≤2000∧au c≤2000∧au d≤2000))->(Q (.ref (if g a b c d=true then q else p)) H)->DD g vs H Q x_3
theorem wF{t b n:Int}(hb:0<b)(h0:0≤t)(h1:t≤n*b):(0≤(if (t - 1) / b>0 then (t - 1) / b else 0)∧(if (t - 1) / b>0 then (t - 1) / b else 0)*b≤t∧t≤((if (t - 1) / b>0 then (t - 1) / b else 0)+1)*b)∧(0<t->(if (t - 1) / b>0 then (t - 1) / b else 0)+1≤n):=by
 have q1:=dC (a:=t - 1) hb;have q2:=d7 (a:=t - 1) hb;have q3:t - 1<n*b->(t - 1) / b<n:=fun h=>Int.ediv_lt_of_lt_mul hb h;have q4:0≤n:=by
  by_cases c:0≤n
  ·exact c
  ·have:=Int.mul_neg_of_neg_of_pos (show n<0 by omega) hb
   omega
 have q5:0<t->0≤(t - 1) / b:=fun h=>lV hb (by omega)
 split
 ·rename_i h
  exact⟨⟨by omega,by omega,by omega⟩,fun _=>by have:=q3 (by omega);omega⟩
 ·rename_i h
  refine⟨⟨by omega,by omega,?_⟩,fun z=>?_⟩
  ·have:((t - 1) / b+1)*b≤(0+1)*b:=Int.mul_le_mul_of_nonneg_right (by omega) (by omega)
   omega
  ·have:=q3 (by omega)
   have:=q5 z;omega
theorem GA:zQ ["one","other"] ["one","other"] (ag (top 113)):=smk
theorem kT(Dv:Df K mg "_law_lesser" (top 113))(zS:Fn P w K mg base "_law_below" ["one","other"] 1 Bh):Fn P w K mg base "_law_lesser" ["one","other"] 2 (DD fun a b c d=>ltB c d a b):=by
 refine Dv.fn GA (fun _ _ _ _ _ _ us hl=>by obtain⟨_,_,rfl⟩:=cO hl;rfl) (fun vs H Q E h=>?_) (fun f cdv A outer s H vs Q E hr h=>?_)
 ·obtain⟨p,q,a,b,c,d,rfl,_⟩:=h
  rfl
 ·obtain⟨p,q,a,b,c,d,rfl,ep,eq,⟨ba,bb,bc,bd⟩,k⟩:=h
  refine⟨_,(af (aF (aM (ao zS (hr.mono (by decide)) (by rfl) (aa (pv 1) (aa (pv 0) ae)))) (ah (am (pv 1))) aw) (ah (am (pv 0)))),?_⟩
  try dsimp only at k
  unfold ltB at k;refine⟨_,rfl,_,rfl,q,p,c,d,a,b,rfl,eq,ep,⟨bc,bd,ba,bb⟩,_,rfl,aB (fun h1=>?_) (fun h1=>?_)⟩
  ·rw[if_pos h1]at k
   exact⟨_,rfl,k⟩
  ·rw[if_neg (by rw[h1];decide)]at k
   exact⟨_,rfl,k⟩
theorem Gb:zQ ["one","other"] ["one","other"] (ag (top 116)):=smk
theorem kq(CH:Df K mg "_law_greater" (top 116))(zS:Fn P w K mg base "_law_below" ["one","other"] 1 Bh):Fn P w K mg base "_law_greater" ["one","other"] 2 (DD fun a b c d=>ltB a b c d):=by
 refine CH.fn Gb (fun _ _ _ _ _ _ us hl=>by obtain⟨_,_,rfl⟩:=cO hl;rfl) (fun vs H Q E h=>?_) (fun f cdv A outer s H vs Q E hr h=>?_)
 ·obtain⟨p,q,a,b,c,d,rfl,_⟩:=h
  rfl
 ·obtain⟨p,q,a,b,c,d,rfl,ep,eq,⟨ba,bb,bc,bd⟩,k⟩:=h
  refine⟨_,(af (aF (aM (ao zS (hr.mono (by decide)) (by rfl) (aa (pv 0) (aa (pv 1) ae)))) (ah (am (pv 1))) aw) (ah (am (pv 0)))),?_⟩
  try dsimp only at k
  unfold ltB at k;refine⟨_,rfl,_,rfl,p,q,a,b,c,d,rfl,ep,eq,⟨ba,bb,bc,bd⟩,_,rfl,aB (fun h1=>?_) (fun h1=>?_)⟩
  ·rw[if_pos h1]at k
   exact⟨_,rfl,k⟩
  ·rw[if_neg (by rw[h1];decide)]at k
   exact⟨_,rfl,k⟩
theorem C6:zQ ["pot","y","way","at","spot"] ["pot","y","way"] (ag (top 119)):=smk
theorem oX(Ey:Df K mg "_law_down" (top 119))(zR:Fn P w K mg base "_law_take" ["pot","size"] 1 Dr.spTk)(Ae:Fn P w K mg base "_law_spot_on" ["pot","at"] 3 Fw)(zS:Fn P w K mg base "_law_below" ["one","other"] 1 Bh)(T:Txt mg):Fn P w K mg base "_law_down" ["pot","y","way"] 4 G0:=by
 refine Ey.fn C6 (fun _ _ _ _ _ _ us hl=>by obtain⟨_,_,_,rfl⟩:=fI hl;rfl) (fun vs H Q E h=>?_) (fun f cdv A outer s H vs Q E hr h=>?_)
 ·obtain⟨p,z0,t0,b0,n,k,wy,rfl,_⟩:=h
  rfl
 ·obtain⟨p,z0,t0,b0,n,k,wy,rfl,pt,hk,⟨hn0,hn1⟩,d0,q⟩:=h
  have hb:(0:Int)<b0:=d0.low.pos;have bb0:au b0≤8000:=ai d0.bb (by decide);obtain⟨⟨A0,A1,A2⟩,A3⟩:=wF hb d0.n0 d0.n1;have R4:∃p4,PSs (aN CX0 P w K mg base ["pot","y","way","at","spot"] "_law_down" (ag (top 119)) f cdv A outer s H E).nox ((aA (top 119)).drop 3) p4∧∀(H4:Hp) (at_:Option V) (zs:Addr) (t b:Int),Dp H4 zs t b n wy->bD t0 b0 t b=true->(wy=aQ->t0 - t≤1)->But p H H4->Pot H4 p (k+20)->p4 { nx:=fun _ H'=>Q .non H',rt:=Q } [some (.ref p),some (.ref z0),some (.str wy),at_,some (.ref zs)] H4:=by
   refine⟨_,(af (aF (bR (ar dU (pv 2) aE (aq _)) (bU (aM (ao zS (hr.mono (by decide)) (by rfl) (aa (pv 1) (aa (pv 4) ae)))))).pt (ah (am (pv 1))) aw) (ah (am (pv 4)))),fun H4 at_ zs t b d4 sh hp b4 p4=>?_⟩;have d04:=d0.t' (b4.t pt);have stay:Q (.ref z0) H4:=q z0 t0 b0 H4 d04 (cA (k:=t0 / b0) hb hb (dC hb) (by have:=d7 (a:=t0) hb;omega) (dC hb) (by have:=d7 (a:=t0) hb;omega)) (fun _=>by omega) b4 p4;refine⟨_,rfl,rfl,_,rfl,aB (fun h3=>?_) (fun h3=>?_)⟩
   ·refine⟨_,rfl,_,rfl,z0,zs,_,_,_,_,rfl,d04.at_,d4.at_,⟨ai d04.bt (by decide),ai d04.bb (by decide),ai d4.bt (by decide),ai d4.bb (by decide)⟩,_,rfl,aB (fun h4=>?_) (fun h4=>?_)⟩
    ·exact⟨_,rfl,stay⟩
    ·exact⟨_,rfl,q zs t b H4 d4 sh hp b4 p4⟩
   ·exact⟨_,rfl,q zs t b H4 d4 sh hp b4 p4⟩
  obtain⟨p4,hp4,rd4⟩:=R4;refine⟨_,(af (av (i:=3) C6.nd rfl (Or.inl rfl) (az (l9 rfl) (by rfl) T.z_max vn (aa ac (aa (ap cv (ap bE (aj ak (pv 1) ac (fun _ _=>rfl)) ac) (aj ak (pv 1) ac (fun _ _=>rfl))) ae)))) (af (av (i:=4) C6.nd rfl (Or.inl rfl) (aG (aa (pv 3) (aa ac ae)))) (af (aF (bR (ar dU (pv 2) aE (aq _)) (bR (ar dq (aj ak (pv 1) ac (fun _ _=>rfl)) ac (aq _)) (bU (ar aW (ao zR (hr.mono (by decide)) (by rfl) (aa (pv 0) (aa ac ae))) ac (aq _))))).pt (ah (av (i:=4) C6.nd rfl (Or.inl rfl) (ao Ae (hr.mono (by decide)) (by rfl) (aa (pv 0) (aa (pv 3) ae))))) aw) hp4))),?_⟩;have TZ:=SqT.of (K:=K) d0.at_;refine⟨_,rfl,z0,_,_,_,rfl,rfl,TZ,rfl,_,_,rfl,rfl,_,rfl,z0,_,_,_,rfl,rfl,TZ,rfl,_,_,rfl,rfl,⟨hb,bb0⟩,_,_,rfl,?_⟩;generalize (if (t0 - 1) / b0>0 then (t0 - 1) / b0 else 0)=at1 at *
  refine⟨_,rfl,sz (by simp),fun zs H3 s3 f3 n3=>?_⟩;have hA:at1≤n:=by
   by_cases z:0<t0
   ·have:=A3 z
    omega
   ·have e:t0=0:=by have:=d0.n0;omega
    by_cases c:at1≤0
    ·omega
    ·have:=Int.mul_pos (show 0<at1 by omega) hb
     omega
  have dS:Dp H3 zs at1 1 n wy:=⟨f3,⟨by decide,Int.gcd_one⟩,A0,by omega,ai (bV (by omega) (by omega)) (by decide),by decide,fun _=>rfl⟩;have shS:bD t0 b0 at1 1=true:=cA (k:=at1) hb (by decide) A1 A2 (by omega) (by omega);have hpS:wy=aQ->t0 - at1≤1:=fun z=>by
   have e:=d0.hop z;subst e;omega
  have b3:But p H H3:=But.of s3;have p3:=pt.same s3;have T3:=SqT.of (K:=K) (s3 _ _ d0.at_);refine⟨_,rfl,rfl,_,rfl,aB (fun h1=>?_) (fun h1=>?_)⟩
  ·have hw:¬wy=aQ:=ci (ds (show decide (V.str wy=V.str (Str.ofString "hops"))=false by simpa only[Bool.not_eq_true']using h1))
   refine⟨_,rfl,z0,_,_,_,rfl,rfl,T3,rfl,_,_,rfl,rfl,_,rfl,aB (fun h2=>?_) (fun h2=>?_)⟩
   ·have h2:t0>0:=bF h2
    refine⟨_,rfl,p,_,_,rfl,p3,by omega,⟨by decide,by decide⟩,fun r1 H4 _ _ b4 p4=>?_⟩;have B4:=b3.trans b4;refine⟨rfl,_,rfl,aB (fun h3=>?_) (fun h3=>?_)⟩
    ·refine⟨_,rfl,_,rfl,p,_,_,rfl,p4,by omega,⟨A0,by omega⟩,fun z t b H5 lw g1 g2 bt bb b5 f5 p5=>?_⟩
     have hbz:=lw.pos;have m0:0≤at1*b:=Int.mul_nonneg A0 (by omega);have m1:(at1+1)*b≤n*b:=Int.mul_le_mul_of_nonneg_right (A3 h2) (by omega);exact rd4 H5 _ z t b ⟨f5,lw,by omega,by omega,bt,bb,fun z=>absurd z hw⟩ (cA (k:=at1) hb (by omega) A1 A2 g1 g2) (fun z=>absurd z hw) (B4.trans b5) (p5.mono (by omega))
    ·exact rd4 H4 _ zs at1 1 (dS.t' (b4.t p3)) shS hpS B4 (p4.mono (by omega))
   ·exact rd4 H3 _ zs at1 1 dS shS hpS b3 (p3.mono (by omega))
  ·exact rd4 H3 _ zs at1 1 dS shS hpS b3 (p3.mono (by omega))
theorem C0:zQ ["pot","x","last","way","at","spot"] ["pot","x","last","way"] (ag (top 120)):=smk
theorem oS(Et:Df K mg "_law_over" (top 120))(zR:Fn P w K mg base "_law_take" ["pot","size"] 1 Dr.spTk)(Ae:Fn P w K mg base "_law_spot_on" ["pot","at"] 3 Fw)(zS:Fn P w K mg base "_law_below" ["one","other"] 1 Bh)(T:Txt mg):Fn P w K mg base "_law_over" ["pot","x","last","way"] 4 GT:=by
 refine Et.fn C0 (fun _ _ _ _ _ _ us hl=>by obtain⟨_,_,_,_,rfl⟩:=ir hl;rfl) (fun vs H Q E h=>?_) (fun f cdv A outer s H vs Q E hr h=>?_)
 ·obtain⟨p,z0,t0,b0,n,k,wy,rfl,_⟩:=h
  rfl
 ·obtain⟨p,z0,t0,b0,n,k,wy,rfl,pt,hk,⟨hn0,hn1⟩,d0,q⟩:=h
  have hb:(0:Int)<b0:=d0.low.pos;have bb0:au b0≤8000:=ai d0.bb (by decide);have f0:=lV hb d0.n0;have f1:=rJ hb d0.n1;have g1:=dC (a:=t0) hb;have g2:=d7 (a:=t0) hb;have R4:∃p4,PSs (aN CX0 P w K mg base ["pot","x","last","way","at","spot"] "_law_over" (ag (top 120)) f cdv A outer s H E).nox ((aA (top 120)).drop 3) p4∧∀(H4:Hp) (at_:Option V) (zs:Addr) (t b:Int),Dp H4 zs t b n wy->bD t0 b0 t b=true->(wy=aQ->t - t0≤1)->But p H H4->Pot H4 p (k+20)->p4 { nx:=fun _ H'=>Q .non H',rt:=Q } [some (.ref p),some (.ref z0),some (.int n),some (.str wy),at_,some (.ref zs)] H4:=by
   refine⟨_,(af (aF (bR (ar dU (pv 3) aE (aq _)) (bU (aM (ao zS (hr.mono (by decide)) (by rfl) (aa (pv 5) (aa (pv 1) ae)))))).pt (ah (am (pv 1))) aw) (ah (am (pv 5)))),fun H4 at_ zs t b d4 sh hp b4 p4=>?_⟩;have d04:=d0.t' (b4.t pt);have stay:Q (.ref z0) H4:=q z0 t0 b0 H4 d04 (cA (k:=t0 / b0) hb hb g1 (by omega) g1 (by omega)) (fun _=>by omega) b4 p4;refine⟨_,rfl,rfl,_,rfl,aB (fun h3=>?_) (fun h3=>?_)⟩
   ·refine⟨_,rfl,_,rfl,zs,z0,_,_,_,_,rfl,d4.at_,d04.at_,⟨ai d4.bt (by decide),ai d4.bb (by decide),ai d04.bt (by decide),ai d04.bb (by decide)⟩,_,rfl,aB (fun h4=>?_) (fun h4=>?_)⟩
    ·exact⟨_,rfl,stay⟩
    ·exact⟨_,rfl,q zs t b H4 d4 sh hp b4 p4⟩
   ·exact⟨_,rfl,q zs t b H4 d4 sh hp b4 p4⟩
  obtain⟨p4,hp4,rd4⟩:=R4;refine⟨_,(af (av (i:=4) C0.nd rfl (Or.inl rfl) (az (je rfl) (by rfl) T.z_min qK (aa (pv 2) (aa (ap bz (ap cv (aj ak (pv 1) ac (fun _ _=>rfl)) (aj ak (pv 1) ac (fun _ _=>rfl))) ac) ae)))) (af (av (i:=5) C0.nd rfl (Or.inl rfl) (aG (aa (pv 4) (aa ac ae)))) (af (aF (bR (ar dU (pv 3) aE (aq _)) (bR (ar dq (pv 4) ac (aq _)) (bR (ar (iU hr.units0) (pv 1) (aG (aa (pv 2) (aa ac ae))) (aq _)) (bU (ar aW (ao zR (hr.mono (by decide)) (by rfl) (aa (pv 0) (aa ac ae))) ac (aq _)))))).pt (ah (av (i:=5) C0.nd rfl (Or.inl rfl) (ao Ae (hr.mono (by decide)) (by rfl) (aa (pv 0) (aa (ap bE (pv 4) ac) ae))))) aw) hp4))),?_⟩;have TZ:=SqT.of (K:=K) d0.at_;refine⟨_,rfl,_,rfl,z0,_,_,_,rfl,rfl,TZ,rfl,_,rfl,z0,_,_,_,rfl,rfl,TZ,rfl,_,_,rfl,rfl,⟨hb,bb0⟩,_,_,rfl,rfl,_,_,rfl,?_⟩;have A0:t0 / b0≤(if t0 / b0+1<n then t0 / b0+1 else n)∧(if t0 / b0+1<n then t0 / b0+1 else n)≤t0 / b0+1∧(if t0 / b0+1<n then t0 / b0+1 else n)≤n∧(t0 / b0<n->(if t0 / b0+1<n then t0 / b0+1 else n)=t0 / b0+1):=by
   split <;> omega
  generalize (if t0 / b0+1<n then t0 / b0+1 else n)=at1 at *
  obtain⟨A1,A2,A3,A4⟩:=A0;refine⟨_,rfl,sz (by simp),fun zs H3 s3 f3 n3=>?_⟩;have dS:Dp H3 zs at1 1 n wy:=⟨f3,⟨by decide,Int.gcd_one⟩,by omega,by omega,ai (bV (by omega) (by omega)) (by decide),by decide,fun _=>rfl⟩;have shS:bD t0 b0 at1 1=true:=cA (k:=t0 / b0) hb (by decide) g1 (by omega) (by omega) (by omega);have hpS:wy=aQ->at1 - t0≤1:=fun z=>by
   have e:=d0.hop z;subst e;rw[Int.ediv_one]at A2;omega
  have b3:But p H H3:=But.of s3;have p3:=pt.same s3;refine⟨_,rfl,rfl,_,rfl,aB (fun h1=>?_) (fun h1=>?_)⟩
  ·have hw:¬wy=aQ:=ci (ds (show decide (V.str wy=V.str (Str.ofString "hops"))=false by simpa only[Bool.not_eq_true']using h1))
   refine⟨_,rfl,_,_,rfl,rfl,_,rfl,aB (fun h2=>?_) (fun h2=>?_)⟩
   ·refine⟨_,rfl,_,rfl,sz (by simp),fun t2 H4 s4 f4 _=>?_⟩
    have B4:=b3.trans (But.of (p:=p) s4);have p4:=p3.same s4;have d4:=d0.t' (B4.t pt);refine⟨z0,t2,[t0,b0],[n,1],rfl,rfl,SqT.of d4.at_,SqT.of f4,_,rfl,?_⟩;show if (!decide ([t0,b0] = [n,1]))=true then _ else _
    refine aB (fun h5=>?_) (fun h5=>?_)
    ·have h5:¬[t0,b0] = [n,1]:=of_decide_eq_false (by simpa only[Bool.not_eq_true']using h5)
     have hlt:t0 / b0<n:=by
      by_cases c:t0 / b0=n
      ·obtain⟨e1,e2⟩:=rL d0.low d0.n1 c
       rw[e1,e2]at h5;exact absurd rfl h5
      ·omega
     have e4:=A4 hlt;refine⟨_,rfl,p,_,_,rfl,p4,by omega,⟨by decide,by decide⟩,fun r1 H5 _ _ b5 p5=>?_⟩;have B5:=B4.trans b5;refine⟨rfl,_,rfl,aB (fun h3=>?_) (fun h3=>?_)⟩
     ·refine⟨_,rfl,_,rfl,_,_,rfl,rfl,p,_,_,rfl,p5,by omega,⟨by omega,by omega⟩,fun z t b H6 lw j1 j2 bt bb b6 f6 p6=>?_⟩
      have hbz:=lw.pos;have ea:at1 - 1=t0 / b0:=by omega
      rw[ea]at j1 j2;have m0:0≤t0 / b0*b:=Int.mul_nonneg f0 (by omega);have m1:(t0 / b0+1)*b≤n*b:=Int.mul_le_mul_of_nonneg_right (by omega) (by omega);exact rd4 H6 _ z t b ⟨f6,lw,by omega,by omega,bt,bb,fun z=>absurd z hw⟩ (cA (k:=t0 / b0) hb (by omega) g1 (by omega) j1 j2) (fun z=>absurd z hw) (B5.trans b6) (p6.mono (by omega))
     ·exact rd4 H5 _ zs at1 1 ((dS.t' s4.t).t' (b5.t p4)) shS hpS B5 (p5.mono (by omega))
    ·exact rd4 H4 _ zs at1 1 (dS.t' s4.t) shS hpS B4 (p4.mono (by omega))
   ·exact rd4 H3 _ zs at1 1 dS shS hpS b3 (p3.mono (by omega))
  ·exact rd4 H3 _ zs at1 1 dS shS hpS b3 (p3.mono (by omega))
structure Fp(H:Hp)(v:Pr)(n m:Int)(wy:Str):Prop where
 e:H v.p=some (.tup [.ref v.x,.ref v.y])
 dx:Dp H v.x v.a v.b n wy
 dy:Dp H v.y v.c v.d m wy
 fr:wy=cp->v.b=1∨v.d=1
theorem Fp.t{H H':Hp}{v:Pr}{n m:Int}{wy:Str}(h:Fp H v n m wy)(s:SameT H H'):Fp H' v n m wy:=⟨s _ _ h.e,h.dx.t' s,h.dy.t' s,h.fr⟩
theorem ei{wy:Str}{u v:Pr}(h1:u.b=1)(e1:v.a=u.a)(e2:v.b=u.b)(sh:bD u.c u.d v.c v.d=true)(hp:wy=aQ->u.c - v.c≤1):cR wy u v=true:=by
 have k:d5 u v=true:=by
  unfold d5;rw[e1,e2,sh,decide_eq_true rfl,decide_eq_true h1];rfl
 unfold cR cP;rw[k]
 by_cases h:wy=aQ
 ·rw[if_pos h]
  unfold dZ;rw[decide_eq_true (show v.a - u.a≤0 by omega),decide_eq_true (hp h)];rfl
 ·rw[if_neg h]
  by_cases hf:wy=cp
  ·rw[if_pos hf];rfl
  ·rw[if_neg hf];simp
theorem fh{wy:Str}{u v:Pr}(h1:u.d=1)(e1:v.c=u.c)(e2:v.d=u.d)(sh:bD u.a u.b v.a v.b=true)(hp:wy=aQ->v.a - u.a≤1):cR wy u v=true:=by
 have k:eU u v=true:=by
  unfold eU;rw[e1,e2,sh,decide_eq_true rfl,decide_eq_true h1];rfl
 unfold cR cP;rw[k]
 by_cases h:wy=aQ
 ·rw[if_pos h]
  unfold dZ;rw[decide_eq_true (hp h),decide_eq_true (show u.c - v.c≤0 by omega)];simp
 ·rw[if_neg h]
  by_cases hf:wy=cp
  ·rw[if_pos hf];simp
  ·rw[if_neg hf];simp
theorem fU{wy:Str}{u v:Pr}(hf:¬wy=cp)(h1:¬u.a*v.b<v.a*u.b)(h2:¬v.c*u.d<u.c*v.d)(hp:wy=aQ->u.b=1∧u.d=1∧v.b=1∧v.d=1):cR wy u v=true:=by
 unfold cR
 by_cases h:wy=aQ
 ·obtain⟨a1,a2,a3,a4⟩:=hp h
  rw[a1,a3]at h1;rw[a2,a4]at h2;rw[if_pos h];unfold dZ;rw[decide_eq_true (show v.a - u.a≤0 by omega),decide_eq_true (show u.c - v.c≤1 by omega)];rfl
 ·rw[if_neg h,if_neg hf]
  unfold dz ltB;rw[decide_eq_false h1,decide_eq_false h2];rfl
inductive GU (vs:List V) (H:Hp) (Q:VK) (x_3:XK):Prop
 | mk:∀(p:Addr) (u:Pr) (n m k:Int) (wy:Str),(vs = [.ref p,.ref u.p,.int n,.int m,.str wy])->(Pot H p k)->(k≤600000)->((0≤n∧n≤50))->((0≤m∧m≤50))->(Fp H u n m wy)->(∀(v:Pr) (H':Hp),Fp H' v n m wy->cR wy u v=true->But p H H'->Pot H' p (k+50)->Q (.ref v.p) H')->GU vs H Q x_3
theorem C5:zQ ["pot","pair","n","m","way","x","y","turn"] ["pot","pair","n","m","way"] (ag (top 121)):=smk
theorem oU(Eu:Df K mg "_law_next" (top 121))(zR:Fn P w K mg base "_law_take" ["pot","size"] 1 Dr.spTk)(Bg:Fn P w K mg base "_law_any" ["pot","last","way"] 4 Hx)(Ac:Fn P w K mg base "_law_lesser" ["one","other"] 2 (DD fun a b c d=>ltB c d a b))(Cw:Fn P w K mg base "_law_greater" ["one","other"] 2 (DD fun a b c d=>ltB a b c d))(Dk:Fn P w K mg base "_law_down" ["pot","y","way"] 4 G0)(De:Fn P w K mg base "_law_over" ["pot","x","last","way"] 4 GT):Fn P w K mg base "_law_next" ["pot","pair","n","m","way"] 5 GU:=by
 refine Eu.fn C5 (fun _ _ _ _ _ _ us hl=>by obtain⟨_,_,_,_,_,rfl⟩:=uN hl;rfl) (fun vs H Q E h=>?_) (fun f cdv A outer s H vs Q E hr h=>?_)
 ·obtain⟨p,u,n,m,k,wy,rfl,_⟩:=h
  rfl
 ·obtain⟨p,u,n,m,k,wy,rfl,pt,hk,⟨hn0,hn1⟩,⟨hm0,hm1⟩,fu,q⟩:=h
  have ub:(0:Int)<u.b:=fu.dx.low.pos;have ud:(0:Int)<u.d:=fu.dy.low.pos;have sX:bD u.a u.b u.a u.b=true:=cA (k:=u.a / u.b) ub ub (dC ub) (by have:=d7 (a:=u.a) ub;omega) (dC ub) (by have:=d7 (a:=u.a) ub;omega);have sY:bD u.c u.d u.c u.d=true:=cA (k:=u.c / u.d) ud ud (dC ud) (by have:=d7 (a:=u.c) ud;omega) (dC ud) (by have:=d7 (a:=u.c) ud;omega);have R7:∃p7,PSs (aN CX0 P w K mg base ["pot","pair","n","m","way","x","y","turn"] "_law_next" (ag (top 121)) f cdv A outer s H E).nox ((aA (top 121)).drop 7) p7∧∀(tn:Int) (H2:Hp),But p H H2->Pot H2 p (k+1)->p7 { nx:=fun _ H'=>Q .non H',rt:=Q } [some (.ref p),some (.ref u.p),some (.int n),some (.int m),some (.str wy),some (.ref u.x),some (.ref u.y),some (.int tn)] H2:=by
   refine⟨_,(ah (am (pv 1))),fun tn H2 b2 p2=>?_⟩;have f2:=fu.t (b2.t pt);have X2:=SqT.of (K:=K) f2.dx.at_;have Y2:=SqT.of (K:=K) f2.dy.at_;refine⟨_,rfl,q u H2 f2 ?_ b2 (p2.mono (by omega))⟩
   by_cases hf:wy=cp
   ·have nh:¬wy=aQ:=fun z=>absurd (z.symm.trans hf) (by decide)
    rcases fu.fr hf with h1|h1
    ·exact ei h1 rfl rfl sY (fun z=>absurd z nh)
    ·exact fh h1 rfl rfl sX (fun z=>absurd z nh)
   ·exact fU hf (by omega) (by omega) fun z=>⟨fu.dx.hop z,fu.dy.hop z,fu.dx.hop z,fu.dy.hop z⟩
  obtain⟨p7,hp7,rd7⟩:=R7;have R6:∃p6,PSs (aN CX0 P w K mg base ["pot","pair","n","m","way","x","y","turn"] "_law_next" (ag (top 121)) f cdv A outer s H E).nox ((aA (top 121)).drop 6) p6∧∀(tn:Int) (H2:Hp),But p H H2->Pot H2 p (k+1)->p6 { nx:=fun _ H'=>Q .non H',rt:=Q } [some (.ref p),some (.ref u.p),some (.int n),some (.int m),some (.str wy),some (.ref u.x),some (.ref u.y),some (.int tn)] H2:=by
   refine⟨_,af (aF (bR (ar aW (aj ak (pv 6) ac (fun _ _=>rfl)) ac (aq _)) (bU (ar aW (pv 4) aE (aq _)))).pt (ah (am (aG (aa (ao Dk (hr.mono (by decide)) (by rfl) (aa (pv 0) (aa (pv 5) (aa (pv 4) ae)))) (aa (pv 6) ae))))) aw) hp7,fun tn H2 b2 p2=>?_⟩;have f2:=fu.t (b2.t pt);have X2:=SqT.of (K:=K) f2.dx.at_;have Y2:=SqT.of (K:=K) f2.dy.at_;refine⟨_,rfl,u.y,_,_,_,rfl,rfl,Y2,rfl,rfl,_,rfl,?_⟩;rw[di];refine aB (fun h1=>?_) (fun h1=>?_)
   ·have h1:u.d=1:=bF h1
    refine⟨_,rfl,rfl,_,rfl,aB (fun c3=>?_) (fun c3=>?_)⟩
    ·refine⟨_,rfl,_,rfl,_,rfl,p,u.x,_,_,n,_,_,rfl,p2,by omega,⟨hn0,hn1⟩,f2.dx,fun z t b H3 d3 sh hp b3 p3=>?_⟩
     refine⟨_,rfl,sz (by simp),fun pp H4 s4 f4 _=>?_⟩;exact q ⟨pp,z,u.y,t,b,u.c,u.d⟩ H4 ⟨f4,d3.t' s4.t,(f2.dy.t' (b3.t p2)).t' s4.t,fun _=>.inr h1⟩ (fh h1 rfl rfl sh (fun z=>absurd (z.symm.trans (show wy=cp from bF (ds c3))) (by decide))) (b2.trans (b3.trans (But.of s4))) ((p3.same s4).mono (by omega))
    ·exact rd7 tn H2 b2 p2
   ·exact rd7 tn H2 b2 p2
  obtain⟨p6,hp6,rd6⟩:=R6;have R5:∃p5,PSs (aN CX0 P w K mg base ["pot","pair","n","m","way","x","y","turn"] "_law_next" (ag (top 121)) f cdv A outer s H E).nox ((aA (top 121)).drop 5) p5∧∀(tn:Int) (H2:Hp),But p H H2->Pot H2 p (k+1)->p5 { nx:=fun _ H'=>Q .non H',rt:=Q } [some (.ref p),some (.ref u.p),some (.int n),some (.int m),some (.str wy),some (.ref u.x),some (.ref u.y),some (.int tn)] H2:=by
   refine⟨_,af (aF (bR (ar aW (aj ak (pv 6) ac (fun _ _=>rfl)) ac (aq _)) (bU (ar dq (pv 7) ac (aq _)))).pt (ah (am (aG (aa (ao De (hr.mono (by decide)) (by rfl) (aa (pv 0) (aa (pv 5) (aa (pv 2) (aa (pv 4) ae))))) (aa (pv 6) ae))))) aw) hp6,fun tn H2 b2 p2=>?_⟩;have f2:=fu.t (b2.t pt);have X2:=SqT.of (K:=K) f2.dx.at_;have Y2:=SqT.of (K:=K) f2.dy.at_;refine⟨_,rfl,u.y,_,_,_,rfl,rfl,Y2,rfl,rfl,_,rfl,?_⟩;rw[di];refine aB (fun h1=>?_) (fun h1=>?_)
   ·have h1:u.d=1:=bF h1
    refine⟨_,rfl,_,_,rfl,rfl,_,rfl,aB (fun c3=>?_) (fun c3=>?_)⟩
    ·refine⟨_,rfl,_,rfl,_,rfl,_,rfl,p,u.x,_,_,n,_,_,rfl,p2,by omega,⟨hn0,hn1⟩,f2.dx,fun z t b H3 d3 sh hp b3 p3=>?_⟩
     refine⟨_,rfl,sz (by simp),fun pp H4 s4 f4 _=>?_⟩;exact q ⟨pp,z,u.y,t,b,u.c,u.d⟩ H4 ⟨f4,d3.t' s4.t,(f2.dy.t' (b3.t p2)).t' s4.t,fun _=>.inr h1⟩ (fh h1 rfl rfl sh hp) (b2.trans (b3.trans (But.of s4))) ((p3.same s4).mono (by omega))
    ·exact rd6 tn H2 b2 p2
   ·exact rd6 tn H2 b2 p2
  obtain⟨p5,hp5,rd5⟩:=R5;have R4:∃p4,PSs (aN CX0 P w K mg base ["pot","pair","n","m","way","x","y","turn"] "_law_next" (ag (top 121)) f cdv A outer s H E).nox ((aA (top 121)).drop 4) p4∧∀(tn:Int) (H2:Hp),But p H H2->Pot H2 p (k+1)->p4 { nx:=fun _ H'=>Q .non H',rt:=Q } [some (.ref p),some (.ref u.p),some (.int n),some (.int m),some (.str wy),some (.ref u.x),some (.ref u.y),some (.int tn)] H2:=by
   refine⟨_,af (aF (bR (ar aW (aj ak (pv 5) ac (fun _ _=>rfl)) ac (aq _)) (bR (ar aW (pv 7) ac (aq _)) (bU (ar aW (pv 4) aE (aq _))))).pt (ah (am (aG (aa (pv 5) (aa (ao De (hr.mono (by decide)) (by rfl) (aa (pv 0) (aa (pv 6) (aa (pv 3) (aa (pv 4) ae))))) ae))))) aw) hp5,fun tn H2 b2 p2=>?_⟩;have f2:=fu.t (b2.t pt);have X2:=SqT.of (K:=K) f2.dx.at_;have Y2:=SqT.of (K:=K) f2.dy.at_;refine⟨_,rfl,u.x,_,_,_,rfl,rfl,X2,rfl,rfl,_,rfl,?_⟩;rw[di];refine aB (fun h1=>?_) (fun h1=>?_)
   ·have h1:u.b=1:=bF h1
    refine⟨_,rfl,rfl,_,rfl,aB (fun c2=>?_) (fun c2=>?_)⟩
    ·refine⟨_,rfl,rfl,_,rfl,aB (fun c3=>?_) (fun c3=>?_)⟩
     ·refine⟨_,rfl,_,rfl,_,rfl,_,rfl,_,rfl,p,u.y,_,_,m,_,_,rfl,p2,by omega,⟨hm0,hm1⟩,f2.dy,fun z t b H3 d3 sh hp b3 p3=>?_⟩
      refine⟨sz (by simp),fun pp H4 s4 f4 _=>?_⟩;exact q ⟨pp,u.x,z,u.a,u.b,t,b⟩ H4 ⟨f4,(f2.dx.t' (b3.t p2)).t' s4.t,d3.t' s4.t,fun _=>.inl h1⟩ (ei h1 rfl rfl sh (fun z=>absurd (z.symm.trans (show wy=cp from bF (ds c3))) (by decide))) (b2.trans (b3.trans (But.of s4))) ((p3.same s4).mono (by omega))
     ·exact rd5 tn H2 b2 p2
    ·exact rd5 tn H2 b2 p2
   ·exact rd5 tn H2 b2 p2
  obtain⟨p4,hp4,rd4⟩:=R4;have R3:∃p3,PSs (aN CX0 P w K mg base ["pot","pair","n","m","way","x","y","turn"] "_law_next" (ag (top 121)) f cdv A outer s H E).nox ((aA (top 121)).drop 3) p3∧∀(tn:Int) (H2:Hp),But p H H2->Pot H2 p (k+1)->p3 { nx:=fun _ H'=>Q .non H',rt:=Q } [some (.ref p),some (.ref u.p),some (.int n),some (.int m),some (.str wy),some (.ref u.x),some (.ref u.y),some (.int tn)] H2:=by
   refine⟨_,af (aF (bR (ar aW (aj ak (pv 5) ac (fun _ _=>rfl)) ac (aq _)) (bU (cf (ar aW (pv 7) ac (aq _)) (ce (ar dq (aj ak (pv 6) ac (fun _ _=>rfl)) ac (aq _)))).pt)).pt (ah (am (aG (aa (pv 5) (aa (ao Dk (hr.mono (by decide)) (by rfl) (aa (pv 0) (aa (pv 6) (aa (pv 4) ae)))) ae))))) aw) hp4,fun tn H2 b2 p2=>?_⟩;have f2:=fu.t (b2.t pt);have X2:=SqT.of (K:=K) f2.dx.at_;have Y2:=SqT.of (K:=K) f2.dy.at_;refine⟨_,rfl,u.x,_,_,_,rfl,rfl,X2,rfl,rfl,_,rfl,?_⟩;rw[di];refine aB (fun h1=>?_) (fun h1=>?_)
   ·have h1:u.b=1:=bF h1
    refine⟨_,rfl,rfl,_,rfl,aB (fun c2=>?_) (fun c2=>?_)⟩
    ·refine⟨_,rfl,_,rfl,_,rfl,_,rfl,p,u.y,_,_,m,_,_,rfl,p2,by omega,⟨hm0,hm1⟩,f2.dy,fun z t b H3 d3 sh hp b3 p3=>?_⟩
     refine⟨sz (by simp),fun pp H4 s4 f4 _=>?_⟩;exact q ⟨pp,u.x,z,u.a,u.b,t,b⟩ H4 ⟨f4,(f2.dx.t' (b3.t p2)).t' s4.t,d3.t' s4.t,fun _=>.inl h1⟩ (ei h1 rfl rfl sh hp) (b2.trans (b3.trans (But.of s4))) ((p3.same s4).mono (by omega))
    ·refine⟨_,rfl,u.y,_,_,_,rfl,rfl,Y2,rfl,_,_,rfl,rfl,_,rfl,aB (fun c3=>?_) (fun c3=>?_)⟩
     ·refine⟨_,rfl,_,rfl,_,rfl,_,rfl,p,u.y,_,_,m,_,_,rfl,p2,by omega,⟨hm0,hm1⟩,f2.dy,fun z t b H3 d3 sh hp b3 p3=>?_⟩
      refine⟨sz (by simp),fun pp H4 s4 f4 _=>?_⟩;exact q ⟨pp,u.x,z,u.a,u.b,t,b⟩ H4 ⟨f4,(f2.dx.t' (b3.t p2)).t' s4.t,d3.t' s4.t,fun _=>.inl h1⟩ (ei h1 rfl rfl sh hp) (b2.trans (b3.trans (But.of s4))) ((p3.same s4).mono (by omega))
     ·exact rd4 tn H2 b2 p2
   ·exact rd4 tn H2 b2 p2
  obtain⟨p3,hp3,rd3⟩:=R3;refine⟨_,(af (cI (pv 1) (cJ rfl (aH (aI (i:=5) C5.nd rfl (Or.inl rfl)) (aH (aI (i:=6) C5.nd rfl (Or.inl rfl)) cn)))) (af (av (i:=7) C5.nd rfl (Or.inl rfl) (ao zR (hr.mono (by decide)) (by rfl) (aa (pv 0) (aa ac ae)))) (af (aF (bR (ar dU (pv 4) aE (aq _)) (bU (cf (ar aW (pv 7) ac (aq _)) (ce (bR (ar dq (aj ak (pv 5) ac (fun _ _=>rfl)) ac (aq _)) (bU (ar dq (aj ak (pv 6) ac (fun _ _=>rfl)) ac (aq _)))).pt)).pt)).pt (ah (am (aG (aa (ao Ac (hr.mono (by decide)) (by rfl) (aa (pv 5) (aa (ao Bg (hr.mono (by decide)) (by rfl) (aa (pv 0) (aa (pv 2) (aa (pv 4) ae)))) ae))) (aa (ao Cw (hr.mono (by decide)) (by rfl) (aa (pv 6) (aa (ao Bg (hr.mono (by decide)) (by rfl) (aa (pv 0) (aa (pv 3) (aa (pv 4) ae)))) ae))) ae))))) aw) hp3))),?_⟩;refine⟨_,rfl,u.p,_,rfl,SqT.of fu.e,rfl,_,_,rfl,_,_,rfl,rfl,?_⟩;refine⟨_,rfl,p,_,_,rfl,pt,by omega,⟨by decide,by decide⟩,fun tn H2 tn0 tn1 b2 p2=>?_⟩;have f2:=fu.t (b2.t pt);have X2:=SqT.of (K:=K) f2.dx.at_;have Y2:=SqT.of (K:=K) f2.dy.at_;refine⟨_,rfl,rfl,_,rfl,aB (fun c1=>?_) (fun c1=>?_)⟩
  ·have hf:¬wy=cp:=ci (ds (show decide (V.str wy=V.str (Str.ofString "free"))=false by simpa only[Bool.not_eq_true']using c1))
   refine⟨_,rfl,rfl,_,rfl,aB (fun c2=>?_) (fun c2=>?_)⟩
   ·refine⟨_,rfl,_,rfl,_,rfl,_,rfl,p,n,_,_,rfl,p2,by omega,⟨hn0,hn1⟩,fun z1 t1 b1 H3 d1 b3 p3=>?_⟩
    have f3:=f2.t (b3.t p2);refine⟨u.x,z1,u.a,u.b,t1,b1,rfl,f3.dx.at_,d1.at_,⟨ai f3.dx.bt (by decide),ai f3.dx.bb (by decide),ai d1.bt (by decide),ai d1.bb (by decide)⟩,?_⟩;obtain⟨zx,tx,bx,ez,dxx,hx⟩:∃(zx:Addr) (tx bx:Int),(if ltB t1 b1 u.a u.b=true then z1 else u.x)=zx∧Dp H3 zx tx bx n wy∧¬u.a*bx<tx*u.b:=by
     split
     ·rename_i hh
      exact⟨z1,t1,b1,rfl,d1,by have:=bF hh;omega⟩
     ·exact⟨u.x,u.a,u.b,rfl,f3.dx,by omega⟩
    dsimp only;rw[ez];refine⟨_,rfl,_,rfl,_,rfl,_,rfl,p,m,_,_,rfl,p3,by omega,⟨hm0,hm1⟩,fun z2 t2 b2' H4 d2 b4 p4=>?_⟩;have f4:=f3.t (b4.t p3);refine⟨u.y,z2,u.c,u.d,t2,b2',rfl,f4.dy.at_,d2.at_,⟨ai f4.dy.bt (by decide),ai f4.dy.bb (by decide),ai d2.bt (by decide),ai d2.bb (by decide)⟩,?_⟩;obtain⟨zy,ty,by_,ey,dyy,hy⟩:∃(zy:Addr) (ty by_:Int),(if ltB u.c u.d t2 b2'=true then z2 else u.y)=zy∧Dp H4 zy ty by_ m wy∧¬ty*u.d<u.c*by_:=by
     split
     ·rename_i hh
      exact⟨z2,t2,b2',rfl,d2,by have:=bF hh;omega⟩
     ·exact⟨u.y,u.c,u.d,rfl,f4.dy,by omega⟩
    dsimp only;rw[ey];refine⟨sz (by simp),fun pp H5 s5 f5 _=>?_⟩;exact q ⟨pp,zx,zy,tx,bx,ty,by_⟩ H5 ⟨f5,(dxx.t' (b4.t p3)).t' s5.t,dyy.t' s5.t,fun z=>absurd z hf⟩ (fU hf hx hy fun z=>⟨fu.dx.hop z,fu.dy.hop z,dxx.hop z,dyy.hop z⟩) (b2.trans (b3.trans (b4.trans (But.of s5)))) ((p4.same s5).mono (by omega))
   refine⟨_,rfl,u.x,_,_,_,rfl,rfl,X2,rfl,_,_,rfl,rfl,_,rfl,aB (fun c3=>?_) (fun c3=>?_)⟩
   ·refine⟨_,rfl,u.y,_,_,_,rfl,rfl,Y2,rfl,_,_,rfl,rfl,_,rfl,aB (fun c4=>?_) (fun c4=>?_)⟩
    ·refine⟨_,rfl,_,rfl,_,rfl,_,rfl,p,n,_,_,rfl,p2,by omega,⟨hn0,hn1⟩,fun z1 t1 b1 H3 d1 b3 p3=>?_⟩
     have f3:=f2.t (b3.t p2);refine⟨u.x,z1,u.a,u.b,t1,b1,rfl,f3.dx.at_,d1.at_,⟨ai f3.dx.bt (by decide),ai f3.dx.bb (by decide),ai d1.bt (by decide),ai d1.bb (by decide)⟩,?_⟩;obtain⟨zx,tx,bx,ez,dxx,hx⟩:∃(zx:Addr) (tx bx:Int),(if ltB t1 b1 u.a u.b=true then z1 else u.x)=zx∧Dp H3 zx tx bx n wy∧¬u.a*bx<tx*u.b:=by
      split
      ·rename_i hh
       exact⟨z1,t1,b1,rfl,d1,by have:=bF hh;omega⟩
      ·exact⟨u.x,u.a,u.b,rfl,f3.dx,by omega⟩
     dsimp only;rw[ez];refine⟨_,rfl,_,rfl,_,rfl,_,rfl,p,m,_,_,rfl,p3,by omega,⟨hm0,hm1⟩,fun z2 t2 b2' H4 d2 b4 p4=>?_⟩;have f4:=f3.t (b4.t p3);refine⟨u.y,z2,u.c,u.d,t2,b2',rfl,f4.dy.at_,d2.at_,⟨ai f4.dy.bt (by decide),ai f4.dy.bb (by decide),ai d2.bt (by decide),ai d2.bb (by decide)⟩,?_⟩;obtain⟨zy,ty,by_,ey,dyy,hy⟩:∃(zy:Addr) (ty by_:Int),(if ltB u.c u.d t2 b2'=true then z2 else u.y)=zy∧Dp H4 zy ty by_ m wy∧¬ty*u.d<u.c*by_:=by
      split
      ·rename_i hh
       exact⟨z2,t2,b2',rfl,d2,by have:=bF hh;omega⟩
      ·exact⟨u.y,u.c,u.d,rfl,f4.dy,by omega⟩
     dsimp only;rw[ey];refine⟨sz (by simp),fun pp H5 s5 f5 _=>?_⟩;exact q ⟨pp,zx,zy,tx,bx,ty,by_⟩ H5 ⟨f5,(dxx.t' (b4.t p3)).t' s5.t,dyy.t' s5.t,fun z=>absurd z hf⟩ (fU hf hx hy fun z=>⟨fu.dx.hop z,fu.dy.hop z,dxx.hop z,dyy.hop z⟩) (b2.trans (b3.trans (b4.trans (But.of s5)))) ((p4.same s5).mono (by omega))
    ·exact rd3 tn H2 b2 p2
   ·exact rd3 tn H2 b2 p2
  ·exact rd3 tn H2 b2 p2
def ME(t:TE):Prop:=∀σ H Q Q',(∀v H1,Q v H1->Q' v H1)->t σ H Q->t σ H Q'
def MT(t:TT):Prop:=∀σ H Q Q',(∀b H1,Q b H1->Q' b H1)->t σ H Q->t σ H Q'
def MR(r:R2):Prop:=∀x y H Q Q',(∀v H1,Q v H1->Q' v H1)->r x y H Q->r x y H Q'
theorem xW{i:Nat}:ME (CK i):=fun σ H Q Q' hq ⟨v,e,h⟩=>⟨v,e,hq _ _ h⟩
theorem yT{v:V}:ME (tC v):=fun σ H Q Q' hq h=>hq _ _ h
theorem xc{r:R2}{a b:TE}(hr:MR r)(ha:ME a)(hb:ME b):ME (tOp r a b):=fun σ H Q Q' hq h=>ha σ H _ _ (fun x H1 h1=>hb σ H1 _ _ (fun y H2 h2=>hr x y H2 Q Q' hq h2) h1) h
theorem v4{t:TE}(h:ME t):MT (tQ t):=fun σ H Q Q' hq k=>h σ H _ _ (fun x H1 ⟨b,e,f⟩=>⟨b,e,hq _ _ f⟩) k
theorem Dp.pr{H:Hp}{pp zx zy:Addr}{t b c d n m:Int}{w:Str}(e:H pp=some (.tup [.ref zx,.ref zy]))(dx:Dp H zx t b n w)(dy:Dp H zy c d m w):PrAt H ⟨pp,zx,zy,t,b,c,d⟩∧inB n m ⟨pp,zx,zy,t,b,c,d⟩=true∧(w=aQ->b=1∧d=1):=by
 refine⟨⟨e,dx.at_,dy.at_,dx.low,dy.low,dx.n0,dy.n0,ai dx.bt (by decide),ai dx.bb (by decide),ai dy.bt (by decide),ai dy.bb (by decide)⟩,?_,fun z=>⟨dx.hop z,dy.hop z⟩⟩;unfold inB;rw[decide_eq_true dx.n1,decide_eq_true dy.n1];rfl
theorem yS{f:Int->Int->V}:MR (Ip f):=fun x y H Q Q' hq ⟨i,j,e1,e2,k⟩=>⟨i,j,e1,e2,hq _ _ k⟩
theorem xS{K:W.Frag}:MR (IA K):=fun x y H Q Q' hq ⟨p,xs,i,v,e1,e2,h,a,k⟩=>⟨p,xs,i,v,e1,e2,h,a,hq _ _ k⟩
structure FI(H:Hp)(n m:Int)(wy:Str)(ps:List Pr)(q:Pr):Prop where
 all:∀r∈ps++[q],Fp H r n m wy
 st:aY wy (ps++[q])=true
theorem fY{w:Str}{v:Pr}{ys:List Pr}:∀xs:List Pr,aY w (xs++[v])=true->aY w (v::ys)=true->aY w (xs++v::ys)=true
 | [],_,h=>h
 | [a],h,g=>by
  have h':(cR w a v && aY w [v])=true:=h;rw[Bool.and_eq_true]at h';show(cR w a v && aY w (v::ys))=true;rw[h'.1,g];rfl
 | a::b::r,h,g=>by
  have h':(cR w a b && aY w (b::r++[v]))=true:=h;rw[Bool.and_eq_true]at h';show(cR w a b && aY w (b::r++v::ys))=true;rw[h'.1,fY (b::r) h'.2 g];rfl
theorem FI.last{H:Hp}{n m:Int}{wy:Str}{ps:List Pr}{q:Pr}(F:FI H n m wy ps q):Fp H q n m wy:=F.all q (by simp)
theorem FI.t{H H':Hp}{n m:Int}{wy:Str}{ps:List Pr}{q:Pr}(F:FI H n m wy ps q)(s:SameT H H'):FI H' n m wy ps q:=⟨fun r hr=>(F.all r hr).t s,F.st⟩
theorem FI.step{H H':Hp}{n m:Int}{wy:Str}{ps:List Pr}{q r:Pr}(F:FI H n m wy ps q)(s:SameT H H')(fr:Fp H' r n m wy)(h:cR wy q r=true):FI H' n m wy (ps++[q]) r:=by
 refine⟨fun z hz=>?_,?_⟩
 ·rcases List.mem_append.mp hz with hz|hz
  ·exact(F.all z hz).t s
  ·rw[List.mem_singleton.mp hz]
   exact fr
 ·rw[List.append_assoc]
  refine fY ps F.st ?_;show(cR wy q r && aY wy [r])=true;rw[h];rfl
theorem FI.pairs{H:Hp}{l:Addr}{n m:Int}{wy:Str}{ps:List Pr}{q:Pr}(F:FI H n m wy ps q)(e:H l=some (.lst (prs (ps++[q])))):zU H l (ps++[q]):=⟨e,fun r hr=>(Dp.pr (F.all r hr).e (F.all r hr).dx (F.all r hr).dy).1⟩
theorem FI.join{H:Hp}{n m:Int}{wy:Str}{ps qs xs:List Pr}{q v:Pr}(F:FI H n m wy ps q)(G:FI H n m wy qs v)(e:q::xs=qs++[v]):FI H n m wy (ps++qs) v:=by
 have h:=F.st;have g:=G.st;rw[<- e]at g;refine⟨fun z hz=>?_,?_⟩
 ·rw[List.append_assoc]at hz
  rcases List.mem_append.mp hz with hz|hz
  ·exact F.all z (by simp[hz])
  ·exact G.all z hz
 ·rw[List.append_assoc,<- e]
  exact fY ps h g
theorem Fp.self{H:Hp}{n m:Int}{wy:Str}{q:Pr}(f:Fp H q n m wy):cR wy q q=true:=by
 have ub:(0:Int)<q.b:=f.dx.low.pos;have ud:(0:Int)<q.d:=f.dy.low.pos;have sX:bD q.a q.b q.a q.b=true:=cA (k:=q.a / q.b) ub ub (dC ub) (by have:=d7 (a:=q.a) ub;omega) (dC ub) (by have:=d7 (a:=q.a) ub;omega);have sY:bD q.c q.d q.c q.d=true:=cA (k:=q.c / q.d) ud ud (dC ud) (by have:=d7 (a:=q.c) ud;omega) (dC ud) (by have:=d7 (a:=q.c) ud;omega)
 by_cases hf:wy=cp
 ·have nh:¬wy=aQ:=fun z=>absurd (z.symm.trans hf) (by decide)
  rcases f.fr hf with h1|h1
  ·exact ei h1 rfl rfl sY (fun z=>absurd z nh)
  ·exact fh h1 rfl rfl sX (fun z=>absurd z nh)
 ·exact fU hf (by omega) (by omega) fun z=>⟨f.dx.hop z,f.dy.hop z,f.dx.hop z,f.dy.hop z⟩
structure IQ(n m:Int)(w:Str)(ps:List Pr):Prop where
 fence:bQ n m w ps=true
 self:∀q∈ps,cR w q q=true
theorem l8{n m:Int}{w:Str}{L:List Pr}:bQ n m w L=true↔∃f l,L.head? = some f∧L.getLast? = some l∧L.all (inB n m)=true∧(if w=aQ then L.all aZ else true)=true∧gb n m w f l=true∧aY w L=true:=by
 cases L with
 | nil=>simp[bQ]
 | cons f r =>
  rw[cg,Bool.and_eq_true,Bool.and_eq_true,Bool.and_eq_true];constructor
  ·rintro⟨h1,h2,h3,h4⟩
   exact⟨f,_,rfl,List.getLast?_eq_some_getLast (by simp),h1,h2,h3,h4⟩
  ·rintro⟨f',l,e1,e2,h1,h2,h3,h4⟩
   cases e1;rw[List.getLast?_eq_some_getLast (by simp)]at e2;cases e2;exact⟨h1,h2,h3,h4⟩
theorem FI.good{H:Hp}{n m:Int}{wy:Str}{qs:List Pr}{v:Pr}(F:FI H n m wy qs v)(h1:∀f,(qs++[v]).head? = some f->e1B m wy f=true)(h2:e2B n wy v=true):IQ n m wy (qs++[v]):=by
 refine⟨l8.mpr ?_,fun q hq=>(F.all q hq).self⟩;have hi:(qs++[v]).all (inB n m)=true:=List.all_eq_true.mpr fun q hq=>(Dp.pr (F.all q hq).e (F.all q hq).dx (F.all q hq).dy).2.1;have hw:(if wy=aQ then (qs++[v]).all aZ else true)=true:=by
  by_cases z:wy=aQ
  ·rw[if_pos z]
   refine List.all_eq_true.mpr fun q hq=>?_;unfold aZ;rw[(F.all q hq).dx.hop z,(F.all q hq).dy.hop z];rfl
  ·rw[if_neg z]
 cases ef:(qs++[v]).head? with
 | none=>simp at ef
 | some f =>
  refine⟨f,v,rfl,by simp,hi,hw,?_,F.st⟩;rw[o7,h1 f ef,h2];rfl
theorem mM{ps:List Pr}{q:Pr}(h:ps++[q]≠[]):(ps++[q]).getLast h=q:=by simp
theorem nO(qs:List Pr)(v:Pr):atI (prs (qs++[v])) (-1)=some (.ref v.p):=by
 cases qs with
 | nil=>exact iL v []
 | cons f r =>
  have h:=iL f (r++[v]);have e:(f::(r++[v])).getLast (List.cons_ne_nil _ _)=v:=mM (ps:=f::r) _;rw[e]at h;exact h
def muD(H:Hp)(z:V):Nat:=match z with
 | .ref p=>match H p with
  | some (.tup [.int t,.int b])=>((t - 1) / b+1).toNat
  | _=>0
 | _=>0
theorem ur{H:Hp}{z:Addr}{t b:Int}(e:H z=some (.tup [.int t,.int b])):muD H (.ref z)=((t - 1) / b+1).toNat:=by simp only[muD,e]
inductive Ft (vs:List V) (H:Hp) (Q:VK) (x_3:XK):Prop
 | mk:∀(u:Pr) (n m:Int) (wy:Str),(vs = [.ref u.p,.int n,.str wy])->((0≤n∧n≤50))->((0≤m∧m≤20))->(Fp H u n m wy)->(∀(l:Addr) (qs ps:List Pr) (v:Pr) (H':Hp),u::ps=qs++[v]->H' l=some (.lst (prs ps))->FI H' n m wy qs v->v.c=0∧v.d=1->ps.length≤30->H l=none->Same H H'->Q (.ref l) H')->Ft vs H Q x_3
inductive FF (vs:List V) (H:Hp) (Q:VK) (x_3:XK):Prop
 | mk:∀(p:Addr) (n m k:Int) (w:Str),(vs = [.ref p,.int n,.int m,.str w])->(Pot H p k)->(k≤400000)->((0≤n∧n≤20))->((0≤m∧m≤20))->(∀(l:Addr) (ps:List Pr) (H':Hp),zU H' l ps->IQ n m w ps->ps.length≤60->H l=none->But p H H'->Pot H' p (k+500)->Q (.ref l) H')->FF vs H Q x_3
theorem Be:zQ ["pair","n","way","x","y","more"] ["pair","n","way"] (ag (top 122)):=smk
theorem m7(D1:Df K mg "_law_ended" (top 122))(T:Txt mg):Fn P w K mg base "_law_ended" ["pair","n","way"] 2 Ft:=by
 refine D1.fn Be (fun _ _ _ _ _ _ us hl=>by obtain⟨_,_,_,rfl⟩:=fI hl;rfl) (fun vs H Q E h=>?_) (fun f cdv A outer s H vs Q E hr h=>?_)
 ·obtain⟨u,n,m,wy,rfl,_⟩:=h
  rfl
 ·obtain⟨u,n,m,wy,rfl,⟨hn0,hn1⟩,⟨hm0,hm1⟩,fu,q⟩:=h
  have R:∃u',PSs (aN CX0 P w K mg base ["pair","n","way","x","y","more"] "_law_ended" (ag (top 122)) f cdv A outer s H E).nox ((aA (top 122)).drop 3) u'∧∀(H3:Hp) (l:Addr) (v:Pr) (qs ps:List Pr),Same H H3->H l=none->H3 l=some (.lst (prs ps))->FI H3 n m wy qs v->u::ps=qs++[v]->v.b=1->ps.length≤1->u' { nx:=fun _ H'=>Q .non H',rt:=Q } [some (.ref u.p),some (.int n),some (.str wy),some (.ref v.x),some (.ref v.y),some (.ref l)] H3:=by
   refine⟨_,(af (jQ PassesOwn.never (ar dq (aj ak (pv 4) ac (fun _ _=>rfl)) ac (aq _)) (af (av (i:=4) Be.nd rfl (Or.inl rfl) (aG (aa (ap cv (ap bE (aj ak (pv 4) ac (fun _ _=>rfl)) ac) (aj ak (pv 4) ac (fun _ _=>rfl))) (aa ac ae)))) (ah (eS (fg F.plainAttrs_list F.slot_list_append F.type_list_append eK (pv 5) (aa (aG (aa (pv 3) (aa (pv 4) ae))) ae)))))) (ah (am (pv 5)))),fun H3 l v qs ps s3 nl el fi hu hb hl=>?_⟩;have cap:∀{H4:Hp} {v:Pr},Fp H4 v n m wy->(v.c - 1) / v.d+1≤m∧(0<v.c->0≤(v.c - 1) / v.d):=fun {H4 v} f=>by
    have hd:(0:Int)<v.d:=f.dy.low.pos;have h1:=f.dy.n1;have h2:(v.c - 1) / v.d<m:=Int.ediv_lt_of_lt_mul hd (by omega);exact⟨by omega,fun h=>Int.ediv_nonneg (by omega) (by omega)⟩
   refine jO (fun σ H4=>∃(v:Pr) (qs ps:List Pr),σ = [some (.ref u.p),some (.int n),some (.str wy),some (.ref v.x),some (.ref v.y),some (.ref l)]∧Same H H4∧H4 l=some (.lst (prs ps))∧FI H4 n m wy qs v∧u::ps=qs++[v]∧v.b=1∧(ps.length:Int)+((v.c - 1) / v.d+1)≤21)
    (fun σ H4=>match σ with | [_,_,_,_,some z,_]=>muD H4 z|_=>0)
    ⟨v,qs,ps,rfl,s3,el,fi,hu,hb,by have:=(cap fi.last).1;omega⟩ ?_ ?_
   ·rintro σ H4 ⟨v,qs,ps,rfl,s4,el,fi,hu,hb,hl⟩
    have fv:=fi.last;have hd:(0:Int)<v.d:=fv.dy.low.pos;have Y:=SqT.of (K:=K) fv.dy.at_;refine⟨_,rfl,v.y,_,_,_,rfl,rfl,Y,rfl,_,_,rfl,rfl,_,rfl,aB (fun c1=>?_) (fun c1=>?_)⟩
    ·have c1:0<v.c:=bF c1
     have k0:=(cap fv).2 c1;have k1:=(cap fv).1;have j1:=dC (a:=v.c - 1) hd;have j2:=d7 (a:=v.c - 1) hd;refine⟨_,rfl,v.y,_,_,_,rfl,rfl,Y,rfl,_,_,rfl,rfl,_,rfl,v.y,_,_,_,rfl,rfl,Y,rfl,_,_,rfl,rfl,⟨hd,ai fv.dy.bb (by decide)⟩,sz (by simp),fun zy H5 s5 f5 n5=>?_⟩;refine⟨_,rfl,.inl ⟨rfl,_,SqL.of (s5 _ _ el)⟩,_,rfl,_,rfl,sz (by simp),fun pp H6 s6 f6 n6=>?_⟩;refine⟨l,_,_,rfl,rfl,s6 _ _ (s5 _ _ el),cG (by rw[aV];omega),fun H7 u7=>?_⟩;have f5:H5 zy=some (.tup [.int ((v.c - 1) / v.d),.int 1]):=f5;generalize ek:(v.c - 1) / v.d=kk at *;have s46:SameT H4 H7:=fun a xs e=>u7.t _ _ (s6 _ _ (s5 _ _ e));have dy7:Dp H7 zy kk 1 m wy:=⟨u7.t _ _ (s6 _ _ f5),⟨by decide,Int.gcd_one⟩,k0,by omega,ai (bV (by omega) (by omega)) (by decide),by decide,fun _=>rfl⟩;have f7:Fp H7 ⟨pp,v.x,zy,v.a,v.b,kk,1⟩ n m wy:=⟨u7.t _ _ f6,fv.dx.t' s46,dy7,fun _=>.inl hb⟩;have j3:v.c≤(kk+1)*v.d:=by omega
     have sh:bD v.c v.d kk 1=true:=cA (k:=kk) hd (by decide) (by omega) j3 (by omega) (by omega);have hm:cR wy v ⟨pp,v.x,zy,v.a,v.b,kk,1⟩=true:=ei hb rfl rfl sh (fun z=>by
      have e:=fv.dy.hop z;rw[e,Int.ediv_one]at ek;show v.c - kk≤1;omega)
     refine⟨⟨⟨pp,v.x,zy,v.a,v.b,kk,1⟩,qs++[v],ps++[⟨pp,v.x,zy,v.a,v.b,kk,1⟩],rfl,u7.same (s4.trans (s5.trans s6)) nl,by rw[u7.now];unfold prs;rw[List.map_append];rfl,fi.step s46 f7 hm,?_,hb,?_⟩,?_⟩
     ·rw[<- hu];rfl
     ·rw[List.length_append]
      simp only[List.length_cons,List.length_nil];show((ps.length+1:Nat):Int)+((kk - 1) / 1+1)≤21;rw[Int.ediv_one];omega
     ·show muD H7 (.ref zy)<muD H4 (.ref v.y)
      rw[ur f7.dy.at_,ur fv.dy.at_,ek];show((kk - 1) / 1+1).toNat<_;rw[Int.ediv_one];omega
    ·have c1:¬0<v.c:=ci c1
     have c0:v.c=0:=by have:=fv.dy.n0;omega
     have d1:v.d=1:=by
      have h:=fv.dy.low.one;rw[c0,Int.gcd_zero_left]at h;omega
     exact⟨_,rfl,q l qs ps v H4 hu el fi ⟨c0,d1⟩ (by have:=(cap fv).1;rw[c0,d1]at hl;omega) nl s4⟩
   ·exact v4 (xc yS (xc xS xW yT) yT)
  obtain⟨u',hu',fin⟩:=R;refine⟨_,(af (cI (pv 0) (cJ rfl (aH (aI (i:=3) Be.nd rfl (Or.inl rfl)) (aH (aI (i:=4) Be.nd rfl (Or.inl rfl)) cn)))) (af (av (i:=5) Be.nd rfl (Or.inl rfl) (cu ae)) (af (aF (ar dq (aj ak (pv 3) ac (fun _ _=>rfl)) ac (aq _)) (@af _ _ _ _ _ (@av _ _ 3 _ _ _ _ Be.nd rfl (Or.inl rfl) (@aj _ _ _ _ _ _ _ aC (@cu _ _ _ _ (@aa _ _ _ _ _ (@aG _ _ _ _ _ (@aa _ _ _ _ _ (ap cv (aj ak (pv 3) ac (fun _ _=>rfl)) (aj ak (pv 3) ac (fun _ _=>rfl))) (@aa _ _ _ _ _ ac ae (by rfl)) (by rfl))) (@aa _ _ _ _ _ (@aG _ _ _ _ _ (@aa _ _ _ _ _ (ap bz (ap cv (aj ak (pv 3) ac (fun _ _=>rfl)) (aj ak (pv 3) ac (fun _ _=>rfl))) ac) (@aa _ _ _ _ _ ac ae (by rfl)) (by rfl))) ae (by rfl)) (by rfl))) (cB tm (by rfl) T.z_int nI (aa (aT aW (pv 2) aE (aq _)) ae)) (fun _ _=>rfl)) (by rfl) (by first|exact .inl rfl|exact .inr rfl|assumption)) (ah (eS (fg F.plainAttrs_list F.slot_list_append F.type_list_append eK (pv 5) (aa (aG (aa (pv 3) (aa (pv 4) ae))) ae))))) aw) hu'))),?_⟩
  have ub:(0:Int)<u.b:=fu.dx.low.pos;have ud:(0:Int)<u.d:=fu.dy.low.pos;refine⟨_,rfl,u.p,_,rfl,SqT.of fu.e,rfl,_,_,rfl,_,_,rfl,rfl,?_⟩;refine⟨sz (by simp),fun l H1 s1 f1 n1=>?_⟩;have fu1:=fu.t s1.t;have X1:=SqT.of (K:=K) fu1.dx.at_;refine⟨_,rfl,u.x,_,_,_,rfl,rfl,X1,rfl,_,_,rfl,rfl,_,rfl,aB (fun c1=>?_) (fun c1=>?_)⟩
  ·have c1:1<u.b:=bF c1
   have nb:u.b≠1:=by omega
   have nh:¬wy=aQ:=fun z=>nb (fu.dx.hop z);have bb:au u.b≤8000:=ai fu.dx.bb (by decide);have j1:=dC (a:=u.a) ub;have j2:=d7 (a:=u.a) ub;have k0:=lV ub fu.dx.n0;have k1:=rJ ub fu.dx.n1;have k2:u.a / u.b<n:=by
    by_cases c:u.a / u.b=n
    ·exact absurd (rL fu.dx.low fu.dx.n1 c).2 nb
    ·omega
   have go:∀(H5:Hp) (z:Addr) (t:Int),Same H1 H5->H5 z=some (.tup [.int t,.int 1])->0≤t->t≤n->(∀pp,cR wy u ⟨pp,z,u.y,t,1,u.c,u.d⟩=true)->(xp (wX (tBM K "list" FH (CK 5) (dB (tP (dB (CK 3) (dB (CK 4) mj))) mj))) u') { nx:=fun _ H'=>Q .non H',rt:=Q } [some (.ref u.p),some (.int n),some (.str wy),some (.ref z),some (.ref u.y),some (.ref l)] H5:=by
    intro H5 z t s5 e5 t0 t1 hm;refine⟨_,rfl,.inl ⟨rfl,_,SqL.of (s5 _ _ f1)⟩,_,rfl,_,rfl,sz (by simp),fun pp H6 s6 f6 n6=>?_⟩;refine⟨l,_,_,rfl,rfl,s6 _ _ (s5 _ _ f1),cG (by simp),fun H7 u7=>?_⟩;have s17:SameT H1 H7:=fun a xs e=>u7.t _ _ (s6 _ _ (s5 _ _ e));have fu7:=fu1.t s17;have dx7:Dp H7 z t 1 n wy:=⟨u7.t _ _ (s6 _ _ e5),⟨by decide,Int.gcd_one⟩,t0,by omega,ai (bV (by omega) (by omega)) (by decide),by decide,fun _=>rfl⟩;have f7:Fp H7 ⟨pp,z,u.y,t,1,u.c,u.d⟩ n m wy:=⟨u7.t _ _ f6,dx7,fu7.dy,fun _=>.inl rfl⟩;have fi:FI H7 n m wy [] u:=⟨fun r hr=>by rw[List.mem_singleton.mp hr];exact fu7,rfl⟩;exact fin H7 l ⟨pp,z,u.y,t,1,u.c,u.d⟩ [u] [⟨pp,z,u.y,t,1,u.c,u.d⟩] (u7.same (s1.trans (s5.trans s6)) n1) n1 (by rw[u7.now];rfl) (fi.step (fun _ _ e=>e) f7 (hm pp)) rfl rfl (by simp)
   refine⟨_,rfl,u.x,_,_,_,rfl,rfl,X1,rfl,_,rfl,u.x,_,_,_,rfl,rfl,X1,rfl,_,_,rfl,rfl,⟨ub,bb⟩,sz (by simp),fun t1 H2 s2 f2 n2=>?_⟩;have X2:=SqT.of (K:=K) (s2 _ _ fu1.dx.at_);refine⟨_,rfl,u.x,_,_,_,rfl,rfl,X2,rfl,_,rfl,u.x,_,_,_,rfl,rfl,X2,rfl,_,_,rfl,rfl,⟨ub,bb⟩,_,_,rfl,rfl,sz (by simp),fun t2 H3 s3 f3 n3=>?_⟩;refine⟨sz (by simp),fun lm H4 s4 f4 n4=>?_⟩;refine⟨_,rfl,rfl,.inr ⟨_,rfl,?_⟩⟩;have S4:Same H1 H4:=s2.trans (s3.trans s4)
   by_cases hf:wy=cp
   ·have ed:decide (V.str wy=V.str (Str.ofString "free"))=true:=decide_eq_true (by rw[hf];rfl)
    rw[ed];refine⟨lm,_,_,_,rfl,rfl,SqL.of f4,rfl,?_⟩;have hd:u.d=1:=by
     rcases fu.fr hf with h|h
     ·exact absurd h nb
     ·exact h
    have sh:bD u.a u.b (u.a / u.b+1) 1=true:=cA (k:=u.a / u.b) ub (by decide) j1 (by omega) (by omega) (by omega);exact go H4 t2 (u.a / u.b+1) S4 (s4 _ _ f3) (by omega) (by omega) fun pp=>fh hd rfl rfl sh fun z=>absurd z nh
   ·have ed:decide (V.str wy=V.str (Str.ofString "free"))=false:=decide_eq_false (fun z=>hf (by cases z;rfl))
    rw[ed];refine⟨lm,_,_,_,rfl,rfl,SqL.of f4,rfl,?_⟩;exact go H4 t1 (u.a / u.b) S4 (s4 _ _ (s3 _ _ f2)) (by omega) (by omega) fun pp=>fU hf (by show ¬u.a*1<u.a / u.b*u.b;omega) (by show ¬u.c*u.d<u.c*u.d;omega) fun z=>absurd z nh
  ·have hb1:u.b=1:=by have:=ci c1;omega
   exact fin H1 l u [] [] s1 n1 f1 ⟨fun r hr=>by rw[List.mem_singleton.mp hr];exact fu1,rfl⟩ rfl hb1 (by simp)
theorem Af:zQ ["pot","n","m","way","pair","fence","turn"] ["pot","n","m","way"] (ag (top 123)):=smk
theorem hX(Bu:Df K mg "_law_drawn_fence" (top 123))(zR:Fn P w K mg base "_law_take" ["pot","size"] 1 Dr.spTk)(Bg:Fn P w K mg base "_law_any" ["pot","last","way"] 4 Hx)(Em:Fn P w K mg base "_law_next" ["pot","pair","n","m","way"] 5 GU)(DM:Fn P w K mg base "_law_ended" ["pair","n","way"] 2 Ft)(T:Txt mg):Fn P w K mg base "_law_drawn_fence" ["pot","n","m","way"] 6 FF:=by
 refine Bu.fn Af (fun _ _ _ _ _ _ us hl=>by obtain⟨_,_,_,_,rfl⟩:=ir hl;rfl) (fun vs H Q E h=>?_) (fun f cdv A outer s H vs Q E hr h=>?_)
 ·obtain⟨p,n,m,k,wy,rfl,_⟩:=h
  rfl
 ·obtain⟨p,n,m,k,wy,rfl,pt,hk,⟨hn0,hn1⟩,⟨hm0,hm1⟩,q⟩:=h
  have R:∃u',PSs (aN CX0 P w K mg base ["pot","n","m","way","pair","fence","turn"] "_law_drawn_fence" (ag (top 123)) f cdv A outer s H E).nox ((aA (top 123)).drop 2) u'∧∀(v:Pr) (H1:Hp),Fp H1 v n m wy->e1B m wy v=true->But p H H1->Pot H1 p (k+45)->u' { nx:=fun _ H'=>Q .non H',rt:=Q } [some (.ref p),some (.int n),some (.int m),some (.str wy),some (.ref v.p),none,none] H1:=by
   refine⟨_,(af (av (i:=5) Af.nd rfl (Or.inl rfl) (cu (aa (pv 4) ae))) (af (eV PassesOwn.never rfl (iS rfl T.z_range (aa (ao zR (hr.mono (by decide)) (by rfl) (aa (pv 0) (aa ac ae))) ae)) (aI (i:=6) Af.nd rfl (Or.inl rfl)) (ah (eS (fg F.plainAttrs_list F.slot_list_append F.type_list_append eK (pv 5) (aa (ao Em (hr.mono (by decide)) (by rfl) (aa (pv 0) (aa (aj aC (pv 5) (jh fP ac) (fun _ _=>rfl)) (aa (pv 1) (aa (pv 2) (aa (pv 3) ae)))))) ae))))) (af (aF (cf (ar aW (pv 3) aE (aq _)) (ce (ar (iU hr.units0) (aj ak (aj aC (pv 5) (jh fP ac) (fun _ _=>rfl)) ac (fun _ _=>rfl)) (aG (aa (pv 1) (aa ac ae))) (aq _)))).pt (ah (av (i:=5) Af.nd rfl (Or.inl rfl) (ap jB (pv 5) (ao DM (hr.mono (by decide)) (by rfl) (aa (aj aC (pv 5) (jh fP ac) (fun _ _=>rfl)) (aa (pv 1) (aa (pv 3) ae))))))) aw) (ah (am (pv 5)))))),fun v H1 f1 hv b1 p1=>?_⟩;refine⟨_,rfl,sz (by simp),fun l H3 s3 f3 n3=>?_⟩;have p3:=p1.same s3;have npl:=Pot.ne p1 n3;have nl:H l=none:=b1.none npl n3;have b3:But p H H3:=b1.trans (But.of s3);refine⟨_,rfl,p,_,_,rfl,p3,by omega,⟨by decide,by decide⟩,fun r4 H4 a4 b4' b4 p4=>?_⟩;refine⟨_,rfl,by omega,by omega,?_⟩;refine iX (n:=r4.toNat) (lo:=0) (fun i σ H5=>∃(qs:List Pr) (w:Pr) (z7:Option V),σ = [some (.ref p),some (.int n),some (.int m),some (.str wy),some (.ref v.p),some (.ref l),z7]∧H5 l=some (.lst (prs (qs++[w])))∧FI H5 n m wy qs w∧(∀f,(qs++[w]).head? = some f->e1B m wy f=true)∧qs.length=i∧But p H H5∧Pot H5 p (k+50+50*(i:Int)))
    ⟨[],v,_,rfl,b4 _ _ npl f3,⟨fun r hr=>by rw[List.mem_singleton.mp hr];exact(f1.t s3.t).t (b4.t p3),rfl⟩,fun f hf=>by cases hf;exact hv,rfl,b3.trans b4,p4.mono (by omega)⟩ ?_ ?_
   ·rintro i σ H5 hi ⟨qs,w,z7,rfl,e5,F5,hd5,hl,b5,p5⟩
    refine⟨_,rfl,.inl ⟨rfl,_,SqL.of e5⟩,_,rfl,_,rfl,_,rfl,l,_,_,_,rfl,rfl,SqL.of e5,nO qs w,_,rfl,_,rfl,_,rfl,p,w,n,m,_,wy,rfl,p5,by omega,⟨hn0,by omega⟩,⟨hm0,by omega⟩,F5.last,fun r H6 f6 h6 b6 p6=>?_⟩;have e6:=b6 _ _ npl e5;refine⟨l,_,_,rfl,rfl,e6,cG (by rw[aV,List.length_append];simp only[List.length_cons,List.length_nil];omega),fun H7 u7=>?_⟩;refine⟨qs++[w],r,_,rfl,by rw[u7.now];unfold prs;rw[List.map_append (l₁:=qs++[w])];rfl,(F5.t (b6.t p5)).step u7.t (f6.t u7.t) h6,fun f hf=>hd5 f ?_,by simp[hl],fun b o nb e=>?_,?_⟩
    ·cases qs with
     | nil=>exact hf
     | cons a b=>exact hf
    ·exact u7.at (fun z=>by subst z;rw[nl]at e;cases e) (b6 b o nb (b5 b o nb e))
    ·obtain⟨x,y,z,ep,rest⟩:=p6.mono (k':=k+50+50*((i+1:Nat):Int)) (by omega)
     exact⟨x,y,z,u7.at (Ne.symm npl) ep,rest⟩
   ·rintro σ H5 ⟨qs,w,z7,rfl,e5,F5,hd5,hl,b5,p5⟩
    have hq8:qs.length≤7:=by omega
    have more:∀(H6:Hp),Same H5 H6->(xp (pO (tOp Iq (CK 5) (gR Ft [] E0 (dB (tOp (Im K) (CK 5) (tUn (rU fun i=>V.int (-i)) (tC (V.int 1)))) (dB (CK 1) (dB (CK 3) mj))))) (iz 5)) (vF (CK 5))) { nx:=fun _ H'=>Q .non H',rt:=Q } [some (.ref p),some (.int n),some (.int m),some (.str wy),some (.ref v.p),some (.ref l),z7] H6:=by
     intro H6 s6;refine⟨_,rfl,_,rfl,_,rfl,l,_,_,_,rfl,rfl,SqL.of (s6 _ _ e5),nO qs w,_,rfl,_,rfl,w,n,m,wy,rfl,⟨hn0,by omega⟩,⟨hm0,hm1⟩,F5.last.t s6.t,fun l2 qs2 ps2 v2 H7 e7 el7 F7 hz hl7 n7 s7=>?_⟩;refine⟨l,l2,_,_,rfl,rfl,s7 _ _ (s6 _ _ e5),el7,sz (by rw[aV,aV,List.length_append];simp only[List.length_cons,List.length_nil];omega),fun l3 H8 s8 f8 n8=>?_⟩;have F8:=FI.join (F5.t (s6.trans (s7.trans s8)).t) (F7.t s8.t) e7;have ef:prs (qs++[w])++prs ps2=prs (qs++qs2++[v2]):=by
      rw[List.append_assoc,<- e7];unfold prs;simp
     have B7:But p H H7:=b5.trans (But.of (s6.trans s7));have p7:=p5.same (s6.trans s7);refine⟨_,rfl,q l3 _ H8 (F8.pairs (by rw[<- ef];exact f8)) (F8.good (fun f hf=>hd5 f ?_) ?_) ?_ (B7.none (Pot.ne p7 n8) n8) (B7.trans (But.of s8)) ((p7.same s8).mono (by omega))⟩
     ·rw[List.append_assoc,<- e7]at hf
      cases qs with
      | nil=>exact hf
      | cons a b=>exact hf
     ·unfold e2B isP
      rw[hz.1,hz.2];simp
     ·have:=congrArg List.length e7
      simp only[List.length_cons,List.length_append,List.length_nil]at this ⊢;omega
    refine⟨_,rfl,rfl,_,rfl,aB (fun c1=>?_) (fun c1=>?_)⟩
    ·exact more H5 (Same.refl _)
    refine⟨_,rfl,_,rfl,l,_,_,_,rfl,rfl,SqL.of e5,nO qs w,w.p,_,_,_,rfl,rfl,SqT.of F5.last.e,rfl,_,rfl,sz (by simp),fun t2 H6 s6 f6 _=>?_⟩;refine⟨w.x,t2,[w.a,w.b],[n,1],rfl,rfl,SqT.of (s6 _ _ F5.last.dx.at_),SqT.of f6,_,rfl,?_⟩;show if (!decide ([w.a,w.b] = [n,1]))=true then _ else _
    refine aB (fun c2=>?_) (fun c2=>?_)
    ·exact more H6 s6
    have c2:w.a=n∧w.b=1:=by simpa using c2
    have c1:ptB wy=false:=ds c1;refine⟨_,rfl,q l _ H6 ((F5.t s6.t).pairs (s6 _ _ e5)) (F5.good hd5 ?_) ?_ nl (b5.trans (But.of s6)) ((p5.same s6).mono (by omega))⟩
    ·unfold e2B isP
     rw[c1,c2.1,c2.2];simp
    ·simp only[List.length_append,List.length_cons,List.length_nil]
     omega
  obtain⟨u',hu',fin⟩:=R;refine⟨_,(af (av (i:=4) Af.nd rfl (Or.inl rfl) (@aG _ _ _ _ _ (@aa _ _ _ _ _ (ao Bg (hr.mono (by decide)) (by rfl) (aa (pv 0) (aa (pv 1) (aa (pv 3) ae)))) (@aa _ _ _ _ _ (@aG _ _ _ _ _ (@aa _ _ _ _ _ (pv 2) (@aa _ _ _ _ _ ac ae (by rfl)) (by rfl))) ae (by rfl)) (by rfl)))) (af (aF (bR (ar dU (pv 3) aE (aq _)) (bU (ar aW (ao zR (hr.mono (by decide)) (by rfl) (aa (pv 0) (aa ac ae))) ac (aq _)))).pt (ah (av (i:=4) Af.nd rfl (Or.inl rfl) (@aG _ _ _ _ _ (@aa _ _ _ _ _ (@aG _ _ _ _ _ (@aa _ _ _ _ _ ac (@aa _ _ _ _ _ ac ae (by rfl)) (by rfl))) (@aa _ _ _ _ _ (ao Bg (hr.mono (by decide)) (by rfl) (aa (pv 0) (aa (pv 2) (aa (pv 3) ae)))) ae (by rfl)) (by rfl))))) aw) hu')),?_⟩;refine⟨_,rfl,_,rfl,_,rfl,p,n,_,wy,rfl,pt,by omega,⟨hn0,by omega⟩,fun z t b H1 d1 b1 p1=>?_⟩;refine⟨_,rfl,sz (by simp),fun zm H2 s2 f2 _=>?_⟩;refine⟨sz (by simp),fun pp H3 s3 f3 _=>?_⟩;have S3:Same H1 H3:=s2.trans s3;have p3:=p1.same S3;have b3:But p H H3:=b1.trans (But.of S3);have dm:Dp H3 zm m 1 m wy:=⟨s3 _ _ f2,⟨by decide,Int.gcd_one⟩,hm0,by omega,ai (bV (by omega) (by omega)) (by decide),by decide,fun _=>rfl⟩;have fp:Fp H3 ⟨pp,z,zm,t,b,m,1⟩ n m wy:=⟨f3,d1.t' S3.t,dm,fun _=>.inr rfl⟩;have ep:e1B m wy ⟨pp,z,zm,t,b,m,1⟩=true:=by
   unfold e1B isP;simp
  refine⟨_,rfl,rfl,_,rfl,aB (fun c1=>?_) (fun c1=>?_)⟩
  ·have c1:ptB wy=false:=ds (show decide (V.str wy=V.str (Str.ofString "part"))=false by simpa only[Bool.not_eq_true']using c1)
   refine⟨_,rfl,p,_,_,rfl,p3,by omega,⟨by decide,by decide⟩,fun r4 H4 _ _ b4 p4=>?_⟩;refine⟨rfl,_,rfl,aB (fun c2=>?_) (fun c2=>?_)⟩
   ·refine⟨sz (by simp),fun z0 H5 s5 f5 _=>?_⟩
    have p5:=p4.same s5;refine⟨_,rfl,_,rfl,_,rfl,p,m,_,wy,rfl,p5,by omega,⟨hm0,by omega⟩,fun z2 t2 b2 H6 d6 b6 p6=>?_⟩;refine⟨sz (by simp),fun pq H7 s7 f7 _=>?_⟩;have d0:Dp H5 z0 0 1 n wy:=⟨f5,⟨by decide,by decide⟩,by decide,by omega,by decide,by decide,fun _=>rfl⟩;have e0:e1B m wy ⟨pq,z0,z2,0,1,t2,b2⟩=true:=by
     unfold e1B isP;rw[c1];simp
    exact fin ⟨pq,z0,z2,0,1,t2,b2⟩ H7 ⟨f7,(d0.t' (b6.t p5)).t' s7.t,d6.t' s7.t,fun _=>.inl rfl⟩ e0 (b3.trans (b4.trans ((But.of s5).trans (b6.trans (But.of s7))))) ((p6.same s7).mono (by omega))
   ·exact fin _ H4 (fp.t (b4.t p3)) ep (b3.trans b4) (p4.mono (by omega))
  ·exact fin _ H3 fp ep b3 (p3.mono (by omega))
theorem mC{p l:Addr}{H H':Hp}{ps:List Pr}{k:Int}(h:zU H l ps)(b:But p H H')(pt:Pot H p k)(n:l≠p):zU H' l ps:=⟨b l _ n h.lst,fun q hq=>(h.pr q hq).t (b.t pt)⟩
theorem qV{l:Addr}{H H':Hp}{xs ys:List V}{rs:List Pr}(u:GP H H' l xs ys)(e:ys=prs rs)(h:∀q∈rs,PrAt H q):zU H' l rs:=⟨by rw[u.now,e],fun q hq=>(h q hq).t u.t⟩
theorem mD{p l:Addr}{H H':Hp}{xs ys:List V}{k:Int}(u:GP H H' l xs ys)(pt:Pot H p k)(n:l≠p):Pot H' p k:=by
 obtain⟨x,y,z,ep,rest⟩:=pt;exact⟨x,y,z,u.at (Ne.symm n) ep,rest⟩
theorem nG{p l:Addr}{H0 H H':Hp}{xs ys:List V}(b:But p H0 H)(u:GP H H' l xs ys)(n:H0 l=none):But p H0 H':=fun c o nc e=>u.at (fun z=>by subst z;rw[n]at e;cases e) (b c o nc e)
theorem yt{ps:List Pr}{i:Int}(h0:0≤i)(h1:i<(ps.length:Int)):∃q,ps[i.toNat]? = some q∧q∈ps∧atI (prs ps) i=some (.ref q.p):=by
 have hk:i.toNat<ps.length:=by omega
 refine⟨ps[i.toNat],List.getElem?_eq_getElem hk,List.getElem_mem hk,?_⟩;have:=dP (xs:=prs ps) (j:=i.toNat) (v:=.ref ps[i.toNat].p) (by unfold prs;rw[List.getElem?_map,List.getElem?_eq_getElem hk];rfl);rw[show((i.toNat:Nat):Int)=i by omega]at this;exact this
theorem sB(ps:List Pr):∀k,(prs ps).eraseIdx k=prs (ps.eraseIdx k):=by
 induction ps with
 | nil=>intro k;rfl
 | cons a b ih =>
  intro k;cases k with
  | zero=>rfl
  | succ k =>
   show V.ref a.p::(prs b).eraseIdx k=V.ref a.p::prs (b.eraseIdx k);rw[ih]
inductive G3 (vs:List V) (H:Hp) (Q:VK) (x_3:XK):Prop
 | mk:∀(p:Addr) (k:Int),(vs = [.ref p])->(Pot H p k)->(k≤600000)->(∀(wy:Str) (H':Hp),gU wy->But p H H'->Pot H' p (k+1)->Q (.str wy) H')->G3 vs H Q x_3
inductive FD (vs:List V) (H:Hp) (Q:VK) (x_3:XK):Prop
 | mk:∀(a:Addr) (cs:List Int),(vs = [.ref a,.int 3])->(H a=some (.lst (cs.map V.int)))->(cs.length≤100)->(∀(r:Addr) (zs:List Int) (H':Hp),H' r=some (.lst (zs.map V.int))->Same H H'->Q (.ref r) H')->FD vs H Q x_3
theorem qW{H:Hp}:∀{ps rs:List Pr},(∀q∈ps,PrAt H q)->(∀q∈rs,PrAt H q)->prs ps=prs rs->ps=rs
 | [],[],_,_,_=>rfl
 | [],b::s,_,_,e=>by cases e
 | a::r,[],_,_,e=>by cases e
 | a::r,b::s,h1,h2,e=>by
  have e':V.ref a.p::prs r=V.ref b.p::prs s:=e;injection e' with e1 e2;have ih:=qW (fun q hq=>h1 q (List.mem_cons_of_mem _ hq)) (fun q hq=>h2 q (List.mem_cons_of_mem _ hq)) e2;have ha:=h1 a List.mem_cons_self;have hb:=h2 b List.mem_cons_self;injection e1 with e1;obtain⟨p,x,y,a1,a2,a3,a4⟩:=a;obtain⟨p',x',y',b1,b2,b3,b4⟩:=b;dsimp only at e1;subst e1;have q1:=ha.p_;rw[hb.p_]at q1;simp only[Option.some.injEq,HO.tup.injEq,List.cons.injEq,V.ref.injEq,and_true]at q1;obtain⟨rfl,rfl⟩:=q1;have q2:=ha.x_;rw[hb.x_]at q2;have q3:=ha.y_;rw[hb.y_]at q3;simp only[Option.some.injEq,HO.tup.injEq,List.cons.injEq,V.int.injEq,and_true]at q2 q3;obtain⟨rfl,rfl⟩:=q2;obtain⟨rfl,rfl⟩:=q3;rw[ih]
theorem l6{n m:Int}{w:Str}{H:Hp}{l:Addr}{ps:List Pr}{b:Bool}(P:zU H l ps)(h:u5 n m w H (.ref l) b):b=bQ n m w ps:=by
 rcases h with⟨h1,rfl⟩|⟨l',rs,e,P',rfl⟩
 ·rw[P.pv]at h1
  cases ps with
  | nil=>rfl
  | cons f r =>
   rw[cg,show(f::r).all (inB n m)=false from h1,Bool.false_and]
 ·cases e
  have e2:=P.lst;rw[P'.lst]at e2;have e3:prs rs=prs ps:=by injection e2 with e2;injection e2
  rw[qW P'.pr P.pr e3]
theorem Fl:zQ ["pot"] ["pot"] (ag (top 125)):=smk
theorem i5(BR:Df K mg "_law_drawn_way" (top 125))(zR:Fn P w K mg base "_law_take" ["pot","size"] 1 Dr.spTk):Fn P w K mg base "_law_drawn_way" ["pot"] 2 G3:=by
 refine BR.fn Fl (fun _ _ _ _ _ _ us hl=>by obtain⟨_,rfl⟩:=dI hl;rfl) (fun vs H Q E h=>?_) (fun f cdv A outer s H vs Q E hr h=>?_)
 ·obtain⟨p,k,rfl,_⟩:=h
  rfl
 ·obtain⟨p,k,rfl,pt,hk,q⟩:=h
  refine⟨_,(ah (am (aj aC (cu (aa aE (aa aE (aa aE (aa aE ae))))) (ao zR (hr.mono (by decide)) (by rfl) (aa (pv 0) (aa ac ae))) (fun _ _=>rfl)))),?_⟩;refine⟨sz (by simp),fun lw H1 s1 f1 n1=>?_⟩;have np1:=Pot.ne pt n1;refine⟨_,rfl,p,_,_,rfl,pt.same s1,by omega,⟨by decide,by decide⟩,fun r2 H2 a2 b2' b2 p2=>?_⟩;refine xV (b2 _ _ np1 f1) a2 (by simpa using b2') fun v hv=>?_;have B2:But p H H2:=(But.of s1).trans b2;simp only[List.mem_cons,List.not_mem_nil,or_false]at hv;rcases hv with rfl|rfl|rfl|rfl
  ·exact q _ H2 (.inl rfl) B2 p2
  ·exact q _ H2 (.inr (.inl rfl)) B2 p2
  ·exact q _ H2 (.inr (.inr (.inl rfl))) B2 p2
  ·exact q _ H2 (.inr (.inr (.inr rfl))) B2 p2
theorem BU:zQ ["cells","many","found","k","cell"] ["cells","many"] (ag (top 93)):=smk
theorem kU(Dw:Df K mg "_law_folded" (top 93))(T:Txt mg):Fn P w K mg base "_law_folded" ["cells","many"] 1 FD:=by
 refine Dw.fn BU (fun _ _ _ _ _ _ us hl=>by obtain⟨_,_,rfl⟩:=cO hl;rfl) (fun vs H Q E h=>?_) (fun f cdv A outer s H vs Q E hr h=>?_)
 ·obtain⟨a,cs,rfl,_⟩:=h
  rfl
 ·obtain⟨a,cs,rfl,ea,hc,q⟩:=h
  refine⟨_,(af (av (i:=2) BU.nd rfl (Or.inl rfl) (ap vV (cu (aa ac ae)) (az (je rfl) (by rfl) T.z_min qK (aa (pv 1) (aa (az (l9 rfl) (by rfl) T.z_max vn (aa ac (aa (az aK (by rfl) T.z_len ck (aa (pv 0) ae)) ae))) ae))))) (af (eV PassesOwn.never rfl (qX rfl T.z_enumerate (aa (pv 0) ae)) (cJ rfl (aH (aI (i:=3) BU.nd rfl (Or.inl rfl)) (aH (aI (i:=4) BU.nd rfl (Or.inl rfl)) cn))) (ah (cI (ap bz (ap aJ (aj aC (pv 2) (ap dE (pv 3) (az aK (by rfl) T.z_len ck (aa (pv 2) ae))) (fun _ _=>rfl)) ac) (pv 4)) (jU (pv 2) (ap dE (pv 3) (az aK (by rfl) T.z_len ck (aa (pv 2) ae))) ff)))) (ah (am (pv 2))))),?_⟩;have e63:(2:Int)^63=9223372036854775808:=by decide
  have hcl:(cs.map V.int).length=cs.length:=List.length_map _;refine⟨sz (by simp),fun c1 H1 s1 f1 n1=>?_⟩;refine⟨_,rfl,_,rfl,a,_,rfl,.inl (SqL.of (s1 _ _ ea)),_,_,rfl,_,_,rfl,?_⟩;have hM:1≤(if (if (((cs.map V.int).length:Nat):Int)>1 then (((cs.map V.int).length:Nat):Int) else 1)<3 then (if (((cs.map V.int).length:Nat):Int)>1 then (((cs.map V.int).length:Nat):Int) else 1) else 3)∧(if (if (((cs.map V.int).length:Nat):Int)>1 then (((cs.map V.int).length:Nat):Int) else 1)<3 then (if (((cs.map V.int).length:Nat):Int)>1 then (((cs.map V.int).length:Nat):Int) else 1) else 3)≤3:=by
   split <;> split <;> omega
  generalize (if (if (((cs.map V.int).length:Nat):Int)>1 then (((cs.map V.int).length:Nat):Int) else 1)<3 then (if (((cs.map V.int).length:Nat):Int)>1 then (((cs.map V.int).length:Nat):Int) else 1) else 3)=M at hM
  refine⟨c1,_,_,rfl,rfl,f1,by rw[e63];omega,by rw[e63];omega,sz (by simp;omega),fun r H2 s2 f2 n2=>?_⟩;rw[List.flatten_replicate_singleton,show List.replicate M.toNat (V.int 0)=(List.replicate M.toNat 0).map V.int from List.map_replicate.symm]at f2;have nr:H r=none:=s1.free n2;have ea2:=(s1.trans s2) _ _ ea;have nar:a≠r:=aS ((s1) _ _ ea) n2;refine⟨_,rfl,a,rfl,⟨_,SqL.of ea2⟩,oN (K:=K) (a:=a) (xs:=cs.map V.int) (fun i σ H3=>∃(z1 z2:Option V) (zs:List Int),σ = [some (.ref a),some (.int 3),some (.ref r),z1,z2]∧zs.length=M.toNat∧H3 r=some (.lst (zs.map V.int))∧Same H H3)
   ⟨_,_,_,rfl,by simp,f2,s1.trans s2⟩ (fun i σ H3 _ ⟨_,_,_,_,_,_,s3⟩=>SqL.of (s3 _ _ ea)) ?_ ?_⟩
  ·rintro i x pp σ H3 H4 hx ⟨z1,z2,zs,rfl,hz,e3,s3⟩ s4 f4
   rw[List.getElem?_map]at hx;obtain⟨c,hc',rfl⟩:=Option.map_eq_some_iff.mp hx;have e4:=s4 _ _ e3;have hzl:(((zs.map V.int).length:Nat):Int)=M:=by rw[List.length_map,hz];omega
   have m0:=Int.emod_nonneg (i:Int) (show M≠0 by omega);have m1:=Int.emod_lt_of_pos (i:Int) (show 0<M by omega);refine⟨pp,_,rfl,SqT.of f4,rfl,_,_,rfl,_,_,rfl,rfl,?_⟩;refine⟨_,rfl,_,rfl,_,rfl,r,_,rfl,.inl (SqL.of e4),_,_,rfl,rfl,by rw[hzl];omega,?_⟩;rw[hzl];refine⟨r,_,_,_,rfl,rfl,SqL.of e4,vB ((i:Int) % M).toNat (by omega) (by omega),_,_,rfl,rfl,CM.r ⟨by decide,by decide⟩,_,rfl,_,_,rfl,rfl,?_⟩;refine⟨_,rfl,_,rfl,_,rfl,r,_,rfl,.inl (SqL.of e4),_,_,rfl,rfl,by rw[hzl];omega,?_⟩;rw[hzl];refine⟨r,_,_,_,rfl,rfl,e4,mJ m0 (by rw[hzl];exact m1),fun H5 u=>?_⟩;exact⟨_,_,zs.set ((i:Int) % M).toNat (zs[((i:Int) % M).toNat]'(by omega)*7+c),rfl,by rw[List.length_set];exact hz,by rw[u.now,<- List.map_set],u.same (s3.trans s4) nr⟩
  ·rintro σ H3 ⟨z1,z2,zs,rfl,hz,e3,s3⟩
   exact⟨_,rfl,q r zs H3 e3 s3⟩
theorem yV(x y b r:Int):x*(b - r)+y*r=x*b+(y - x)*r:=by grind
theorem fC{b d:Int}(hb:0<b)(hd:0<d):0<sqD b d:=Int.mul_pos (Int.mul_pos hb hd) (Int.mul_pos hb hd)
structure Je(H:Hp)(l:Addr)(fs:Crn):Prop where
 lst:H l=some (.lst (fs.map fun q=>V.ref q.1))
 fr:∀q∈fs,H q.1=some (.tup [.int q.2.1,.int q.2.2])∧0<q.2.2∧au q.2.1≤2200∧au q.2.2≤2200
theorem Je.mono{H H':Hp}{l:Addr}{fs:Crn}(L:Je H l fs)(s:Same H H'):Je H' l fs:=⟨s _ _ L.lst,fun q h=>⟨s _ _ (L.fr q h).1,(L.fr q h).2⟩⟩
def leF(p q:Addr×Int×Int):Prop:=p.2.1*q.2.2≤q.2.1*p.2.2
theorem lO{p q r:Addr×Int×Int}(hq:0<q.2.2)(hp:0<p.2.2)(hr:0<r.2.2)(h1:leF p q)(h2:leF q r):leF p r:=by
 unfold leF at *;refine Int.le_of_mul_le_mul_left (a:=q.2.2) ?_ hq;have a1:p.2.1*q.2.2*r.2.2≤q.2.1*p.2.2*r.2.2:=Int.mul_le_mul_of_nonneg_right h1 (by omega);have a2:q.2.1*r.2.2*p.2.2≤r.2.1*q.2.2*p.2.2:=Int.mul_le_mul_of_nonneg_right h2 (by omega);have e1:q.2.2*(p.2.1*r.2.2)=p.2.1*q.2.2*r.2.2:=by grind
 have e2:q.2.2*(r.2.1*p.2.2)=r.2.1*q.2.2*p.2.2:=by grind
 have e3:q.2.1*p.2.2*r.2.2=q.2.1*r.2.2*p.2.2:=by grind
 rw[e1,e2];rw[e3]at a1;exact Int.le_trans a1 a2
theorem rA{α β:Type}:∀(xs:List α) (R:Nat->α->β->Prop),(∀i x,xs[i]? = some x->∃b,R i x b)->∃bs:List β,bs.length=xs.length∧∀i x b,xs[i]? = some x->bs[i]? = some b->R i x b
 | [],R,_=>⟨[],rfl,fun i x b h=>by simp at h⟩
 | a::r,R,h=>by
  obtain⟨bs,hl,hb⟩:=rA r (fun i=>R (i+1)) (fun i x hx=>h (i+1) x (by simpa using hx));obtain⟨b0,h0⟩:=h 0 a rfl;refine⟨b0::bs,by simp[hl],fun i x b hx hb'=>?_⟩;cases i with
  | zero=>cases hx;cases hb';exact h0
  | succ i=>exact hb i x b (by simpa using hx) (by simpa using hb')
theorem uV{α β:Type}{xs:List α}{ys:List β}{i:Nat}{x:α}(hl:ys.length=xs.length)(h:xs[i]? = some x):∃y,ys[i]? = some y:=by
 have:=(List.getElem?_eq_some_iff.mp h).1;exact⟨ys[i],List.getElem?_eq_getElem (by omega)⟩
theorem xY{ys:List V}{gs:Crn}(hl:gs.length=ys.length)(h:∀(i:Nat) x g,ys[i]? = some x->gs[i]? = some g->x = .ref g.1):ys=gs.map fun q=>V.ref q.1:=by
 refine List.ext_getElem? fun i=>?_;rw[List.getElem?_map]
 by_cases hi:i<ys.length
 ·rw[List.getElem?_eq_getElem hi,List.getElem?_eq_getElem (show i<gs.length by omega),h i _ _ (List.getElem?_eq_getElem hi) (List.getElem?_eq_getElem (show i<gs.length by omega))]
  rfl
 ·rw[List.getElem?_eq_none (by omega),List.getElem?_eq_none (by omega)]
  rfl
inductive HW (vs:List V) (H:Hp) (Q:VK) (x_3:XK):Prop
 | mk:∀(l:Addr) (fs:Crn),(vs = [.ref l])->(Je H l fs)->((1≤fs.length∧fs.length<900))->(∀(k:Nat) (p:Addr×Int×Int) (H':Hp),fs[k]? = some p->(∀q∈fs,leF p q)->(∀(j:Nat) q,j<k->fs[j]? = some q->¬leF q p)->Same H H'->Q (.int (k:Int)) H')->HW vs H Q x_3
theorem qQ{x:Int}(h:Sm x):au x≤50:=by
 have h':-999999999999≤x∧x≤999999999999:=h;exact d9 (n:=50) (by show _<1125899906842624;omega)
theorem _root_.Sp7.LineM.la{H:Hp}{l:Addr}{qs:Crn}(L:LineM H l qs):zW H l qs:=⟨L.lst,fun q hq=>⟨(L.crn q hq).1,qQ (L.crn q hq).2.1,qQ (L.crn q hq).2.2⟩⟩
theorem _root_.Wk.PrAt.plx{H:Hp}{q:Pr}{n m:Int}(h:PrAt H q)(hi:inB n m q=true)(hn:n≤100):D8 H q.x q.a q.b n:=by
 unfold inB at hi;rw[Bool.and_eq_true,decide_eq_true_eq,decide_eq_true_eq]at hi;have hb:0<q.b:=h.lx.pos;refine⟨h.x_,h.lx,h.nx,hi.1,?_,ai h.bb (by decide)⟩;have h2:n*q.b≤100*q.b:=Int.mul_le_mul_of_nonneg_right hn (by omega);have h3:au (100*q.b)≤7+60:=bits_mul (by decide) h.bb;exact ai (de h.nx (by omega) h3) (by decide)
theorem _root_.Wk.PrAt.ply{H:Hp}{q:Pr}{n m:Int}(h:PrAt H q)(hi:inB n m q=true)(hm:m≤100):D8 H q.y q.c q.d m:=by
 unfold inB at hi;rw[Bool.and_eq_true,decide_eq_true_eq,decide_eq_true_eq]at hi;have hb:0<q.d:=h.ly.pos;refine⟨h.y_,h.ly,h.ny,hi.2,?_,ai h.bd (by decide)⟩;have h2:m*q.d≤100*q.d:=Int.mul_le_mul_of_nonneg_right hm (by omega);have h3:au (100*q.d)≤7+60:=bits_mul (by decide) h.bd;exact ai (de h.ny (by omega) h3) (by decide)
inductive Gs (vs:List V) (H:Hp) (Q:VK) (x_3:XK):Prop
 | mk:∀(l p l' p':Addr) (qs qs':Crn) (t b t' b':Int),(vs = [.ref l,.ref p,.ref l',.ref p'])->(zW H l qs)->(zW H l' qs')->((1≤qs.length∧qs.length≤20))->((1≤qs'.length∧qs'.length≤20))->(D8 H p t b (aP qs))->(D8 H p' t' b' (aP qs'))->(∀(r:Addr) (s w:Int) (H':Hp),zV (sqF qs t b qs' t' b') (sqD b b') s w->CP H' r s w 1100->Same H H'->Q (.ref r) H')->Gs vs H Q x_3
theorem nW(qs:Crn)(t b:Int)(rs:Crn)(t' b':Int):sqF qs t b rs t' b'=sqF rs t' b' qs t b:=by
 unfold sqF sqN
 grind
theorem nX(b d:Int):sqD b d=sqD d b:=by
 unfold sqD
 grind
theorem qI{F D s w s0 w0:Int}(hD:0<D)(hw0:0<w0)(e:F*w0=s0*D)(h:s*D≤F*w):s*w0≤s0*w:=by
 have h1:=Int.mul_le_mul_of_nonneg_right h (show 0≤w0 by omega);have e1:F*w*w0=s0*w*D:=by
  rw[show F*w*w0=F*w0*w by grind,e]
  grind
 refine Int.le_of_mul_le_mul_right (a:=D) ?_ hD;rw[<- e1];rw[show s*w0*D=s*D*w0 by grind];exact h1
theorem qH{F D s w s0 w0:Int}(hw0:0<w0)(hw:0<w)(hD:0<D)(h0:s0*D≤F*w0)(h:s*w0≤s0*w):s*D≤F*w:=by
 refine Int.le_of_mul_le_mul_right (a:=w0) ?_ hw0;have h1:=Int.mul_le_mul_of_nonneg_right h (show 0≤D by omega);have h2:=Int.mul_le_mul_of_nonneg_right h0 (show 0≤w by omega);rw[show s*D*w0=s*w0*D by grind,show F*w*w0=F*w0*w by grind];rw[show s0*w*D=s0*D*w by grind]at h1;exact Int.le_trans h1 h2
structure Ab(qs rs:Crn)(S:Int->Int->Int->Int->Prop)(s w:Int):Prop where
 low:AM s w
 least:∀a b c d,AM a b->AM c d->S a b c d->s*sqD b d≤sqF qs a b rs c d*w
 att:∃a b c d,AM a b∧AM c d∧S a b c d∧sqF qs a b rs c d*w=s*sqD b d
theorem Ab.uniq{qs rs:Crn}{S:Int->Int->Int->Int->Prop}{s w s' w':Int}(h:Ab qs rs S s w)(h':Ab qs rs S s' w'):s=s'∧w=w':=by
 refine cj h.low h'.low (Int.le_antisymm ?_ ?_)
 ·obtain⟨a,b,c,d,l1,l2,hs,e⟩:=h'.att
  exact qI (fC l1.pos l2.pos) h'.low.pos e (h.least a b c d l1 l2 hs)
 ·obtain⟨a,b,c,d,l1,l2,hs,e⟩:=h.att
  exact qI (fC l1.pos l2.pos) h.low.pos e (h'.least a b c d l1 l2 hs)
theorem Ab.congr{qs rs:Crn}{S S':Int->Int->Int->Int->Prop}{s w:Int}(h:Ab qs rs S s w)(e:∀a b c d,AM a b->AM c d->(S a b c d↔S' a b c d)):Ab qs rs S' s w:=by
 refine⟨h.low,fun a b c d l1 l2 hs=>h.least a b c d l1 l2 ((e a b c d l1 l2).mpr hs),?_⟩;obtain⟨a,b,c,d,l1,l2,hs,z⟩:=h.att;exact⟨a,b,c,d,l1,l2,(e a b c d l1 l2).mp hs,z⟩
theorem Ab.swap{qs rs:Crn}{S:Int->Int->Int->Int->Prop}{s w:Int}(h:Ab rs qs S s w):Ab qs rs (fun a b c d=>S c d a b) s w:=by
 refine⟨h.low,fun a b c d l1 l2 hs=>?_,?_⟩
 ·have:=h.least c d a b l2 l1 hs
  rw[nW,nX];exact this
 ·obtain⟨a,b,c,d,l1,l2,hs,z⟩:=h.att
  refine⟨c,d,a,b,l2,l1,hs,?_⟩;rw[nW,nX];exact z
theorem Ab.two{qs rs:Crn}{S S':Int->Int->Int->Int->Prop}{s w s' w':Int}(h:Ab qs rs S s w)(h':Ab qs rs S' s' w')(le:s*w'≤s'*w):Ab qs rs (fun a b c d=>S a b c d∨S' a b c d) s w:=by
 refine⟨h.low,fun a b c d l1 l2 hs=>?_,?_⟩
 ·rcases hs with hs|hs
  ·exact h.least a b c d l1 l2 hs
  ·exact qH h'.low.pos h.low.pos (fC l1.pos l2.pos) (h'.least a b c d l1 l2 hs) le
 ·obtain⟨a,b,c,d,l1,l2,hs,z⟩:=h.att
  exact⟨a,b,c,d,l1,l2,.inl hs,z⟩
theorem Ab.pick{qs rs:Crn}{S S':Int->Int->Int->Int->Prop}{s w s' w':Int}{p p':Addr}{H:Hp}(h:Ab qs rs S s w)(h':Ab qs rs S' s' w')(f:CP H p s w 1100)(f':CP H p' s' w' 1100) :
  ∃(r:Addr) (u v:Int),(if ltB s' w' s w=true then p' else p)=r∧CP H r u v 1100∧Ab qs rs (fun a b c d=>S a b c d∨S' a b c d) u v:=by
 cases hl:ltB s' w' s w with
 | true =>
  have hl:s'*w<s*w':=bF hl;exact⟨p',s',w',if_pos rfl,f',(h'.two h (by omega)).congr fun a b c d _ _=>Or.comm⟩
 | false =>
  have hl:¬s'*w<s*w':=ci hl;exact⟨p,s,w,if_neg (by decide),f,h.two h' (by omega)⟩
def One(t b t' b':Int)(a b0 c d:Int):Prop:=(a=t∧b0=b)∧c=t'∧d=b'
theorem fH{qs rs:Crn}{t b t' b' s w:Int}(l:AM t b)(l':AM t' b')(f:zV (sqF qs t b rs t' b') (sqD b b') s w):Ab qs rs (One t b t' b') s w:=by
 refine⟨f.low,?_,t,b,t',b',l,l',⟨⟨rfl,rfl⟩,rfl,rfl⟩,f.eq⟩;rintro a b0 c d _ _ ⟨⟨rfl,rfl⟩,rfl,rfl⟩;exact Int.le_of_eq f.eq.symm
def btw(p q r s c d:Int):Prop:=(p*d≤c*q∧c*s≤r*d)∨(r*d≤c*s∧c*q≤p*d)
def Seg(t b l1 l2 h1 h2:Int)(a b' c d:Int):Prop:=(a=t∧b'=b)∧l1*d≤c*l2∧c*h2≤h1*d
def Box(u v:Pr)(a b c d:Int):Prop:=btw u.a u.b v.a v.b a b∧btw u.c u.d v.c v.d c d
theorem vm{p q r s c d:Int}:btw p q r s c d↔btw r s p q c d:=Or.comm
theorem vk{p q r s c d:Int}(hq:0<q)(hs:0<s)(hd:0<d)(hle:p*s≤r*q):btw p q r s c d↔(p*d≤c*q∧c*s≤r*d):=by
 refine⟨fun h=>?_,fun h=>.inl h⟩;rcases h with h|⟨h1,h2⟩
 ·exact h
 have m:=Int.mul_le_mul_of_nonneg_right hle (show 0≤d by omega);have m1:=Int.mul_le_mul_of_nonneg_right h1 (show 0≤q by omega);have m2:=Int.mul_le_mul_of_nonneg_right h2 (show 0≤s by omega);constructor
 ·refine Int.le_of_mul_le_mul_right (a:=s) ?_ hs
  rw[show p*d*s=p*s*d by grind,show c*q*s=c*s*q by grind];rw[show r*q*d=r*d*q by grind]at m;exact Int.le_trans m m1
 ·refine Int.le_of_mul_le_mul_right (a:=q) ?_ hq
  rw[show c*s*q=c*q*s by grind,show r*d*q=r*q*d by grind];rw[show p*s*d=p*d*s by grind]at m;exact Int.le_trans m2 m
theorem pF{p q c d:Int}(l:AM p q)(l':AM c d):btw p q p q c d↔(c=p∧d=q):=by
 constructor
 ·intro h
  have e:c*q=p*d:=by
   rcases h with h|h <;> omega
  exact cj l' l e
 ·rintro⟨rfl,rfl⟩
  exact .inl ⟨Int.le_refl _,Int.le_refl _⟩
def ee(c1 c2 e1 e2 l1 l2 h1 h2:Int):Prop:=l1*h2≤h1*l2∧((l1=c1∧l2=c2∧h1=e1∧h2=e2)∨(l1=e1∧l2=e2∧h1=c1∧h2=c2))
theorem pb{c1 c2 e1 e2 l1 l2 h1 h2 c d:Int}(hc:0<c2)(he:0<e2)(hd:0<d)(E:ee c1 c2 e1 e2 l1 l2 h1 h2):btw c1 c2 e1 e2 c d↔(l1*d≤c*l2∧c*h2≤h1*d):=by
 obtain⟨hle,h|h⟩:=E
 ·obtain⟨rfl,rfl,rfl,rfl⟩:=h
  exact vk hc he hd hle
 ·obtain⟨rfl,rfl,rfl,rfl⟩:=h
  rw[vm];exact vk he hc hd hle
theorem vp{H:Hp}{u v:Pr}{l1 l2 h1 h2:Int}(pu:PrAt H u)(pv:PrAt H v)(e1:u.a=v.a)(e2:u.b=v.b)(E:ee u.c u.d v.c v.d l1 l2 h1 h2):∀a b c d,AM a b->AM c d->(Seg u.a u.b l1 l2 h1 h2 a b c d↔Box u v a b c d):=fun a b c d lab lcd=>by
 unfold Seg Box;rw[<- e1,<- e2,pF pu.lx lab,pb pu.ly.pos pv.ly.pos lcd.pos E]
theorem vo{H:Hp}{u v:Pr}{l1 l2 h1 h2:Int}(pu:PrAt H u)(pv:PrAt H v)(e1:u.c=v.c)(e2:u.d=v.d)(E:ee u.a u.b v.a v.b l1 l2 h1 h2):∀a b c d,AM a b->AM c d->(Seg u.c u.d l1 l2 h1 h2 c d a b↔Box u v a b c d):=fun a b c d lab lcd=>by
 unfold Seg Box;rw[<- e1,<- e2,pF pu.ly lcd,pb pu.lx.pos pv.lx.pos lab.pos E];exact And.comm
theorem eg{n:Nat}{l1 l2 h1 h2:Int}(Ll:AM l1 l2)(Lh:AM h1 h2)(l0:0≤l1)(hn:h1≤((n:Int) - 1)*h2)(sh:bD l1 l2 h1 h2=true)(hle:l1*h2≤h1*l2):InS n l1 l2 h1 h2:=by
 have hl:(0:Int)<l2:=Ll.pos;have hh:(0:Int)<h2:=Lh.pos
 by_cases e:l1*h2=h1*l2
 ·exact .inl (cj Ll Lh e)
 have lt:l1*h2<h1*l2:=by omega
 have q0:=lV hl l0;have q1:=dC (a:=l1) hl;unfold bD at sh;rw[if_neg (by omega)]at sh;have hi:h1≤(l1 / l2+1)*h2:=by
  have:¬(l1 / l2+1)*h2<h1*1:=by simpa using sh
  omega
 have kn:l1 / l2<(n:Int) - 1:=by
  by_cases c:l1 / l2<(n:Int) - 1
  ·exact c
  ·exfalso
   have c1:=Int.mul_le_mul_of_nonneg_right (show(n:Int) - 1≤l1 / l2 by omega) (show 0≤h2 by omega);have c2:=Int.mul_le_mul_of_nonneg_right (Int.le_trans hn c1) (show 0≤l2 by omega);have c3:=Int.mul_le_mul_of_nonneg_right q1 (show 0≤h2 by omega);rw[show l1 / l2*h2*l2=l1 / l2*l2*h2 by grind]at c2;omega
 refine .inr ⟨(l1 / l2).toNat,by omega,?_,lt,?_⟩
 ·rw[show(((l1 / l2).toNat:Nat):Int)=l1 / l2 by omega]
  exact q1
 ·rw[show(((l1 / l2).toNat:Nat):Int)=l1 / l2 by omega]
  exact hi
theorem gX{a b c d:Int}(hb:0<b)(hd:0<d)(la:AM a b)(lc:AM c d):bD a b c d=bD c d a b:=by
 unfold bD
 by_cases h:c*b<a*d
 ·rw[if_pos h,if_neg (by omega)]
 ·rw[if_neg h]
  by_cases h2:a*d<c*b
  ·rw[if_pos h2]
  ·rw[if_neg h2]
   obtain⟨rfl,rfl⟩:=cj la lc (by omega);rfl
theorem nv{c1 c2 e1 e2:Int}(le:¬e1*c2<c1*e2):ee c1 c2 e1 e2 c1 c2 e1 e2:=⟨by omega,.inl ⟨rfl,rfl,rfl,rfl⟩⟩
theorem nu{c1 c2 e1 e2:Int}(le:e1*c2<c1*e2):ee c1 c2 e1 e2 e1 e2 c1 c2:=⟨by omega,.inr ⟨rfl,rfl,rfl,rfl⟩⟩
theorem lN{qs qs':Crn}{t b l1 l2 h1 h2 T B s w:Int}(lt:AM t b)(Ll:AM l1 l2)(Lh:AM h1 h2)(hB:AM T B)(h:LPc (ptX qs t b) (ptY qs t b) b qs' l1 l2 h1 h2 T B)(f:zV (sqF qs t b qs' T B) (sqD b B) s w)
  (t0:l1*B≤T*l2) (t1:T*h2≤h1*B):Ab qs qs' (Seg t b l1 l2 h1 h2) s w:=by
 refine⟨f.low,?_,t,b,T,B,lt,hB,⟨⟨rfl,rfl⟩,t0,t1⟩,f.eq⟩;rintro a b' c d _ lcd ⟨⟨rfl,rfl⟩,a1,a2⟩;have:=xT lt.pos Ll Lh hB lcd h a1 a2 f t0 t1;omega
theorem wz{X Y b:Int}{qs:Crn}{l1 l2 h1 h2 f0 f1:Int}{k:Nat}(hb:0<b)(Ll:AM l1 l2)(Lh:AM h1 h2)(Lf:AM f0 f1)(st:He qs.length k l1 l2 h1 h2)(hf:kL qs k=0∨(kL qs k≠0∧(kA X Y b qs k+(k:Int)*(kL qs k*b))*f1=f0*(kL qs k*b))) :
  LPc X Y b qs l1 l2 h1 h2 l1 l2∨LPc X Y b qs l1 l2 h1 h2 h1 h2∨(LPc X Y b qs l1 l2 h1 h2 f0 f1∧l1*f1<f0*l2∧f0*h2<h1*f1):=by
 have hl:(0:Int)<l2:=Ll.pos;have hh:(0:Int)<h2:=Lh.pos;have hf1:(0:Int)<f1:=Lf.pos;rcases hf with z|⟨nz,e⟩
 ·exact .inl (.inr ⟨k,st,.inl ⟨rfl,rfl,.inl z⟩⟩)
 by_cases c1:kA X Y b qs k*l2<(l1 - (k:Int)*l2)*(kL qs k*b)
 ·exact .inl (.inr ⟨k,st,.inl ⟨rfl,rfl,.inr c1⟩⟩)
 by_cases c2:(h1 - (k:Int)*h2)*(kL qs k*b)<kA X Y b qs k*h2
 ·exact .inr (.inl (.inr ⟨k,st,.inr (.inl ⟨rfl,rfl,nz,c1,c2⟩)⟩))
 have hL:=oG qs k;have hLb:0<kL qs k*b:=Int.mul_pos (by omega) hb;have mid:∀{T B:Int},T*f1=f0*B->(T - (k:Int)*B)*(kL qs k*b)=kA X Y b qs k*B:=fun {T B} et=>by
  refine Int.eq_of_mul_eq_mul_right (a:=f1) (by omega) ?_;generalize kA X Y b qs k=al at *;generalize kL qs k*b=Lb at *;have e1:(T - (k:Int)*B)*Lb*f1=T*f1*Lb - (k:Int)*B*Lb*f1:=by grind
  rw[e1,et];have e2:f0*B*Lb=B*(f0*Lb):=by grind
  rw[e2,<- e]
  grind
 have g1:l1*f1≤f0*l2:=by
  refine Int.le_of_mul_le_mul_right (a:=kL qs k*b) ?_ hLb;have m:=Int.mul_le_mul_of_nonneg_right (Int.not_lt.mp c1) (show 0≤f1 by omega);generalize kA X Y b qs k=al at *;generalize kL qs k*b=Lb at *;have e1:f0*l2*Lb=l2*(f0*Lb):=by grind
  rw[e1,<- e]
  grind
 have g2:f0*h2≤h1*f1:=by
  refine Int.le_of_mul_le_mul_right (a:=kL qs k*b) ?_ hLb;have m:=Int.mul_le_mul_of_nonneg_right (Int.not_lt.mp c2) (show 0≤f1 by omega);generalize kA X Y b qs k=al at *;generalize kL qs k*b=Lb at *;have e1:f0*h2*Lb=h2*(f0*Lb):=by grind
  rw[e1,<- e]
  grind
 have lpc:∀{T B:Int},T*f1=f0*B->LPc X Y b qs l1 l2 h1 h2 T B:=fun et=>.inr ⟨k,st,.inr (.inr ⟨nz,c1,c2,mid et⟩)⟩
 by_cases g3:l1*f1=f0*l2
 ·exact .inl (lpc g3)
 by_cases g4:f0*h2=h1*f1
 ·exact .inr (.inl (lpc (by omega)))
 exact .inr (.inr ⟨lpc rfl,by omega,by omega⟩)
theorem oO{qs qs':Crn}{t b l1 l2 h1 h2 f0 f1 s w:Int}(lt:AM t b)(Ll:AM l1 l2)(Lh:AM h1 h2)(Lf:AM f0 f1)(hle:l1*h2≤h1*l2)
  (hf:LPc (ptX qs t b) (ptY qs t b) b qs' l1 l2 h1 h2 l1 l2∨LPc (ptX qs t b) (ptY qs t b) b qs' l1 l2 h1 h2 h1 h2∨(LPc (ptX qs t b) (ptY qs t b) b qs' l1 l2 h1 h2 f0 f1∧l1*f1<f0*l2∧f0*h2<h1*f1))
  (S:Int->Int->Int->Int->Prop) (m:Ab qs qs' S s w) (sub:∀a b' c d,AM a b'->AM c d->S a b' c d->Seg t b l1 l2 h1 h2 a b' c d) (i1:S t b l1 l2) (i2:S t b h1 h2) (i3:l1*f1<f0*l2->f0*h2<h1*f1->S t b f0 f1):Ab qs qs' (Seg t b l1 l2 h1 h2) s w:=by
 have key:∀{T B:Int},AM T B->LPc (ptX qs t b) (ptY qs t b) b qs' l1 l2 h1 h2 T B->l1*B≤T*l2->T*h2≤h1*B->S t b T B->Ab qs qs' (Seg t b l1 l2 h1 h2) s w:=fun {T B} LB lp t0 t1 hs=>by
  have hD:=fC lt.pos LB.pos;have fr:=fZ (a:=sqF qs t b qs' T B) hD;have mm:=lN lt Ll Lh LB lp fr t0 t1;have h1:=qI hD fr.low.pos fr.eq (m.least t b T B lt LB hs);refine⟨m.low,fun a b' c d l1' l2' hs'=>qH fr.low.pos m.low.pos (fC l1'.pos l2'.pos) (mm.least a b' c d l1' l2' hs') h1,?_⟩;obtain⟨a,b',c,d,l1',l2',hs',z⟩:=m.att;exact⟨a,b',c,d,l1',l2',sub a b' c d l1' l2' hs',z⟩
 rcases hf with h|h|⟨h,g1,g2⟩
 ·exact key Ll h (Int.le_refl _) hle i1
 ·exact key Lh h hle (Int.le_refl _) i2
 ·exact key Lf h (by omega) (by omega) (i3 g1 g2)
theorem qR{u v:Pr}(h:cP u v=true)(hu:0<u.d)(e:u.a=v.a∧u.b=v.b):bD u.c u.d v.c v.d=true:=by
 unfold cP at h;rw[Bool.or_eq_true]at h;rcases h with h|h
 ·unfold d5 at h
  rw[Bool.and_eq_true,Bool.and_eq_true]at h;exact h.2.2
 ·unfold eU at h
  rw[Bool.and_eq_true,Bool.and_eq_true]at h;have z:=of_decide_eq_true h.1;simp only[List.cons.injEq,and_true]at z;rw[<- z.1,<- z.2];exact cA (k:=u.c / u.d) hu hu (dC hu) (by have:=d7 (a:=u.c) hu;omega) (dC hu) (by have:=d7 (a:=u.c) hu;omega)
theorem vJ{u v:Pr}(h:cP u v=true)(e:¬(u.a=v.a∧u.b=v.b)):(u.c=v.c∧u.d=v.d)∧bD u.a u.b v.a v.b=true:=by
 unfold cP at h;rw[Bool.or_eq_true]at h;rcases h with h|h
 ·unfold d5 at h
  rw[Bool.and_eq_true]at h;have z:=of_decide_eq_true h.1;simp only[List.cons.injEq,and_true]at z;exact absurd z e
 ·unfold eU at h
  rw[Bool.and_eq_true,Bool.and_eq_true]at h;have z:=of_decide_eq_true h.1;simp only[List.cons.injEq,and_true]at z;exact⟨z,h.2.2⟩
def msB(wy:Str)(u v:Pr):Bool:=if wy=aQ then false else (decide (wy=cp) || !dz u v)
theorem ox{wy:Str}{u v:Pr}(h:msB wy u v=true)(hm:cR wy u v=true):cP u v=true:=by
 unfold msB at h;unfold cR at hm
 by_cases h1:wy=aQ
 ·rw[if_pos h1]at h
  cases h
 rw[if_neg h1]at h hm
 by_cases h2:wy=cp
 ·rw[if_pos h2]at hm
  exact hm
 ·rw[if_neg h2]at hm
  rw[decide_eq_false h2,Bool.false_or]at h;have h:dz u v=false:=by simpa using h
  rw[h,Bool.false_or]at hm;exact hm
def FS(wy:Str)(ps:List Pr)(a b c d:Int):Prop:=(∃q∈ps,One q.a q.b q.c q.d a b c d)∨∃(j:Nat) (u v:Pr),ps[j]? = some u∧ps[j+1]? = some v∧msB wy u v=true∧Box u v a b c d
theorem lZ{n m:Int}{w:Str}{ps:List Pr}(h:bQ n m w ps=true):ps≠[]∧(∀q∈ps,inB n m q=true)∧aY w ps=true:=by
 obtain⟨f,l,h1,h2,h3,h4,h5,h6⟩:=l8.mp h;exact⟨(fun z=>by rw[z]at h1;cases h1),List.all_eq_true.mp h3,h6⟩
inductive HY (vs:List V) (H:Hp) (Q:VK) (x_3:XK):Prop
 | mk:∀(u v:Pr) (wy:Str),(vs = [.ref u.p,.ref v.p,.str wy])->(PrAt H u)->(PrAt H v)->(∀H',Same H H'->Q (.bl (msB wy u v)) H')->HY vs H Q x_3
inductive IU (vs:List V) (H:Hp) (Q:VK) (x_3:XK):Prop
 | mk:∀(l l' p q q':Addr) (qs qs':Crn) (t b c1 c2 e1 e2:Int),(vs = [.ref l,.ref p,.ref l',.ref q,.ref q'])->((zW H l qs∧1≤qs.length∧qs.length≤20))->((zW H l' qs'∧1≤qs'.length∧qs'.length≤20))->((D8 H p t b (aP qs)∧au b≤60))->((D8 H q c1 c2 (aP qs')∧au c2≤60))->((D8 H q' e1 e2 (aP qs')∧au e2≤60))->(bD c1 c2 e1 e2=true)->(∀(r:Addr) (s w l1 l2 h1 h2:Int) (H':Hp),CP H' r s w 2103->ee c1 c2 e1 e2 l1 l2 h1 h2->Ab qs qs' (Seg t b l1 l2 h1 h2) s w->Same H H'->Q (.ref r) H')->IU vs H Q x_3
inductive D6 (n:Nat) (vs:List V) (H:Hp) (Q:VK) (x_3:XK):Prop
 | mk:∀(l1 l2:Addr) (qs rs:Crn) (u v:Pr),(vs = [.ref l1,.ref l2,.ref u.p,.ref v.p])->((zW H l1 qs∧1≤qs.length∧qs.length≤20))->((zW H l2 rs∧1≤rs.length∧rs.length≤20))->((PrAt H u∧inB (aP qs) (aP rs) u=true))->((PrAt H v∧inB (aP qs) (aP rs) v=true))->(cP u v=true)->(∀(r:Addr) (s w:Int) (H':Hp),CP H' r s w n->Ab qs rs (Box u v) s w->Same H H'->Q (.ref r) H')->D6 n vs H Q x_3
inductive IS (vs:List V) (H:Hp) (Q:VK) (x_3:XK):Prop
 | mk:∀(l1 l2 l:Addr) (qs rs:Crn) (ps:List Pr) (wy:Str),(vs = [.ref l1,.ref l2,.ref l,.str wy])->((zW H l1 qs∧1≤qs.length∧qs.length≤20))->((zW H l2 rs∧1≤rs.length∧rs.length≤20))->(zU H l ps)->(ps.length<400)->((ps≠[]∧(∀q∈ps,inB (aP qs) (aP rs) q=true)∧aY wy ps=true))->(∀(r:Addr) (gs:Crn) (H':Hp),Je H' r gs->(1≤gs.length∧gs.length<900)->(∀g∈gs,au g.2.1≤2103∧au g.2.2≤2103∧∃S,Ab qs rs S g.2.1 g.2.2∧∀a b c d,S a b c d->FS wy ps a b c d)->(∀a b c d,FS wy ps a b c d->∃g∈gs,∃S,Ab qs rs S g.2.1 g.2.2∧S a b c d)->Same H H'->Q (.ref r) H')->IS vs H Q x_3
inductive Ii (C:Addr) (vs:List V) (H:Hp) (Q:VK) (E:XK):Prop
 | mk:∀(l1 l2 l:Addr) (qs rs:Crn) (ps:List Pr) (wy:Str),(vs = [.ref l1,.ref l2,.ref l,.str wy])->((zW H l1 qs∧1≤qs.length∧qs.length≤20))->((zW H l2 rs∧1≤rs.length∧rs.length≤20))->(zU H l ps)->(ps.length<400)->(gU wy)->((bQ (aP qs) (aP rs) wy ps=false->∀H',Same H H'->E (.ref C) none H'))->((bQ (aP qs) (aP rs) wy ps=true->∀(r:Addr) (s w:Int) (H':Hp),CP H' r s w 2103->Ab qs rs (FS wy ps) s w->Same H H'->Q (.ref r) H'))->Ii C vs H Q E
inductive Ia (vs:List V) (H:Hp) (Q:VK) (x_3:XK):Prop
 | mk:∀(l p l' q q':Addr) (qs qs':Crn) (t b l1 l2 h1 h2:Int),(vs = [.ref l,.ref p,.ref l',.ref q,.ref q'])->((zW H l qs∧1≤qs.length∧qs.length≤20))->((zW H l' qs'∧1≤qs'.length∧qs'.length≤20))->((D8 H p t b (aP qs)∧au b≤60))->((D8 H q l1 l2 (aP qs')∧au l2≤60))->((D8 H q' h1 h2 (aP qs')∧au h2≤60))->(InS qs'.length l1 l2 h1 h2)->(l1*h2≤h1*l2)->(∀(r:Addr) (s w:Int) (H':Hp),CP H' r s w 1100->Ab qs qs' (Seg t b l1 l2 h1 h2) s w->Same H H'->Q (.ref r) H')->Ia vs H Q x_3
inductive GZ (vs:List V) (H:Hp) (Q:VK) (x_3:XK):Prop
 | mk:∀(l pp:Addr) (qs:Crn) (k:Nat) (X Y b:Int),(vs = [.ref l,.int (k:Int),.ref pp])->(zW H l qs)->(qs.length≤20)->(k+1<qs.length)->(H pp=some (.tup [.int X,.int Y,.int b]))->(0<b)->(au X≤262)->(au Y≤262)->(au b≤60)->(∀(r:Addr) (f0 f1:Int) (H':Hp),H' r=some (.tup [.int f0,.int f1])->AM f0 f1->au f0≤500->au f1≤170->(kL qs k=0∨(kL qs k≠0∧(kA X Y b qs k+(k:Int)*(kL qs k*b))*f1=f0*(kL qs k*b)))->Same H H'->Q (.ref r) H')->GZ vs H Q x_3
inductive Ie (vs:List V) (H:Hp) (Q:VK) (x_3:XK):Prop
 | mk:∀(l1 l2 l:Addr) (qs rs:Crn) (ps:List Pr) (wy:Str),(vs = [.ref l1,.ref l2,.ref l,.str wy])->((zW H l1 qs∧1≤qs.length∧qs.length≤20))->((zW H l2 rs∧1≤rs.length∧rs.length≤20))->(zU H l ps)->(ps.length<400)->((ps≠[]∧(∀q∈ps,inB (aP qs) (aP rs) q=true)∧aY wy ps=true))->(∀(r:Addr) (s w:Int) (H':Hp),CP H' r s w 1100->Ab qs rs (FS wy ps) s w->Same H H'->Q (.ref r) H')->Ie vs H Q x_3
theorem As:zQ ["fractions","found","number","fraction"] ["fractions"] (ag (top 19)):=smk
theorem hG(Bq:Df K mg "number_of_least" (top 19))(AI:Fn P w K mg base "less" ["a","b"] 1 Hz)(T:Txt mg):Fn P w K mg base "number_of_least" ["fractions"] 2 HW:=by
 refine Bq.fn As (fun _ _ _ _ _ _ us hl=>by obtain⟨_,rfl⟩:=dI hl;rfl) (fun vs H Q E h=>?_) (fun f cdv A outer s H vs Q E hr h=>?_)
 ·obtain⟨l,fs,rfl,_⟩:=h
  rfl
 ·obtain⟨l,fs,rfl,F0,⟨h1,h9⟩,q⟩:=h
  refine⟨_,(af (av (i:=1) As.nd rfl (Or.inl rfl) ac) (af (eV PassesOwn.never rfl (qX rfl T.z_enumerate (aa (pv 0) ae)) (cJ rfl (aH (aI (i:=2) As.nd rfl (Or.inl rfl)) (aH (aI (i:=3) As.nd rfl (Or.inl rfl)) cn))) (ah (aF (aM (ao AI (hr.mono (by decide)) (by rfl) (aa (pv 3) (aa (aj aC (pv 0) (pv 1) (fun _ _=>rfl)) ae)))) (ah (av (i:=1) As.nd rfl (Or.inl rfl) (pv 2))) aw))) (ah (am (pv 1))))),?_⟩;have hll:(fs.map fun (q:Addr×Int×Int)=>V.ref q.1).length=fs.length:=List.length_map _;refine⟨_,rfl,l,rfl,⟨_,SqL.of F0.lst⟩,oN (K:=K) (a:=l) (xs:=fs.map fun (q:Addr×Int×Int)=>V.ref q.1) (fun i σ H3=>∃(z1 z2:Option V) (k:Nat) (p:Addr×Int×Int),σ = [some (.ref l),some (.int (k:Int)),z1,z2]∧fs[k]? = some p∧(∀(j:Nat) q,j<i->fs[j]? = some q->leF p q)∧(∀(j:Nat) q,j<k->fs[j]? = some q->¬leF q p)∧(k≤i)∧Same H H3)
   ⟨_,_,0,fs[0],rfl,List.getElem?_eq_getElem (by omega),fun j q h=>absurd h (by omega),fun j q h=>absurd h (by omega),Nat.le_refl _,Same.refl _⟩ (fun i σ H3 _ ⟨_,_,_,_,_,_,_,_,_,s3⟩=>SqL.of (s3 _ _ F0.lst)) ?_ ?_⟩
  ·rintro i x pp σ H3 H4 hx ⟨z1,z2,k,p,rfl,hk,hle,hlt,hki,s3⟩ s4 f4
   rw[List.getElem?_map]at hx;obtain⟨u,hu,rfl⟩:=Option.map_eq_some_iff.mp hx;have F4:=F0.mono (s3.trans s4);have fu:=F4.fr u (List.mem_of_getElem? hu);have fp:=F4.fr p (List.mem_of_getElem? hk);have ea:atI (fs.map fun (q:Addr×Int×Int)=>V.ref q.1) (k:Int)=some (.ref p.1):=dP (by rw[List.getElem?_map,hk];rfl);refine⟨pp,_,rfl,SqT.of f4,rfl,_,_,rfl,_,_,rfl,rfl,?_⟩;refine⟨_,rfl,_,rfl,_,rfl,l,_,_,_,rfl,rfl,SqL.of F4.lst,ea,u.1,p.1,_,_,_,_,rfl,fu.1,fp.1,⟨ai fu.2.2.1 (by decide),ai fu.2.2.2 (by decide),ai fp.2.2.1 (by decide),ai fp.2.2.2 (by decide)⟩,_,rfl,aB (fun c=>?_) (fun c=>?_)⟩
   ·have c:u.2.1*p.2.2<p.2.1*u.2.2:=bF c
    refine⟨_,rfl,_,_,i,u,rfl,hu,fun j v hj hv=>?_,fun j v hj hv z=>?_,Nat.le_succ _,s3.trans s4⟩
    ·by_cases hji:j=i
     ·subst hji
      rw[hu]at hv;cases hv;exact Int.le_refl _
     ·exact lO fp.2.1 fu.2.1 (F4.fr v (List.mem_of_getElem? hv)).2.1 (Int.le_of_lt c) (hle j v (by omega) hv)
    ·have:=lO (F4.fr v (List.mem_of_getElem? hv)).2.1 fp.2.1 fu.2.1 (hle j v hj hv) z
     unfold leF at this;omega
   ·have c:¬u.2.1*p.2.2<p.2.1*u.2.2:=ci c
    refine⟨_,_,k,p,rfl,hk,fun j v hj hv=>?_,hlt,by omega,s3.trans s4⟩
    by_cases hji:j=i
    ·subst hji
     rw[hu]at hv;cases hv;unfold leF;omega
    ·exact hle j v (by omega) hv
  ·rintro σ H3 ⟨z1,z2,k,p,rfl,hk,hle,hlt,hki,s3⟩
   refine⟨_,rfl,q k p H3 hk (fun r hr=>?_) hlt s3⟩;obtain⟨j,hj,e⟩:=List.getElem_of_mem hr;exact hle j r (by rw[hll];exact hj) (by rw[List.getElem?_eq_getElem hj,e])
theorem DB:zQ ["begin","end","way"] ["begin","end","way"] (ag (top 59)):=smk
theorem fK(AK:Df K mg "is_measured_between" (top 59))(AV:Fn P w K mg base "steps_back" ["begin","end"] 2 (DC dz)):Fn P w K mg base "is_measured_between" ["begin","end","way"] 3 HY:=by
 refine AK.fn DB (fun _ _ _ _ _ _ us hl=>by obtain⟨_,_,_,rfl⟩:=fI hl;rfl) (fun vs H Q E h=>?_) (fun f cdv A outer s H vs Q E hr h=>?_)
 ·obtain⟨u,v,wy,rfl,_⟩:=h
  rfl
 ·obtain⟨u,v,wy,rfl,pu,qv,k⟩:=h
  refine⟨_,(af (aF (ar aW (pv 2) aE (aq _)) (ah (am bW)) aw) (ah (am (ic (aT aW (pv 2) aE (aq _)) (bJ (fF (ao AV (hr.mono (by decide)) (by rfl) (aa (pv 0) (aa (pv 1) ae))))))))),?_⟩;unfold msB at k;refine⟨_,rfl,rfl,_,rfl,aB (fun h1=>?_) (fun h1=>?_)⟩
  ·rw[if_pos (show wy=aQ from bF (ds h1))]at k
   exact k H (Same.refl _)
  rw[if_neg (show ¬wy=aQ from ci (ds h1))]at k;refine⟨_,rfl,rfl,_,rfl,aB (fun h2=>?_) (fun h2=>?_)⟩
  ·rw[show decide (wy=cp)=true from ds h2,Bool.true_or]at k
   exact k H (Same.refl _)
  ·rw[show decide (wy=cp)=false from ds h2,Bool.false_or]at k
   exact⟨_,rfl,_,rfl,u,v,rfl,pu,qv,fun H1 s1=>⟨_,rfl,k H1 s1⟩⟩
theorem AE:zQ ["corner_line","corner","line","begin","end","low","high"] ["corner_line","corner","line","begin","end"] (ag (top 60)):=smk
theorem iZ{C:Addr}(BO:Df K mg "least_between" (top 60))(AI:Fn P w K mg base "less" ["a","b"] 1 Hz)(Cv:Fx P w K mg base "least_along" ["one","x","other","low","high"] 6 [] (Gr C)):Fn P w K mg base "least_between" ["corner_line","corner","line","begin","end"] 7 IU:=by
 refine BO.fn AE (fun _ _ _ _ _ _ us hl=>by obtain⟨_,_,_,_,_,rfl⟩:=uN hl;rfl) (fun vs H Q E h=>?_) (fun f cdv A outer s H vs Q E hr h=>?_)
 ·obtain⟨l,l',p,q,q',qs,qs',t,b,c1,c2,e1,e2,rfl,_⟩:=h
  rfl
 ·obtain⟨l,l',p,q,q',qs,qs',t,b,c1,c2,e1,e2,rfl,⟨L,n1,n20⟩,⟨L',m1,m20⟩,⟨pl,bb⟩,⟨pc,bc⟩,⟨pe,be⟩,sh,k⟩:=h
  have R:∃u,PSs (aN CX0 P w K mg base ["corner_line","corner","line","begin","end","low","high"] "least_between" (ag (top 60)) f cdv A outer s H E).nox ((aA (top 60)).drop 3) u∧∀(y z:Addr) (l1 l2 h1 h2:Int),D8 H y l1 l2 (aP qs')->D8 H z h1 h2 (aP qs')->au l2≤60->au h2≤60->InS qs'.length l1 l2 h1 h2->ee c1 c2 e1 e2 l1 l2 h1 h2->u { nx:=fun _ H'=>Q .non H',rt:=Q } [some (.ref l),some (.ref p),some (.ref l'),some (.ref q),some (.ref q'),some (.ref y),some (.ref z)] H:=by
   refine⟨_,(ah (am (aj ak (gZ Cv (hr.mono (by decide)) (by rfl) (aa (pv 0) (aa (pv 1) (aa (pv 2) (aa (pv 5) (aa (pv 6) ae)))))) ac (fun _ _=>rfl)))),fun y z l1 l2 h1 h2 py pz b1 b2 ins en=>?_⟩;refine⟨_,rfl,_,rfl,_,rfl,_,rfl,_,rfl,l,l',qs,qs',_,_,_,rfl,L,L',⟨n1,n20⟩,⟨m1,m20⟩,pl.th,py.th,pz.th,.inr ⟨p,t,b,rfl,pl,.inr ⟨y,l1,l2,rfl,py,.inr ⟨z,h1,h2,rfl,pz,bb,b1,b2,ins,fun r rs rp s' w' T B H1 fr fs pT lp r0 r1 fq s1=>?_⟩⟩⟩⟩;exact⟨r,_,_,_,rfl,rfl,SqT.of fr,rfl,k rs s' w' l1 l2 h1 h2 H1 fs en (lN pl.low py.low pz.low pT.low lp fq r0 r1) s1⟩
  obtain⟨u,hu,fin⟩:=R;refine⟨_,(af (av (i:=5) AE.nd rfl (Or.inl rfl) (pv 3)) (af (av (i:=6) AE.nd rfl (Or.inl rfl) (pv 4)) (af (aF (aM (ao AI (hr.mono (by decide)) (by rfl) (aa (pv 4) (aa (pv 3) ae)))) (af (av (i:=5) AE.nd rfl (Or.inl rfl) (pv 4)) (ah (av (i:=6) AE.nd rfl (Or.inl rfl) (pv 3)))) aw) hu))),?_⟩;refine⟨_,rfl,_,rfl,?_⟩;refine⟨_,rfl,_,rfl,q',q,e1,e2,c1,c2,rfl,pe.at_,pc.at_,⟨ai pe.bt (by decide),ai pe.bb (by decide),ai pc.bt (by decide),ai pc.bb (by decide)⟩,_,rfl,aB (fun h=>?_) (fun h=>?_)⟩
  ·have h:e1*c2<c1*e2:=bF h
   refine⟨_,rfl,_,rfl,fin q' q e1 e2 c1 c2 pe pc be bc (eg pe.low pc.low pe.lo pc.hi ?_ (by omega)) (nu h)⟩;rw[gX pe.low.pos pc.low.pos pe.low pc.low];exact sh
  ·have h:¬e1*c2<c1*e2:=ci h
   exact fin q q' c1 c2 e1 e2 pc pe bc be (eg pc.low pe.low pc.lo pe.hi sh (by omega)) (nv h)
theorem FN:zQ ["one","other","begin","end"] ["one","other","begin","end"] (ag (top 61)):=smk
theorem jp(Cd:Df K mg "slide_square" (top 61))(Ao:Fn P w K mg base "keeps_corner" ["begin","end","number"] 4 Gu)(AY:Fn P w K mg base "least_between" ["corner_line","corner","line","begin","end"] 7 IU):Fn P w K mg base "slide_square" ["one","other","begin","end"] 8 (D6 2103):=by
 refine Cd.fn FN (fun _ _ _ _ _ _ us hl=>by obtain⟨_,_,_,_,rfl⟩:=ir hl;rfl) (fun vs H Q E h=>?_) (fun f cdv A outer s H vs Q E hr h=>?_)
 ·obtain⟨l1,l2,qs,rs,u,v,rfl,_⟩:=h
  rfl
 ·obtain⟨l1,l2,qs,rs,u,v,rfl,⟨L1,n1,n20⟩,⟨L2,m1,m20⟩,⟨pu,iu⟩,⟨qv,iv⟩,sl,k⟩:=h
  refine⟨_,(af (aF (aM (ao Ao (hr.mono (by decide)) (by rfl) (aa (pv 2) (aa (pv 3) (aa ac ae))))) (ah (am (ao AY (hr.mono (by decide)) (by rfl) (aa (pv 0) (aa (aj ak (pv 2) ac (fun _ _=>rfl)) (aa (pv 1) (aa (aj ak (pv 2) ac (fun _ _=>rfl)) (aa (aj ak (pv 3) ac (fun _ _=>rfl)) ae)))))))) aw) (ah (am (ao AY (hr.mono (by decide)) (by rfl) (aa (pv 1) (aa (aj ak (pv 2) ac (fun _ _=>rfl)) (aa (pv 0) (aa (aj ak (pv 2) ac (fun _ _=>rfl)) (aa (aj ak (pv 3) ac (fun _ _=>rfl)) ae))))))))),?_⟩;have hq100:aP qs≤100:=by unfold aP;omega
  have hr100:aP rs≤100:=by unfold aP;omega
  refine⟨_,rfl,_,rfl,u,v,0,rfl,.inl rfl,pu,qv,fun H1 s1=>⟨_,rfl,?_⟩⟩;rw[show oF 0 u v=d5 u v from rfl];have pu1:=pu.t s1.t;have qv1:=qv.t s1.t;have la:(zW H1 l1 qs∧1≤qs.length∧qs.length≤20):=⟨L1.mono s1,n1,n20⟩;have lb:(zW H1 l2 rs∧1≤rs.length∧rs.length≤20):=⟨L2.mono s1,m1,m20⟩;have ux:=pu1.plx iu hq100;have uy:=pu1.ply iu hr100;have vx:=qv1.plx iv hq100;have vy:=qv1.ply iv hr100;have PU:=SqT.of (K:=K) pu1.p_;have PV:=SqT.of (K:=K) qv1.p_;refine aB (fun c=>?_) (fun c=>?_)
  ·unfold d5 at c
   rw[Bool.and_eq_true,Bool.and_eq_true]at c;have z:=of_decide_eq_true c.1;simp only[List.cons.injEq,and_true]at z;exact⟨_,rfl,_,rfl,u.p,_,_,_,rfl,rfl,PU,rfl,_,rfl,_,rfl,u.p,_,_,_,rfl,rfl,PU,rfl,_,rfl,v.p,_,_,_,rfl,rfl,PV,rfl,l1,l2,u.x,u.y,v.y,qs,rs,_,_,_,_,_,_,rfl,la,lb,⟨ux,pu1.bb⟩,⟨uy,pu1.bd⟩,⟨vy,qv1.bd⟩,c.2.2,fun r s' w' l1' l2' h1' h2' H2 fr en ms s2=>k r s' w' H2 fr (ms.congr (vp pu qv z.1 z.2 en)) (s1.trans s2)⟩
  ·unfold cP at sl
   rw[c,Bool.false_or]at sl;unfold eU at sl;rw[Bool.and_eq_true,Bool.and_eq_true]at sl;have z:=of_decide_eq_true sl.1;simp only[List.cons.injEq,and_true]at z;exact⟨_,rfl,_,rfl,u.p,_,_,_,rfl,rfl,PU,rfl,_,rfl,_,rfl,u.p,_,_,_,rfl,rfl,PU,rfl,_,rfl,v.p,_,_,_,rfl,rfl,PV,rfl,l2,l1,u.y,u.x,v.x,rs,qs,_,_,_,_,_,_,rfl,lb,la,⟨uy,pu1.bd⟩,⟨ux,pu1.bb⟩,⟨vx,qv1.bb⟩,sl.2.2,fun r s' w' l1' l2' h1' h2' H2 fr en ms s2=>k r s' w' H2 fr (ms.swap.congr (vo pu qv z.1 z.2 en)) (s1.trans s2)⟩
def FSi(wy:Str)(ps:List Pr)(i:Nat)(a b c d:Int):Prop:=(∃q∈ps,One q.a q.b q.c q.d a b c d)∨∃(j:Nat) (u v:Pr),j<i∧ps[j]? = some u∧ps[j+1]? = some v∧msB wy u v=true∧Box u v a b c d
structure HL(H:Hp)(l:Addr)(qs rs:Crn)(wy:Str)(ps:List Pr)(i:Nat)(gs:Crn):Prop where
 fr:Je H l gs
 len:ps.length≤gs.length∧gs.length≤ps.length+i
 a:∀g∈gs,au g.2.1≤2103∧au g.2.2≤2103∧∃S,Ab qs rs S g.2.1 g.2.2∧∀a b c d,S a b c d->FS wy ps a b c d
 b:∀a b c d,FSi wy ps i a b c d->∃g∈gs,∃S,Ab qs rs S g.2.1 g.2.2∧S a b c d
theorem HL.skip{H:Hp}{l:Addr}{qs rs:Crn}{wy:Str}{ps:List Pr}{i:Nat}{gs:Crn}{u v:Pr}(G:HL H l qs rs wy ps i gs)(hu:ps[i]? = some u)(hv:ps[i+1]? = some v)(hm:msB wy u v=false):HL H l qs rs wy ps (i+1) gs:=by
 refine⟨G.fr,⟨G.len.1,by have:=G.len.2;omega⟩,G.a,fun a b c d h=>G.b a b c d ?_⟩;rcases h with h|⟨j,u',v',hj,e1,e2,m,bx⟩
 ·exact .inl h
 ·by_cases hji:j=i
  ·subst hji
   rw[hu]at e1;rw[hv]at e2;cases e1;cases e2;rw[hm]at m;cases m
  ·exact .inr ⟨j,u',v',by omega,e1,e2,m,bx⟩
theorem HL.step{H:Hp}{l r:Addr}{qs rs:Crn}{wy:Str}{ps:List Pr}{i:Nat}{gs:Crn}{u v:Pr}{s w:Int}{H':Hp}(G:HL H l qs rs wy ps i gs)(hu:ps[i]? = some u)(hv:ps[i+1]? = some v)(hm:msB wy u v=true)(f:CP H r s w 2103)(ms:Ab qs rs (Box u v) s w)(up:GP H H' l (gs.map fun q=>V.ref q.1) ((gs.map fun q=>V.ref q.1)++[V.ref r])):HL H' l qs rs wy ps (i+1) (gs++[(r,s,w)]):=by
 refine⟨⟨by rw[up.now];simp,fun q hq=>?_⟩,?_,fun g hg=>?_,fun a b c d h=>?_⟩
 ·rcases List.mem_append.mp hq with hq|hq
  ·exact⟨up.t _ _ (G.fr.fr q hq).1,(G.fr.fr q hq).2⟩
  ·rw[List.mem_singleton.mp hq]
   exact⟨up.t _ _ f.at_,f.low.pos,ai f.ba (by decide),ai f.bb (by decide)⟩
 ·have:=G.len
  rw[List.length_append];simp only[List.length_cons,List.length_nil];omega
 ·rcases List.mem_append.mp hg with hg|hg
  ·exact G.a g hg
  ·rw[List.mem_singleton.mp hg]
   exact⟨f.ba,f.bb,_,ms,fun a b c d h=>.inr ⟨i,u,v,hu,hv,hm,h⟩⟩
 ·by_cases hb:FSi wy ps i a b c d
  ·obtain⟨g,hg,S,h1,h2⟩:=G.b a b c d hb
   exact⟨g,List.mem_append_left _ hg,S,h1,h2⟩
  ·rcases h with h|⟨j,u',v',hj,e1,e2,m,bx⟩
   ·exact absurd (.inl h) hb
   ·by_cases hji:j=i
    ·subst hji
     rw[hu]at e1;rw[hv]at e2;cases e1;cases e2;exact⟨(r,s,w),List.mem_append_right _ (by simp),_,ms,bx⟩
    ·exact absurd (.inr ⟨j,u',v',by omega,e1,e2,m,bx⟩) hb
theorem wu{wy:Str}{ps:List Pr}{i:Nat}(hi:ps.length≤i+1){a b c d:Int}(h:FS wy ps a b c d):FSi wy ps i a b c d:=by
 rcases h with h|⟨j,u,v,e1,e2,m,bx⟩
 ·exact .inl h
 ·have:=(List.getElem?_eq_some_iff.mp e2).1
  exact .inr ⟨j,u,v,by omega,e1,e2,m,bx⟩
theorem AB:zQ ["one","other","fence","way","squares","begin","end"] ["one","other","fence","way"] (ag (top 62)):=smk
theorem gL{C2:Addr}(Bb:Df K mg "measured_squares" (top 62))(DI:Fx P w K mg base "square_of" ["one","x","other","y"] 6 [] (Fv C2))(AJ:Fn P w K mg base "is_measured_between" ["begin","end","way"] 3 HY)(BZ:Fn P w K mg base "slide_square" ["one","other","begin","end"] 8 (D6 2103))(T:Txt mg):Fn P w K mg base "measured_squares" ["one","other","fence","way"] 9 IS:=by
 refine Bb.fn AB (fun _ _ _ _ _ _ us hl=>by obtain⟨_,_,_,_,rfl⟩:=ir hl;rfl) (fun vs H Q E h=>?_) (fun f cdv A outer s H vs Q E hr h=>?_)
 ·obtain⟨l1,l2,l,qs,rs,ps,wy,rfl,_⟩:=h
  rfl
 ·obtain⟨l1,l2,l,qs,rs,ps,wy,rfl,⟨L1,n1,n20⟩,⟨L2,m1,m20⟩,PP,hlen,⟨hne,hin,hst⟩,k⟩:=h
  have hq100:aP qs≤100:=by unfold aP;omega
  have hr100:aP rs≤100:=by unfold aP;omega
  have CN:AX (aN CX0 P w K mg base ["one","other","fence","way","squares","begin","end"] "measured_squares" (ag (top 62)) f cdv A outer s H E).nox (ib ((aA (top 62)).getD 0 (.Pass ⟨0,0,0,0⟩))) [("other",s.heap.objs.size+2),("one",s.heap.objs.size+1)] "pair" [("one",0),("other",1)] :=
   ⟨by rfl,rfl,by decide +kernel,by decide +kernel,rfl,(fun p hp=>by simp only[List.mem_cons,List.not_mem_nil,or_false]at hp;rcases hp with rfl|rfl <;> rfl),by rfl,by decide +kernel,(fun p hp=>by simp only[List.mem_cons,List.not_mem_nil,or_false]at hp;rcases hp with rfl|rfl <;> exact⟨rfl,rfl,.inr (.inl rfl),rfl,rfl⟩),⟨rfl,rfl⟩,rfl⟩
  refine⟨_,(af (jg (j:=4) rfl CN AB.nd rfl rfl (cW (pv 2)) (fun fp s₀ H₀=>(gZ DI (hr.mono (by decide)) (by rfl) (aa (pv 1) (aa (aj (fJ (K:=K) rfl) (pv 0) ac (fun _ _=>rfl)) (aa (pv 2) (aa (aj (fJ (K:=K) rfl) (pv 0) ac (fun _ _=>rfl)) ae))))))) (af (eV PassesOwn.never rfl (mE rfl T.z_zip (aa (pv 2) (aa (dR eF (pv 2) (dl ac) fE) ae))) (cJ rfl (aH (aI (i:=5) AB.nd rfl (Or.inl rfl)) (aH (aI (i:=6) AB.nd rfl (Or.inl rfl)) cn))) (ah (aF (aM (ao AJ (hr.mono (by decide)) (by rfl) (aa (pv 5) (aa (pv 6) (aa (pv 3) ae))))) (ah (eS (fg F.plainAttrs_list F.slot_list_append F.type_list_append eK (pv 4) (aa (ao BZ (hr.mono (by decide)) (by rfl) (aa (pv 0) (aa (pv 1) (aa (pv 5) (aa (pv 6) ae))))) ae)))) aw))) (ah (am (pv 4))))),?_⟩;refine⟨_,rfl,l,rfl,⟨_,SqL.of PP.lst⟩,jd (SqL.of PP.lst) (by rw[aV];omega) (fun i v H'=>∃(q:Pr) (r:Addr) (s w:Int),v = .ref r∧ps[i]? = some q∧zV (sqF qs q.a q.b rs q.c q.d) (sqD q.b q.d) s w∧(au s≤2103∧au w≤2103)∧H' r=some (.tup [.int s,.int w])) (fun i v H H' st ⟨q,r,s,w,e,hq,fr,bd,c⟩=>⟨q,r,s,w,e,hq,fr,bd,st _ _ c⟩) ?_ ?_⟩
  ·intro i x H2 Kc hx s2 kk
   obtain⟨q,hq,rfl⟩:=cV hx;have mq:=List.mem_of_getElem? hq;have pq:=(PP.mono s2).pr q mq;have hi:=hin q mq;have plx:=pq.plx hi hq100;have ply:=pq.ply hi hr100;refine⟨_,rfl,_,rfl,q.p,_,_,_,rfl,rfl,SqT.of pq.p_,rfl,_,rfl,_,rfl,q.p,_,_,_,rfl,rfl,SqT.of pq.p_,rfl,l1,l2,qs,rs,_,_,rfl,L1.mono s2,L2.mono s2,⟨n1,n20⟩,⟨m1,m20⟩,plx.th,ply.th,.inr ⟨q.x,q.a,q.b,rfl,plx,.inr ⟨q.y,q.c,q.d,rfl,ply,fun r s' w' H3 fr f3 s3=>?_⟩⟩⟩;exact kk _ _ s3 ⟨q,r,s',w',rfl,hq,fr,⟨f3.ba,f3.bb⟩,f3.at_⟩
  ·intro l5 ys H9 nl5 s9 f9 hly hr
   rw[aV]at hly;obtain⟨gs,hgl,hg⟩:=rA (β:=Addr×Int×Int) ys (fun i v g=>v = .ref g.1∧∃q,ps[i]? = some q∧zV (sqF qs q.a q.b rs q.c q.d) (sqD q.b q.d) g.2.1 g.2.2∧(au g.2.1≤2103∧au g.2.2≤2103)∧H9 g.1=some (.tup [.int g.2.1,.int g.2.2])) fun i x hx=>by
    obtain⟨q,r,s',w',rfl,hq,fr,bd,c⟩:=hr i x hx;exact⟨(r,s',w'),rfl,q,hq,fr,bd,c⟩
   have hgi:∀(i:Nat) g,gs[i]? = some g->∃q,ps[i]? = some q∧zV (sqF qs q.a q.b rs q.c q.d) (sqD q.b q.d) g.2.1 g.2.2∧(au g.2.1≤2103∧au g.2.2≤2103)∧H9 g.1=some (.tup [.int g.2.1,.int g.2.2]):=fun i g hg'=>by
    obtain⟨y,hy⟩:=uV hgl.symm hg';exact(hg i y g hy hg').2
   have F9:Je H9 l5 gs:=by
    refine⟨by rw[f9];exact congrArg _ (congrArg _ (xY hgl fun i x g hx hg'=>(hg i x g hx hg').1)),fun g hgm=>?_⟩;obtain⟨i,hi,e⟩:=List.getElem_of_mem hgm;obtain⟨q,hq,fr,bd,c⟩:=hgi i g (by rw[List.getElem?_eq_getElem hi,e]);exact⟨c,fr.low.pos,ai bd.1 (by decide),ai bd.2 (by decide)⟩
   have G9:HL H9 l5 qs rs wy ps 0 gs:=by
    refine⟨F9,⟨by omega,by omega⟩,fun g hgm=>?_,fun a b c d h=>?_⟩
    ·obtain⟨i,hi,e⟩:=List.getElem_of_mem hgm
     obtain⟨q,hq,fr,bd,c⟩:=hgi i g (by rw[List.getElem?_eq_getElem hi,e]);have mq:=List.mem_of_getElem? hq;exact⟨bd.1,bd.2,_,fH (PP.pr q mq).lx (PP.pr q mq).ly fr,fun a b c d h=>.inl ⟨q,mq,h⟩⟩
    ·rcases h with⟨q,hq,h⟩|⟨j,u',v',hj,_⟩
     ·obtain⟨j,hj,e⟩:=List.getElem_of_mem hq
      have hj':ps[j]? = some q:=by rw[List.getElem?_eq_getElem hj,e]
      obtain⟨g',hg'⟩:=uV (ys:=gs) (by omega) hj';obtain⟨q',hq',fr',_,_⟩:=hgi j g' hg';rw[hj']at hq';cases hq';exact⟨g',List.mem_of_getElem? hg',_,fH (PP.pr q hq).lx (PP.pr q hq).ly fr',h⟩
     ·omega
   have P9:=PP.mono s9;refine⟨_,rfl,_,rfl,_,rfl,l,_,rfl,SqL.of P9.lst,fun l2' H4 s4 f4 n4=>?_⟩;rw[jK]at f4;have n25:l2'≠l5:=(aS F9.lst n4).symm;have G4:HL H4 l5 qs rs wy ps 0 gs:=⟨G9.fr.mono s4,G9.len,G9.a,G9.b⟩;have P4:=P9.mono s4;refine⟨l,l2',rfl,⟨_,SqL.of P4.lst⟩,⟨_,SqL.of f4⟩,mO (K:=K) (xs:=prs ps) (ys:=prs (ps.drop 1)) (fun i σ H5=>∃z1 z2 gs,σ = [some (.ref l1),some (.ref l2),some (.ref l),some (.str wy),some (.ref l5),z1,z2]∧HL H5 l5 qs rs wy ps i gs∧H5 l2'=some (.lst (prs (ps.drop 1)))∧Same H H5)
    ⟨_,_,gs,rfl,G4,f4,s9.trans s4⟩ (fun i σ H5 _ ⟨_,_,_,_,_,f5,s5⟩=>⟨SqL.of (s5 _ _ PP.lst),SqL.of f5⟩) ?_ ?_⟩
   ·rintro i x y pp σ H5 H6 hx hy ⟨z1,z2,gs,rfl,G5,f5,s5⟩ s6 f6
    obtain⟨u,hu,rfl⟩:=cV hx;obtain⟨v,hv,rfl⟩:=cV hy;have hv':ps[i+1]? = some v:=by rw[List.getElem?_drop]at hv;rw[Nat.add_comm];exact hv
    have S6:=s5.trans s6;have mu:=List.mem_of_getElem? hu;have mv:=List.mem_of_getElem? hv';have hi:=(List.getElem?_eq_some_iff.mp hv').1;have pu:=(PP.pr u mu).t S6.t;have qv:=(PP.pr v mv).t S6.t;refine⟨pp,_,rfl,SqT.of f6,rfl,_,_,rfl,_,_,rfl,rfl,?_⟩;refine⟨_,rfl,_,rfl,_,rfl,u,v,wy,rfl,pu,qv,fun H7 s7=>⟨_,rfl,aB (fun c=>?_) (fun c=>?_)⟩⟩
    ·have S7:=S6.trans s7
     have G7:HL H7 l5 qs rs wy ps i gs:=⟨G5.fr.mono (s6.trans s7),G5.len,G5.a,G5.b⟩;refine⟨_,rfl,.inl ⟨rfl,_,SqL.of G7.fr.lst⟩,_,rfl,_,rfl,_,rfl,_,rfl,l1,l2,qs,rs,u,v,rfl,⟨L1.mono S7,n1,n20⟩,⟨L2.mono S7,m1,m20⟩,⟨pu.t s7.t,hin u mu⟩,⟨qv.t s7.t,hin v mv⟩,ox c (dJ.mp hst i u v hu hv'),fun r s' w' H8 fr ms s8=>?_⟩;have G8:HL H8 l5 qs rs wy ps i gs:=⟨G7.fr.mono s8,G7.len,G7.a,G7.b⟩;refine⟨l5,_,_,rfl,rfl,G8.fr.lst,cG (by rw[List.length_map];have:=G8.len;omega),fun H9 u9=>?_⟩;exact⟨_,_,_,rfl,G8.step hu hv' c fr ms u9,u9.at n25 (s8 _ _ (s7 _ _ (s6 _ _ f5))),u9.same (S7.trans s8) nl5⟩
    ·exact⟨_,_,gs,rfl,(⟨G5.fr.mono (s6.trans s7),G5.len,G5.a,G5.b⟩:HL H7 l5 qs rs wy ps i gs).skip hu hv' c,s7 _ _ (s6 _ _ f5),S6.trans s7⟩
   ·rintro σ H5 ⟨z1,z2,gs,rfl,G5,f5,s5⟩
    have h0:=List.length_pos_iff.mpr hne;exact⟨_,rfl,k l5 gs H5 G5.fr ⟨by have:=G5.len;omega,by have:=G5.len;rw[aV,aV,List.length_drop]at this;omega⟩ G5.a (fun a b c d h=>G5.b a b c d (wu (by rw[aV,aV,List.length_drop];omega) h)) s5⟩
theorem DH:zQ ["one","other","fence","way","squares"] ["one","other","fence","way"] (ag (top 63)):=smk
theorem jx{C C9:Addr}(Cm:HN K mg "fence_square" (top 63) [.str "on"])(Bv:AW K mg "NoFence" C9)(Eo:Fx P w K mg base "is_fence" ["one","other","thing","way"] 8 [.str "on"] (EQ C))(A7:Fn P w K mg base "measured_squares" ["one","other","fence","way"] 9 IS)(Bj:Fn P w K mg base "number_of_least" ["fractions"] 2 HW):Fx P w K mg base "fence_square" ["one","other","fence","way"] 10 [.str "on"] (Ii C9):=by
 refine Cm.fx DH (fun T kV doc pm an cdv ct us its oT n s hv hl ho hs=>?_) (fun T kV doc pm an cdv ct us its oT n s hv hl ho hs=>?_) (fun vs H Q E h=>?_) (fun f cdv A outer s H vs Q E hr h=>?_)
 ·obtain⟨u,rfl,_⟩:=cT hv
  obtain⟨_,_,_,_,rfl⟩:=ir hl;exact BindsTo.of_defaults rfl ho hs rfl rfl
 ·obtain⟨u,rfl,_⟩:=cT hv
  have hl1:us.length=3:=by simpa using hl
  obtain⟨_,_,_,rfl⟩:=fI hl1;exact BindsTo.of_defaults rfl ho hs rfl rfl
 ·obtain⟨l1,l2,l,qs,rs,ps,wy,rfl,_⟩:=h
  rfl
 ·obtain⟨l1,l2,l,qs,rs,ps,wy,rfl,⟨L1,h1,h20⟩,⟨L2,g1,g20⟩,PP,hlen,hw,kE,kQ⟩:=h
  refine⟨_,(af (aF (bq (aM (dj Eo (hr.mono (by decide)) (by rfl) (aa (pv 0) (aa (pv 1) (aa (pv 2) (aa (pv 3) ae))))))) (ah (cU Bv (by rfl))) aw) (af (av (i:=4) DH.nd rfl (Or.inl rfl) (ao A7 (hr.mono (by decide)) (by rfl) (aa (pv 0) (aa (pv 1) (aa (pv 2) (aa (pv 3) ae)))))) (ah (am (aj aC (pv 4) (ao Bj (hr.mono (by decide)) (by rfl) (aa (pv 4) ae)) (fun _ _=>rfl)))))),?_⟩;have hql:(qs.map fun (q:Addr×Int×Int)=>V.ref q.1).length=qs.length:=List.length_map _;have hrl:(rs.map fun (q:Addr×Int×Int)=>V.ref q.1).length=rs.length:=List.length_map _;refine⟨_,rfl,_,rfl,_,rfl,_,rfl,l1,l2,_,_,_,_,_,rfl,⟨L1.lst,by rw[hql];omega⟩,⟨L2.lst,by rw[hrl];omega⟩,PP.th (by omega),.str _,.inl ⟨wy,rfl,hw,fun b H1 s1 wv=>⟨_,rfl,aB (fun c=>?_) (fun c=>?_)⟩⟩⟩
  ·have hb:b=false:=by simpa only[Bool.not_eq_true']using c
   rw[hql,hrl]at wv;exact kE (by rw[<- hb];exact(l6 PP wv).symm) H1 s1
  have hb:b=true:=by simpa only[Bool.not_eq_false']using c
  rw[hql,hrl]at wv;have hwB:bQ (aP qs) (aP rs) wy ps=true:=by rw[<- hb];exact(l6 PP wv).symm
  refine⟨_,rfl,_,rfl,_,rfl,_,rfl,l1,l2,l,qs,rs,ps,wy,rfl,⟨L1.mono s1,h1,h20⟩,⟨L2.mono s1,g1,g20⟩,PP.mono s1,hlen,lZ hwB,fun r gs H2 F2 hg A B s2=>?_⟩;refine⟨_,rfl,_,rfl,r,gs,rfl,F2,hg,fun k p H3 hk hle _ s3=>?_⟩;have F3:=F2.mono s3;have mp:=List.mem_of_getElem? hk;obtain⟨b1,b2,S,ms,sub⟩:=A p mp;refine⟨r,_,_,_,rfl,rfl,SqL.of F3.lst,dP (j:=k) (v:=.ref p.1) (by rw[List.getElem?_map,hk];rfl),kQ hwB p.1 p.2.1 p.2.2 H3 ⟨(F3.fr p mp).1,ms.low,b1,b2⟩ ⟨ms.low,fun a b c d la lc h=>?_,?_⟩ (s1.trans (s2.trans s3))⟩
  ·obtain⟨g,hg,S',ms',h'⟩:=B a b c d h
   exact qH ms'.low.pos ms.low.pos (fC la.pos lc.pos) (ms'.least a b c d la lc h') (hle g hg)
  ·obtain⟨a,b,c,d,la,lc,h,e⟩:=ms.att
   exact⟨a,b,c,d,la,lc,sub a b c d h,e⟩
theorem AN:zQ ["line","place","at","rest","x","y"] ["line","place"] (ag (top 111)):=smk
theorem jr(Cf:Df K mg "_law_point_at" (top 111)):Fn P w K mg base "_law_point_at" ["line","place"] 1 Hu:=by
 refine Cf.fn AN (fun _ _ _ _ _ _ us hl=>by obtain⟨_,_,rfl⟩:=cO hl;rfl) (fun vs H Q E h=>?_) (fun f cdv A outer s H vs Q E hr h=>?_)
 ·obtain⟨l,p,qs,t,b,rfl,_⟩:=h
  rfl
 ·obtain⟨l,p,qs,t,b,rfl,L,h1,pl,k⟩:=h
  refine⟨_,(af (av (i:=2) AN.nd rfl (Or.inl rfl) (ap cv (aj ak (pv 1) ac (fun _ _=>rfl)) (aj ak (pv 1) ac (fun _ _=>rfl)))) (af (av (i:=3) AN.nd rfl (Or.inl rfl) (ap dE (aj ak (pv 1) ac (fun _ _=>rfl)) (aj ak (pv 1) ac (fun _ _=>rfl)))) (af (aF (ar aW (pv 3) ac (aq _)) (ah (am (aG (aa (aj ak (aj aC (pv 0) (pv 2) (fun _ _=>rfl)) ac (fun _ _=>rfl)) (aa (aj ak (aj aC (pv 0) (pv 2) (fun _ _=>rfl)) ac (fun _ _=>rfl)) (aa ac ae)))))) aw) (af (av (i:=4) AN.nd rfl (Or.inl rfl) (ap bz (ap aJ (aj ak (aj aC (pv 0) (pv 2) (fun _ _=>rfl)) ac (fun _ _=>rfl)) (ap bE (aj ak (pv 1) ac (fun _ _=>rfl)) (pv 3))) (ap aJ (aj ak (aj aC (pv 0) (ap bz (pv 2) ac) (fun _ _=>rfl)) ac (fun _ _=>rfl)) (pv 3)))) (af (av (i:=5) AN.nd rfl (Or.inl rfl) (ap bz (ap aJ (aj ak (aj aC (pv 0) (pv 2) (fun _ _=>rfl)) ac (fun _ _=>rfl)) (ap bE (aj ak (pv 1) ac (fun _ _=>rfl)) (pv 3))) (ap aJ (aj ak (aj aC (pv 0) (ap bz (pv 2) ac) (fun _ _=>rfl)) ac (fun _ _=>rfl)) (pv 3)))) (ah (am (aG (aa (pv 4) (aa (pv 5) (aa (aj ak (pv 1) ac (fun _ _=>rfl)) ae))))))))))),?_⟩;have hb:(0:Int)<b:=pl.low.pos;have e:=pl.at_;have hll:(qs.map fun (q:Addr×Int×Int)=>V.ref q.1).length=qs.length:=List.length_map _;have q0:0≤t / b:=lV hb pl.lo;have qn:t / b≤(qs.length:Int) - 1:=Int.ediv_le_of_le_mul hb pl.hi;have m0:=Int.emod_nonneg t (show b≠0 by omega);have m1:=Int.emod_lt_of_pos t hb;have em:=Int.emod_add_mul_ediv t b;have atq:∀(j:Nat) (k:Int),k=(j:Int)->j<qs.length->atI (qs.map fun (q:Addr×Int×Int)=>V.ref q.1) k=some (.ref (qs.getD j (0,0,0)).1)∧qs.getD j (0,0,0)∈qs:=fun j k ek hj=>by
   have e1:qs.getD j (0,0,0)=qs[j]:=by rw[List.getD_eq_getElem?_getD,List.getElem?_eq_getElem hj];rfl
   rw[e1];subst ek;exact⟨dP (by rw[List.getElem?_map,List.getElem?_eq_getElem hj];rfl),List.getElem_mem hj⟩
  obtain⟨a0,mm0⟩:=atq (t / b).toNat (t / b) (by omega) (by omega);have c0:=L.crn _ mm0;refine⟨_,rfl,p,_,_,_,rfl,rfl,SqT.of e,rfl,_,rfl,p,_,_,_,rfl,rfl,SqT.of e,rfl,_,_,rfl,rfl,⟨hb,ai pl.bb (by decide)⟩,?_⟩;refine⟨_,rfl,p,_,_,_,rfl,rfl,SqT.of e,rfl,_,rfl,p,_,_,_,rfl,rfl,SqT.of e,rfl,_,_,rfl,rfl,hb,?_⟩;refine⟨_,rfl,rfl,_,rfl,aB (fun c=>?_) (fun c=>?_)⟩
  ·have hr:t % b=0:=by
    have:=bF c;injection this
   have hb1:b=1:=by
    have d:(b.natAbs)∣(Int.gcd t b):=Int.dvd_gcd (Int.natAbs_dvd.mpr (Int.dvd_of_emod_eq_zero hr)) (Int.natAbs_dvd.mpr (Int.dvd_refl b));rw[pl.low.one]at d;have:=Nat.le_of_dvd (by decide) d;omega
   subst hb1;refine⟨_,rfl,_,rfl,l,_,_,_,rfl,rfl,SqL.of L.lst,a0,_,_,_,_,rfl,rfl,SqT.of c0.1,rfl,_,rfl,_,rfl,l,_,_,_,rfl,rfl,SqL.of L.lst,a0,_,_,_,_,rfl,rfl,SqT.of c0.1,rfl,sz (by simp),fun r H1 s1 f1 n1=>k r H1 ?_ s1⟩;rw[f1];unfold ptX ptY Sp11.numAt gS;rw[hr];simp
  ·have hr:¬t % b=0:=fun z=>by
    have c':decide (V.int (t % b)=V.int 0)=false:=c;rw[z]at c';exact absurd c' (by decide)
   have hlt:t / b<(qs.length:Int) - 1:=by
    rcases Int.lt_or_eq_of_le qn with h|h
    ·exact h
    ·exfalso
     have:=pl.hi;unfold aP at this;rw[h,Int.mul_comm]at em;omega
   obtain⟨a1,mm1⟩:=atq ((t / b).toNat+1) (t / b+1) (by omega) (by omega);have c1:=L.crn _ mm1;have em1:min ((t / b).toNat+1) (qs.length - 1)=(t / b).toNat+1:=by omega
   have bm:au (t % b)≤200:=tq hb pl.bb;have bd:au (b - t % b)≤201:=bG pl.bb bm;refine⟨_,rfl,_,rfl,l,_,_,_,rfl,rfl,SqL.of L.lst,a0,_,_,_,_,rfl,rfl,SqT.of c0.1,rfl,_,rfl,p,_,_,_,rfl,rfl,SqT.of e,rfl,_,rfl,_,_,rfl,rfl,_,_,rfl,rfl,CM.b c0.2.1 bd (by decide) (by decide),_,rfl,_,rfl,_,_,rfl,rfl,l,_,_,_,rfl,rfl,SqL.of L.lst,a1,_,_,_,_,rfl,rfl,SqT.of c1.1,rfl,_,rfl,_,_,rfl,rfl,CM.b c1.2.1 bm (by decide) (by decide),_,_,rfl,rfl,?_⟩;refine⟨_,rfl,_,rfl,l,_,_,_,rfl,rfl,SqL.of L.lst,a0,_,_,_,_,rfl,rfl,SqT.of c0.1,rfl,_,rfl,p,_,_,_,rfl,rfl,SqT.of e,rfl,_,rfl,_,_,rfl,rfl,_,_,rfl,rfl,CM.b c0.2.2 bd (by decide) (by decide),_,rfl,_,rfl,_,_,rfl,rfl,l,_,_,_,rfl,rfl,SqL.of L.lst,a1,_,_,_,_,rfl,rfl,SqT.of c1.1,rfl,_,rfl,_,_,rfl,rfl,CM.b c1.2.2 bm (by decide) (by decide),_,_,rfl,rfl,?_⟩;refine⟨_,rfl,_,rfl,_,rfl,p,_,_,_,rfl,rfl,SqT.of e,rfl,sz (by simp),fun r H1 s1 f1 n1=>k r H1 ?_ s1⟩;have eX:(qs.getD (t / b).toNat (0,0,0)).2.1*(b - t % b)+(qs.getD ((t / b).toNat+1) (0,0,0)).2.1*(t % b)=ptX qs t b:=by
    unfold ptX Sp11.numAt gS h8;rw[em1];exact yV _ _ _ _
   have eY:(qs.getD (t / b).toNat (0,0,0)).2.2*(b - t % b)+(qs.getD ((t / b).toNat+1) (0,0,0)).2.2*(t % b)=ptY qs t b:=by
    unfold ptY Sp11.numAt gS h8;rw[em1];exact yV _ _ _ _
   rw[<- eX,<- eY];exact f1
theorem Ah:zQ ["one","x","other","y","a","b","c","d","e","f"] ["one","x","other","y"] (ag (top 112)):=smk
theorem i0(BP:Df K mg "_law_square_of" (top 112))(An:Fn P w K mg base "_law_point_at" ["line","place"] 1 Hu)(At:Fn P w K mg base "_law_ratio" ["top","bottom"] 2 FB):Fn P w K mg base "_law_square_of" ["one","x","other","y"] 3 Gs:=by
 refine BP.fn Ah (fun _ _ _ _ _ _ us hl=>by obtain⟨_,_,_,_,rfl⟩:=ir hl;rfl) (fun vs H Q E h=>?_) (fun f cdv A outer s H vs Q E hr h=>?_)
 ·obtain⟨l,p,l',p',qs,qs',t,b,t',b',rfl,_⟩:=h
  rfl
 ·obtain⟨l,p,l',p',qs,qs',t,b,t',b',rfl,L,L',h1,h1',pl,pl',k⟩:=h
  refine⟨_,(af (cI (ao An (hr.mono (by decide)) (by rfl) (aa (pv 0) (aa (pv 1) ae))) (cJ rfl (aH (aI (i:=4) Ah.nd rfl (Or.inl rfl)) (aH (aI (i:=5) Ah.nd rfl (Or.inl rfl)) (aH (aI (i:=6) Ah.nd rfl (Or.inl rfl)) cn))))) (af (cI (ao An (hr.mono (by decide)) (by rfl) (aa (pv 2) (aa (pv 3) ae))) (cJ rfl (aH (aI (i:=7) Ah.nd rfl (Or.inl rfl)) (aH (aI (i:=8) Ah.nd rfl (Or.inl rfl)) (aH (aI (i:=9) Ah.nd rfl (Or.inl rfl)) cn))))) (ah (am (ao At (hr.mono (by decide)) (by rfl) (aa (ap bz (ap jA (ap bE (ap aJ (pv 4) (pv 9)) (ap aJ (pv 7) (pv 6))) ac) (ap jA (ap bE (ap aJ (pv 5) (pv 9)) (ap aJ (pv 8) (pv 6))) ac)) (aa (ap aJ (ap aJ (ap aJ (pv 6) (pv 6)) (pv 9)) (pv 9)) ae))))))),?_⟩;have hb:(0:Int)<b:=pl.low.pos;have hb':(0:Int)<b':=pl'.low.pos;have B:=gq (t:=t) L hb pl.bb;have B':=gq (t:=t') L' hb' pl'.bb;have cm:∀{u v:Int},au u≤262->au v≤262->CM u v:=fun hu hv=>CM.b hu hv (by decide) (by decide);have w120:∀{u:Int},au u≤200->au u≤262:=fun h=>ai h (by decide);refine⟨_,rfl,_,rfl,l,p,qs,t,b,rfl,L,h1,pl,fun ra H1 fa s1=>?_⟩;refine⟨ra,_,rfl,SqT.of fa,rfl,_,_,rfl,_,_,rfl,_,_,rfl,rfl,?_⟩;refine⟨_,rfl,_,rfl,l',p',qs',t',b',rfl,L'.mono s1,h1',pl'.mono s1,fun rb H2 fb s2=>?_⟩;refine⟨rb,_,rfl,SqT.of fb,rfl,_,_,rfl,_,_,rfl,_,_,rfl,rfl,?_⟩;have bw:au (ptX qs t b*b' - ptX qs' t' b'*b)≤525:=bG (bits_mul B.1 (w120 pl'.bb)) (bits_mul B'.1 (w120 pl.bb));have bh:au (ptY qs t b*b' - ptY qs' t' b'*b)≤525:=bG (bits_mul B.2 (w120 pl'.bb)) (bits_mul B'.2 (w120 pl.bb));refine⟨_,rfl,_,rfl,_,_,rfl,rfl,cm B.1 (w120 pl'.bb),_,rfl,_,rfl,_,_,rfl,rfl,cm B'.1 (w120 pl.bb),_,_,rfl,rfl,_,_,rfl,rfl,wH bw (by decide),?_⟩;refine⟨_,rfl,_,rfl,_,_,rfl,rfl,cm B.2 (w120 pl'.bb),_,rfl,_,rfl,_,_,rfl,rfl,cm B'.2 (w120 pl.bb),_,_,rfl,rfl,_,_,rfl,rfl,wH bh (by decide),_,_,rfl,rfl,?_⟩;have b2:au (b*b)≤400:=bits_mul pl.bb pl.bb;have b3:au (b*b*b')≤600:=bits_mul b2 pl'.bb;have b4:au (b*b*b'*b')≤800:=bits_mul b3 pl'.bb;refine⟨_,rfl,_,rfl,_,_,rfl,rfl,CM.b pl.bb pl.bb (by decide) (by decide),_,rfl,_,_,rfl,rfl,CM.b b2 pl'.bb (by decide) (by decide),_,rfl,_,_,rfl,rfl,CM.b b3 pl'.bb (by decide) (by decide),?_⟩;have eN:(ptX qs t b*b' - ptX qs' t' b'*b)^(2:Int).toNat+(ptY qs t b*b' - ptY qs' t' b'*b)^(2:Int).toNat=sqF qs t b qs' t' b':=by
   show(ptX qs t b*b' - ptX qs' t' b'*b)^2+(ptY qs t b*b' - ptY qs' t' b'*b)^2=_;unfold sqF sqN;generalize ptX qs t b=X;generalize ptX qs' t' b'=X';generalize ptY qs t b=Y;generalize ptY qs' t' b'=Y'
   grind
  have eD:b*b*b'*b'=sqD b b':=by unfold sqD;grind
  have bN:au (sqF qs t b qs' t' b')≤1051:=by
   rw[<- eN];show au ((ptX qs t b*b' - ptX qs' t' b'*b)^2+(ptY qs t b*b' - ptY qs' t' b'*b)^2)≤1051;rw[Int.pow_succ,Int.pow_succ,Int.pow_zero,Int.one_mul,Int.pow_succ,Int.pow_succ,Int.pow_zero,Int.one_mul];exact cF (bits_mul bw bw) (bits_mul bh bh)
  rw[eD]at b4;have hD:=fC hb hb';refine⟨sqF qs t b qs' t' b',sqD b b',by rw[<- eN,<- eD];rfl,⟨hD,ai b4 (by decide)⟩,fun r s' w' H3 fr es ew s3 f3 n3=>k r s' w' H3 fr ⟨f3,fr.low,?_,?_⟩ (s1.trans (s2.trans s3))⟩
  ·rw[es]
   exact ai (cH (dO (by omega)) bN) (by decide)
  ·rw[ew]
   exact ai (cH (dO (by omega)) b4) (by decide)
theorem Au:zQ ["line","at","point","ax","ay","bx","by","wide","x","y","down","top"] ["line","at","point"] (ag (top 114)):=smk
theorem oW(Ew:Df K mg "_law_foot" (top 114))(At:Fn P w K mg base "_law_ratio" ["top","bottom"] 2 FB):Fn P w K mg base "_law_foot" ["line","at","point"] 3 GZ:=by
 refine Ew.fn Au (fun _ _ _ _ _ _ us hl=>by obtain⟨_,_,_,rfl⟩:=fI hl;rfl) (fun vs H Q E h=>?_) (fun f cdv A outer s H vs Q E hr h=>?_)
 ·obtain⟨l,pp,qs,kk,X,Y,b,rfl,_⟩:=h
  rfl
 ·obtain⟨l,pp,qs,kk,X,Y,b,rfl,L,n20,kn,ep,hb,bX,bY,bb,k⟩:=h
  refine⟨_,(af (cI (aj aC (pv 0) (pv 1) (fun _ _=>rfl)) (cJ rfl (aH (aI (i:=3) Au.nd rfl (Or.inl rfl)) (aH (aI (i:=4) Au.nd rfl (Or.inl rfl)) cn)))) (af (cI (aj aC (pv 0) (ap bz (pv 1) ac) (fun _ _=>rfl)) (cJ rfl (aH (aI (i:=5) Au.nd rfl (Or.inl rfl)) (aH (aI (i:=6) Au.nd rfl (Or.inl rfl)) cn)))) (af (av (i:=7) Au.nd rfl (Or.inl rfl) (ap bz (ap jA (ap bE (pv 5) (pv 3)) ac) (ap jA (ap bE (pv 6) (pv 4)) ac))) (af (aF (ar aW (pv 7) ac (aq _)) (ah (am (aG (aa (pv 1) (aa ac ae))))) aw) (af (cI (pv 2) (cJ rfl (aH (aI (i:=8) Au.nd rfl (Or.inl rfl)) (aH (aI (i:=9) Au.nd rfl (Or.inl rfl)) (aH (aI (i:=10) Au.nd rfl (Or.inl rfl)) cn))))) (af (av (i:=11) Au.nd rfl (Or.inl rfl) (ap bz (ap aJ (ap bE (pv 8) (ap aJ (pv 3) (pv 10))) (ap bE (pv 5) (pv 3))) (ap aJ (ap bE (pv 9) (ap aJ (pv 4) (pv 10))) (ap bE (pv 6) (pv 4))))) (ah (am (ao At (hr.mono (by decide)) (by rfl) (aa (ap bz (pv 11) (ap aJ (ap aJ (pv 1) (pv 7)) (pv 10))) (aa (ap aJ (pv 7) (pv 10)) ae))))))))))),?_⟩;have atq:∀(j:Nat),j<qs.length->atI (qs.map fun (q:Addr×Int×Int)=>V.ref q.1) (j:Int)=some (.ref (qs.getD j (0,0,0)).1)∧qs.getD j (0,0,0)∈qs:=fun j hj=>by
   have e1:qs.getD j (0,0,0)=qs[j]:=by rw[List.getD_eq_getElem?_getD,List.getElem?_eq_getElem hj];rfl
   rw[e1];exact⟨dP (by rw[List.getElem?_map,List.getElem?_eq_getElem hj];rfl),List.getElem_mem hj⟩
  obtain⟨a0,mm0⟩:=atq kk (by omega);obtain⟨a1,mm1⟩:=atq (kk+1) kn;have c0:=L.crn _ mm0;have c1:=L.crn _ mm1;have SL:=SqL.of (K:=K) L.lst;have w1:=bG c1.2.1 c0.2.1;have w2:=bG c1.2.2 c0.2.2;have cm:∀{u v:Int} {i j:Nat},au u≤i->au v≤j->i≤1000->j≤1000->CM u v:=fun h1 h2 a b=>CM.b h1 h2 (by omega) (by omega);refine⟨_,rfl,_,rfl,l,_,_,_,rfl,rfl,SL,a0,_,_,rfl,SqT.of c0.1,rfl,_,_,rfl,_,_,rfl,rfl,?_⟩;refine⟨_,rfl,_,rfl,_,_,rfl,rfl,l,_,_,_,rfl,rfl,SL,a1,_,_,rfl,SqT.of c1.1,rfl,_,_,rfl,_,_,rfl,rfl,?_⟩;refine⟨_,rfl,_,rfl,_,_,rfl,rfl,_,_,rfl,rfl,wH w1 (by decide),_,rfl,_,rfl,_,_,rfl,rfl,_,_,rfl,rfl,wH w2 (by decide),_,_,rfl,rfl,?_⟩;have eL:((qs.getD (kk+1) (0,0,0)).2.1 - (qs.getD kk (0,0,0)).2.1)^(2:Int).toNat+((qs.getD (kk+1) (0,0,0)).2.2 - (qs.getD kk (0,0,0)).2.2)^(2:Int).toNat=kL qs kk:=by
   show((qs.getD (kk+1) (0,0,0)).2.1 - (qs.getD kk (0,0,0)).2.1)^2+((qs.getD (kk+1) (0,0,0)).2.2 - (qs.getD kk (0,0,0)).2.2)^2=_;unfold kL dL cX cY;rw[Int.pow_succ,Int.pow_succ,Int.pow_zero,Int.one_mul,Int.pow_succ,Int.pow_succ,Int.pow_zero,Int.one_mul]
  have bL:=rD L kk;have bA:=we (X:=X) (Y:=Y) (b:=b) L kk bX bY bb;have bk:au (kk:Int)≤10:=bV (by omega) (by omega);have x1:=bG bX (ai (bits_mul c0.2.1 bb) (show 110≤262 by decide));have x2:=bG bY (ai (bits_mul c0.2.2 bb) (show 110≤262 by decide));refine⟨_,rfl,rfl,_,rfl,?_⟩;dsimp only;rw[di,eL];refine aB (fun c=>?_) (fun c=>?_)
  ·exact⟨_,rfl,sz (by simp),fun r H1 s1 f1 _=>k r (kk:Int) 1 H1 f1 ⟨by decide,Int.gcd_one⟩ (ai bk (by decide)) (by decide) (.inl (bF c)) s1⟩
  have c:kL qs kk≠0:=ci c;have hL:=oG qs kk;have hLb:0<kL qs kk*b:=Int.mul_pos (by omega) hb;refine⟨_,rfl,pp,_,rfl,SqT.of ep,rfl,_,_,rfl,_,_,rfl,_,_,rfl,rfl,?_⟩;refine⟨_,rfl,_,rfl,_,rfl,_,_,rfl,rfl,cm c0.2.1 bb (by decide) (by decide),_,_,rfl,rfl,_,rfl,_,rfl,_,_,rfl,rfl,_,_,rfl,rfl,cm x1 w1 (by decide) (by decide),_,rfl,_,rfl,_,rfl,_,_,rfl,rfl,cm c0.2.2 bb (by decide) (by decide),_,_,rfl,rfl,_,rfl,_,rfl,_,_,rfl,rfl,_,_,rfl,rfl,cm x2 w2 (by decide) (by decide),_,_,rfl,rfl,?_⟩;have b1:au ((kk:Int)*kL qs kk)≤113:=bits_mul bk bL;have b2:au ((kk:Int)*kL qs kk*b)≤173:=bits_mul b1 bb;have b3:au (kL qs kk*b)≤163:=bits_mul bL bb;refine⟨_,rfl,_,rfl,_,rfl,_,_,rfl,rfl,cm bk bL (by decide) (by decide),_,rfl,_,_,rfl,rfl,cm b1 bb (by decide) (by decide),_,_,rfl,rfl,_,rfl,_,rfl,_,_,rfl,rfl,cm bL bb (by decide) (by decide),_,_,rfl,⟨hLb,ai b3 (by decide)⟩,fun r f0 f1 H1 fr e0 e1 s1 f1' _=>?_⟩;have eA:∀z:Int,(X - (qs.getD kk (0,0,0)).2.1*b)*((qs.getD (kk+1) (0,0,0)).2.1 - (qs.getD kk (0,0,0)).2.1)+(Y - (qs.getD kk (0,0,0)).2.2*b)*((qs.getD (kk+1) (0,0,0)).2.2 - (qs.getD kk (0,0,0)).2.2)+z=kA X Y b qs kk+z:=fun z=>rfl;rw[eA]at fr e0 e1;have bt:au (kA X Y b qs kk+(kk:Int)*kL qs kk*b)≤401:=cF bA (ai b2 (by decide));have hg:=dO (a:=kA X Y b qs kk+(kk:Int)*kL qs kk*b) (b:=kL qs kk*b) (by omega);refine k r f0 f1 H1 f1' fr.low ?_ ?_ (.inr ⟨c,?_⟩) s1
  ·rw[e0]
   exact ai (cH hg bt) (by decide)
  ·rw[e1]
   exact ai (cH hg b3) (by decide)
  ·rw[<- fr.eq,Int.mul_assoc (kk:Int)]
theorem AL:zQ ["one","x","other","low","high","least","foot"] ["one","x","other","low","high"] (ag (top 115)):=smk
theorem hU(Bs:Df K mg "_law_least_along" (top 115))(zX:Fn P w K mg base "_law_square_of" ["one","x","other","y"] 3 Gs)(Ac:Fn P w K mg base "_law_lesser" ["one","other"] 2 (DD fun a b c d=>ltB c d a b))(En:Fn P w K mg base "_law_foot" ["line","at","point"] 3 GZ)(An:Fn P w K mg base "_law_point_at" ["line","place"] 1 Hu)(zS:Fn P w K mg base "_law_below" ["one","other"] 1 Bh):Fn P w K mg base "_law_least_along" ["one","x","other","low","high"] 4 Ia:=by
 refine Bs.fn AL (fun _ _ _ _ _ _ us hl=>by obtain⟨_,_,_,_,_,rfl⟩:=uN hl;rfl) (fun vs H Q E h=>?_) (fun f cdv A outer s H vs Q E hr h=>?_)
 ·obtain⟨l,p,l',q,q',qs,qs',t,b,l1,l2,h1,h2,rfl,_⟩:=h
  rfl
 ·obtain⟨l,p,l',q,q',qs,qs',t,b,l1,l2,h1,h2,rfl,⟨L,n1,n20⟩,⟨L',m1,m20⟩,⟨pl,bb⟩,⟨pq,b2⟩,⟨ph,b4⟩,ins,hle,k⟩:=h
  refine⟨_,(af (av (i:=5) AL.nd rfl (Or.inl rfl) (ao Ac (hr.mono (by decide)) (by rfl) (aa (ao zX (hr.mono (by decide)) (by rfl) (aa (pv 0) (aa (pv 1) (aa (pv 2) (aa (pv 3) ae))))) (aa (ao zX (hr.mono (by decide)) (by rfl) (aa (pv 0) (aa (pv 1) (aa (pv 2) (aa (pv 4) ae))))) ae)))) (af (aF (ar (eW hr.units0) (pv 3) (pv 4) (aq _)) (ah (am (pv 5))) aw) (af (av (i:=6) AL.nd rfl (Or.inl rfl) (ao En (hr.mono (by decide)) (by rfl) (aa (pv 2) (aa (ap cv (aj ak (pv 3) ac (fun _ _=>rfl)) (aj ak (pv 3) ac (fun _ _=>rfl))) (aa (ao An (hr.mono (by decide)) (by rfl) (aa (pv 0) (aa (pv 1) ae))) ae))))) (af (aF (bR (aM (ao zS (hr.mono (by decide)) (by rfl) (aa (pv 3) (aa (pv 6) ae)))) (bU (aM (ao zS (hr.mono (by decide)) (by rfl) (aa (pv 6) (aa (pv 4) ae)))))).pt (ah (av (i:=5) AL.nd rfl (Or.inl rfl) (ao Ac (hr.mono (by decide)) (by rfl) (aa (pv 5) (aa (ao zX (hr.mono (by decide)) (by rfl) (aa (pv 0) (aa (pv 1) (aa (pv 2) (aa (pv 6) ae))))) ae))))) aw) (ah (am (pv 5))))))),?_⟩;have hl:(0:Int)<l2:=pq.low.pos;have hh:(0:Int)<h2:=ph.low.pos;have hb:(0:Int)<b:=pl.low.pos;refine⟨_,rfl,_,rfl,_,rfl,_,rfl,l,p,l',q,qs,qs',t,b,l1,l2,rfl,L,L',⟨n1,n20⟩,⟨m1,m20⟩,pl,pq,fun r1 s1' w1' H1 fr1 f1 s1=>?_⟩;refine⟨_,rfl,_,rfl,_,rfl,_,rfl,l,p,l',q',qs,qs',t,b,h1,h2,rfl,L.mono s1,L'.mono s1,⟨n1,n20⟩,⟨m1,m20⟩,pl.mono s1,ph.mono s1,fun r2 s2' w2' H2 fr2 f2 s2=>?_⟩;have f1:=f1.mono s2;refine⟨r1,r2,s1',w1',s2',w2',rfl,f1.at_,f2.at_,⟨ai f1.ba (by decide),ai f1.bb (by decide),ai f2.ba (by decide),ai f2.bb (by decide)⟩,?_⟩;have S2:=s1.trans s2;obtain⟨r3,s3',w3',e3,f3,m3⟩:=(fH pl.low pq.low fr1).pick (fH pl.low ph.low fr2) f1 f2;dsimp only;rw[e3];refine⟨_,rfl,_,rfl,q,q',[l1,l2],[h1,h2],rfl,rfl,SqT.of (S2 _ _ pq.at_),SqT.of (S2 _ _ ph.at_),_,rfl,?_⟩;rw[if_neg (show ¬(false=true) by decide)];refine aB (fun c=>?_) (fun c=>?_)
  ·have c:[l1,l2] = [h1,h2]:=bF c
   cases c;refine⟨_,rfl,k r3 s3' w3' H2 f3 (m3.congr fun a b' c d la lc=>?_) S2⟩;unfold One Seg;constructor
   ·rintro(⟨h,rfl,rfl⟩|⟨h,rfl,rfl⟩)
    ·exact⟨h,Int.le_refl _,Int.le_refl _⟩
    ·exact⟨h,Int.le_refl _,Int.le_refl _⟩
   ·rintro⟨h,g1,g2⟩
    exact .inl ⟨h,cj lc pq.low (by omega)⟩
  have c:¬[l1,l2] = [h1,h2]:=ci c;obtain⟨kk,st⟩:∃kk:Nat,He qs'.length kk l1 l2 h1 h2:=by
   rcases ins with⟨rfl,rfl⟩|h
   ·exact absurd rfl c
   ·exact h
  have ek:=st.fl hl hh;have TL:=SqT.of (K:=K) (S2 _ _ pq.at_);have B:=gq (t:=t) L hb pl.bb;refine⟨_,rfl,_,rfl,q,_,_,_,rfl,rfl,TL,rfl,_,rfl,q,_,_,_,rfl,rfl,TL,rfl,_,_,rfl,rfl,⟨hl,ai pq.bb (by decide)⟩,_,rfl,_,rfl,l,p,qs,t,b,rfl,L.mono S2,⟨n1,n20⟩,pl.mono S2,fun rp H3 e3' s3=>?_⟩;have S3:=S2.trans s3;refine⟨l',rp,qs',kk,_,_,b,by rw[<- ek];rfl,L'.mono S3,m20,st.kn,e3',hb,B.1,B.2,bb,fun rf f0 f1' H4 ef lf bf0 bf1 hf s4=>?_⟩;have S4:=S3.trans s4;have f4:=f3.mono (s3.trans s4);have lpc:=wz hb pq.low ph.low lf st hf;have fin:∀H5,H5=H4->¬(l1*f1'<f0*l2∧f0*h2<h1*f1')->Q (.ref r3) H5:=fun H5 e5 hno=>by
   subst e5;refine k r3 s3' w3' H5 f4 (oO pl.low pq.low ph.low lf hle lpc _ m3 (fun a b' c d la lc h=>?_) (.inl ⟨⟨rfl,rfl⟩,rfl,rfl⟩) (.inr ⟨⟨rfl,rfl⟩,rfl,rfl⟩) fun x y=>absurd ⟨x,y⟩ hno) S4;rcases h with⟨h,rfl,rfl⟩|⟨h,rfl,rfl⟩
   ·exact⟨h,Int.le_refl _,hle⟩
   ·exact⟨h,hle,Int.le_refl _⟩
  refine⟨_,rfl,_,rfl,q,rf,l1,l2,f0,f1',rfl,S4 _ _ pq.at_,ef,⟨ai pq.bt (by decide),ai pq.bb (by decide),ai bf0 (by decide),ai bf1 (by decide)⟩,_,rfl,aB (fun d1=>?_) (fun d1=>?_)⟩
  ·have d1:l1*f1'<f0*l2:=bF d1
   refine⟨_,rfl,_,rfl,rf,q',f0,f1',h1,h2,rfl,ef,S4 _ _ ph.at_,⟨ai bf0 (by decide),ai bf1 (by decide),ai ph.bt (by decide),ai ph.bb (by decide)⟩,_,rfl,aB (fun d2=>?_) (fun d2=>?_)⟩
   ·have d2:f0*h2<h1*f1':=bF d2
    have hf1:(0:Int)<f1':=lf.pos;have z0:0≤f0:=by
     by_cases c0:0≤f0
     ·exact c0
     ·have y0:=Int.mul_neg_of_neg_of_pos (show f0<0 by omega) hl
      have y1:=Int.mul_nonneg pq.lo (show 0≤f1' by omega);omega
    have z1:f0≤aP qs'*f1':=by
     refine Int.le_of_mul_le_mul_right (a:=h2) ?_ hh;have y0:=Int.mul_le_mul_of_nonneg_right ph.hi (show 0≤f1' by omega);rw[Int.mul_right_comm];omega
    have z2:aP qs'*f1'≤20*f1':=Int.mul_le_mul_of_nonneg_right (by unfold aP;omega) (by omega);have pf:D8 H4 rf f0 f1' (aP qs'):=⟨ef,lf,z0,z1,ai (de z0 (Int.le_trans z1 z2) (bits_mul (show au 20≤5 by decide) bf1)) (by decide),ai bf1 (by decide)⟩;refine⟨_,rfl,_,rfl,_,rfl,_,rfl,_,rfl,l,p,l',rf,qs,qs',t,b,f0,f1',rfl,L.mono S4,L'.mono S4,⟨n1,n20⟩,⟨m1,m20⟩,pl.mono S4,pf,fun r5 s5' w5' H5 fr5 f5 s5=>?_⟩;have f4:=f4.mono s5;refine⟨r3,r5,s3',w3',s5',w5',rfl,f4.at_,f5.at_,⟨ai f4.ba (by decide),ai f4.bb (by decide),ai f5.ba (by decide),ai f5.bb (by decide)⟩,?_⟩;obtain⟨r6,s6',w6',e6,f6,m6⟩:=m3.pick (fH pl.low lf fr5) f4 f5;dsimp only;rw[e6];refine⟨_,rfl,k r6 s6' w6' H5 f6 (oO pl.low pq.low ph.low lf hle lpc _ m6 (fun a b' c d la lc h=>?_) (.inl (.inl ⟨⟨rfl,rfl⟩,rfl,rfl⟩)) (.inl (.inr ⟨⟨rfl,rfl⟩,rfl,rfl⟩)) fun _ _=>.inr ⟨⟨rfl,rfl⟩,rfl,rfl⟩) (S4.trans s5)⟩;rcases h with(⟨h,rfl,rfl⟩|⟨h,rfl,rfl⟩)|⟨h,rfl,rfl⟩
    ·exact⟨h,Int.le_refl _,hle⟩
    ·exact⟨h,hle,Int.le_refl _⟩
    ·exact⟨h,by omega,by omega⟩
   ·exact⟨_,rfl,fin H4 rfl fun z=>ci d2 z.2⟩
  ·exact⟨_,rfl,fin H4 rfl fun z=>ci d1 z.1⟩
theorem AO:zQ ["one","other","pair","later","x","y","a","b"] ["one","other","pair","later"] (ag (top 126)):=smk
theorem js(Cg:Df K mg "_law_measured" (top 126))(zS:Fn P w K mg base "_law_below" ["one","other"] 1 Bh)(Ag:Fn P w K mg base "_law_least_along" ["one","x","other","low","high"] 4 Ia):Fn P w K mg base "_law_measured" ["one","other","pair","later"] 5 (D6 1100):=by
 refine Cg.fn AO (fun _ _ _ _ _ _ us hl=>by obtain⟨_,_,_,_,rfl⟩:=ir hl;rfl) (fun vs H Q E h=>?_) (fun f cdv A outer s H vs Q E hr h=>?_)
 ·obtain⟨l1,l2,qs,rs,u,v,rfl,_⟩:=h
  rfl
 ·obtain⟨l1,l2,qs,rs,u,v,rfl,⟨L1,n1,n20⟩,⟨L2,m1,m20⟩,⟨pu,iu⟩,⟨qv,iv⟩,sl,k⟩:=h
  have hq100:aP qs≤100:=by unfold aP;omega
  have hr100:aP rs≤100:=by unfold aP;omega
  have la:(zW H l1 qs∧1≤qs.length∧qs.length≤20):=⟨L1,n1,n20⟩;have lb:(zW H l2 rs∧1≤rs.length∧rs.length≤20):=⟨L2,m1,m20⟩;have ux:=pu.plx iu hq100;have uy:=pu.ply iu hr100;have vx:=qv.plx iv hq100;have vy:=qv.ply iv hr100;have R:∃p3,PSs (aN CX0 P w K mg base ["one","other","pair","later","x","y","a","b"] "_law_measured" (ag (top 126)) f cdv A outer s H E).nox ((aA (top 126)).drop 3) p3∧(((u.a=v.a∧u.b=v.b)->¬v.c*u.d<u.c*v.d)->p3 { nx:=fun _ H'=>Q .non H',rt:=Q } [some (.ref l1),some (.ref l2),some (.ref u.p),some (.ref v.p),some (.ref u.x),some (.ref u.y),some (.ref v.x),some (.ref v.y)] H):=by
   refine⟨_,(af (aF (ar (eW hr.units0) (pv 4) (pv 6) (aq _)) (ah (am (ao Ag (hr.mono (by decide)) (by rfl) (aa (pv 0) (aa (pv 4) (aa (pv 1) (aa (pv 5) (aa (pv 7) ae)))))))) aw) (af (aF (aM (ao zS (hr.mono (by decide)) (by rfl) (aa (pv 6) (aa (pv 4) ae)))) (ah (am (ao Ag (hr.mono (by decide)) (by rfl) (aa (pv 1) (aa (pv 5) (aa (pv 0) (aa (pv 6) (aa (pv 4) ae)))))))) aw) (ah (am (ao Ag (hr.mono (by decide)) (by rfl) (aa (pv 1) (aa (pv 5) (aa (pv 0) (aa (pv 4) (aa (pv 6) ae)))))))))),fun hc=>?_⟩;refine⟨_,rfl,_,rfl,u.x,v.x,[u.a,u.b],[v.a,v.b],rfl,rfl,SqT.of pu.x_,SqT.of qv.x_,_,rfl,?_⟩;rw[if_neg (show ¬(false=true) by decide)];refine aB (fun c=>?_) (fun c=>?_)
   ·have c:[u.a,u.b] = [v.a,v.b]:=bF c
    simp only[List.cons.injEq,and_true]at c;have en:=nv (hc c);exact⟨_,rfl,_,rfl,_,rfl,_,rfl,_,rfl,l1,u.x,l2,u.y,v.y,qs,rs,_,_,_,_,_,_,rfl,la,lb,⟨ux,pu.bb⟩,⟨uy,pu.bd⟩,⟨vy,qv.bd⟩,eg uy.low vy.low uy.lo vy.hi (qR sl pu.ly.pos c) en.1,en.1,fun r s' w' H1 fr ms s1=>k r s' w' H1 fr (ms.congr (vp pu qv c.1 c.2 en)) s1⟩
   ·have c:¬(u.a=v.a∧u.b=v.b):=fun z=>ci c (by rw[z.1,z.2])
    obtain⟨z,sh⟩:=vJ sl c;refine⟨_,rfl,_,rfl,v.x,u.x,_,_,_,_,rfl,qv.x_,pu.x_,⟨ai vx.bt (by decide),ai vx.bb (by decide),ai ux.bt (by decide),ai ux.bb (by decide)⟩,_,rfl,aB (fun d=>?_) (fun d=>?_)⟩
    ·have en:=nu (show v.a*u.b<u.a*v.b from bF d)
     exact⟨_,rfl,_,rfl,_,rfl,_,rfl,_,rfl,l2,u.y,l1,v.x,u.x,rs,qs,_,_,_,_,_,_,rfl,lb,la,⟨uy,pu.bd⟩,⟨vx,qv.bb⟩,⟨ux,pu.bb⟩,eg vx.low ux.low vx.lo ux.hi (by rw[gX vx.low.pos ux.low.pos vx.low ux.low];exact sh) en.1,en.1,fun r s' w' H1 fr ms s1=>k r s' w' H1 fr (ms.swap.congr (vo pu qv z.1 z.2 en)) s1⟩
    ·have en:=nv (show ¬v.a*u.b<u.a*v.b from ci d)
     exact⟨_,rfl,_,rfl,_,rfl,_,rfl,_,rfl,l2,u.y,l1,u.x,v.x,rs,qs,_,_,_,_,_,_,rfl,lb,la,⟨uy,pu.bd⟩,⟨ux,pu.bb⟩,⟨vx,qv.bb⟩,eg ux.low vx.low ux.lo vx.hi sh en.1,en.1,fun r s' w' H1 fr ms s1=>k r s' w' H1 fr (ms.swap.congr (vo pu qv z.1 z.2 en)) s1⟩
  obtain⟨p3,hp3,fin⟩:=R;refine⟨_,(af (cI (pv 2) (cJ rfl (aH (aI (i:=4) AO.nd rfl (Or.inl rfl)) (aH (aI (i:=5) AO.nd rfl (Or.inl rfl)) cn)))) (af (cI (pv 3) (cJ rfl (aH (aI (i:=6) AO.nd rfl (Or.inl rfl)) (aH (aI (i:=7) AO.nd rfl (Or.inl rfl)) cn)))) (af (aF (bR (ar (eW hr.units0) (pv 4) (pv 6) (aq _)) (bU (aM (ao zS (hr.mono (by decide)) (by rfl) (aa (pv 7) (aa (pv 5) ae)))))).pt (ah (am (ao Ag (hr.mono (by decide)) (by rfl) (aa (pv 0) (aa (pv 4) (aa (pv 1) (aa (pv 7) (aa (pv 5) ae)))))))) aw) hp3))),?_⟩;refine⟨_,rfl,u.p,_,rfl,SqT.of pu.p_,rfl,_,_,rfl,_,_,rfl,rfl,?_⟩;refine⟨_,rfl,v.p,_,rfl,SqT.of qv.p_,rfl,_,_,rfl,_,_,rfl,rfl,?_⟩;refine⟨_,rfl,_,rfl,u.x,v.x,[u.a,u.b],[v.a,v.b],rfl,rfl,SqT.of pu.x_,SqT.of qv.x_,_,rfl,?_⟩;rw[if_neg (show ¬(false=true) by decide)];refine aB (fun c=>?_) (fun c=>?_)
  ·have c:[u.a,u.b] = [v.a,v.b]:=bF c
   simp only[List.cons.injEq,and_true]at c;refine⟨_,rfl,_,rfl,v.y,u.y,_,_,_,_,rfl,qv.y_,pu.y_,⟨ai vy.bt (by decide),ai vy.bb (by decide),ai uy.bt (by decide),ai uy.bb (by decide)⟩,_,rfl,aB (fun d=>?_) (fun d=>?_)⟩
   ·have en:=nu (show v.c*u.d<u.c*v.d from bF d)
    exact⟨_,rfl,_,rfl,_,rfl,_,rfl,_,rfl,l1,u.x,l2,v.y,u.y,qs,rs,_,_,_,_,_,_,rfl,la,lb,⟨ux,pu.bb⟩,⟨vy,qv.bd⟩,⟨uy,pu.bd⟩,eg vy.low uy.low vy.lo uy.hi (by rw[gX vy.low.pos uy.low.pos vy.low uy.low];exact qR sl pu.ly.pos c) en.1,en.1,fun r s' w' H1 fr ms s1=>k r s' w' H1 fr (ms.congr (vp pu qv c.1 c.2 en)) s1⟩
   ·exact fin fun _=>ci d
  ·have c:¬(u.a=v.a∧u.b=v.b):=fun z=>ci c (by rw[z.1,z.2])
   exact fin fun z=>absurd z c
def LSi(wy:Str)(ps:List Pr)(i:Nat)(a b c d:Int):Prop:=(∃(j:Nat) (q:Pr),j≤i∧ps[j]? = some q∧One q.a q.b q.c q.d a b c d)∨∃(j:Nat) (u v:Pr),j<i∧ps[j]? = some u∧ps[j+1]? = some v∧msB wy u v=true∧Box u v a b c d
theorem v7{wy:Str}{ps:List Pr}{i:Nat}(hi:ps.length=i+1)(a b c d:Int):LSi wy ps i a b c d↔FS wy ps a b c d:=by
 unfold LSi FS;constructor
 ·rintro(⟨j,q,_,hq,h⟩|⟨j,u,v,_,h⟩)
  ·exact .inl ⟨q,List.mem_of_getElem? hq,h⟩
  ·exact .inr ⟨j,u,v,h⟩
 ·rintro(⟨q,hq,h⟩|⟨j,u,v,e1,e2,h⟩)
  ·obtain⟨j,hj,e⟩:=List.getElem_of_mem hq
   exact .inl ⟨j,q,by omega,by rw[List.getElem?_eq_getElem hj,e],h⟩
  ·have:=(List.getElem?_eq_some_iff.mp e2).1
   exact .inr ⟨j,u,v,by omega,e1,e2,h⟩
theorem oy{wy:Str}{ps:List Pr}{i:Nat}{u v:Pr}(hu:ps[i]? = some u)(hv:ps[i+1]? = some v)(a b c d:Int):((LSi wy ps i a b c d∨One v.a v.b v.c v.d a b c d)∨(msB wy u v=true∧Box u v a b c d))↔LSi wy ps (i+1) a b c d:=by
 unfold LSi;constructor
 ·rintro(((⟨j,q,hj,hq,h⟩|⟨j,u',v',hj,h⟩)|h)|⟨m,h⟩)
  ·exact .inl ⟨j,q,by omega,hq,h⟩
  ·exact .inr ⟨j,u',v',by omega,h⟩
  ·exact .inl ⟨i+1,v,Nat.le_refl _,hv,h⟩
  ·exact .inr ⟨i,u,v,by omega,hu,hv,m,h⟩
 ·rintro(⟨j,q,hj,hq,h⟩|⟨j,u',v',hj,e1,e2,m,h⟩)
  ·by_cases hji:j=i+1
   ·subst hji
    rw[hv]at hq;cases hq;exact .inl (.inr h)
   ·exact .inl (.inl (.inl ⟨j,q,by omega,hq,h⟩))
  ·by_cases hji:j=i
   ·subst hji
    rw[hu]at e1;rw[hv]at e2;cases e1;cases e2;exact .inr ⟨m,h⟩
   ·exact .inl (.inl (.inr ⟨j,u',v',by omega,e1,e2,m,h⟩))
theorem uG{wy:Str}{f:Pr}{r:List Pr}(a b c d:Int):One f.a f.b f.c f.d a b c d↔LSi wy (f::r) 0 a b c d:=by
 unfold LSi;constructor
 ·intro h
  exact .inl ⟨0,f,Nat.le_refl _,rfl,h⟩
 ·rintro(⟨j,q,hj,hq,h⟩|⟨j,u',v',hj,_⟩)
  ·have:j=0:=by omega
   subst this;cases hq;exact h
  ·omega
theorem Ad:zQ ["one","other","fence","way","least","pair","later"] ["one","other","fence","way"] (ag (top 127)):=smk
theorem gM(Bc:Df K mg "_law_fence_square" (top 127))(zX:Fn P w K mg base "_law_square_of" ["one","x","other","y"] 3 Gs)(Ac:Fn P w K mg base "_law_lesser" ["one","other"] 2 (DD fun a b c d=>ltB c d a b))(Bx:Fn P w K mg base "_law_back" ["pair","later"] 2 (DC dz))(B1:Fn P w K mg base "_law_measured" ["one","other","pair","later"] 5 (D6 1100))(T:Txt mg):Fn P w K mg base "_law_fence_square" ["one","other","fence","way"] 6 Ie:=by
 refine Bc.fn Ad (fun _ _ _ _ _ _ us hl=>by obtain⟨_,_,_,_,rfl⟩:=ir hl;rfl) (fun vs H Q E h=>?_) (fun f cdv A outer s H vs Q E hr h=>?_)
 ·obtain⟨l1,l2,l,qs,rs,ps,wy,rfl,_⟩:=h
  rfl
 ·obtain⟨l1,l2,l,qs,rs,ps,wy,rfl,⟨L1,n1,n20⟩,⟨L2,m1,m20⟩,PP,hlen,⟨hne,hin,hst⟩,k⟩:=h
  refine⟨_,(af (av (i:=4) Ad.nd rfl (Or.inl rfl) (ao zX (hr.mono (by decide)) (by rfl) (aa (pv 0) (aa (aj ak (aj aC (pv 2) ac (fun _ _=>rfl)) ac (fun _ _=>rfl)) (aa (pv 1) (aa (aj ak (aj aC (pv 2) ac (fun _ _=>rfl)) ac (fun _ _=>rfl)) ae)))))) (af (eV PassesOwn.never rfl (mE rfl T.z_zip (aa (pv 2) (aa (dR eF (pv 2) (dl ac) fE) ae))) (cJ rfl (aH (aI (i:=5) Ad.nd rfl (Or.inl rfl)) (aH (aI (i:=6) Ad.nd rfl (Or.inl rfl)) cn))) (af (av (i:=4) Ad.nd rfl (Or.inl rfl) (ao Ac (hr.mono (by decide)) (by rfl) (aa (pv 4) (aa (ao zX (hr.mono (by decide)) (by rfl) (aa (pv 0) (aa (aj ak (pv 6) ac (fun _ _=>rfl)) (aa (pv 1) (aa (aj ak (pv 6) ac (fun _ _=>rfl)) ae))))) ae)))) (ah (aF (cf (ar aW (pv 3) aE (aq _)) (ce (bR (ar dU (pv 3) aE (aq _)) (bU (bq (aM (ao Bx (hr.mono (by decide)) (by rfl) (aa (pv 5) (aa (pv 6) ae))))))).pt)).pt (ah (av (i:=4) Ad.nd rfl (Or.inl rfl) (ao Ac (hr.mono (by decide)) (by rfl) (aa (pv 4) (aa (ao B1 (hr.mono (by decide)) (by rfl) (aa (pv 0) (aa (pv 1) (aa (pv 5) (aa (pv 6) ae))))) ae))))) aw)))) (ah (am (pv 4))))),?_⟩;have hq100:aP qs≤100:=by unfold aP;omega
  have hr100:aP rs≤100:=by unfold aP;omega
  match ps,hne,PP,hlen,hin,hst,k with
  | f::r,_,PP,hlen,hin,hst,k =>
  have pf:=PP.pr f (by simp);have hf:=hin f (by simp);refine⟨_,rfl,_,rfl,l,_,_,_,rfl,rfl,SqL.of PP.lst,jL (V.ref f.p) (prs r),f.p,_,_,_,rfl,rfl,SqT.of pf.p_,rfl,_,rfl,_,rfl,l,_,_,_,rfl,rfl,SqL.of PP.lst,jL (V.ref f.p) (prs r),f.p,_,_,_,rfl,rfl,SqT.of pf.p_,rfl,l1,f.x,l2,f.y,qs,rs,_,_,_,_,rfl,L1,L2,⟨n1,n20⟩,⟨m1,m20⟩,pf.plx hf hq100,pf.ply hf hr100,fun r0 s0 w0 H1 fr0 f0 s1=>?_⟩;have P1:=PP.mono s1;refine⟨_,rfl,_,rfl,_,rfl,l,_,rfl,SqL.of P1.lst,fun l2' H4 s4 f4 n4=>?_⟩;rw[jK]at f4;have P4:=P1.mono s4;have S4:=s1.trans s4;refine⟨l,l2',rfl,⟨_,SqL.of P4.lst⟩,⟨_,SqL.of f4⟩,mO (K:=K) (xs:=prs (f::r)) (ys:=prs ((f::r).drop 1)) (fun i σ H5=>∃z1 z2 rr ss ww,σ = [some (.ref l1),some (.ref l2),some (.ref l),some (.str wy),some (.ref rr),z1,z2]∧CP H5 rr ss ww 1100∧Ab qs rs (LSi wy (f::r) i) ss ww∧Same H4 H5)
   ⟨_,_,r0,s0,w0,rfl,f0.mono s4,(fH pf.lx pf.ly fr0).congr fun a b c d _ _=>uG a b c d,Same.refl _⟩ (fun i σ H5 _ ⟨_,_,_,_,_,_,_,_,s5⟩=>⟨SqL.of (s5 _ _ P4.lst),SqL.of (s5 _ _ f4)⟩) ?_ ?_⟩
  ·rintro i x y pp σ H5 H6 hx hy ⟨z1,z2,rr,ss,ww,rfl,f5,m5,s5⟩ s6 f6
   obtain⟨u,hu,rfl⟩:=cV hx;obtain⟨v,hv,rfl⟩:=cV hy;have hv':(f::r)[i+1]? = some v:=by rw[List.getElem?_drop]at hv;rw[Nat.add_comm];exact hv
   have mu:=List.mem_of_getElem? hu;have mv:=List.mem_of_getElem? hv';have S6:=S4.trans (s5.trans s6);have pu:=(PP.pr u mu).t S6.t;have qv:=(PP.pr v mv).t S6.t;have iu:=hin u mu;have iv:=hin v mv;refine⟨pp,_,rfl,SqT.of f6,rfl,_,_,rfl,_,_,rfl,rfl,?_⟩;refine⟨_,rfl,_,rfl,_,rfl,v.p,_,_,_,rfl,rfl,SqT.of qv.p_,rfl,_,rfl,_,rfl,v.p,_,_,_,rfl,rfl,SqT.of qv.p_,rfl,l1,v.x,l2,v.y,qs,rs,_,_,_,_,rfl,L1.mono S6,L2.mono S6,⟨n1,n20⟩,⟨m1,m20⟩,qv.plx iv hq100,qv.ply iv hr100,fun r7 s7' w7' H7 fr7 f7 s7=>?_⟩;have f5:=(f5.mono s6).mono s7;refine⟨rr,r7,ss,ww,s7',w7',rfl,f5.at_,f7.at_,⟨ai f5.ba (by decide),ai f5.bb (by decide),ai f7.ba (by decide),ai f7.bb (by decide)⟩,?_⟩;obtain⟨r8,s8',w8',e8,f8,m8⟩:=m5.pick (fH qv.lx qv.ly fr7) f5 f7;dsimp only;rw[e8];have S7:=S6.trans s7;have no:∀(H9:Hp),Same H7 H9->msB wy u v=false->∃z1 z2 rr ss ww,[some (.ref l1),some (.ref l2),some (.ref l),some (.str wy),some (.ref r8),some (.ref u.p),some (.ref v.p)]=([some (.ref l1),some (.ref l2),some (.ref l),some (.str wy),some (.ref rr),z1,z2]:St)∧CP H9 rr ss ww 1100∧Ab qs rs (LSi wy (f::r) (i+1)) ss ww∧Same H4 H9:=fun H9 s9 hm =>
    ⟨_,_,r8,s8',w8',rfl,f8.mono s9,m8.congr fun a b c d _ _=>by
     rw[<- oy hu hv',hm];simp,s5.trans (s6.trans (s7.trans s9))⟩
   have go:∀(G:St->Hp->Prop) (H9:Hp),Same H7 H9->msB wy u v=true->(∀(rr:Addr) (ss ww:Int) (H':Hp),CP H' rr ss ww 1100->Ab qs rs (LSi wy (f::r) (i+1)) ss ww->Same H4 H'->G [some (.ref l1),some (.ref l2),some (.ref l),some (.str wy),some (.ref rr),some (.ref u.p),some (.ref v.p)] H')->(pO (gR (DD fun a b c d=>ltB c d a b) [] E0 (dB (CK 4) (dB (gR (D6 1100) [] E0 (dB (CK 0) (dB (CK 1) (dB (CK 5) (dB (CK 6) mj))))) mj))) (iz 4)) { nx:=G,rt:=Q } [some (.ref l1),some (.ref l2),some (.ref l),some (.str wy),some (.ref r8),some (.ref u.p),some (.ref v.p)] H9:=by
    intro G H9 s9 hm kk;have S9:=S7.trans s9;refine⟨_,rfl,_,rfl,_,rfl,_,rfl,_,rfl,l1,l2,qs,rs,u,v,rfl,⟨L1.mono S9,n1,n20⟩,⟨L2.mono S9,m1,m20⟩,⟨pu.t (s7.trans s9).t,iu⟩,⟨qv.t (s7.trans s9).t,iv⟩,ox hm (dJ.mp hst i u v hu hv'),fun r10 s10 w10 H10 f10 m10 sm=>?_⟩;have f8:=(f8.mono s9).mono sm;refine⟨r8,r10,s8',w8',s10,w10,rfl,f8.at_,f10.at_,⟨ai f8.ba (by decide),ai f8.bb (by decide),ai f10.ba (by decide),ai f10.bb (by decide)⟩,?_⟩;obtain⟨r11,s11,w11,e11,f11,m11⟩:=m8.pick m10 f8 f10;dsimp only;rw[e11];exact kk r11 s11 w11 H10 f11 (m11.congr fun a b c d _ _=>by
     rw[<- oy hu hv',hm];simp) (s5.trans (s6.trans (s7.trans (s9.trans sm))))
   have em:msB wy u v=(if wy=aQ then false else (decide (wy=cp) || !dz u v)):=rfl
   refine⟨_,rfl,rfl,_,rfl,aB (fun c1=>?_) (fun c1=>?_)⟩
   ·have ew:wy=cp:=bF (ds c1)
    have nh:¬wy=aQ:=fun z=>absurd (z.symm.trans ew) (by decide);exact go _ H7 (Same.refl _) (by rw[em,if_neg nh,decide_eq_true ew];rfl) fun rr ss ww H' a b c=>⟨_,_,rr,ss,ww,rfl,a,b,c⟩
   have nf:¬wy=cp:=ci (ds c1);refine⟨_,rfl,rfl,_,rfl,aB (fun c2=>?_) (fun c2=>?_)⟩
   ·have nh:¬wy=aQ:=ci (ds (show decide (V.str wy=V.str (Str.ofString "hops"))=false by simpa only[Bool.not_eq_true']using c2))
    rw[if_neg nh,decide_eq_false nf,Bool.false_or]at em;refine⟨_,rfl,_,rfl,u,v,rfl,pu.t s7.t,qv.t s7.t,fun H9 s9=>⟨_,rfl,aB (fun c3=>?_) (fun c3=>?_)⟩⟩
    ·exact go _ H9 s9 (by rw[em];exact c3) fun rr ss ww H' a b c=>⟨_,_,rr,ss,ww,rfl,a,b,c⟩
    ·exact no H9 s9 (by rw[em];exact c3)
   ·have eh:wy=aQ:=bF (ds (show decide (V.str wy=V.str (Str.ofString "hops"))=true by simpa only[Bool.not_eq_false']using c2))
    exact no H7 (Same.refl _) (by rw[em,if_pos eh])
  ·rintro σ H5 ⟨z1,z2,rr,ss,ww,rfl,f5,m5,s5⟩
   refine⟨_,rfl,k rr ss ww H5 f5 (m5.congr fun a b c d _ _=>v7 ?_ a b c d) (S4.trans s5)⟩;rw[aV,aV,List.length_drop];simp only[List.length_cons];omega
theorem Hh:zQ ["thing"] ["thing"] (ag (top 25)):=smk
theorem o0(EB:Df K mg "is_small" (top 25))(V_LARGEST:∃tk,mg "LARGEST" = some (.int 999999999999 tk))(Ap:Fn P w K mg base "is_whole" ["thing"] 1 EG):Fn P w K mg base "is_small" ["thing"] 2 Gg:=by
 obtain⟨tL,Gd⟩:=V_LARGEST;refine EB.fn Hh (fun _ _ _ _ _ _ us hl=>by obtain⟨_,rfl⟩:=dI hl;rfl) (fun vs H Q E h=>?_) (fun f cdv A outer s H vs Q E hr h=>?_)
 ·obtain⟨x,t,rfl,_⟩:=h
  rfl
 ·obtain⟨x,t,rfl,k,q⟩:=h
  refine⟨_,(ah (am (bZ (ao Ap (hr.mono (by decide)) (by rfl) (aa (pv 0) ae)) (bJ (jW dn dn (jh fP (cC (v:=.int 999999999999) (by rfl) Gd ⟨_,rfl⟩)) (pv 0) (cC (v:=.int 999999999999) (by rfl) Gd ⟨_,rfl⟩)))))),?_⟩;refine⟨_,rfl,x,t,rfl,k,_,rfl,?_⟩;rcases Kn.cases_int k with⟨a,rfl,rfl⟩|⟨nx,ex⟩
  ·refine cZ rfl ?_
   refine⟨_,rfl,_,rfl,_,_,rfl,rfl,_,rfl,aB (fun hd=>?_) (fun hd=>?_)⟩
   ·have z:dk (.int a)=decide (a≤999999999999):=by
     show(decide (-gK≤a) && decide (a≤gK))=_;rw[show decide (-gK≤a)=true from hd];rfl
    rw[z]at q;exact⟨_,_,rfl,rfl,q⟩
   ·have z:dk (.int a)=false:=by
     show(decide (-gK≤a) && decide (a≤gK))=_;rw[show decide (-gK≤a)=false from hd];rfl
    rw[z]at q;exact q
  ·rw[sr nx]at q
   rw[ex];exact jn q
theorem GM:zQ ["thing"] ["thing"] (ag (top 26)):=smk
theorem ng(D4:Df K mg "is_corner" (top 26))(Dl:Fn P w K mg base "is_small" ["thing"] 2 Gg)(T:Txt mg):Fn P w K mg base "is_corner" ["thing"] 3 FG:=by
 refine D4.fn GM (fun _ _ _ _ _ _ us hl=>by obtain⟨_,rfl⟩:=dI hl;rfl) (fun vs H Q E h=>?_) (fun f cdv A outer s H vs Q E hr h=>?_)
 ·obtain⟨x,rfl,_⟩:=h
  rfl
 ·obtain⟨x,rfl,th,q⟩:=h
  obtain⟨t,k⟩:=th.kn;refine⟨_,(ah (am (bZ (az bI (by rfl) T.z_isinstance aL (aa (pv 0) (aa (eT T.z_tuple gi) ae))) (bZ (aT aW (az aK (by rfl) T.z_len ck (aa (pv 0) ae)) ac (aq _)) (bZ (ao Dl (hr.mono (by decide)) (by rfl) (aa (aj ak (pv 0) ac (fun _ _=>rfl)) ae)) (bJ (ao Dl (hr.mono (by decide)) (by rfl) (aa (aj ak (pv 0) ac (fun _ _=>rfl)) ae)))))))),?_⟩;refine⟨_,rfl,x,t,"tuple",rfl,k,.inr (.inr (.inl rfl)),_,rfl,?_⟩;rcases Kn.cases_tp k with⟨p,xs,rfl,e,rfl⟩|⟨hl,hs⟩
  ·rw[jb e]at q
   refine cZ (by decide) ?_;refine⟨_,rfl,p,xs,rfl,.inr (SqT.of e),rfl,_,rfl,aB (fun hc=>?_) (fun hc=>?_)⟩
   ·have hn:xs.length=2:=by
     have z:(xs.length:Int)=2:=by simpa using hc
     omega
    match xs,hn,e,q with
    | [y,z],_,e,q =>
     obtain⟨ty,ky⟩:=th.parts p _ rfl e y (by simp);obtain⟨tz,kz⟩:=th.parts p _ rfl e z (by simp);have q:Q (.bl (dk y && dk z)) H:=q;refine⟨_,rfl,p,_,_,_,rfl,rfl,SqT.of e,rfl,y,ty,rfl,ky,_,rfl,aB (fun h1=>?_) (fun h1=>?_)⟩
     ·rw[h1,Bool.true_and]at q
      exact⟨_,rfl,p,_,_,_,rfl,rfl,SqT.of e,rfl,z,tz,rfl,kz,q⟩
     ·rw[h1,Bool.false_and]at q
      exact q
   ·have hn:xs.length≠2:=by
     intro z;rw[z]at hc;exact absurd hc (by decide)
    rw[sZ hn]at q;exact q
  ·rw[hl]at q
   rw[hs];exact jn q
def qT:Str:=Str.ofString "/"
def bC(a b:Int):Str:=if b=1 then num a else num a++qT++num b
inductive Ef (vs:List V) (H:Hp) (Q:VK) (x_3:XK):Prop
 | mk:∀(p:Addr) (a b:Int),(vs = [.ref p])->(H p=some (.tup [.int a,.int b]))->((Dg a∧Dg b))->(Q (.str (bC a b)) H)->Ef vs H Q x_3
theorem mo{n:Int}(h:Dg n):(num n).length≤4301:=gz (by decide) h
theorem bP{n:Nat}(h:n≤100000):n≤sizeLine:=by
 have:sizeLine=16777216:=sizeLine_eq;omega
inductive Fo (C:Addr) (vs:List V) (H:Hp) (Q:VK) (E:XK):Prop
 | mk:∀x:Str,(vs = [.str x])->(x.length≤60000)->(((∃n:Int,x=num n∧n.natAbs<10^1000∧∀H',Same H H'->Q (.int n) H')∨((∀n:Int,n.natAbs<10^1000->x≠num n)∧∀H',Same H H'->E (.ref C) none H')))->Fo C vs H Q E
theorem CQ:zQ ["a","top","bottom"] ["a"] (ag (top 69)):=smk
theorem kN(Do:Df K mg "show_ratio" (top 69))(DG:Dig K)(T:Txt mg):Fn P w K mg base "show_ratio" ["a"] 1 Ef:=by
 refine Do.fn CQ (fun _ _ _ _ _ _ us hl=>by obtain⟨_,rfl⟩:=dI hl;rfl) (fun vs H Q E h=>?_) (fun f cdv A outer s H vs Q E hr h=>?_)
 ·obtain⟨p,a,b,rfl,_⟩:=h
  rfl
 ·obtain⟨p,a,b,rfl,e,⟨da,db⟩,q⟩:=h
  refine⟨_,(af (av (i:=1) CQ.nd rfl (Or.inl rfl) (aj ak (pv 0) ac (fun _ _=>rfl))) (af (av (i:=2) CQ.nd rfl (Or.inl rfl) (aj ak (pv 0) ac (fun _ _=>rfl))) (ah (am (jV (ar aW (pv 2) ac (aq _)) (cB (dN (K:=K) rfl DG rfl) (by rfl) T.z_str gj (aa (pv 1) ae)) (uc (mF (K:=K) rfl DG rfl (pv 1)) aE (mF (K:=K) rfl DG rfl (pv 2)))))))),?_⟩;refine⟨_,rfl,p,_,_,_,rfl,rfl,SqT.of e,rfl,?_⟩;refine⟨_,rfl,p,_,_,_,rfl,rfl,SqT.of e,rfl,?_⟩;refine⟨_,rfl,rfl,_,rfl,aB (fun h=>?_) (fun h=>?_)⟩
  ·have h:b=1:=by simpa using h
   refine⟨_,rfl,a,rfl,da,?_⟩;unfold bC at q;rw[if_pos h]at q;exact q
  ·have h:¬b=1:=by simpa using h
   unfold bC at q;rw[if_neg h]at q;have za:=mo da;have zb:=mo db;have zs:(Str.ofString "/").length=1:=rfl;refine⟨_,rfl,.inl ⟨a,rfl,da,_,rfl,bP (by omega),_,rfl,bP (by omega),_,rfl,.inl ⟨b,rfl,db,_,rfl,bP (by omega),q⟩⟩⟩
theorem pQ(x:Str)(c:Nat):Txt.startswith x ⟨#[c]⟩=true↔x.cps.toList[0]? = some c:=by
 rw[<- StrLaws.subAt_one];unfold Txt.startswith;rw[Bool.and_eq_true,decide_eq_true_eq]
theorem lz{x:Str}{c:Nat}:Txt.startswith x ⟨#[c]⟩=true↔∃r,x.cps.toList=c::r:=by
 rw[pQ];cases x.cps.toList with
 | nil=>simp
 | cons a l=>simp
theorem nZ{x:Str}{c:Nat}{r:List Nat}(e:x.cps.toList=c::r):(Txt.slice x (some 1) none).cps.toList=r:=by
 have hl:=dH x;rw[e,List.length_cons]at hl;rw[PyProof.Rows.slice_from_eq (x:=x) (i:=1) (b:=x.length) (by decide) (by omega) rfl,e];show List.take ((x.length:Int) - 1).toNat r=r;exact List.take_of_length_le (by omega)
def qj(s:Stmt):Scope:=match s with
 | .If (.BoolOp _ [_,.UnaryOp _ (.Call _ [.ListComp _ _ sc _] _ _) _] _) _ _ _=>sc
 | _=>{ kind:=.function,names:=[],isGenerator:=false,isCoroutine:=false }
theorem u4:(Str.ofString "0123456789").cps.toList = [48,49,50,51,52,53,54,55,56,57]:=by decide +kernel
theorem wj(c:Nat):Txt.contains (Str.ofString "0123456789") ⟨#[c]⟩=decide (48≤c∧c≤57):=by
 refine(StrLaws.found_one (Str.ofString "0123456789") c).trans ?_;rw[u4,decide_eq_decide];simp only[List.mem_cons,List.not_mem_nil,or_false];omega
theorem lJ:Str.ofString "-" = ⟨#[45]⟩:=by decide +kernel
theorem CS:zQ ["text","figures","number"] ["text"] (ag (top 70)):=smk
theorem kO{C:Addr}(Dq:Df K mg "read_whole" (top 70))(Aa:AW K mg "NoText" C)(DG:Dig K)(V_FIGURES:∃tk,mg "FIGURES" = some (.str (Str.ofString "0123456789") tk))(V_MOST:∃tk,mg "MOST_FIGURES" = some (.int 1000 tk))(T:Txt mg):Fx P w K mg base "read_whole" ["text"] 2 [] (Fo C):=by
 refine Dq.fx CS (fun _ _ _ _ _ _ us hl=>by obtain⟨_,rfl⟩:=dI hl;rfl) (fun vs H Q E h=>?_) (fun f cdv A outer s H vs Q E hr h=>?_)
 ·obtain⟨x,rfl,_⟩:=h
  rfl
 ·obtain⟨x,rfl,hl,h⟩:=h
  obtain⟨tF,HJ⟩:=V_FIGURES;obtain⟨tM,FV⟩:=V_MOST;have CN:AX (aN (CXE P w) P w K mg base ["text","figures","number"] "read_whole" (ag (top 70)) f cdv A outer s H E) (qj ((aA (top 70)).getD 1 (.Pass ⟨0,0,0,0⟩))) [] "sign" [] :=
   ⟨by rfl,rfl,by decide +kernel,by decide +kernel,rfl,(fun p hp=>nomatch hp),by rfl,by decide +kernel,(fun p hp=>nomatch hp),⟨rfl,rfl⟩,rfl⟩
  have no:(∀n:Int,n.natAbs<10^1000->x≠num n)->∀H',Same H H'->E (.ref C) none H':=fun z H' s'=>by
   rcases h with⟨n,e,hn,_⟩|⟨_,k⟩
   ·exact absurd e (z n hn)
   ·exact k H' s'
  have R:∃u:TS,PSs (aN (CXE P w) P w K mg base ["text","figures","number"] "read_whole" (ag (top 70)) f cdv A outer s H E) ((aA (top 70)).drop 1) u∧∀(F:Str),F.cps.toList=kY x.cps.toList->F.length≤60000->u { nx:=fun _ H'=>Q .non H',rt:=Q } [some (.str x),some (.str F),none] H:=by
   refine⟨_,(af (aF (cf (bq (jP dn dn ac (az nF (by rfl) T.z_len ck (aa (pv 1) ae)) (cC (v:=.int 1000) (by rfl) FV ⟨_,rfl⟩))) (ce (bq (aM (az (gg rfl) (by rfl) T.z_all kC (aa (fS rfl CN (xH (pv 1)) (fun fp s₀ H₀=>(aT xN (pv 0) (cC (v:=.str (Str.ofString "0123456789")) (by rfl) HJ ⟨_,rfl⟩) (by rfl)))) ae)))))).pt (ah (cU Aa (by rfl))) aw) (af (av (i:=2) CS.nd rfl (Or.inl rfl) (cB (tj (K:=K) rfl DG) (by rfl) T.z_int nI (aa (pv 0) ae))) (af (aF (ar dU (cB (dN (K:=K) rfl DG rfl) (by rfl) T.z_str gj (aa (pv 2) ae)) (pv 0) (aq _)) (ah (cU Aa (by rfl))) aw) (ah (am (pv 2)))))),fun F hF hz=>?_⟩;have lF:=dH F;have nf:∀n:Int,n.natAbs<10^1000->x=num n->F.cps.toList=fO n.natAbs:=fun n hn e=>by rw[hF,e,mG]
   refine⟨_,rfl,F,rfl,bP (by omega),_,_,rfl,rfl,_,rfl,aB (fun c1=>?_) (fun c1=>?_)⟩
   rotate_left
   ·refine⟨_,rfl,jm (no (fun n hn e=>?_) H (Same.refl _))⟩
    have z:=nf n hn e;have c1:¬(1:Int)≤(F.length:Int):=by simpa using c1
    refine nw n.natAbs ?_;rw[<- z];exact List.length_eq_zero_iff.mp (by omega)
   have c1:(1:Int)≤(F.length:Int):=by simpa using c1
   refine⟨_,_,rfl,rfl,_,rfl,aB (fun c2=>no (fun n hn e=>?_) H (Same.refl _)) (fun c2=>?_)⟩
   ·have c2:¬(F.length:Int)≤1000:=by simpa using c2
    have z:=nf n hn e;have:=(pd (k:=1000) (by decide)).mpr hn;rw[<- z]at this;omega
   have c2:(F.length:Int)≤1000:=by simpa using c2
   refine⟨_,rfl,F,rfl,wI (x:=F) (by show F.length<_;omega) (fun i v H'=>∃c,F.cps.toList[i]? = some c∧v = .bl (decide (48≤c∧c≤57))) (fun i v H H' _ z=>z) ?_ ?_⟩
   ·intro i c H2 Kc hc s2 kk
    refine⟨_,rfl,_,_,rfl,rfl,kk _ _ (Same.refl _) ⟨c,hc,?_⟩⟩;rw[wj]
   ·intro l ys H2 nl s2 f2 hly hr
    have ey:ys=(F.cps.toList.map fun c=>decide (48≤c∧c≤57)).map V.bl:=by
     apply List.ext_getElem?;intro i;rw[List.map_map,List.getElem?_map];cases hy:ys[i]? with
     | none =>
      have:F.cps.toList.length≤i:=by
       have:=List.getElem?_eq_none_iff.mp hy;have e9:F.cps.size=F.cps.toList.length:=by simp
       omega
      rw[List.getElem?_eq_none this];rfl
     | some y =>
      obtain⟨c,hc,rfl⟩:=hr i y hy;rw[hc];rfl
    subst ey;refine⟨l,_,rfl,SqL.of f2,_,rfl,aB (fun c3=>no (fun n hn e=>?_) H2 s2) (fun c3=>?_)⟩
    ·have z:=nf n hn e
     have c3:((F.cps.toList.map fun c=>decide (48≤c∧c≤57)).all id)=false:=by simpa only[Bool.not_eq_true']using c3
     rw[z,List.all_map]at c3;have:(fO n.natAbs).all (id ∘ fun c=>decide (48≤c∧c≤57))=true:=List.all_eq_true.mpr fun c hc=>decide_eq_true (dr _ c hc);rw[this]at c3;cases c3
    have c3:((F.cps.toList.map fun c=>decide (48≤c∧c≤57)).all id)=true:=by simpa only[Bool.not_eq_false']using c3
    have ad:PySem.NumText.AllDigits (kY x.cps.toList):=fun c hc=>by
     rw[<- hF]at hc;rw[List.all_map,List.all_eq_true]at c3;exact of_decide_eq_true (c3 c hc)
    obtain⟨v,hs,h43,it,hv,hu⟩:=pL (x:=x) (k:=1000) ad (by rw[<- hF];intro z;rw[z]at lF;simp at lF;omega) (by rw[<- hF];omega) (by decide);refine⟨_,rfl,x,v,rfl,hs,h43,it,?_⟩;refine⟨_,rfl,v,rfl,Dg.of hv (by decide),_,rfl,rfl,_,rfl,aB (fun c4=>no (fun n hn e=>?_) H2 s2) (fun c4=>?_)⟩
    ·have:=hu n e
     subst this;rw[e]at c4;simp at c4
    ·have c4:num v=x:=by simpa using c4
     refine⟨_,rfl,?_⟩;rcases h with⟨n,e,hn,k⟩|⟨hno,_⟩
     ·have:=hu n e
      subst this;exact k H2 s2
     ·exact absurd c4.symm (hno v hv)
  obtain⟨u,hu,rd⟩:=R;refine⟨_,(af (av (i:=1) CS.nd rfl (Or.inl rfl) (jV (aM (fg F.plainAttrs_str F.slot_str_startswith F.type_str_startswith kJ (pv 0) (aa aE ae))) (dR vK (pv 0) (dl ac) fE) (pv 0))) hu),?_⟩;refine⟨_,rfl,rfl,x,_,rfl,rfl,_,rfl,aB (fun h1=>?_) (fun h1=>?_)⟩
  ·rw[lJ]at h1
   obtain⟨r,e⟩:=lz.mp h1;have es:=nZ e;have l1:=dH (Txt.slice x (some 1) none);have l2:=dH x;rw[es]at l1;rw[e,List.length_cons]at l2;refine⟨_,rfl,_,rfl,x,rfl,bP (by omega),?_⟩;exact rd _ (by rw[es,e];rfl) (by omega)
  ·refine⟨_,rfl,rd x (nq fun r e=>?_).symm hl⟩
   rw[lJ,lz.mpr ⟨r,e⟩]at h1;cases h1
theorem iP:qT=⟨#[47]⟩:=by decide +kernel
theorem ot(n:Int):47∉(num n).cps.toList:=fun h=>by
 have:=lI n 47 h;omega
def parts(a b:Int):List Int:=if b=1 then [a] else [a,b]
theorem pR(a b:Int):bC a b=Str.join ⟨#[47]⟩ ((parts a b).map num):=by
 unfold bC parts
 split
 ·rfl
 ·rw[iP]
  rfl
theorem fR(a b:Int):Txt.split (bC a b) (Str.ofString "/")=(parts a b).map num:=by
 rw[pR];rw[show Str.ofString "/" = (⟨#[47]⟩:Str) from iP];refine eC ?_ ?_
 ·unfold parts
  split <;> simp
 ·intro q hq
  obtain⟨n,_,rfl⟩:=List.mem_map.mp hq;exact ot n
theorem iQ{a b:Int}(ha:a.natAbs<10^1000)(hb:b.natAbs<10^1000):(bC a b).length≤2010:=by
 have l1:=gz (k:=1000) (by decide) ha;have l2:=gz (k:=1000) (by decide) hb;have l3:qT.length=1:=rfl;unfold bC
 split
 ·omega
 ·rw[Str.length_append,Str.length_append]
  omega
structure Wr(a b:Int):Prop where
 low:AM a b
 top:a.natAbs<10^1000
 bot:b.natAbs<10^1000
theorem Wr.dg{a b:Int}(h:Wr a b):Dg a∧Dg b:=⟨Dg.of h.top (by decide),Dg.of h.bot (by decide)⟩
theorem cD{H H':Hp}{t:Addr}(s:Same H H')(n:H' t=none):H t=none:=by
 cases e:H t with
 | none=>rfl
 | some o =>
  rw[s _ _ e]at n;cases n
theorem tN{H:Hp}{p:Addr}{a b:Int}(e:H p=some (.tup [.int a,.int b])):Ay H (.ref p):=⟨⟨_,.tup e⟩,fun q xs e1 e2 y hy=>by
 cases e1;rw[e]at e2;cases e2;simp only[List.mem_cons,List.not_mem_nil,or_false]at hy;rcases hy with rfl|rfl <;> exact⟨_,.int _⟩⟩
theorem yU{H:Hp}{p:Addr}{a b:Int}(e:H p=some (.tup [.int a,.int b]))(l:AM a b):io H (.ref p)=true:=by
 rw[j8 e];unfold j9;rw[decide_eq_true l.pos,decide_eq_true l.one];rfl
theorem GK:zQ ["a"] ["a"] (ag (top 128)):=smk
theorem mX(DX:Df K mg "_law_shown" (top 128))(DG:Dig K)(T:Txt mg):Fn P w K mg base "_law_shown" ["a"] 1 Ef:=by
 refine DX.fn GK (fun _ _ _ _ _ _ us hl=>by obtain⟨_,rfl⟩:=dI hl;rfl) (fun vs H Q E h=>?_) (fun f cdv A outer s H vs Q E hr h=>?_)
 ·obtain⟨p,a,b,rfl,_⟩:=h
  rfl
 ·obtain⟨p,a,b,rfl,e,⟨da,db⟩,q⟩:=h
  refine⟨_,(af (aF (ar aW (aj ak (pv 0) ac (fun _ _=>rfl)) ac (aq _)) (ah (am (cB (dN (K:=K) rfl DG rfl) (by rfl) T.z_str gj (aa (aj ak (pv 0) ac (fun _ _=>rfl)) ae)))) aw) (ah (am (ap bH (ap bH (cB (dN (K:=K) rfl DG rfl) (by rfl) T.z_str gj (aa (aj ak (pv 0) ac (fun _ _=>rfl)) ae)) aE) (cB (dN (K:=K) rfl DG rfl) (by rfl) T.z_str gj (aa (aj ak (pv 0) ac (fun _ _=>rfl)) ae)))))),?_⟩;have za:=mo da;have zb:=mo db;have zs:(Str.ofString "/").length=1:=rfl;refine⟨_,rfl,p,_,_,_,rfl,rfl,SqT.of e,rfl,rfl,_,rfl,aB (fun h=>?_) (fun h=>?_)⟩
  ·have h:b=1:=by simpa using h
   unfold bC at q;rw[if_pos h]at q;exact⟨_,rfl,p,_,_,_,rfl,rfl,SqT.of e,rfl,a,rfl,da,q⟩
  ·have h:¬b=1:=by simpa using h
   unfold bC at q;rw[if_neg h]at q;refine⟨_,rfl,p,_,_,_,rfl,rfl,SqT.of e,rfl,a,rfl,da,_,_,rfl,rfl,bP (by omega),?_⟩;exact⟨_,rfl,p,_,_,_,rfl,rfl,SqT.of e,rfl,b,rfl,db,_,_,rfl,rfl,bP (by rw[Str.length_append];omega),q⟩
inductive Fy (C:Addr) (vs:List V) (H:Hp) (Q:VK) (E:XK):Prop
 | mk:∀x:Str,(vs = [.str x])->(x.length≤60000)->(((∃a b:Int,x=bC a b∧Wr a b∧∀(p:Addr) (H':Hp),Same H H'->H' p=some (.tup [.int a,.int b])->H p=none->Q (.ref p) H')∨((∀a b:Int,Wr a b->x≠bC a b)∧∀H',Same H H'->E (.ref C) none H')))->Fy C vs H Q E
theorem fV:∀{as bs:List Int},as.map num=bs.map num->as=bs
 | [],[],_=>rfl
 | [],_::_,h=>by simp at h
 | _::_,[],h=>by simp at h
 | a::as,b::bs,h=>by
  simp only[List.map_cons,List.cons.injEq]at h;rw[gA h.1,fV h.2]
theorem pK:∀{ps:List Str},(∀p∈ps,∃n:Int,p=num n∧n.natAbs<10^1000)->∃ns:List Int,ps=ns.map num∧∀n∈ns,n.natAbs<10^1000
 | [],_=>⟨[],rfl,fun _ h=>nomatch h⟩
 | p::ps,h=>by
  obtain⟨n,e,hn⟩:=h p List.mem_cons_self;obtain⟨ns,e2,h2⟩:=pK (ps:=ps) fun q hq=>h q (List.mem_cons_of_mem _ hq);exact⟨n::ns,by rw[e,e2];rfl,fun m hm=>by
   rcases List.mem_cons.mp hm with rfl|hm
   ·exact hn
   ·exact h2 m hm⟩
def oB(ns:List Int):Int:=if 1<ns.length then ns.getLast?.getD 1 else 1
theorem jX{a b:Int}{ns:List Int}(h:ns=parts a b):ns.head?.getD 0=a∧oB ns=b:=by
 subst h;unfold parts oB
 split
 ·rename_i e
  exact⟨rfl,e.symm⟩
 ·exact⟨rfl,rfl⟩
theorem oh{a b:Int}(h:Wr a b):∀n∈parts a b,n.natAbs<10^1000:=fun n hn=>by
 unfold parts at hn
 split at hn
 ·rw[List.mem_singleton.mp hn]
  exact h.top
 ·simp only[List.mem_cons,List.not_mem_nil,or_false]at hn
  rcases hn with rfl|rfl
  ·exact h.top
  ·exact h.bot
theorem nK{α:Type}(x:α)(xs:List α):atI (x::xs) 0=some x:=by
 unfold atI ixN;rw[if_pos (Int.le_refl 0),if_pos (by rw[List.length_cons];omega)];rfl
theorem wQ{α:Type}{xs:List α}{b:α}(h:xs.getLast? = some b):atI xs (-1)=some b:=by
 have hl:0<xs.length:=by
  cases xs with
  | nil=>cases h
  | cons _ _=>simp
 unfold atI ixN;rw[List.getLast?_eq_getElem?]at h;rw[if_neg (by decide),if_pos (by omega),show((-1:Int)+(xs.length:Int)).toNat=xs.length - 1 by omega];exact h
theorem mt{x y p:Str}(h:p∈Txt.split x y):p.length≤x.length:=PyProof.Rows.part_short h
theorem CU:zQ ["text","numbers","fraction"] ["text"] (ag (top 71)):=smk
theorem kP{C:Addr}(Ds:Df K mg "read_ratio" (top 71))(Aa:AW K mg "NoText" C)(By:Fn P w K mg base "is_ratio" ["thing"] 2 Ht)(AC:Fn P w K mg base "show_ratio" ["a"] 1 Ef)(AD:Fx P w K mg base "read_whole" ["text"] 2 [] (Fo C))(T:Txt mg):Fx P w K mg base "read_ratio" ["text"] 3 [] (Fy C):=by
 refine Ds.fx CU (fun _ _ _ _ _ _ us hl=>by obtain⟨_,rfl⟩:=dI hl;rfl) (fun vs H Q E h=>?_) (fun f cdv A outer s H vs Q E hr h=>?_)
 ·obtain⟨x,rfl,_⟩:=h
  rfl
 ·obtain⟨x,rfl,hl,h⟩:=h
  have CN:AX (aN (CXE P w) P w K mg base ["text","numbers","fraction"] "read_ratio" (ag (top 71)) f cdv A outer s H E) (ib ((aA (top 71)).getD 0 (.Pass ⟨0,0,0,0⟩))) [] "part" [] :=
   ⟨by rfl,rfl,by decide +kernel,by decide +kernel,rfl,(fun p hp=>nomatch hp),by rfl,by decide +kernel,(fun p hp=>nomatch hp),⟨rfl,rfl⟩,rfl⟩
  have no:(∀a b:Int,Wr a b->x≠bC a b)->∀H',Same H H'->E (.ref C) none H':=fun z H' s'=>by
   rcases h with⟨a,b,e,wr,_⟩|⟨_,k⟩
   ·exact absurd e (z a b wr)
   ·exact k H' s'
  have hsp:∀a b:Int,x=bC a b->Txt.split x (Str.ofString "/")=(parts a b).map num:=fun a b e=>by rw[e,fR]
  have R:∃u:TS,PSs (aN (CXE P w) P w K mg base ["text","numbers","fraction"] "read_ratio" (ag (top 71)) f cdv A outer s H E) ((aA (top 71)).drop 2) u∧∀(l t:Addr) (a b:Int) (H3:Hp),(∀a' b',Wr a' b'->x=bC a' b'->a=a'∧b=b')->a.natAbs<10^1000->b.natAbs<10^1000->Same H H3->H3 t=some (.tup [.int a,.int b])->H t=none->u { nx:=fun _ H'=>Q .non H',rt:=Q } [some (.str x),some (.ref l),some (.ref t)] H3:=by
   refine⟨_,(af (aF (cf (bq (aM (ao By (hr.mono (by decide)) (by rfl) (aa (pv 2) ae)))) (ce (ar dU (ao AC (hr.mono (by decide)) (by rfl) (aa (pv 2) ae)) (pv 0) (aq _)))).pt (ah (cU Aa (by rfl))) aw) (ah (am (pv 2)))),fun l t a b H3 hu ha hb s3 f3 n3=>?_⟩;refine⟨_,rfl,_,rfl,tN f3,_,rfl,aB (fun c1=>no (fun a' b' w' e=>?_) H3 s3) (fun c1=>?_)⟩
   ·obtain⟨rfl,rfl⟩:=hu a' b' w' e
    rw[yU f3 w'.low]at c1;cases c1
   have lw:AM a b:=by
    have c1:io H3 (.ref t)=true:=by simpa using c1
    rw[j8 f3]at c1;unfold j9 at c1;rw[Bool.and_eq_true,decide_eq_true_eq,decide_eq_true_eq]at c1;exact⟨c1.1,c1.2⟩
   have wr:Wr a b:=⟨lw,ha,hb⟩;refine⟨_,rfl,t,a,b,rfl,f3,wr.dg,_,rfl,rfl,_,rfl,aB (fun c2=>no (fun a' b' w' e=>?_) H3 s3) (fun c2=>?_)⟩
   ·obtain⟨rfl,rfl⟩:=hu a' b' w' e
    rw[e]at c2;simp at c2
   ·have c2:bC a b=x:=by simpa using c2
    rcases h with⟨a',b',e,w',k⟩|⟨z,_⟩
    ·obtain⟨rfl,rfl⟩:=hu a' b' w' e
     exact⟨_,rfl,k t H3 s3 f3 n3⟩
    ·exact absurd c2.symm (z a b wr)
  obtain⟨u,hu,rd⟩:=R;refine⟨_,(af (jf (j:=1) CN CU.nd rfl rfl (cW (fg F.plainAttrs_str F.slot_str_split F.type_str_split ik (pv 0) (aa aE ae))) (fun fp s₀ H₀=>(qc AD (hr.mono (by decide)) (by rfl) (aa (pv 0) ae)))) (af (av (i:=2) CU.nd rfl (Or.inl rfl) (aG (aa (aj aC (pv 1) ac (fun _ _=>rfl)) (aa (jV (ar dq (az aK (by rfl) T.z_len ck (aa (pv 1) ae)) ac (aq _)) (aj aC (pv 1) (jh fP ac) (fun _ _=>rfl)) ac) ae)))) hu)),?_⟩;refine⟨_,rfl,rfl,_,_,rfl,rfl,rfl,by omega,fun l1 H1 s1 f1 n1=>?_⟩;have hpl:=PyProof.Rows.split_le x (Str.ofString "/");refine⟨l1,rfl,⟨_,SqL.of f1⟩,nA (SqL.of f1) (by rw[List.length_map];omega) (fun i v H'=>∃n:Int,(Txt.split x (Str.ofString "/"))[i]? = some (num n)∧n.natAbs<10^1000∧v = .int n) (fun i v H H' _ z=>z) ?_ ?_⟩
  ·intro i y H2 Kc hx s2 kk
   rw[List.getElem?_map]at hx;obtain⟨pt,hp,rfl⟩:=Option.map_eq_some_iff.mp hx;have hm:=List.mem_of_getElem? hp;have hsz:=mt hm
   by_cases hn:∃n:Int,pt=num n∧n.natAbs<10^1000
   ·obtain⟨n,rfl,hn⟩:=hn
    exact⟨_,rfl,num n,rfl,by omega,.inl ⟨n,rfl,hn,fun H3 s3=>kk _ _ s3 ⟨n,hp,hn,rfl⟩⟩⟩
   ·refine⟨_,rfl,pt,rfl,by omega,.inr ⟨fun n hb e=>hn ⟨n,e,hb⟩,fun H3 s3=>no (fun a b w' e=>?_) H3 (s1.trans (s2.trans s3))⟩⟩
    rw[hsp a b e]at hm;obtain⟨n,hn2,e2⟩:=List.mem_map.mp hm;exact hn ⟨n,e2.symm,oh w' n hn2⟩
  ·intro l ys H2 nl s2 f2 hly hr
   rw[List.length_map]at hly;obtain⟨ns,e1,hsm⟩:=pK (ps:=Txt.split x (Str.ofString "/")) fun p hp=>by
    obtain⟨i,hi,e⟩:=List.mem_iff_getElem.mp hp;have hy:i<ys.length:=by omega
    obtain⟨n,h1,h2,_⟩:=hr i _ (List.getElem?_eq_getElem hy);rw[List.getElem?_eq_getElem hi,e]at h1;exact⟨n,Option.some.inj h1,h2⟩
   have ey:ys=ns.map V.int:=by
    apply List.ext_getElem?;intro i;rw[List.getElem?_map];cases hy:ys[i]? with
    | none =>
     have h2:=List.getElem?_eq_none_iff.mp hy;have:(Txt.split x (Str.ofString "/")).length=ns.length:=by rw[e1,List.length_map]
     rw[List.getElem?_eq_none (by omega)];rfl
    | some y =>
     obtain⟨n,h1,_,rfl⟩:=hr i y hy;rw[e1,List.getElem?_map]at h1;obtain⟨m,hm,e2⟩:=Option.map_eq_some_iff.mp h1;rw[hm,gA e2];rfl
   subst ey;have hun:∀a' b',Wr a' b'->x=bC a' b'->ns.head?.getD 0=a'∧oB ns=b':=fun a' b' _ e=>jX (fV (by rw[<- e1,hsp a' b' e]));have S2:=s1.trans s2
   match hns:ns with
   | [] =>
    have:=PyProof.Rows.split_pos x (Str.ofString "/");rw[e1]at this;exact absurd this (by simp)
   | [a] =>
    have f2:H2 l=some (.lst [.int a]):=f2;refine⟨_,rfl,l,_,_,_,rfl,rfl,SqL.of f2,rfl,_,rfl,l,_,rfl,.inl (SqL.of f2),_,_,rfl,rfl,_,rfl,aX (by simp) ?_⟩;exact⟨sz (by simp),fun t H3 s3 f3 n3=>rd l t a 1 H3 hun (hsm a (by simp)) (by show 1<10^1000;exact Nat.one_lt_pow (by decide) (by decide)) (S2.trans s3) f3 (cD S2 n3)⟩
   | a::c::r =>
    have f2:H2 l=some (.lst (.int a::.int c::r.map V.int)):=f2;obtain⟨b,hb1,hb2⟩:∃b,(a::c::r).getLast? = some b∧b∈a::c::r:=⟨_,List.getLast?_eq_some_getLast (by simp),List.getLast_mem (by simp)⟩;have hat:atI ((a::c::r).map V.int) (-1)=some (.int b):=by
     refine wQ ?_;rw[List.getLast?_map,hb1];rfl
    have hlo:oB (a::c::r)=b:=by
     unfold oB;rw[if_pos (by simp),hb1];rfl
    refine⟨_,rfl,l,_,_,_,rfl,rfl,SqL.of f2,nK _ _,_,rfl,l,_,rfl,.inl (SqL.of f2),_,_,rfl,rfl,_,rfl,cZ (by simp;omega) ?_⟩;refine⟨_,rfl,_,rfl,l,_,_,_,rfl,rfl,SqL.of f2,hat,?_⟩;exact⟨sz (by simp),fun t H3 s3 f3 n3=>rd l t a b H3 (fun a' b' w' e=>by rw[<- hlo];exact hun a' b' w' e) (hsm a (by simp)) (hsm b hb2) (S2.trans s3) f3 (cD S2 n3)⟩
theorem lA{a b a' b':Int}(h:bC a b=bC a' b'):a=a'∧b=b':=by
 have e:(parts a b).map num=(parts a' b').map num:=by rw[<- fR,<- fR,h]
 have e2:=fV e;obtain⟨h1,h2⟩:=jX (a:=a) (b:=b) rfl;obtain⟨h3,h4⟩:=jX e2;exact⟨h1.symm.trans h3,h2.symm.trans h4⟩
theorem cS:Str.ofString " " = ⟨#[32]⟩:=by decide +kernel
theorem dF{n:Int}{c:Nat}(h:c≠45∧(c<48∨57<c)):c∉(num n).cps.toList:=fun hm=>by
 have:=lI n c hm;omega
inductive Ge (C:Addr) (vs:List V) (H:Hp) (Q:VK) (E:XK):Prop
 | mk:∀(x y:Str),(vs = [.str x,.str y])->((y.length == 0)=false)->(x.length≤60000)->(((∃a b,Txt.split x y = [a,b]∧∀(l:Addr) (H':Hp),Same H H'->H' l=some (.lst [.str a,.str b])->Q (.ref l) H')∨((∀a b,Txt.split x y≠[a,b])∧∀H',Same H H'->E (.ref C) none H')))->Ge C vs H Q E
def fN:Str:=Str.ofString ":"
theorem gG:fN=⟨#[58]⟩:=by decide +kernel
abbrev R4:=(Int×Int)×(Int×Int)
def aR(r:R4):Str:=bC r.1.1 r.1.2++fN++bC r.2.1 r.2.2
def cy(w y:Str)(rs:List R4):Str:=Str.join ⟨#[32]⟩ (w::y::rs.map aR)
def Wr4(r:R4):Prop:=Wr r.1.1 r.1.2∧Wr r.2.1 r.2.2
theorem eG{a b:Int}{c:Nat}(h:c≠45∧c≠47∧(c<48∨57<c)):c∉(bC a b).cps.toList:=fun hm=>by
 unfold bC at hm
 split at hm
 ·exact dF ⟨h.1,h.2.2⟩ hm
 ·rw[bo,bo,iP]at hm
  rcases List.mem_append.mp hm with hm|hm
  ·rcases List.mem_append.mp hm with hm|hm
   ·exact dF ⟨h.1,h.2.2⟩ hm
   ·exact h.2.1 (List.mem_singleton.mp hm)
  ·exact dF ⟨h.1,h.2.2⟩ hm
theorem ii(r:R4):(aR r).cps.toList=(bC r.1.1 r.1.2).cps.toList++58::(bC r.2.1 r.2.2).cps.toList:=by
 unfold aR;rw[bo,bo,gG,List.append_assoc];rfl
theorem eB(r:R4):Txt.split (aR r) fN = [bC r.1.1 r.1.2,bC r.2.1 r.2.2]:=by
 rw[gG];have e:aR r=Str.join ⟨#[58]⟩ [bC r.1.1 r.1.2,bC r.2.1 r.2.2]:=by
  unfold aR;rw[gG];rfl
 rw[e];refine eC (by simp) fun q hq=>?_;simp only[List.mem_cons,List.not_mem_nil,or_false]at hq;rcases hq with rfl|rfl <;> exact eG (by decide)
theorem om{r s:R4}(h:aR r=aR s):r=s:=by
 have e:[bC r.1.1 r.1.2,bC r.2.1 r.2.2] = [bC s.1.1 s.1.2,bC s.2.1 s.2.2]:=by rw[<- eB,<- eB,h]
 simp only[List.cons.injEq,and_true]at e;obtain⟨e1,e2⟩:=lA e.1;obtain⟨e3,e4⟩:=lA e.2;exact Prod.ext (Prod.ext e1 e2) (Prod.ext e3 e4)
theorem ig(r:R4):32∉(aR r).cps.toList:=by
 rw[ii];intro h;rcases List.mem_append.mp h with h|h
 ·exact eG (by decide) h
 ·rcases List.mem_cons.mp h with h|h
  ·cases h
  ·exact eG (by decide) h
theorem il:∀{as bs:List R4},as.map aR=bs.map aR->as=bs
 | [],[],_=>rfl
 | [],_::_,h=>by simp at h
 | _::_,[],h=>by simp at h
 | a::as,b::bs,h=>by
  simp only[List.map_cons,List.cons.injEq]at h;rw[om h.1,il h.2]
def dY:List Str:=[Str.ofString "walk",Str.ofString "fence"]
def dQ:List Str:=[Str.ofString "on",Str.ofString "part",Str.ofString "free",Str.ofString "hops"]
theorem gP:∀w∈dY,32∉w.cps.toList:=by decide +kernel
theorem hZ:∀w∈dQ,32∉w.cps.toList:=by decide +kernel
structure Iu(w y:Str)(rs:List R4):Prop where
 word:w∈dY
 way:y∈dQ
 one:1≤rs.length
 most:rs.length≤200
 prs:∀r∈rs,Wr4 r
theorem eR{w y:Str}{rs:List R4}(hw:w∈dY)(hy:y∈dQ):Txt.split (cy w y rs) (Str.ofString " ")=w::y::rs.map aR:=by
 rw[cS];refine eC (by simp) fun q hq=>?_;rcases List.mem_cons.mp hq with rfl|hq
 ·exact gP _ hw
 ·rcases List.mem_cons.mp hq with rfl|hq
  ·exact hZ _ hy
  ·obtain⟨c,_,rfl⟩:=List.mem_map.mp hq
   exact ig c
theorem sF{w y w' y':Str}{rs rs':List R4}(h1:Iu w y rs)(h2:Iu w' y' rs')(h:cy w y rs=cy w' y' rs'):w=w'∧y=y'∧rs=rs':=by
 have e:w::y::rs.map aR=w'::y'::rs'.map aR:=by rw[<- eR h1.word h1.way,<- eR h2.word h2.way,h]
 simp only[List.cons.injEq]at e;exact⟨e.1,e.2.1,il e.2.2⟩
def PrT(H:Hp)(v:V)(r:R4):Prop:=∃p a b,v = .ref p∧H p=some (.tup [.ref a,.ref b])∧H a=some (.tup [.int r.1.1,.int r.1.2])∧H b=some (.tup [.int r.2.1,.int r.2.2])
theorem PrT.t{H H':Hp}{v:V}{r:R4}(h:PrT H v r)(s:SameT H H'):PrT H' v r:=by
 obtain⟨p,a,b,e,e1,e2,e3⟩:=h;exact⟨p,a,b,e,s _ _ e1,s _ _ e2,s _ _ e3⟩
structure IP(H:Hp)(l:Addr)(qs:List (V×R4)):Prop where
 lst:H l=some (.lst (qs.map (·.1)))
 prs:∀q∈qs,PrT H q.1 q.2
theorem IP.mono{H H':Hp}{l:Addr}{qs:List (V×R4)}(L:IP H l qs)(s:Same H H'):IP H' l qs:=⟨s _ _ L.lst,fun q h=>(L.prs q h).t s.t⟩
inductive Gi (C:Addr) (vs:List V) (H:Hp) (Q:VK) (E:XK):Prop
 | mk:∀x:Str,(vs = [.str x])->(x.length≤60000)->(((∃r,x=aR r∧Wr4 r∧∀(v:V) (H':Hp),Same H H'->PrT H' v r->Q v H')∨((∀r,Wr4 r->x≠aR r)∧∀H',Same H H'->E (.ref C) none H')))->Gi C vs H Q E
theorem Fc:zQ ["text","sign","parts"] ["text","sign"] (ag (top 72)):=smk
theorem mP{C:Addr}(DP:Df K mg "two_parts" (top 72))(Aa:AW K mg "NoText" C)(T:Txt mg):Fx P w K mg base "two_parts" ["text","sign"] 1 [] (Ge C):=by
 refine DP.fx Fc (fun _ _ _ _ _ _ us hl=>by obtain⟨_,_,rfl⟩:=cO hl;rfl) (fun vs H Q E h=>?_) (fun f cdv A outer s H vs Q E hr h=>?_)
 ·obtain⟨x,y,rfl,_⟩:=h
  rfl
 ·obtain⟨x,y,rfl,hy,hl,h⟩:=h
  refine⟨_,(af (av (i:=2) Fc.nd rfl (Or.inl rfl) (fg F.plainAttrs_str F.slot_str_split F.type_str_split ik (pv 0) (aa (pv 1) ae))) (af (aF (ar dU (az aK (by rfl) T.z_len ck (aa (pv 2) ae)) ac (aq _)) (ah (cU Aa (by rfl))) aw) (ah (am (pv 2))))),?_⟩;have hpl:=PyProof.Rows.split_le x y;refine⟨_,rfl,rfl,_,rfl,x,y,rfl,rfl,hy,by omega,fun l1 H1 s1 f1 n1=>?_⟩;refine⟨_,rfl,l1,_,rfl,.inl (SqL.of f1),rfl,_,rfl,aB (fun c1=>?_) (fun c1=>?_)⟩
  ·rcases h with⟨a,b,e,_⟩|⟨_,k⟩
   ·rw[e]at c1
    simp at c1
   ·exact k H1 s1
  ·have c1:((Txt.split x y).map V.str).length=2:=by
    have:((((Txt.split x y).map V.str).length:Nat):Int)=2:=by simpa using c1
    omega
   rw[List.length_map]at c1;obtain⟨a,b,e⟩:=cO c1;refine⟨_,rfl,?_⟩;rcases h with⟨a',b',e',k⟩|⟨z,_⟩
   ·rw[e']at f1
    exact k l1 H1 s1 f1
   ·exact absurd e (z a b)
theorem Fd:zQ ["text","parts"] ["text"] (ag (top 75)):=smk
theorem mS{C:Addr}(DS:Df K mg "read_pair" (top 75))(Bf:Fx P w K mg base "two_parts" ["text","sign"] 1 [] (Ge C))(BV:Fx P w K mg base "read_ratio" ["text"] 3 [] (Fy C)):Fx P w K mg base "read_pair" ["text"] 4 [] (Gi C):=by
 refine DS.fx Fd (fun _ _ _ _ _ _ us hl=>by obtain⟨_,rfl⟩:=dI hl;rfl) (fun vs H Q E h=>?_) (fun f cdv A outer s H vs Q E hr h=>?_)
 ·obtain⟨x,rfl,_⟩:=h
  rfl
 ·obtain⟨x,rfl,hl,h⟩:=h
  refine⟨_,(af (av (i:=1) Fd.nd rfl (Or.inl rfl) (dj Bf (hr.mono (by decide)) (by rfl) (aa (pv 0) (aa aE ae)))) (ah (am (aG (aa (dj BV (hr.mono (by decide)) (by rfl) (aa (aj aC (pv 1) ac (fun _ _=>rfl)) ae)) (aa (dj BV (hr.mono (by decide)) (by rfl) (aa (aj aC (pv 1) ac (fun _ _=>rfl)) ae)) ae)))))),?_⟩;have no:(∀r,Wr4 r->x≠aR r)->∀H',Same H H'->E (.ref C) none H':=fun z H' s'=>by
   rcases h with⟨c,e,th,_⟩|⟨_,k⟩
   ·exact absurd e (z c th)
   ·exact k H' s'
  have hjo:=StrLaws.join_split x fN;have yl:(fN.length == 0)=false:=rfl
  by_cases hsp:∃a b,Txt.split x fN = [a,b]
  ·obtain⟨a,b,e⟩:=hsp
   have la:a.length≤x.length:=PyProof.Rows.part_short (x:=x) (y:=fN) (by rw[e];simp);have lb:b.length≤x.length:=PyProof.Rows.part_short (x:=x) (y:=fN) (by rw[e];simp);refine⟨_,rfl,x,fN,rfl,yl,hl,.inl ⟨a,b,e,fun l H1 s1 f1=>?_⟩⟩;refine⟨_,rfl,l,_,_,_,rfl,rfl,SqL.of f1,rfl,a,rfl,by omega,?_⟩
   by_cases ha:∃m n:Int,a=bC m n∧Wr m n
   ·obtain⟨m,n,rfl,w1⟩:=ha
    refine .inl ⟨m,n,rfl,w1,fun p2 H2 s2 f2 n2=>?_⟩;refine⟨_,rfl,l,_,_,_,rfl,rfl,SqL.of (s2 _ _ f1),rfl,b,rfl,by omega,?_⟩
    by_cases hb:∃m n:Int,b=bC m n∧Wr m n
    ·obtain⟨m',n',rfl,w2⟩:=hb
     refine .inl ⟨m',n',rfl,w2,fun p3 H3 s3 f3 n3=>⟨sz (by simp),fun p H4 s4 f4 n4=>?_⟩⟩;have S3:=s1.trans (s2.trans s3);have ex:x=aR ((m,n),(m',n')):=by
      rw[<- hjo,e];unfold aR;rw[gG];rfl
     rcases h with⟨c,e',th,k⟩|⟨z,_⟩
     ·have:=om (ex.symm.trans e')
      subst this;exact k (.ref p) H4 (S3.trans s4) ⟨p,p2,p3,rfl,f4,s4 _ _ (s3 _ _ f2),s4 _ _ f3⟩
     ·exact absurd ex (z ((m,n),(m',n')) ⟨w1,w2⟩)
    ·refine .inr ⟨fun m n hm e2=>hb ⟨m,n,e2,hm⟩,fun H3 s3=>no (fun c th e'=>?_) H3 (s1.trans (s2.trans s3))⟩
     rw[e',eB]at e;simp only[List.cons.injEq,and_true]at e;exact hb ⟨_,_,e.2.symm,th.2⟩
   ·refine .inr ⟨fun m n hm e2=>ha ⟨m,n,e2,hm⟩,fun H3 s3=>no (fun c th e'=>?_) H3 (s1.trans s3)⟩
    rw[e',eB]at e;simp only[List.cons.injEq,and_true]at e;exact ha ⟨_,_,e.1.symm,th.1⟩
  ·refine⟨_,rfl,x,fN,rfl,yl,hl,.inr ⟨fun a b e=>hsp ⟨a,b,e⟩,fun H1 s1=>no (fun c th e'=>?_) H1 s1⟩⟩
   exact hsp ⟨_,_,by rw[e',eB]⟩
def vj(s:Stmt):Scope:=match s with
 | .Return (some (.Call _ [.BinOp _ _ (.ListComp _ _ sc _) _] _ _)) _=>sc
 | _=>{ kind:=.function,names:=[],isGenerator:=false,isCoroutine:=false }
def Ok4(r:R4):Prop:=Wr4 r∧(aR r).length≤249
inductive GR (vs:List V) (H:Hp) (Q:VK) (x_3:XK):Prop
 | mk:∀(w y:Str) (l:Addr) (qs:List (V×R4)),(vs = [.str w,.str y,.ref l])->(IP H l qs)->(qs.length≤200)->((∀q∈qs,Ok4 q.2))->((w.length≤5∧y.length≤5))->(∀H',Same H H'->Q (.str (cy w y (qs.map (·.2)))) H')->GR vs H Q x_3
theorem tT{qs:List (V×R4)}{ys:List V}(hl:ys.length=(qs.map (·.1)).length)(hr:∀(i:Nat) y,ys[i]? = some y->∃q,qs[i]? = some q∧y = .str (aR q.2)):ys=((qs.map (·.2)).map aR).map V.str:=by
 rw[List.length_map]at hl;apply List.ext_getElem?;intro i;rw[List.map_map,List.map_map,List.getElem?_map];cases hy:ys[i]? with
 | none =>
  have:=List.getElem?_eq_none_iff.mp hy;rw[List.getElem?_eq_none (by omega)];rfl
 | some y =>
  obtain⟨q,hq,rfl⟩:=hr i y hy;rw[hq];rfl
theorem sE{w y:Str}{rs:List R4}(h:∀r∈rs,(aR r).length≤249)(hl:rs.length≤200)(hw:w.length≤5∧y.length≤5):((w::y::rs.map aR).map fun x=>x.length).sum≤49810:=by
 have h2:=StrLaws.sumLen_le (B:=249) (rs.map aR) fun y hy=>by
  obtain⟨c,hc,rfl⟩:=List.mem_map.mp hy;exact h c hc
 rw[List.length_map]at h2;simp only[List.map_cons,List.sum_cons];omega
theorem qe{w y:Str}{rs:List R4}:Txt.join (Str.ofString " ") (w::y::rs.map aR)=cy w y rs:=by
 rw[cS];exact StrLaws.glued_eq_join _ _
theorem EY:zQ ["word","way","pairs"] ["word","way","pairs"] (ag (top 130)):=smk
theorem iC(BB:Df K mg "_law_paper_text" (top 130))(AT:Fn P w K mg base "_law_shown" ["a"] 1 Ef):Fn P w K mg base "_law_paper_text" ["word","way","pairs"] 2 GR:=by
 refine BB.fn EY (fun _ _ _ _ _ _ us hl=>by obtain⟨_,_,_,rfl⟩:=fI hl;rfl) (fun vs H Q E h=>?_) (fun f cdv A outer s H vs Q E hr h=>?_)
 ·obtain⟨wd,wy,l,qs,rfl,_⟩:=h
  rfl
 ·obtain⟨wd,wy,l,qs,rfl,L,hl,hs,hwy,q⟩:=h
  have CN:AX (aN CX0 P w K mg base ["word","way","pairs"] "_law_paper_text" (ag (top 130)) f cdv A outer s H E).nox (vj ((aA (top 130)).getD 0 (.Pass ⟨0,0,0,0⟩))) [] "pair" [] :=
   ⟨by rfl,rfl,by decide +kernel,by decide +kernel,rfl,(fun p hp=>nomatch hp),by rfl,by decide +kernel,(fun p hp=>nomatch hp),⟨rfl,rfl⟩,rfl⟩
  refine⟨_,(ah (am (fg F.plainAttrs_str F.slot_str_join F.type_str_join rk aE (aa (ap jB (cu (aa (pv 0) (aa (pv 1) ae))) (fS rfl CN (cW (pv 2)) (fun fp s₀ H₀=>(ap bH (ap bH (ao AT (hr.mono (by decide)) (by rfl) (aa (aj (fJ (K:=K) rfl) (pv 0) ac (fun _ _=>rfl)) ae)) aE) (ao AT (hr.mono (by decide)) (by rfl) (aa (aj (fJ (K:=K) rfl) (pv 0) ac (fun _ _=>rfl)) ae)))))) ae)))),?_⟩;refine⟨rfl,_,rfl,_,rfl,sz (by simp),fun l1 H1 s1 f1 n1=>?_⟩;have L1:=L.mono s1;refine⟨_,rfl,l,rfl,⟨_,SqL.of L1.lst⟩,jd (SqL.of L1.lst) (by rw[List.length_map];omega) (fun i v H'=>∃q,qs[i]? = some q∧v = .str (aR q.2)) (fun i v H H' _ z=>z) ?_ ?_⟩
  ·intro i y H2 Kc hx s2 kk
   rw[List.getElem?_map]at hx;obtain⟨q',hq,rfl⟩:=Option.map_eq_some_iff.mp hx;have hm:=List.mem_of_getElem? hq;have c1:=(L1.mono s2).prs q' hm;have c2:=(hs q' hm).1;obtain⟨p,a,b,e0,e,e1,e2⟩:=c1;obtain⟨w1,w2⟩:=c2;have za:=iQ w1.top w1.bot;have zb:=iQ w2.top w2.bot;have zs:(Str.ofString ":").length=1:=rfl;refine⟨_,rfl,p,_,_,_,e0,rfl,SqT.of e,rfl,a,_,_,rfl,e1,w1.dg,_,_,rfl,rfl,bP (by omega),?_⟩;exact⟨_,rfl,p,_,_,_,e0,rfl,SqT.of e,rfl,b,_,_,rfl,e2,w2.dg,_,_,rfl,rfl,bP (by rw[Str.length_append];omega),kk _ _ (Same.refl _) ⟨q',hq,rfl⟩⟩
  ·intro l2 ys H2 nl s2 f2 hly hr
   have ey:=tT hly hr;subst ey;have hs2:∀c∈qs.map (·.2),(aR c).length≤249:=fun c hc=>by
    obtain⟨q',hq,rfl⟩:=List.mem_map.mp hc;exact(hs q' hq).2
   have hz:=sE hs2 (by rw[List.length_map];exact hl) hwy;refine⟨l1,l2,_,_,rfl,rfl,s2 _ _ f1,f2,sz (by simp;omega),fun l3 H3 s3 f3 n3=>?_⟩;have f3:H3 l3=some (.lst ((wd::wy::(qs.map (·.2)).map aR).map V.str)):=f3;refine⟨_,l3,_,rfl,rfl,SqL.of f3,?_,?_⟩
   ·have h3:(Str.ofString " ").length=1:=rfl
    have h4:(wd::wy::(qs.map (·.2)).map aR).length≤202:=by simp;omega
    rw[h3];omega
   rw[qe];exact q H3 (s1.trans (s2.trans s3))
def tK(s:Stmt):Scope:=match s with
 | .Return (some (.Tuple [_,_,.ListComp _ _ sc _] _ _)) _=>sc
 | _=>{ kind:=.function,names:=[],isGenerator:=false,isCoroutine:=false }
theorem ix{x:Str}{ws:List Str}:inV (.str x) (ws.map V.str)=decide (x∈ws):=by
 induction ws with
 | nil=>rfl
 | cons a ws ih =>
  have e:inV (.str x) ((a::ws).map V.str)=((a == x) || inV (.str x) (ws.map V.str)):=rfl;rw[e,ih,Bool.eq_iff_iff];simp only[Bool.or_eq_true,beq_iff_eq,decide_eq_true_eq,List.mem_cons];exact⟨fun h=>h.imp Eq.symm id,fun h=>h.imp Eq.symm id⟩
theorem zM{a b:V}{xs:List V}:ja (a::b::xs) (some 2) none=xs:=by
 unfold ja HT.sIx;simp
theorem lU(ws:List Str):(ws.map V.str).all iF=true:=by
 rw[List.all_eq_true];intro v hv;obtain⟨o,_,rfl⟩:=List.mem_map.mp hv;rfl
theorem t9:∀{ws:List Str} {ys:List V} {H:Hp},ys.length=ws.length->(∀(i:Nat) y,ys[i]? = some y->∃r,ws[i]? = some (aR r)∧Wr4 r∧PrT H y r) ->
  ∃qs:List (V×R4),ys=qs.map (·.1)∧ws=(qs.map (·.2)).map aR∧∀q∈qs,PrT H q.1 q.2∧Wr4 q.2
 | [],[],_,_,_=>⟨[],rfl,rfl,fun _ h=>nomatch h⟩
 | [],_::_,_,h,_=>by simp at h
 | _::_,[],_,h,_=>by simp at h
 | w::ws,y::ys,H,h,hr=>by
  obtain⟨rs,e1,e2,e3⟩:=t9 (ws:=ws) (ys:=ys) (H:=H) (by simpa using h) fun i y hy=>by simpa using hr (i+1) y (by simpa using hy)
  obtain⟨r,ew,wr,ep⟩:=hr 0 y rfl;cases ew;refine⟨(y,r)::rs,by rw[e1];rfl,by rw[e2];rfl,fun q hq=>?_⟩;rcases List.mem_cons.mp hq with rfl|hq
  ·exact⟨ep,wr⟩
  ·exact e3 q hq
def Pap(H:Hp)(p:Addr)(w y:Str)(rs:List R4):Prop:=∃l qs,H p=some (.tup [.str w,.str y,.ref l])∧IP H l qs∧qs.map (·.2)=rs
inductive Fz (C:Addr) (vs:List V) (H:Hp) (Q:VK) (E:XK):Prop
 | mk:∀x:Str,(vs = [.str x])->(x.length≤60000)->(((∃w y rs,x=cy w y rs∧Iu w y rs∧∀(p:Addr) (H':Hp),Same H H'->Pap H' p w y rs->Q (.ref p) H')∨((∀w y rs,Iu w y rs->x≠cy w y rs)∧∀H',Same H H'->E (.ref C) none H')))->Fz C vs H Q E
theorem vA{α:Type}(x y:α)(xs:List α):atI (x::y::xs) 1=some y:=by
 unfold atI ixN;rw[if_pos (by decide),if_pos (by simp only[List.length_cons];omega)];rfl
theorem yC{ws:List Str}(h:3≤ws.length):∃a b c r,ws=a::b::c::r:=match ws,h with
 | a::b::c::r,_=>⟨a,b,c,r,rfl⟩
theorem EH:zQ ["text","words"] ["text"] (ag (top 76)):=smk
theorem kR{C pW pP:Addr}(Dt:Df K mg "read_paper" (top 76))(Aa:AW K mg "NoText" C)(V_MOSTP:∃tk,mg "MOST_PAIRS" = some (.int 200 tk))(Hm:mg "WAYS" = some (.ref pW))(hW:∀H,SqT K H pW (dQ.map V.str))(Iw:mg "PAPERS" = some (.ref pP))(hP:∀H,SqT K H pP (dY.map V.str))(DJ:Fx P w K mg base "read_pair" ["text"] 4 [] (Gi C))(T:Txt mg):Fx P w K mg base "read_paper" ["text"] 5 [] (Fz C):=by
 refine Dt.fx EH (fun _ _ _ _ _ _ us hl=>by obtain⟨_,rfl⟩:=dI hl;rfl) (fun vs H Q E h=>?_) (fun f cdv A outer s H vs Q E hr h=>?_)
 ·obtain⟨x,rfl,_⟩:=h
  rfl
 ·obtain⟨x,rfl,hl,h⟩:=h
  obtain⟨tM,GC⟩:=V_MOSTP;have CN:AX (aN (CXE P w) P w K mg base ["text","words"] "read_paper" (ag (top 76)) f cdv A outer s H E) (tK ((aA (top 76)).getD 2 (.Pass ⟨0,0,0,0⟩))) [] "word" [] :=
   ⟨by rfl,rfl,by decide +kernel,by decide +kernel,rfl,(fun p hp=>nomatch hp),by rfl,by decide +kernel,(fun p hp=>nomatch hp),⟨rfl,rfl⟩,rfl⟩
  refine⟨_,(af (av (i:=1) EH.nd rfl (Or.inl rfl) (fg F.plainAttrs_str F.slot_str_split F.type_str_split ik (pv 0) (aa aE ae))) (af (aF (cf (bq (jP dn dn ac (az aK (by rfl) T.z_len ck (aa (pv 1) ae)) (ap bz (cC (v:=.int 200) (by rfl) GC ⟨_,rfl⟩) ac))) (cf (ar fG (aj aC (pv 1) ac (fun _ _=>rfl)) (cC (v:=.ref _) (by rfl) Iw rfl) (by rfl)) (ce (ar fG (aj aC (pv 1) ac (fun _ _=>rfl)) (cC (v:=.ref _) (by rfl) Hm rfl) (by rfl))))).pt (ah (cU Aa (by rfl))) aw) (ah (am (aG (aa (aj aC (pv 1) ac (fun _ _=>rfl)) (aa (aj aC (pv 1) ac (fun _ _=>rfl)) (aa (ue CN (cW (dR eF (pv 1) (dl ac) fE)) (fun fp s₀ H₀=>(qc DJ (hr.mono (by decide)) (by rfl) (aa (pv 0) ae)))) ae)))))))),?_⟩;have no:(∀w y rs,Iu w y rs->x≠cy w y rs)->∀H',Same H H'->E (.ref C) none H':=fun z H' s'=>by
   rcases h with⟨a,b,c,e,th,_⟩|⟨_,k⟩
   ·exact absurd e (z a b c th)
   ·exact k H' s'
  have hpl:=PyProof.Rows.split_le x (Str.ofString " ");have hjo:Str.join ⟨#[32]⟩ (Txt.split x (Str.ofString " "))=x:=by
   rw[cS];exact StrLaws.join_split x _
  have hbad:∀w y rs,Iu w y rs->x=cy w y rs->Txt.split x (Str.ofString " ")=w::y::rs.map aR:=fun w y rs ok e=>by rw[e,eR ok.word ok.way]
  have hsh:∀q∈Txt.split x (Str.ofString " "),q.length≤x.length:=fun q hq=>PyProof.Rows.part_short hq;refine⟨_,rfl,rfl,_,_,rfl,rfl,rfl,by omega,fun l1 H1 s1 f1 n1=>?_⟩;generalize hws:Txt.split x (Str.ofString " ")=ws at *;refine⟨_,rfl,l1,_,rfl,.inl (SqL.of f1),_,_,rfl,rfl,_,rfl,aB (fun c1=>?_) (fun c1=>?_)⟩
  rotate_left
  ·refine⟨_,rfl,jm (no (fun w y rs ok e=>?_) H1 s1)⟩
   have c1:¬(3:Int)≤(((ws.map V.str).length:Nat):Int):=by simpa using c1
   have h1:=hbad w y rs ok e;have h2:=ok.one;rw[List.length_map,h1]at c1;simp at c1;omega
  have c1:(3:Int)≤(((ws.map V.str).length:Nat):Int):=by simpa using c1
  rw[List.length_map]at c1;refine⟨_,_,rfl,rfl,_,_,rfl,rfl,_,rfl,aB (fun c2=>jm (no (fun w y rs ok e=>?_) H1 s1)) (fun c2=>?_)⟩
  ·have c2:¬(((ws.map V.str).length:Nat):Int)≤200+2:=by simpa using c2
   have h1:=hbad w y rs ok e;have h2:=ok.most;rw[List.length_map,h1]at c2;simp at c2;omega
  have c2:(((ws.map V.str).length:Nat):Int)≤200+2:=by simpa using c2
  rw[List.length_map]at c2;obtain⟨w0,w1,w2,wr,rfl⟩:=yC (ws:=ws) (by omega);have f1:H1 l1=some (.lst (.str w0::.str w1::.str w2::wr.map V.str)):=f1;refine⟨_,rfl,l1,_,_,.str w0,rfl,rfl,SqL.of f1,nK _ _,pP,_,rfl,.inr (hP _),rfl,lU _,_,rfl,aB (fun c3=>jm (no (fun w y rs ok e=>?_) H1 s1)) (fun c3=>?_)⟩
  ·have c3:(!inV (.str w0) (dY.map V.str))=true:=c3
   rw[ix]at c3;have h1:=hbad w y rs ok e;simp only[List.cons.injEq]at h1;rw[h1.1]at c3;simp[ok.word]at c3
  have c3:(!inV (.str w0) (dY.map V.str))=false:=c3;rw[ix]at c3;have hw0:w0∈dY:=by simpa using c3
  refine⟨_,rfl,l1,_,_,.str w1,rfl,rfl,SqL.of f1,vA _ _ _,pW,_,rfl,.inr (hW _),rfl,lU _,_,rfl,aB (fun c4=>no (fun w y rs ok e=>?_) H1 s1) (fun c4=>?_)⟩
  ·have c4:(!inV (.str w1) (dQ.map V.str))=true:=c4
   rw[ix]at c4;have h1:=hbad w y rs ok e;simp only[List.cons.injEq]at h1;rw[h1.2.1]at c4;simp[ok.way]at c4
  have c4:(!inV (.str w1) (dQ.map V.str))=false:=c4;rw[ix]at c4;have hw1:w1∈dQ:=by simpa using c4
  refine⟨_,rfl,l1,_,_,.str w0,rfl,rfl,SqL.of f1,nK _ _,_,rfl,l1,_,_,.str w1,rfl,rfl,SqL.of f1,vA _ _ _,?_⟩;refine⟨_,rfl,_,rfl,l1,_,rfl,SqL.of f1,fun l5 H5 s5 f5 n5=>?_⟩;rw[zM]at f5;have f5:H5 l5=some (.lst ((w2::wr).map V.str)):=f5;have S5:=s1.trans s5;refine⟨l5,rfl,⟨_,SqL.of f5⟩,nA (SqL.of f5) (by rw[List.length_map];simp at c2 ⊢;omega) (fun i v H'=>∃r,(w2::wr)[i]? = some (aR r)∧Wr4 r∧PrT H' v r) (fun i v H H' st ⟨r,e1,e2,e3⟩=>⟨r,e1,e2,e3.t st⟩) ?_ ?_⟩
  ·intro i y H2 Kc hx s2 kk
   rw[List.getElem?_map]at hx;obtain⟨wd,hp,rfl⟩:=Option.map_eq_some_iff.mp hx;have hm:=List.mem_of_getElem? hp;have hsz:=hsh wd (List.mem_cons_of_mem _ (List.mem_cons_of_mem _ hm))
   by_cases hc:∃r,wd=aR r∧Wr4 r
   ·obtain⟨r,rfl,w4⟩:=hc
    exact⟨_,rfl,_,rfl,by omega,.inl ⟨r,rfl,w4,fun v H3 s3 f3=>kk _ _ s3 ⟨r,hp,w4,f3⟩⟩⟩
   ·refine⟨_,rfl,_,rfl,by omega,.inr ⟨fun r w4 e=>hc ⟨r,e,w4⟩,fun H3 s3=>no (fun w y rs ok e=>?_) H3 (S5.trans (s2.trans s3))⟩⟩
    have h1:=hbad w y rs ok e;injection h1 with _ h1;injection h1 with _ h1;rw[h1]at hm;obtain⟨r,hr,e2⟩:=List.mem_map.mp hm;exact hc ⟨r,e2.symm,ok.prs r hr⟩
  ·intro l ys H2 nl s2 f2 hly hr
   rw[List.length_map]at hly;obtain⟨qs,ey,ew,hq⟩:=t9 hly hr;subst ey;refine⟨sz (by simp),fun p H3 s3 f3 n3=>?_⟩;have hql:qs.length=(w2::wr).length:=by rw[ew,List.length_map,List.length_map]
   have ok:Iu w0 w1 (qs.map (·.2)):=⟨hw0,hw1,by rw[List.length_map,hql];simp,by rw[List.length_map,hql];simp at c2 ⊢;omega,fun r hr=>by
    obtain⟨q',hq',rfl⟩:=List.mem_map.mp hr;exact(hq q' hq').2⟩
   have ex:x=cy w0 w1 (qs.map (·.2)):=by
    rw[<- hjo,ew];rfl
   have L:IP H2 l qs:=⟨f2,fun q' hq'=>(hq q' hq').1⟩;rcases h with⟨w,y,rs,e,ok',k⟩|⟨z,_⟩
   ·obtain⟨rfl,rfl,rfl⟩:=sF ok ok' (ex.symm.trans e)
    exact k p H3 (S5.trans (s2.trans s3)) ⟨l,qs,f3,L.mono s3,rfl⟩
   ·exact absurd ex (z _ _ _ ok)
structure Jj(H:Hp)(x:V):Prop where
 kn:∃t,Kn H x t
 parts:∀p xs,x = .ref p->H p=some (.lst xs)->xs.length≤900∧∀y∈xs,Ay H y
inductive EO (vs:List V) (H:Hp) (Q:VK) (x_3:XK):Prop
 | mk:∀x,(vs = [x])->(Jj H x)->(∀H',Same H H'->Q (.bl (ka H x)) H')->EO vs H Q x_3
def gf:Str:=Str.ofString ","
theorem gF:gf=⟨#[44]⟩:=by decide +kernel
def a6(c:Int×Int):Str:=num c.1++gf++num c.2
def cq(cs:List (Int×Int)):Str:=Str.join ⟨#[32]⟩ (cs.map a6)
def Th(c:Int×Int):Prop:=c.1.natAbs<10^1000∧c.2.natAbs<10^1000
def OkL(cs:List (Int×Int)):Prop:=1≤cs.length∧cs.length≤10∧∀c∈cs,Sm c.1∧Sm c.2
theorem ge(c:Int×Int):(a6 c).cps.toList=(num c.1).cps.toList++44::(num c.2).cps.toList:=by
 unfold a6;rw[bo,bo,gF,List.append_assoc];rfl
theorem eE(c:Int×Int):Txt.split (a6 c) gf = [num c.1,num c.2]:=by
 rw[gF];have e:a6 c=Str.join ⟨#[44]⟩ [num c.1,num c.2]:=by
  unfold a6;rw[gF];rfl
 rw[e];refine eC (by simp) fun q hq=>?_;simp only[List.mem_cons,List.not_mem_nil,or_false]at hq;rcases hq with rfl|rfl <;> exact dF (by decide)
theorem pA{c d:Int×Int}(h:a6 c=a6 d):c=d:=by
 have e:[num c.1,num c.2] = [num d.1,num d.2]:=by rw[<- eE,<- eE,h]
 simp only[List.cons.injEq,and_true]at e;exact Prod.ext (gA e.1) (gA e.2)
theorem du(c:Int×Int):32∉(a6 c).cps.toList:=by
 rw[ge];intro h;rcases List.mem_append.mp h with h|h
 ·exact dF (by decide) h
 ·rcases List.mem_cons.mp h with h|h
  ·cases h
  ·exact dF (by decide) h
theorem fD{cs:List (Int×Int)}(h:1≤cs.length):Txt.split (cq cs) (Str.ofString " ")=cs.map a6:=by
 rw[cS];refine eC (fun z=>?_) fun q hq=>?_
 ·have:=congrArg List.length z
  rw[List.length_map,List.length_nil]at this;omega
 ·obtain⟨c,_,rfl⟩:=List.mem_map.mp hq
  exact du c
theorem im:∀{as bs:List (Int×Int)},as.map a6=bs.map a6->as=bs
 | [],[],_=>rfl
 | [],_::_,h=>by simp at h
 | _::_,[],h=>by simp at h
 | a::as,b::bs,h=>by
  simp only[List.map_cons,List.cons.injEq]at h;rw[pA h.1,im h.2]
theorem oD{as bs:List (Int×Int)}(h1:1≤as.length)(h2:1≤bs.length)(h:cq as=cq bs):as=bs:=im (by rw[<- fD h1,<- fD h2,h])
theorem yI{c:Int×Int}(h:Sm c.1∧Sm c.2):Th c:=by
 have b:(999999999999:Nat)<10^1000:=Nat.lt_of_lt_of_le (by decide:999999999999<10^12) (Nat.pow_le_pow_right (by decide) (by decide));obtain⟨⟨h1,h2⟩,⟨h3,h4⟩⟩:=h;unfold gK at h1 h2 h3 h4;exact⟨Nat.lt_of_le_of_lt (by omega) b,Nat.lt_of_le_of_lt (by omega) b⟩
inductive Gk (C:Addr) (vs:List V) (H:Hp) (Q:VK) (E:XK):Prop
 | mk:∀x:Str,(vs = [.str x])->(x.length≤60000)->(((∃c,x=a6 c∧Th c∧∀(p:Addr) (H':Hp),Same H H'->H' p=some (.tup [.int c.1,.int c.2])->H p=none->Q (.ref p) H')∨((∀c,Th c->x≠a6 c)∧∀H',Same H H'->E (.ref C) none H')))->Gk C vs H Q E
theorem HI:zQ ["thing"] ["thing"] (ag (top 27)):=smk
theorem qA(Fb:Df K mg "is_line" (top 27))(V_MOST:∃tk,mg "MOST_CORNERS" = some (.int 10 tk))(DN:Fn P w K mg base "is_corner" ["thing"] 3 FG)(T:Txt mg):Fn P w K mg base "is_line" ["thing"] 4 EO:=by
 obtain⟨tM,FW⟩:=V_MOST;refine Fb.fn HI (fun _ _ _ _ _ _ us hl=>by obtain⟨_,rfl⟩:=dI hl;rfl) (fun vs H Q E h=>?_) (fun f cdv A outer s H vs Q E hr h=>?_)
 ·obtain⟨x,rfl,_⟩:=h
  rfl
 ·obtain⟨x,rfl,lt,q⟩:=h
  have CN:AX (aN CX0 P w K mg base ["thing"] "is_line" (ag (top 27)) f cdv A outer s H E).nox (retScope ((aA (top 27)).getD 1 (.Pass ⟨0,0,0,0⟩))) [] "corner" [] :=
   ⟨by rfl,rfl,by decide +kernel,by decide +kernel,rfl,(fun p hp=>nomatch hp),by rfl,by decide +kernel,(fun p hp=>nomatch hp),⟨rfl,rfl⟩,rfl⟩
  obtain⟨t,k⟩:=lt.kn;refine⟨_,(af (aF (cf (bq (aM (az bI (by rfl) T.z_isinstance aL (aa (pv 0) (aa (eT T.z_list gH) ae))))) (ce (bq (jP dn dn ac (az aK (by rfl) T.z_len ck (aa (pv 0) ae)) (cC (v:=.int 10) (by rfl) FW ⟨_,rfl⟩))))).pt (ah (am bW)) aw) (ah (am (az (gg rfl) (by rfl) T.z_all kC (aa ((qY rfl CN (cW (pv 0)) (fun fp s₀ H₀=>(ao DN (hr.mono (by decide)) (by rfl) (aa (pv 0) ae))))) ae))))),?_⟩;refine⟨_,rfl,x,t,"list",rfl,k,.inr (.inr (.inr (.inl rfl))),_,rfl,?_⟩;rcases Kn.cases_lst k with⟨p,xs,rfl,e,rfl⟩|⟨hl,hs⟩
  ·refine aX (by decide) ?_
   obtain⟨h100,hth⟩:=lt.parts p xs rfl e;rw[lK e]at q;unfold rB at q;have bad:(decide ((1:Int)≤(xs.length:Int)) && decide ((xs.length:Int)≤10))=false->Q (.bl false) H:=fun z=>by
    have y:=q H (Same.refl _);rw[z,Bool.false_and]at y;exact y
   refine⟨_,rfl,p,xs,rfl,.inl (SqL.of e),_,_,rfl,rfl,_,rfl,aB (fun h1=>?_) (fun h1=>?_)⟩
   ·refine⟨_,_,rfl,rfl,_,rfl,aB (fun h2=>?_) (fun h2=>?_)⟩
    ·exact bad (by rw[h1,show decide ((xs.length:Int)≤10)=false by simpa using h2];rfl)
    ·have z:(decide ((1:Int)≤(xs.length:Int)) && decide ((xs.length:Int)≤10))=true:=by rw[h1,show decide ((xs.length:Int)≤10)=true by simpa using h2];rfl
     rw[z,Bool.true_and]at q;refine⟨_,rfl,p,rfl,⟨_,SqL.of e⟩,fun l hl=>?_⟩;refine jc (K:=K) (a:=p) (xs:=xs) (l:=l) (fv:=[]) (fun i acc H2=>i≤xs.length∧acc=((xs.take i).map (d8 H)).map V.bl∧Same H H2∧H2 l=some (.lst acc))
      ⟨Nat.zero_le _,rfl,Same.new hl,upd_same⟩ ?_ ?_ ?_
     ·rintro i acc H2 hi ⟨_,rfl,sm,e3⟩
      exact⟨SqL.of (sm _ _ e),e3,cG (by rw[List.length_map,List.length_map,List.length_take];omega)⟩
     ·rintro i y acc H2 Kc hy ⟨hi,rfl,sm,e3⟩ kk
      have hlt:i<xs.length:=(List.getElem?_eq_some_iff.mp hy).1;have ty:=hth y (List.mem_of_getElem? hy);obtain⟨kd,kn⟩:=ty.kn;refine⟨_,rfl,y,rfl,Ay.mono ty sm,kk _ _ e3 ⟨hlt,?_,fun b o eb=>?_,upd_same⟩⟩
      ·rw[qG kn sm,List.take_add_one,hy,List.map_append,List.map_append]
       rfl
      ·rw[bi (aS eb hl)]
       exact sm b o eb
     ·rintro acc H2 ⟨_,rfl,sm,e3⟩
      rw[List.take_length]at e3;have y:=q H2 sm;have al:xs.all (d8 H)=(xs.map (d8 H)).all id:=by rw[List.all_map];rfl
      rw[al]at y;exact⟨l,xs.map (d8 H),rfl,SqL.of e3,y⟩
   ·refine⟨_,rfl,jm (bad ?_)⟩
    rw[h1];rfl
  ·have y:=q H (Same.refl _)
   rw[hl]at y;rw[hs];exact jm y
theorem Eb:zQ ["text","parts"] ["text"] (ag (top 73)):=smk
theorem ki{C:Addr}(Cz:Df K mg "read_corner" (top 73))(Bf:Fx P w K mg base "two_parts" ["text","sign"] 1 [] (Ge C))(AD:Fx P w K mg base "read_whole" ["text"] 2 [] (Fo C)):Fx P w K mg base "read_corner" ["text"] 3 [] (Gk C):=by
 refine Cz.fx Eb (fun _ _ _ _ _ _ us hl=>by obtain⟨_,rfl⟩:=dI hl;rfl) (fun vs H Q E h=>?_) (fun f cdv A outer s H vs Q E hr h=>?_)
 ·obtain⟨x,rfl,_⟩:=h
  rfl
 ·obtain⟨x,rfl,hl,h⟩:=h
  refine⟨_,(af (av (i:=1) Eb.nd rfl (Or.inl rfl) (dj Bf (hr.mono (by decide)) (by rfl) (aa (pv 0) (aa aE ae)))) (ah (am (aG (aa (dj AD (hr.mono (by decide)) (by rfl) (aa (aj aC (pv 1) ac (fun _ _=>rfl)) ae)) (aa (dj AD (hr.mono (by decide)) (by rfl) (aa (aj aC (pv 1) ac (fun _ _=>rfl)) ae)) ae)))))),?_⟩;have no:(∀c,Th c->x≠a6 c)->∀H',Same H H'->E (.ref C) none H':=fun z H' s'=>by
   rcases h with⟨c,e,th,_⟩|⟨_,k⟩
   ·exact absurd e (z c th)
   ·exact k H' s'
  have hjo:=StrLaws.join_split x gf;have yl:(gf.length == 0)=false:=rfl
  by_cases hsp:∃a b,Txt.split x gf = [a,b]
  ·obtain⟨a,b,e⟩:=hsp
   have la:a.length≤x.length:=PyProof.Rows.part_short (x:=x) (y:=gf) (by rw[e];simp);have lb:b.length≤x.length:=PyProof.Rows.part_short (x:=x) (y:=gf) (by rw[e];simp);refine⟨_,rfl,x,gf,rfl,yl,hl,.inl ⟨a,b,e,fun l H1 s1 f1=>?_⟩⟩;refine⟨_,rfl,l,_,_,_,rfl,rfl,SqL.of f1,rfl,a,rfl,by omega,?_⟩
   by_cases ha:∃n:Int,a=num n∧n.natAbs<10^1000
   ·obtain⟨n,rfl,hn⟩:=ha
    refine .inl ⟨n,rfl,hn,fun H2 s2=>?_⟩;refine⟨_,rfl,l,_,_,_,rfl,rfl,SqL.of (s2 _ _ f1),rfl,b,rfl,by omega,?_⟩
    by_cases hb:∃m:Int,b=num m∧m.natAbs<10^1000
    ·obtain⟨m,rfl,hm⟩:=hb
     refine .inl ⟨m,rfl,hm,fun H3 s3=>⟨sz (by simp),fun p H4 s4 f4 n4=>?_⟩⟩;have S3:=s1.trans (s2.trans s3);have ex:x=a6 (n,m):=by
      rw[<- hjo,e];unfold a6;rw[gF];rfl
     rcases h with⟨c,e',th,k⟩|⟨z,_⟩
     ·have:=pA (ex.symm.trans e')
      subst this;exact k p H4 (S3.trans s4) f4 (cD S3 n4)
     ·exact absurd ex (z (n,m) ⟨hn,hm⟩)
    ·refine .inr ⟨fun m hm e2=>hb ⟨m,e2,hm⟩,fun H3 s3=>no (fun c th e'=>?_) H3 (s1.trans (s2.trans s3))⟩
     rw[e',eE]at e;simp only[List.cons.injEq,and_true]at e;exact hb ⟨c.2,e.2.symm,th.2⟩
   ·refine .inr ⟨fun m hm e2=>ha ⟨m,e2,hm⟩,fun H3 s3=>no (fun c th e'=>?_) H3 (s1.trans s3)⟩
    rw[e',eE]at e;simp only[List.cons.injEq,and_true]at e;exact ha ⟨c.1,e.1.symm,th.1⟩
  ·refine⟨_,rfl,x,gf,rfl,yl,hl,.inr ⟨fun a b e=>hsp ⟨a,b,e⟩,fun H1 s1=>no (fun c th e'=>?_) H1 s1⟩⟩
   exact hsp ⟨_,_,by rw[e',eE]⟩
structure FU(H:Hp)(l:Addr)(qs:Crn):Prop where
 lst:H l=some (.lst (qs.map fun q=>V.ref q.1))
 crn:∀q∈qs,H q.1=some (.tup [.int q.2.1,.int q.2.2])
theorem gk(a:Int):dk (.int a)=true↔Sm a:=by
 show(decide (-gK≤a) && decide (a≤gK))=true↔_;rw[Bool.and_eq_true,decide_eq_true_eq,decide_eq_true_eq];exact Iff.rfl
theorem FU.good{H:Hp}{l:Addr}{qs:Crn}(L:FU H l qs):ka H (.ref l)=true↔OkL (qs.map (·.2)):=by
 rw[lK L.lst];unfold rB OkL;rw[Bool.and_eq_true,Bool.and_eq_true,decide_eq_true_eq,decide_eq_true_eq,List.length_map,List.length_map,List.all_eq_true];constructor
 ·rintro⟨⟨h1,h2⟩,h3⟩
  refine⟨by omega,by omega,fun c hc=>?_⟩;obtain⟨q,hq,rfl⟩:=List.mem_map.mp hc;have:=h3 (.ref q.1) (List.mem_map.mpr ⟨q,hq,rfl⟩);rw[jb (L.crn q hq)]at this;have this:(dk (.int q.2.1) && dk (.int q.2.2))=true:=this;rw[Bool.and_eq_true,gk,gk]at this;exact this
 ·rintro⟨h1,h2,h3⟩
  refine⟨⟨by omega,by omega⟩,fun v hv=>?_⟩;obtain⟨q,hq,rfl⟩:=List.mem_map.mp hv;rw[jb (L.crn q hq)];show(dk (.int q.2.1) && dk (.int q.2.2))=true;rw[Bool.and_eq_true,gk,gk];exact h3 _ (List.mem_map.mpr ⟨q,hq,rfl⟩)
theorem FU.m{H:Hp}{l:Addr}{qs:Crn}(L:FU H l qs)(h:OkL (qs.map (·.2))):LineM H l qs:=⟨L.lst,fun q hq=>⟨L.crn q hq,h.2.2 _ (List.mem_map.mpr ⟨q,hq,rfl⟩)⟩⟩
theorem FU.th{H:Hp}{l:Addr}{qs:Crn}(L:FU H l qs)(h:qs.length≤900):Jj H (.ref l):=⟨⟨_,.lst L.lst⟩,fun p xs e1 e2=>by
 cases e1;rw[L.lst]at e2;cases e2;refine⟨by rw[List.length_map];exact h,fun y hy=>?_⟩;obtain⟨q,hq,rfl⟩:=List.mem_map.mp hy;exact tN (L.crn q hq)⟩
theorem mw{a:Int}(h:Sm a):(num a).length≤13:=gz (k:=12) (by decide) (by
 obtain⟨h1,h2⟩:=h;unfold gK at h1 h2;show _<1000000000000;omega)
theorem w6{a:Int}(h:Sm a):Dg a:=Dg.of (k:=12) (by
 obtain⟨h1,h2⟩:=h;unfold gK at h1 h2;show _<1000000000000;omega) (by decide)
theorem pk{c:Int×Int}(h:Sm c.1∧Sm c.2):(a6 c).length≤27:=by
 have h1:=mw h.1;have h2:=mw h.2;have h3:gf.length=1:=rfl;unfold a6;rw[Str.length_append,Str.length_append];omega
theorem oC{cs:List (Int×Int)}(h:∀c∈cs,Sm c.1∧Sm c.2):(cq cs).length≤28*cs.length:=by
 have h1:=StrLaws.join_length_le ⟨#[32]⟩ (cs.map a6);have h2:=StrLaws.sumLen_le (B:=27) (cs.map a6) fun y hy=>by
  obtain⟨c,hc,rfl⟩:=List.mem_map.mp hy;exact pk (h c hc)
 have h3:(⟨#[32]⟩:Str).length=1:=rfl;rw[List.length_map]at h1 h2;rw[h3]at h1;unfold cq;omega
theorem sO{cs:List (Int×Int)}(h:∀c∈cs,Sm c.1∧Sm c.2)(hl:cs.length≤20):(((cs.map a6).map fun x=>x.length).sum+(cs.map a6).length*(Str.ofString " ").length≤16777216):=by
 have h2:=StrLaws.sumLen_le (B:=27) (cs.map a6) fun y hy=>by
  obtain⟨c,hc,rfl⟩:=List.mem_map.mp hy;exact pk (h c hc)
 have h3:(Str.ofString " ").length=1:=rfl;rw[List.length_map]at h2 ⊢;rw[h3];omega
inductive HV (vs:List V) (H:Hp) (Q:VK) (x_3:XK):Prop
 | mk:∀(l:Addr) (qs:Crn),(vs = [.ref l])->(LineM H l qs)->(qs.length≤20)->(∀H',Same H H'->Q (.str (cq (qs.map (·.2)))) H')->HV vs H Q x_3
theorem vI{qs:Crn}{ys:List V}(hl:ys.length=(qs.map fun (q:Addr×Int×Int)=>V.ref q.1).length)(hr:∀(i:Nat) y,ys[i]? = some y->∃q,qs[i]? = some q∧y = .str (a6 q.2)):ys=((qs.map (·.2)).map a6).map V.str:=by
 rw[List.length_map]at hl;apply List.ext_getElem?;intro i;rw[List.map_map,List.map_map,List.getElem?_map];cases hy:ys[i]? with
 | none =>
  have:=List.getElem?_eq_none_iff.mp hy;rw[List.getElem?_eq_none (by omega)];rfl
 | some y =>
  obtain⟨q,hq,rfl⟩:=hr i y hy;rw[hq];rfl
inductive Gj (C:Addr) (vs:List V) (H:Hp) (Q:VK) (E:XK):Prop
 | mk:∀x:Str,(vs = [.str x])->(x.length≤800)->(((∃cs,x=cq cs∧OkL cs∧∀(l:Addr) (rs:Crn) (H':Hp),Same H H'->LineM H' l rs->rs.map (·.2)=cs->Q (.ref l) H')∨((∀cs,OkL cs->x≠cq cs)∧∀H',Same H H'->E (.ref C) none H')))->Gj C vs H Q E
theorem rT:∀{ws:List Str} {ys:List V} {H:Hp},ys.length=ws.length->(∀(i:Nat) y,ys[i]? = some y->∃p c,y = .ref p∧ws[i]? = some (a6 c)∧Th c∧H p=some (.tup [.int c.1,.int c.2])) ->
  ∃rs:Crn,ys=rs.map (fun q=>V.ref q.1)∧ws=(rs.map (·.2)).map a6∧∀q∈rs,H q.1=some (.tup [.int q.2.1,.int q.2.2])
 | [],[],_,_,_=>⟨[],rfl,rfl,fun _ h=>nomatch h⟩
 | [],_::_,_,h,_=>by simp at h
 | _::_,[],_,h,_=>by simp at h
 | w::ws,y::ys,H,h,hr=>by
  obtain⟨rs,e1,e2,e3⟩:=rT (ws:=ws) (ys:=ys) (H:=H) (by simpa using h) fun i y hy=>by simpa using hr (i+1) y (by simpa using hy)
  obtain⟨p,c,ey,ew,_,ep⟩:=hr 0 y rfl;cases ew;refine⟨(p,c)::rs,by rw[ey,e1];rfl,by rw[e2];rfl,fun q hq=>?_⟩;rcases List.mem_cons.mp hq with rfl|hq
  ·exact ep
  ·exact e3 q hq
theorem Fk:zQ ["line"] ["line"] (ag (top 129)):=smk
theorem i4(BQ:Df K mg "_law_line_text" (top 129))(DG:Dig K)(T:Txt mg):Fn P w K mg base "_law_line_text" ["line"] 1 HV:=by
 refine BQ.fn Fk (fun _ _ _ _ _ _ us hl=>by obtain⟨_,rfl⟩:=dI hl;rfl) (fun vs H Q E h=>?_) (fun f cdv A outer s H vs Q E hr h=>?_)
 ·obtain⟨l,qs,rfl,_⟩:=h
  rfl
 ·obtain⟨l,qs,rfl,L,hl,q⟩:=h
  have CN:AX (aN CX0 P w K mg base ["line"] "_law_line_text" (ag (top 129)) f cdv A outer s H E).nox (oa (qU ((aA (top 129)).getD 0 (.Pass ⟨0,0,0,0⟩)))) [] "corner" [] :=
   ⟨by rfl,rfl,by decide +kernel,by decide +kernel,rfl,(fun p hp=>nomatch hp),by rfl,by decide +kernel,(fun p hp=>nomatch hp),⟨rfl,rfl⟩,rfl⟩
  refine⟨_,(ah (am (fg F.plainAttrs_str F.slot_str_join F.type_str_join rk aE (aa (fS rfl CN (cW (pv 0)) (fun fp s₀ H₀=>(ap bH (ap bH (cB (dN (K:=K) rfl DG rfl) (by rfl) T.z_str gj (aa (aj (fJ (K:=K) rfl) (pv 0) ac (fun _ _=>rfl)) ae)) aE) (cB (dN (K:=K) rfl DG rfl) (by rfl) T.z_str gj (aa (aj (fJ (K:=K) rfl) (pv 0) ac (fun _ _=>rfl)) ae))))) ae)))),?_⟩;refine⟨rfl,_,rfl,l,rfl,⟨_,SqL.of L.lst⟩,jd (SqL.of L.lst) (by rw[List.length_map];omega) (fun i v H'=>∃q,qs[i]? = some q∧v = .str (a6 q.2)) (fun i v H H' _ z=>z) ?_ ?_⟩
  ·intro i y H2 Kc hx s2 kk
   rw[List.getElem?_map]at hx;obtain⟨q',hq,rfl⟩:=Option.map_eq_some_iff.mp hx;obtain⟨c1,c2,c3⟩:=(L.mono s2).crn q' (List.mem_of_getElem? hq);have z1:=mw c2;have z2:=mw c3;have zs:(Str.ofString ",").length=1:=rfl;refine⟨_,rfl,q'.1,_,_,_,rfl,rfl,SqT.of c1,rfl,q'.2.1,rfl,w6 c2,_,_,rfl,rfl,bP (by omega),?_⟩;exact⟨_,rfl,q'.1,_,_,_,rfl,rfl,SqT.of c1,rfl,q'.2.2,rfl,w6 c3,_,_,rfl,rfl,bP (by rw[Str.length_append];omega),kk _ _ (Same.refl _) ⟨q',hq,rfl⟩⟩
  ·intro l2 ys H2 nl s2 f2 hly hr
   have ey:=vI hly hr;subst ey;have hs:∀c∈qs.map (·.2),Sm c.1∧Sm c.2:=fun c hc=>by
    obtain⟨q',hq,rfl⟩:=List.mem_map.mp hc;exact(L.crn q' hq).2
   refine⟨_,l2,_,rfl,rfl,SqL.of f2,sO hs (by rw[List.length_map];exact hl),?_⟩;have e:Txt.join (Str.ofString " ") ((qs.map (·.2)).map a6)=cq (qs.map (·.2)):=by
    rw[cS];exact StrLaws.glued_eq_join _ _
   rw[e];exact q H2 s2
theorem Fe:zQ ["text","line"] ["text"] (ag (top 74)):=smk
theorem mT{C:Addr}(DT:Df K mg "read_line" (top 74))(Aa:AW K mg "NoText" C)(Ct:Fx P w K mg base "read_corner" ["text"] 3 [] (Gk C))(E6:Fn P w K mg base "is_line" ["thing"] 4 EO)(T:Txt mg):Fx P w K mg base "read_line" ["text"] 5 [] (Gj C):=by
 refine DT.fx Fe (fun _ _ _ _ _ _ us hl=>by obtain⟨_,rfl⟩:=dI hl;rfl) (fun vs H Q E h=>?_) (fun f cdv A outer s H vs Q E hr h=>?_)
 ·obtain⟨x,rfl,_⟩:=h
  rfl
 ·obtain⟨x,rfl,hl,h⟩:=h
  have CN:AX (aN (CXE P w) P w K mg base ["text","line"] "read_line" (ag (top 74)) f cdv A outer s H E) (ib ((aA (top 74)).getD 0 (.Pass ⟨0,0,0,0⟩))) [] "word" [] :=
   ⟨by rfl,rfl,by decide +kernel,by decide +kernel,rfl,(fun p hp=>nomatch hp),by rfl,by decide +kernel,(fun p hp=>nomatch hp),⟨rfl,rfl⟩,rfl⟩
  refine⟨_,(af (jf (j:=1) CN Fe.nd rfl rfl (cW (fg F.plainAttrs_str F.slot_str_split F.type_str_split ik (pv 0) (aa aE ae))) (fun fp s₀ H₀=>(qc Ct (hr.mono (by decide)) (by rfl) (aa (pv 0) ae)))) (af (aF (bq (aM (ao E6 (hr.mono (by decide)) (by rfl) (aa (pv 1) ae)))) (ah (cU Aa (by rfl))) aw) (ah (am (pv 1))))),?_⟩;have no:(∀cs,OkL cs->x≠cq cs)->∀H',Same H H'->E (.ref C) none H':=fun z H' s'=>by
   rcases h with⟨c,e,th,_⟩|⟨_,k⟩
   ·exact absurd e (z c th)
   ·exact k H' s'
  have hpl:=PyProof.Rows.split_le x (Str.ofString " ");have hp1:=PyProof.Rows.split_pos x (Str.ofString " ");have hjo:Str.join ⟨#[32]⟩ (Txt.split x (Str.ofString " "))=x:=by
   rw[cS];exact StrLaws.join_split x _
  refine⟨_,rfl,rfl,_,_,rfl,rfl,rfl,by omega,fun l1 H1 s1 f1 n1=>?_⟩;refine⟨l1,rfl,⟨_,SqL.of f1⟩,nA (SqL.of f1) (by rw[List.length_map];omega) (fun i v H'=>∃p c,v = .ref p∧(Txt.split x (Str.ofString " "))[i]? = some (a6 c)∧Th c∧H' p=some (.tup [.int c.1,.int c.2])) (fun i v H H' st ⟨p,c,e1,e2,e3,e4⟩=>⟨p,c,e1,e2,e3,st _ _ e4⟩) ?_ ?_⟩
  ·intro i y H2 Kc hx s2 kk
   rw[List.getElem?_map]at hx;obtain⟨wd,hp,rfl⟩:=Option.map_eq_some_iff.mp hx;have hm:=List.mem_of_getElem? hp;have hsz:=PyProof.Rows.part_short hm
   by_cases hc:∃c,wd=a6 c∧Th c
   ·obtain⟨c,rfl,th⟩:=hc
    exact⟨_,rfl,_,rfl,by omega,.inl ⟨c,rfl,th,fun p H3 s3 f3 n3=>kk _ _ s3 ⟨p,c,rfl,hp,th,f3⟩⟩⟩
   ·refine⟨_,rfl,_,rfl,by omega,.inr ⟨fun c th e=>hc ⟨c,e,th⟩,fun H3 s3=>no (fun cs ok e=>?_) H3 (s1.trans (s2.trans s3))⟩⟩
    rw[e,fD ok.1]at hm;obtain⟨c,hcm,e2⟩:=List.mem_map.mp hm;exact hc ⟨c,e2.symm,yI (ok.2.2 c hcm)⟩
  ·intro l ys H2 nl s2 f2 hly hr
   rw[List.length_map]at hly;obtain⟨rs,ey,ew,hc⟩:=rT hly hr;subst ey;have S2:=s1.trans s2;have LB:FU H2 l rs:=⟨f2,hc⟩;have hrl:rs.length=(Txt.split x (Str.ofString " ")).length:=by rw[ew,List.length_map,List.length_map]
   have ex:x=cq (rs.map (·.2)):=by rw[<- hjo,ew];rfl
   refine⟨_,rfl,_,rfl,LB.th (by omega),fun H3 s3=>⟨_,rfl,aB (fun c1=>no (fun cs ok e=>?_) H3 (S2.trans s3)) (fun c1=>?_)⟩⟩
   ·have:=oD (as:=rs.map (·.2)) (by rw[List.length_map];omega) ok.1 (ex.symm.trans e)
    rw[<- this]at ok;rw[LB.good.mpr ok]at c1;cases c1
   ·have ok:=LB.good.mp (by simpa using c1)
    refine⟨_,rfl,?_⟩;rcases h with⟨cs,e,ok',k⟩|⟨z,_⟩
    ·exact k l rs H3 (S2.trans s3) ((LB.m ok).mono s3) (oD (by rw[List.length_map];omega) ok'.1 (ex.symm.trans e))
    ·exact absurd ex (z _ ok)
def cb(q:Pr):R4:=((q.a,q.b),(q.c,q.d))
def zer(r:R4):Pr:=⟨0,0,0,r.1.1,r.1.2,r.2.1,r.2.2⟩
def zrs(ps:List Pr):List Pr:=(ps.map cb).map zer
theorem kg(way:Str):∀ps:List Pr,aY way (zrs ps)=aY way ps
 | []=>rfl
 | [_]=>rfl
 | u::v::r=>by
  have ih:=kg way (v::r);show(cR way (zer (cb u)) (zer (cb v)) && aY way (zrs (v::r)))=_;rw[ih];rfl
theorem k9:∀ps:List Pr,(zrs ps).all aZ=ps.all aZ
 | []=>rfl
 | u::r=>by
  show(aZ (zer (cb u)) && (zrs r).all aZ)=(aZ u && r.all aZ);rw[k9 r];rfl
theorem sd(n m:Int):∀ps:List Pr,(zrs ps).all (inB n m)=ps.all (inB n m)
 | []=>rfl
 | u::r=>by
  show(inB n m (zer (cb u)) && (zrs r).all (inB n m))=(inB n m u && r.all (inB n m));rw[sd n m r];rfl
theorem uQ(ps:List Pr)(h:ps≠[])(h':zrs ps≠[]):(zrs ps).getLast h'=zer (cb (ps.getLast h)):=by
 simp[zrs]
theorem lW(n m:Int)(way:Str)(ps:List Pr):bQ n m way (zrs ps)=bQ n m way ps:=by
 cases ps with
 | nil=>rfl
 | cons f r =>
  show((zrs (f::r)).all (inB n m) && ((if way=aQ then (zrs (f::r)).all aZ else true) && (gb n m way (zer (cb f)) ((zrs (f::r)).getLast (by simp[zrs])) && aY way (zrs (f::r)))))=_
  rw[sd,k9,kg,uQ (f::r) (by simp),cg];rfl
theorem qD{n m:Int}{way:Str}{ps ps':List Pr}(e:ps.map cb=ps'.map cb):bQ n m way ps=bQ n m way ps':=by
 rw[<- lW,<- lW n m way ps'];unfold zrs;rw[e]
theorem jz{qs qs':Crn}(e:qs.map (·.2)=qs'.map (·.2))(t b:Int):gS qs t b=gS qs' t b∧h8 qs t b=h8 qs' t b:=by
 have g:∀(k:Nat) (xs:Crn),(xs.getD k (0,0,0)).2=(xs.map (·.2)).getD k (0,0):=fun k xs=>by
  rw[List.getD_eq_getElem?_getD,List.getD_eq_getElem?_getD,List.getElem?_map];cases xs[k]? <;> rfl
 have hl:qs.length=qs'.length:=by
  have:=congrArg List.length e;rw[List.length_map,List.length_map]at this;exact this
 unfold gS h8;rw[g,g,g,g,e,hl];exact⟨rfl,rfl⟩
theorem tU{qs qs' rs rs':Crn}(e:qs.map (·.2)=qs'.map (·.2))(e':rs.map (·.2)=rs'.map (·.2))(t b t' b':Int):sqF qs t b rs t' b'=sqF qs' t b rs' t' b':=by
 unfold sqF ptX ptY;rw[(jz e t b).1,(jz e t b).2,(jz e' t' b').1,(jz e' t' b').2]
theorem uA{ps ps':List Pr}(e:ps.map cb=ps'.map cb){q:Pr}(h:q∈ps):∃q'∈ps',cb q'=cb q:=by
 have:cb q∈ps'.map cb:=by
  rw[<- e];exact List.mem_map_of_mem h
 obtain⟨q',h',e'⟩:=List.mem_map.mp this;exact⟨q',h',e'⟩
theorem oJ{ps ps':List Pr}(e:ps.map cb=ps'.map cb){j:Nat}{u:Pr}(h:ps[j]? = some u):∃u',ps'[j]? = some u'∧cb u'=cb u:=by
 have h1:(ps'.map cb)[j]? = some (cb u):=by rw[<- e,List.getElem?_map,h];rfl
 rw[List.getElem?_map]at h1;obtain⟨u',h2,h3⟩:=Option.map_eq_some_iff.mp h1;exact⟨u',h2,h3⟩
theorem iA{u v:Pr}(e:cb u=cb v):u.a=v.a∧u.b=v.b∧u.c=v.c∧u.d=v.d:=by
 simp only[cb,Prod.mk.injEq]at e;exact⟨e.1.1,e.1.2,e.2.1,e.2.2⟩
theorem v5(wy:Str){u v u' v':Pr}(e1:cb u'=cb u)(e2:cb v'=cb v):msB wy u' v'=msB wy u v:=by
 obtain⟨a1,a2,a3,a4⟩:=iA e1;obtain⟨b1,b2,b3,b4⟩:=iA e2;cases u;cases v;cases u';cases v';simp only at a1 a2 a3 a4 b1 b2 b3 b4;subst a1 a2 a3 a4 b1 b2 b3 b4;rfl
theorem vq{u v u' v':Pr}(e1:cb u'=cb u)(e2:cb v'=cb v)(a b c d:Int):Box u' v' a b c d↔Box u v a b c d:=by
 obtain⟨a1,a2,a3,a4⟩:=iA e1;obtain⟨b1,b2,b3,b4⟩:=iA e2;unfold Box;rw[a1,a2,a3,a4,b1,b2,b3,b4]
theorem rG{wy:Str}{ps ps':List Pr}(e:ps.map cb=ps'.map cb){a b c d:Int}(h:FS wy ps a b c d):FS wy ps' a b c d:=by
 rcases h with⟨q,hq,h⟩|⟨j,u,v,hu,hv,hm,hb⟩
 ·obtain⟨q',h',e'⟩:=uA e hq
  obtain⟨a1,a2,a3,a4⟩:=iA e';exact .inl ⟨q',h',by rw[a1,a2,a3,a4];exact h⟩
 ·obtain⟨u',hu',eu⟩:=oJ e hu
  obtain⟨v',hv',ev⟩:=oJ e hv;exact .inr ⟨j,u',v',hu',hv',by rw[v5 wy eu ev];exact hm,(vq eu ev a b c d).mpr hb⟩
theorem xU{qs qs' rs rs':Crn}{wy:Str}{ps ps':List Pr}{s w:Int}(e1:qs.map (·.2)=qs'.map (·.2))(e2:rs.map (·.2)=rs'.map (·.2))(e3:ps.map cb=ps'.map cb)(h:Ab qs rs (FS wy ps) s w):Ab qs' rs' (FS wy ps') s w:=by
 refine⟨h.low,fun a b c d l1 l2 hs=>?_,?_⟩
 ·have:=h.least a b c d l1 l2 (rG e3.symm hs)
  rw[tU e1 e2]at this;exact this
 ·obtain⟨a,b,c,d,l1,l2,hs,ea⟩:=h.att
  exact⟨a,b,c,d,l1,l2,rG e3 hs,by rw[<- tU e1 e2];exact ea⟩
theorem uF{qs qs':Crn}(e:qs.map (·.2)=qs'.map (·.2)):aP qs=aP qs':=by
 have:=congrArg List.length e;rw[List.length_map,List.length_map]at this;unfold aP;rw[this]
structure IF(q:Pr):Prop where
 lx:AM q.a q.b
 ly:AM q.c q.d
 nx:0≤q.a
 ny:0≤q.c
 ba:au q.a≤200
 bb:au q.b≤60
 bc:au q.c≤200
 bd:au q.d≤60
theorem _root_.Wk.PrAt.n{H:Hp}{q:Pr}(h:PrAt H q):IF q:=⟨h.lx,h.ly,h.nx,h.ny,h.ba,h.bb,h.bc,h.bd⟩
theorem yr{a:Int}(h:au a≤200):a.natAbs<10^61:=Nat.lt_of_lt_of_le (dw h) (by decide)
theorem yq{a:Int}(h:au a≤60):a.natAbs<10^19:=Nat.lt_of_lt_of_le (dw h) (by decide)
theorem mi{a k:Nat}(h:a<10^k)(hk:k≤1000):a<10^1000:=Nat.lt_of_lt_of_le h (Nat.pow_le_pow_right (by decide) hk)
theorem ia{a b:Int}(ha:au a≤200)(hb:au b≤60):(bC a b).length≤83:=by
 have l1:=gz (k:=61) (by decide) (yr ha);have l2:=gz (k:=19) (by decide) (yq hb);have l3:qT.length=1:=rfl;unfold bC
 split
 ·omega
 ·rw[Str.length_append,Str.length_append]
  omega
theorem IF.ok4{q:Pr}(h:IF q):Ok4 (cb q):=by
 refine⟨⟨⟨h.lx,mi (yr h.ba) (by decide),mi (yq h.bb) (by decide)⟩,⟨h.ly,mi (yr h.bc) (by decide),mi (yq h.bd) (by decide)⟩⟩,?_⟩;have l1:=ia h.ba h.bb;have l2:=ia h.bc h.bd;have l3:fN.length=1:=rfl;unfold aR cb;rw[Str.length_append,Str.length_append];dsimp only;omega
def asV(ps:List Pr):List (V×R4):=ps.map fun q=>(V.ref q.p,cb q)
theorem wR(ps:List Pr):(asV ps).map (·.2)=ps.map cb:=by
 unfold asV;rw[List.map_map];rfl
theorem sG{H:Hp}{l:Addr}{ps:List Pr}(h:zU H l ps):IP H l (asV ps):=⟨by
  rw[h.lst];unfold asV prs;rw[List.map_map];rfl,fun q hq=>by
  obtain⟨z,hz,rfl⟩:=List.mem_map.mp hq;have:=h.pr z hz;exact⟨z.p,z.x,z.y,rfl,this.p_,this.x_,this.y_⟩⟩
theorem jR{H:Hp}:∀{qs:List (V×R4)} {ps:List Pr},(∀q∈qs,PrT H q.1 q.2)->qs.map (·.2)=ps.map cb->(∀q∈ps,IF q)->∃ps',prs ps'=qs.map (·.1)∧ps'.map cb=ps.map cb∧∀q∈ps',PrAt H q
 | [],[],_,_,_=>⟨[],rfl,rfl,fun q h=>nomatch h⟩
 | [],_::_,_,e,_=>by simp at e
 | _::_,[],_,e,_=>by simp at e
 | x::xs,z::zs,h,e,hn=>by
  rw[List.map_cons,List.map_cons,List.cons.injEq]at e;obtain⟨ps',e1,e2,e3⟩:=jR (fun q hq=>h q (.tail _ hq)) e.2 fun q hq=>hn q (.tail _ hq);obtain⟨p,a,b,f0,f1,f2,f3⟩:=h x (.head _);have n:=hn z (.head _);rw[e.1]at f2 f3;refine⟨⟨p,a,b,z.a,z.b,z.c,z.d⟩::ps',?_,?_,fun q hq=>?_⟩
  ·rw[List.map_cons,f0,<- e1]
   rfl
  ·rw[List.map_cons,List.map_cons,e2]
   rfl
  ·rcases List.mem_cons.mp hq with rfl|hq
   ·exact⟨f1,f2,f3,n.lx,n.ly,n.nx,n.ny,n.ba,n.bb,n.bc,n.bd⟩
   ·exact e3 q hq
theorem sA{H:Hp}{l:Addr}{qs:List (V×R4)}{ps:List Pr}(L:IP H l qs)(e:qs.map (·.2)=ps.map cb)(hn:∀q∈ps,IF q):∃ps',zU H l ps'∧ps'.map cb=ps.map cb:=by
 obtain⟨ps',e1,e2,e3⟩:=jR L.prs e hn;exact⟨ps',⟨by rw[L.lst,e1],e3⟩,e2⟩
abbrev noL(x:Str):Prop:=∀cs,OkL cs->x≠cq cs
abbrev noP(x:Str):Prop:=∀w y rs,Iu w y rs->x≠cy w y rs
theorem fA(a b c:Str):a++b++c=a++(b++c):=PyProof.Rows.ext_toList (by simp only[bo,List.append_assoc])
theorem ke(w:Str):∀{ws:List Str},ws≠[]->Str.join ⟨#[32]⟩ (ws++[w])=Str.join ⟨#[32]⟩ ws++(⟨#[32]⟩++w)
 | [],h=>absurd rfl h
 | [a],_=>fA a ⟨#[32]⟩ w
 | a::b::r,_=>by
  show a++⟨#[32]⟩++Str.join ⟨#[32]⟩ (b::r++[w])=a++⟨#[32]⟩++Str.join ⟨#[32]⟩ (b::r)++(⟨#[32]⟩++w);rw[ke w (by simp)];simp only[fA]
theorem rE(a w:Str):∀ws:List Str,Str.join ⟨#[32]⟩ (ws++[a])++w=Str.join ⟨#[32]⟩ (ws++[a++w])
 | []=>rfl
 | [b]=>fA (b++⟨#[32]⟩) a w
 | b::c::r=>by
  show b++⟨#[32]⟩++Str.join ⟨#[32]⟩ (c::r++[a])++w=b++⟨#[32]⟩++Str.join ⟨#[32]⟩ (c::r++[a++w]);rw[fA,rE a w (c::r)]
theorem j5{x:Str}{ws:List Str}(e:x=Str.join ⟨#[32]⟩ ws)(hne:ws≠[])(hb:∀q∈ws,32∉q.cps.toList)(h:∃w∈ws,∀c:Int×Int,Sm c.1∧Sm c.2->w≠a6 c):noL x:=fun cs ok e2=>by
 have s1:=fD ok.1;rw[<- e2,e,cS,eC hne hb]at s1;obtain⟨w,hw,hc⟩:=h;rw[s1]at hw;obtain⟨c,hc1,rfl⟩:=List.mem_map.mp hw;exact hc c (ok.2.2 c hc1) rfl
theorem j4{x:Str}{ws:List Str}(e:x=Str.join ⟨#[32]⟩ ws)(hne:ws≠[])(hb:∀q∈ws,32∉q.cps.toList)(h:∀w y rs,Iu w y rs->ws≠w::y::rs.map aR):noP x:=fun w y rs ok e2=>by
 have s1:=eR (rs:=rs) ok.word ok.way;rw[<- e2,e,cS,eC hne hb]at s1;exact h w y rs ok s1
theorem qF{w:Str}{k:Nat}(hk:k∈w.cps.toList)(h:k≠45∧k≠44∧(k<48∨57<k))(c:Int×Int):w≠a6 c:=fun e=>by
 rw[e,ge]at hk;rcases List.mem_append.mp hk with hk|hk
 ·exact dF ⟨h.1,h.2.2⟩ hk
 ·rcases List.mem_cons.mp hk with hk|hk
  ·exact h.2.1 hk
  ·exact dF ⟨h.1,h.2.2⟩ hk
theorem dM{w:Str}(h:44∉w.cps.toList)(c:Int×Int):w≠a6 c:=fun e=>by
 rw[e,ge]at h;simp at h
theorem iK{w a b:Str}(e:w.cps.toList=a.cps.toList++44::b.cps.toList)(ha:44∉a.cps.toList){c:Int×Int}(h:w=a6 c):a=num c.1∧b=num c.2:=by
 rw[h,ge]at e;obtain⟨e1,e2⟩:=iJ (dF (by decide)) ha e;exact⟨(PyProof.Rows.ext_toList e1).symm,(PyProof.Rows.ext_toList e2).symm⟩
theorem xQ(n:Int):Str.ofString "01"≠num n:=fun e=>by
 have e':[48,49]=(num n).cps.toList:=by rw[<- e];rfl
 rcases dG n with⟨h,_⟩|⟨h,_⟩
 ·rw[h]at e'
  have v:=fw n.natAbs;rw[<- e']at v;have v:1=n.natAbs:=v;rw[<- v]at e';exact absurd e' (by decide +kernel)
 ·rw[h]at e'
  exact absurd (List.cons.inj e').1 (by decide)
theorem xP(n:Int):Str.ofString "-0"≠num n:=fun e=>by
 have e':[45,48]=(num n).cps.toList:=by rw[<- e];rfl
 rcases dG n with⟨h,_⟩|⟨h,h2⟩
 ·rw[h]at e'
  have:=dr n.natAbs 45 (by rw[<- e'];simp);omega
 ·rw[h]at e'
  have v:=fw n.natAbs;rw[<- (List.cons.inj e').2]at v;have v:0=n.natAbs:=v;omega
theorem uj:Str.ofString "1000000000000" = num 1000000000000:=by decide +kernel
theorem pj{w a b:Str}(e:w.cps.toList=a.cps.toList++44::b.cps.toList)(ha:44∉a.cps.toList)(hb:44∈b.cps.toList)(c:Int×Int):w≠a6 c:=fun h=>by
 rw[(iK e ha h).2]at hb;exact dF (by decide) hb
theorem sW(c d:Int×Int):a6 c++Str.ofString ",0"≠a6 d :=
 pj (a:=num c.1) (b:=num c.2++Str.ofString ",0") (by rw[bo,ge,bo,List.append_assoc];rfl) (dF (by decide)) (by rw[bo];exact List.mem_append_right _ (by decide)) d
theorem fj{cs:List (Int×Int)}(h1:1≤cs.length){y w:Str}(e:y=⟨#[32]⟩++w)(hb:32∉w.cps.toList)(hw:∀c:Int×Int,Sm c.1∧Sm c.2->w≠a6 c):noL (cq cs++y):=by
 have hne:cs.map a6≠[]:=fun z=>by
  have:=congrArg List.length z;rw[List.length_map,List.length_nil]at this;omega
 refine j5 (ws:=cs.map a6++[w]) (by rw[ke w hne,e];rfl) (by simp) (fun q hq=>?_) ⟨w,by simp,hw⟩;rcases List.mem_append.mp hq with hq|hq
 ·obtain⟨c,_,rfl⟩:=List.mem_map.mp hq
  exact du c
 ·rw[List.mem_singleton.mp hq]
  exact hb
theorem qo{cs:List (Int×Int)}(h1:1≤cs.length):noL (Str.ofString " "++cq cs):=by
 obtain⟨a,r,rfl⟩:∃a r,cs=a::r:=by
  cases cs with
  | nil=>simp at h1
  | cons a r=>exact⟨a,r,rfl⟩
 refine j5 (ws:=Str.empty::(a::r).map a6) (by rw[cS];exact(congrArg (·++cq (a::r)) (i8 ⟨#[32]⟩)).symm) (by simp) (fun q hq=>?_) ⟨Str.empty,by simp,fun c _=>dM (by decide) c⟩;rcases List.mem_cons.mp hq with rfl|hq
 ·decide
 ·obtain⟨c,_,rfl⟩:=List.mem_map.mp hq
  exact du c
theorem sM{cs:List (Int×Int)}(h1:1≤cs.length):noL (cq cs++Str.ofString ",0"):=by
 obtain⟨ds,d,rfl⟩:∃ds d,cs=ds++[d]:=by
  have hne:cs≠[]:=fun z=>by rw[z]at h1;simp at h1
  exact⟨cs.dropLast,cs.getLast hne,(List.dropLast_concat_getLast hne).symm⟩
 refine j5 (ws:=ds.map a6++[a6 d++Str.ofString ",0"]) (by rw[<- rE,cq,List.map_append];rfl) (by simp) (fun q hq=>?_) ⟨a6 d++Str.ofString ",0",by simp,fun c _=>sW d c⟩;rcases List.mem_append.mp hq with hq|hq
 ·obtain⟨c,_,rfl⟩:=List.mem_map.mp hq
  exact du c
 ·rw[List.mem_singleton.mp hq,bo]
  intro z;rcases List.mem_append.mp z with z|z
  ·exact du d z
  ·revert z
   decide
theorem ij{x:Str}(h:32∉x.cps.toList)(hw:∀c:Int×Int,x≠a6 c):noL x:=j5 (ws:=[x]) rfl (by simp) (fun q hq=>by rw[List.mem_singleton.mp hq];exact h) ⟨x,by simp,fun c _=>hw c⟩
def tw(x:Str):List Str:=[Str.ofString "",Str.ofString " ",x++Str.ofString " ",Str.ofString " "++x,x++Str.ofString " 1",x++Str.ofString " 1/1:0",x++Str.ofString " 0,0:0",x++Str.ofString ",0",x++Str.ofString " 01,2",x++Str.ofString " 1000000000000,0",Str.ofString "1;2",Str.ofString "1,2,3",Str.ofString "-0,1"]
theorem wO{cs:List (Int×Int)}(h1:1≤cs.length):∀y∈tw (cq cs),noL y:=fun y hy=>by
 simp only[tw,List.mem_cons,List.not_mem_nil,or_false]at hy;rcases hy with rfl|rfl|rfl|rfl|rfl|rfl|rfl|rfl|rfl|rfl|rfl|rfl|rfl
 ·exact ij (by decide) (dM (by decide))
 ·exact j5 (ws:=[Str.empty,Str.empty]) (by decide +kernel) (by simp) (by decide) ⟨Str.empty,by simp,fun c _=>dM (by decide) c⟩
 ·exact fj h1 (w:=Str.empty) (by decide +kernel) (by decide) fun c _=>dM (by decide) c
 ·exact qo h1
 ·exact fj h1 (w:=Str.ofString "1") (by decide +kernel) (by decide) fun c _=>dM (by decide) c
 ·exact fj h1 (w:=Str.ofString "1/1:0") (by decide +kernel) (by decide) fun c _=>dM (by decide) c
 ·exact fj h1 (w:=Str.ofString "0,0:0") (by decide +kernel) (by decide) fun c _=>qF (k:=58) (by decide) (by decide) c
 ·exact sM h1
 ·exact fj h1 (w:=Str.ofString "01,2") (by decide +kernel) (by decide) fun c _ e=>xQ c.1 (iK (a:=Str.ofString "01") (b:=Str.ofString "2") (by decide +kernel) (by decide) e).1
 ·refine fj h1 (w:=Str.ofString "1000000000000,0") (by decide +kernel) (by decide) fun c hc e=>?_
  have:=(iK (a:=Str.ofString "1000000000000") (b:=Str.ofString "0") (by decide +kernel) (by decide) e).1;rw[uj]at this;have h:=gA this;have h2:=hc.1.2;unfold gK at h2;omega
 ·exact ij (by decide) (dM (by decide))
 ·exact ij (by decide) (pj (a:=Str.ofString "1") (b:=Str.ofString "2,3") (by decide +kernel) (by decide) (by decide))
 ·exact ij (by decide) fun c e=>xP c.1 (iK (a:=Str.ofString "-0") (b:=Str.ofString "1") (by decide +kernel) (by decide) e).1
theorem qh{w:Str}{k:Nat}(hk:k∈w.cps.toList)(h:k≠45∧k≠47∧(k<48∨57<k))(h2:k≠58)(r:R4):w≠aR r:=fun e=>by
 rw[e,ii]at hk;rcases List.mem_append.mp hk with hk|hk
 ·exact eG h hk
 ·rcases List.mem_cons.mp hk with hk|hk
  ·exact h2 hk
  ·exact eG h hk
theorem lG{w:Str}(h:58∉w.cps.toList)(r:R4):w≠aR r:=fun e=>by
 rw[e,ii]at h;simp at h
theorem oo{w a b:Str}(e:w.cps.toList=a.cps.toList++58::b.cps.toList)(ha:58∉a.cps.toList){r:R4}(h:w=aR r):a=bC r.1.1 r.1.2∧b=bC r.2.1 r.2.2:=by
 rw[h,ii]at e;obtain⟨e1,e2⟩:=iJ (eG (by decide)) ha e;exact⟨(PyProof.Rows.ext_toList e1).symm,(PyProof.Rows.ext_toList e2).symm⟩
theorem vX:Str.ofString "1" = num 1:=by decide +kernel
theorem tV(a b:Int):Str.ofString "1/1"≠bC a b:=fun e=>by
 unfold bC at e
 split at e
 ·have:47∉(num a).cps.toList:=dF (by decide)
  rw[<- e]at this;exact this (by decide)
 ·next hb =>
  have e':(Str.ofString "1/1").cps.toList=(num a).cps.toList++47::(num b).cps.toList:=by
   rw[e,bo,bo,List.append_assoc];rfl
  have e2:(Str.ofString "1").cps.toList++47::(Str.ofString "1").cps.toList=(num a).cps.toList++47::(num b).cps.toList:=by
   rw[<- e'];decide +kernel
  obtain⟨_,e3⟩:=iJ (by decide) (dF (by decide)) e2;have:=PyProof.Rows.ext_toList e3;rw[vX]at this;exact hb (gA this).symm
theorem ug{w a b:Str}(e:w.cps.toList=a.cps.toList++58::b.cps.toList)(ha:58∉a.cps.toList)(hb:58∈b.cps.toList)(r:R4):w≠aR r:=fun h=>by
 rw[(oo e ha h).2]at hb;exact eG (by decide) hb
theorem oj{w y:Str}{rs:List R4}(hw:w∈dY)(hy:y∈dQ):∀q∈w::y::rs.map aR,32∉q.cps.toList:=fun q hq=>by
 rcases List.mem_cons.mp hq with rfl|hq
 ·exact gP _ hw
 ·rcases List.mem_cons.mp hq with rfl|hq
  ·exact hZ _ hy
  ·obtain⟨c,_,rfl⟩:=List.mem_map.mp hq
   exact ig c
theorem gv{w y:Str}{rs:List R4}(hw:w∈dY)(hy:y∈dQ){z v:Str}(e:z=⟨#[32]⟩++v)(hb:32∉v.cps.toList)(hv:∀r,v≠aR r):noP (cy w y rs++z):=by
 refine j4 (ws:=(w::y::rs.map aR)++[v]) (by rw[ke v (by simp),e];rfl) (by simp) (fun q hq=>?_) fun w' y' rs' ok h=>?_
 ·rcases List.mem_append.mp hq with hq|hq
  ·exact oj hw hy q hq
  ·rw[List.mem_singleton.mp hq]
   exact hb
 ·rw[List.cons_append,List.cons_append,List.cons.injEq,List.cons.injEq]at h
  have hm:v∈rs'.map aR:=by
   rw[<- h.2.2];simp
  obtain⟨r,_,rfl⟩:=List.mem_map.mp hm;exact hv r rfl
theorem g8{x:Str}{k:Nat}{l:List Nat}(h:x.cps.toList=k::l)(hk:k≠119∧k≠102):noP x:=fun w y rs ok e=>by
 have e1:(cy w y rs).cps.toList=w.cps.toList++((⟨#[32]⟩:Str).cps.toList++(Str.join ⟨#[32]⟩ (y::rs.map aR)).cps.toList):=by
  show(w++⟨#[32]⟩++Str.join ⟨#[32]⟩ (y::rs.map aR)).cps.toList=_;rw[bo,bo,List.append_assoc]
 rw[<- e,h]at e1;have hw:=ok.word;unfold dY at hw;simp only[List.mem_cons,List.not_mem_nil,or_false]at hw;rcases hw with rfl|rfl
 ·exact hk.1 (List.cons.inj e1).1
 ·exact hk.2 (List.cons.inj e1).1
theorem lE{x:Str}{ws:List Str}(e:x=Str.join ⟨#[32]⟩ ws)(hne:ws≠[])(hb:∀q∈ws,32∉q.cps.toList)(h:ws.length≤2):noP x:=j4 e hne hb fun w y rs ok z=>by
 have:=ok.one;rw[z]at h;simp at h;rw[h]at this;simp at this
theorem lD{x a b:Str}{ws:List Str}(e:x=Str.join ⟨#[32]⟩ (a::b::ws))(hb:∀q∈a::b::ws,32∉q.cps.toList)(h:b∉dQ):noP x:=j4 e (by simp) hb fun w y rs ok z=>by
 rw[List.cons.injEq,List.cons.injEq]at z;rw[z.2.1]at h;exact h ok.way
def dD:Str:=Str.ofString "fence"
theorem gc:dD∈dY:=by decide
def tu(x:Str):List Str:=[Str.ofString "",Str.ofString " ",x++Str.ofString " ",Str.ofString " "++x,x++Str.ofString " 1",x++Str.ofString " 1/1:0",x++Str.ofString " 0,0:0",Str.ofString "walk on",Str.ofString "way on 0:0",Str.ofString "walk up 0:0",Str.ofString "walk on 0:0:0",Txt.upper x,Str.ofString "fence  on 0:0"]
theorem wN{y:Str}{rs:List R4}(hy:y∈dQ):∀z∈tu (cy dD y rs),noP z:=fun z hz=>by
 simp only[tu,List.mem_cons,List.not_mem_nil,or_false]at hz;rcases hz with rfl|rfl|rfl|rfl|rfl|rfl|rfl|rfl|rfl|rfl|rfl|rfl|rfl
 ·exact lE (ws:=[Str.empty]) (by decide +kernel) (by simp) (by decide) (by simp)
 ·exact g8 (k:=32) (l:=[]) (by decide) (by decide)
 ·exact gv gc hy (v:=Str.empty) (by decide +kernel) (by decide) (lG (by decide))
 ·exact g8 (k:=32) (by rw[bo];rfl) (by decide)
 ·exact gv gc hy (v:=Str.ofString "1") (by decide +kernel) (by decide) (lG (by decide))
 ·exact gv gc hy (v:=Str.ofString "1/1:0") (by decide +kernel) (by decide) fun r e=>tV _ _ (oo (a:=Str.ofString "1/1") (b:=Str.ofString "0") (by decide +kernel) (by decide) e).1
 ·exact gv gc hy (v:=Str.ofString "0,0:0") (by decide +kernel) (by decide) (qh (k:=44) (by decide) (by decide) (by decide))
 ·exact lE (ws:=[Str.ofString "walk",Str.ofString "on"]) (by decide +kernel) (by simp) (by decide) (by simp)
 ·refine j4 (ws:=[Str.ofString "way",Str.ofString "on",Str.ofString "0:0"]) (by decide +kernel) (by simp) (by decide) fun w y rs ok e=>?_
  have:=ok.word;rw[<- (List.cons.inj e).1]at this;revert this;decide
 ·exact lD (a:=Str.ofString "walk") (b:=Str.ofString "up") (ws:=[Str.ofString "0:0"]) (by decide +kernel) (by decide) (by decide)
 ·refine j4 (ws:=[Str.ofString "walk",Str.ofString "on",Str.ofString "0:0:0"]) (by decide +kernel) (by simp) (by decide) fun w y rs ok e=>?_
  rw[List.cons.injEq,List.cons.injEq]at e;have hm:Str.ofString "0:0:0"∈rs.map aR:=by
   rw[<- e.2.2];simp
  obtain⟨r,_,hr⟩:=List.mem_map.mp hm;exact ug (a:=Str.ofString "0") (b:=Str.ofString "0:0") (by decide +kernel) (by decide) (by decide) r hr.symm
 ·have e:cy dD y rs=⟨#[102]⟩++(Str.ofString "ence"++⟨#[32]⟩++Str.join ⟨#[32]⟩ (y::rs.map aR)):=by
   show dD++⟨#[32]⟩++Str.join ⟨#[32]⟩ (y::rs.map aR)=_;rw[show dD=⟨#[102]⟩++Str.ofString "ence" by decide +kernel];simp only[fA]
  rw[e,W.KOpn.upper_app,W.KOpn.upper_one (by decide)];exact g8 (k:=70) (by rw[bo];rfl) (by decide)
 ·exact lD (a:=Str.ofString "fence") (b:=Str.empty) (ws:=[Str.ofString "on",Str.ofString "0:0"]) (by decide +kernel) (by decide) (by decide)
def xR(s w:Int):Str:=Str.ofString "no shorter than "++bC s w
inductive HX (vs:List V) (x_1:Hp) (x_2:VK) (x_3:XK):Prop
 | mk:∀a b c d:V,(vs = [a,b,c,d])->(False)->HX vs x_1 x_2 x_3
def yp(x y z:Str):Prop:=noL x∨noL y∨noP z
structure Iv(x y z:Str)(qs rs:Crn)(ps:List Pr)(wy:Str):Prop where
 ex:x=cq (qs.map (·.2))
 ey:y=cq (rs.map (·.2))
 ez:z=cy dD wy (ps.map cb)
 ok1:OkL (qs.map (·.2))
 ok2:OkL (rs.map (·.2))
 ok3:Iu dD wy (ps.map cb)
 nm:∀q∈ps,IF q
def xZ(x y z:Str):Prop:=x.length≤800∧y.length≤800∧z.length≤60000
inductive Ig (CT CF:Addr) (vs:List V) (H:Hp) (Q:VK) (E:XK):Prop
  | mk:∀x y z:Str,(vs = [.str x,.str y,.str z])->(xZ x y z)->(((yp x y z∧∀H',Same H H'->E (.ref CT) none H') ∨
   (∃(qs rs:Crn) (ps:List Pr) (wy:Str),Iv x y z qs rs ps wy∧(bQ (aP qs) (aP rs) wy ps=false->∀H',Same H H'->E (.ref CF) none H') ∧
     (bQ (aP qs) (aP rs) wy ps=true->∀(s w:Int) (H':Hp),Ab qs rs (FS wy ps) s w->Same H H'->Q (.str (xR s w)) H'))))->Ig CT CF vs H Q E
def yB:List V:=[.bl true,.bl false,.bl false,.bl false]
def xn:List V:=[.bl false,.bl false,.bl true,.bl false]
inductive Fu (vs:List V) (H:Hp) (Q:VK) (x_3:XK):Prop
  | mk:∀(l:Addr) (x y z:Str),(vs = [.ref l])->(H l=some (.lst [.str x,.str y,.str z]))->(xZ x y z)->(((yp x y z∧∀(r:Addr) (H':Hp),H' r=some (.tup yB)->Same H H'->Q (.ref r) H') ∨
   (∃(qs rs:Crn) (ps:List Pr) (wy:Str),Iv x y z qs rs ps wy∧(bQ (aP qs) (aP rs) wy ps=false->∀(r:Addr) (H':Hp),H' r=some (.tup xn)->Same H H'->Q (.ref r) H') ∧
     (bQ (aP qs) (aP rs) wy ps=true->∀(s w:Int) (H':Hp),Ab qs rs (FS wy ps) s w->Same H H'->Q (.str (xR s w)) H'))))->Fu vs H Q x_3
theorem xk{wy:Str}(h:wy∈dQ):gU wy:=by
 unfold dQ at h;simp only[List.mem_cons,List.not_mem_nil,or_false]at h;exact h
theorem xl{wy:Str}(h:gU wy):wy∈dQ:=by
 unfold dQ;simp only[List.mem_cons,List.not_mem_nil,or_false];exact h
theorem uM{qs qs':Crn}(e:qs.map (·.2)=qs'.map (·.2)):qs.length=qs'.length:=by
 have:=congrArg List.length e;rw[List.length_map,List.length_map]at this;exact this
theorem vf{s w:Int}{H:Hp}{p:Addr}(f:CP H p s w 2103):(Dg s∧Dg w)∧(bC s w).length≤2010:=by
 have h:∀{x:Int},au x≤2103->x.natAbs<10^1000:=fun hx=>Nat.lt_of_lt_of_le (dw hx) (Nat.le_trans (m:=10^640) (by decide +kernel) (Nat.pow_le_pow_right (by decide) (by decide)));exact⟨⟨Dg.of (h f.ba) (by decide),Dg.of (h f.bb) (by decide)⟩,iQ (h f.ba) (h f.bb)⟩
theorem F6:zQ ["one","other","walk","way","squares"] ["one","other","walk","way"] (ag (top 88)):=smk
theorem kh(Cy:HN K mg "walk_square" (top 88) [.str "on"]):Fx P w K mg base "walk_square" ["one","other","walk","way"] 1 [.str "on"] HX:=by
 refine Cy.fx F6 (fun T kV doc pm an cdv ct us its oT n s hv hl ho hs=>?_) (fun T kV doc pm an cdv ct us its oT n s hv hl ho hs=>?_) (fun vs H Q E h=>?_) (fun f cdv A outer s H vs Q E hr h=>?_)
 ·obtain⟨u,rfl,_⟩:=cT hv
  obtain⟨_,_,_,_,rfl⟩:=ir hl;exact BindsTo.of_defaults rfl ho hs rfl rfl
 ·obtain⟨u,rfl,_⟩:=cT hv
  have hl1:us.length=3:=by simpa using hl
  obtain⟨_,_,_,rfl⟩:=fI hl1;exact BindsTo.of_defaults rfl ho hs rfl rfl
 ·obtain⟨a,b,c,d,rfl,_⟩:=h
  rfl
 ·obtain⟨a,b,c,d,rfl,hf⟩:=h
  exact hf.elim
theorem BJ:zQ ["one","other","paper","first","second","read","way","pairs","bound"] ["one","other","paper"] (ag (top 90)):=smk
theorem sV{CT CF:Addr}(FZ:Df K mg "judged" (top 90))(DG:Dig K)(Cn:Fx P w K mg base "read_line" ["text"] 5 [] (Gj CT))(Db:Fx P w K mg base "read_paper" ["text"] 5 [] (Fz CT))(AC:Fn P w K mg base "show_ratio" ["a"] 1 Ef)(Cc:Fx P w K mg base "fence_square" ["one","other","fence","way"] 10 [.str "on"] (Ii CF))(Cr:Fx P w K mg base "walk_square" ["one","other","walk","way"] 1 [.str "on"] HX)(T:Txt mg):Fx P w K mg base "judged" ["one","other","paper"] 11 [] (Ig CT CF):=by
 refine FZ.fx BJ (fun _ _ _ _ _ _ us hl=>by obtain⟨_,_,_,rfl⟩:=fI hl;rfl) (fun vs H Q E h=>?_) (fun f cdv A outer s H vs Q E hr h=>?_)
 ·obtain⟨x,y,z,rfl,_⟩:=h
  rfl
 ·obtain⟨x,y,z,rfl,hl,h⟩:=h
  refine⟨_,(af (av (i:=3) BJ.nd rfl (Or.inl rfl) (dj Cn (hr.mono (by decide)) (by rfl) (aa (pv 0) ae))) (af (av (i:=4) BJ.nd rfl (Or.inl rfl) (dj Cn (hr.mono (by decide)) (by rfl) (aa (pv 1) ae))) (af (av (i:=5) BJ.nd rfl (Or.inl rfl) (dj Db (hr.mono (by decide)) (by rfl) (aa (pv 2) ae))) (af (av (i:=6) BJ.nd rfl (Or.inl rfl) (aj ak (pv 5) ac (fun _ _=>rfl))) (af (av (i:=7) BJ.nd rfl (Or.inl rfl) (aj ak (pv 5) ac (fun _ _=>rfl))) (af (aF (ar aW (aj ak (pv 5) ac (fun _ _=>rfl)) aE (aq _)) (af (av (i:=8) BJ.nd rfl (Or.inl rfl) (ao AC (hr.mono (by decide)) (by rfl) (aa (dj Cc (hr.mono (by decide)) (by rfl) (aa (pv 3) (aa (pv 4) (aa (pv 7) (aa (pv 6) ae))))) ae))) (ah (am (og aE (mF (K:=K) rfl DG rfl (pv 8)))))) aw) (af (av (i:=8) BJ.nd rfl (Or.inl rfl) (ao AC (hr.mono (by decide)) (by rfl) (aa (dj Cr (hr.mono (by decide)) (by rfl) (aa (pv 3) (aa (pv 4) (aa (pv 7) (aa (pv 6) ae))))) ae))) (ah (am (og aE (mF (K:=K) rfl DG rfl (pv 8)))))))))))),?_⟩;rcases h with⟨hb,kE⟩|⟨qs,rs,ps,wy,gt,kE,kQ⟩
  ·by_cases h1:∃cs,x=cq cs∧OkL cs
   ·obtain⟨cs,e1,ok1⟩:=h1
    refine⟨_,rfl,x,rfl,hl.1,.inl ⟨cs,e1,ok1,fun l1 r1 H1 s1 L1 m1=>?_⟩⟩
    by_cases h2:∃cs,y=cq cs∧OkL cs
    ·obtain⟨ds,e2,ok2⟩:=h2
     refine⟨_,rfl,y,rfl,hl.2.1,.inl ⟨ds,e2,ok2,fun l2 r2 H2 s2 L2 m2=>?_⟩⟩;refine⟨_,rfl,z,rfl,hl.2.2,.inr ⟨?_,fun H3 s3=>kE H3 (s1.trans (s2.trans s3))⟩⟩;rcases hb with hb|hb|hb
     ·exact absurd e1 (hb cs ok1)
     ·exact absurd e2 (hb ds ok2)
     ·exact hb
    ·exact⟨_,rfl,y,rfl,hl.2.1,.inr ⟨fun cs ok e=>h2 ⟨cs,e,ok⟩,fun H2 s2=>kE H2 (s1.trans s2)⟩⟩
   ·exact⟨_,rfl,x,rfl,hl.1,.inr ⟨fun cs ok e=>h1 ⟨cs,e,ok⟩,fun H1 s1=>kE H1 s1⟩⟩
  ·refine⟨_,rfl,_,rfl,hl.1,.inl ⟨_,gt.ex,gt.ok1,fun l1 r1 H1 s1 L1 m1=>?_⟩⟩
   refine⟨_,rfl,_,rfl,hl.2.1,.inl ⟨_,gt.ey,gt.ok2,fun l2 r2 H2 s2 L2 m2=>?_⟩⟩;refine⟨_,rfl,_,rfl,hl.2.2,.inl ⟨_,_,_,gt.ez,gt.ok3,fun t H3 s3 Pt=>?_⟩⟩;obtain⟨l3,qt,et,Lt,ert⟩:=Pt;obtain⟨ps',PP,ep⟩:=sA Lt ert gt.nm;have hpl:ps'.length≤200:=by
    have h1:=congrArg List.length ep;have h2:=gt.ok3.most;rw[List.length_map,List.length_map]at h1;rw[List.length_map]at h2;omega
   have k1:=uM m1;have k2:=uM m2;have o1:=gt.ok1;have o2:=gt.ok2;have a1:=o1.1;have a2:=o1.2.1;have b1:=o2.1;have b2:=o2.2.1;rw[List.length_map]at a1 a2 b1 b2;have ew:bQ (aP r1) (aP r2) wy ps'=bQ (aP qs) (aP rs) wy ps:=by rw[uF m1,uF m2,qD ep]
   refine⟨_,rfl,t,_,_,_,rfl,rfl,SqT.of et,rfl,?_⟩;refine⟨_,rfl,t,_,_,_,rfl,rfl,SqT.of et,rfl,?_⟩;refine⟨_,rfl,t,_,_,_,rfl,rfl,SqT.of et,rfl,rfl,_,rfl,cZ (by decide) ?_⟩;refine⟨_,rfl,_,rfl,_,rfl,_,rfl,l1,l2,l3,r1,r2,ps',wy,rfl,⟨(L1.mono (s2.trans s3)).la,by omega,by omega⟩,⟨(L2.mono s3).la,by omega,by omega⟩,PP,by omega,xk gt.ok3.way,fun hf H4 s4=>kE (by rw[<- ew];exact hf) H4 (s1.trans (s2.trans (s3.trans s4))),fun ht r s' w' H4 fr mx s4=>?_⟩;obtain⟨dg,hz⟩:=vf fr;have hle:(Str.ofString "no shorter than ").length=16:=rfl;refine⟨r,s',w',rfl,fr.at_,dg,?_⟩;exact⟨_,rfl,bP (by omega),_,rfl,.inr ⟨_,rfl,bP (by omega),_,rfl,bP (by omega),kQ (by rw[<- ew];exact ht) s' w' H4 (xU m1 m2 ep mx) (s1.trans (s2.trans (s3.trans s4)))⟩⟩
theorem AF:zQ ["texts","told","e","others"] ["texts"] (ag (top 132)):=smk
theorem km{B CT CF C1 C2 C3 C4:Addr}(CC:Df K mg "_law_told_of" (top 132))(C8:AW K mg "LeashError" B)(Aa:AW K mg "NoText" CT)(FR:AW K mg "NoWalk" C1)(Bv:AW K mg "NoFence" CF)(FT:AW K mg "NoLine" C2)(BW:AW K mg "NoPlace" C3)(D9:AW K mg "NoWay" C4)(FJ:W.exmOne K (.ref CT) (.ref B)=some true)(f_NoText:Ix K CT)(EU:W.kitOne K (.ref CT) (.ref CT)=some true)(ES:W.kitOne K (.ref CT) (.ref C1)=some false)(EV:W.kitOne K (.ref CT) (.ref CF)=some false)(ET:W.kitOne K (.ref CT) (.type "ValueError")=some true)(EW:W.kitAny K (.ref CT) [.ref C2,.ref C3,.ref C4]=some false)(ER:W.exmOne K (.ref CF) (.ref B)=some true)(f_NoFence:Ix K CF)(Ei:W.kitOne K (.ref CF) (.ref CT)=some false)(Eg:W.kitOne K (.ref CF) (.ref C1)=some false)(Ej:W.kitOne K (.ref CF) (.ref CF)=some true)(Eh:W.kitOne K (.ref CF) (.type "ValueError")=some true)(Ek:W.kitAny K (.ref CF) [.ref C2,.ref C3,.ref C4]=some false)(FX:Fx P w K mg base "judged" ["one","other","paper"] 11 [] (Ig CT CF))(T:Txt mg):Fn P w K mg base "_law_told_of" ["texts"] 12 Fu:=by
 refine CC.fn AF (fun _ _ _ _ _ _ us hl=>by obtain⟨_,rfl⟩:=dI hl;rfl) (fun vs H Q E h=>?_) (fun f cdv A outer s H vs Q E hr h=>?_)
 ·obtain⟨l,x,y,z,rfl,_⟩:=h
  rfl
 ·obtain⟨l,x,y,z,rfl,hl0,hl,h⟩:=h
  have HM:∀Z,(fun D=>D=CT∨D=CF) Z->W.exmOne K (.ref Z) (.ref B)=some true:=fun Z hC=>by
   rcases hC with rfl|rfl
   ·exact FJ
   ·exact ER
  have IE:∀e:Addr,dX (Cx.inH (aN CX0 P w K mg base ["texts","told","e","others"] "_law_told_of" (ag (top 132)) f cdv A outer s H E).nox e) (.builtin "isinstance") (Io K (fun D=>D=CT∨D=CF)):=fun e=>pE fun Z hC=>by
   rcases hC with rfl|rfl
   ·exact⟨⟨_,Aa⟩,f_NoText⟩
   ·exact⟨⟨_,Bv⟩,f_NoFence⟩
  refine⟨_,(af (av (i:=1) AF.nd rfl (Or.inl rfl) xK) (af (pV (i:=2) rfl rfl (vN (xD (i:=1) AF.nd rfl (Or.inl rfl) FX (hr.mono (by decide)) (by rfl) (aa (aj aC (pv 0) ac (fun _ _=>rfl)) (aa (aj aC (pv 0) ac (fun _ _=>rfl)) (aa (aj aC (pv 0) ac (fun _ _=>rfl)) ae))))) C8 (by rfl) (HM) rfl AF.nd rfl rfl (fun e=>(af (av (i:=3) AF.nd rfl (Or.inl rfl) (ic (az (IE e) (by rfl) T.z_isinstance aL (aa (pv 2) (aa (aG (aa (cC (v:=.ref _) (by rfl) FT.bound rfl) (aa (cC (v:=.ref _) (by rfl) BW.bound rfl) (aa (cC (v:=.ref _) (by rfl) D9.bound rfl) ae)))) ae))) (bJ (fF (az (IE e) (by rfl) T.z_isinstance aL (aa (pv 2) (aa (eT T.z_ValueError k8) ae))))))) (ah (av (i:=1) AF.nd rfl (Or.inl rfl) (aG (aa (az (IE e) (by rfl) T.z_isinstance aL (aa (pv 2) (aa (cC (v:=.ref _) (by rfl) Aa.bound rfl) ae))) (aa (az (IE e) (by rfl) T.z_isinstance aL (aa (pv 2) (aa (cC (v:=.ref _) (by rfl) FR.bound rfl) ae))) (aa (az (IE e) (by rfl) T.z_isinstance aL (aa (pv 2) (aa (cC (v:=.ref _) (by rfl) Bv.bound rfl) ae))) (aa (pv 3) ae)))))))))) (ah (am (pv 1))))),?_⟩;rcases h with⟨hb,kQ⟩|⟨qs,rs,ps,wy,gt,kE,kQ⟩
  ·refine⟨_,rfl,l,_,_,_,rfl,rfl,SqL.of hl0,rfl,_,rfl,l,_,_,_,rfl,rfl,SqL.of hl0,rfl,_,rfl,l,_,_,_,rfl,rfl,SqL.of hl0,rfl,x,y,z,rfl,hl,.inl ⟨hb,fun H1 s1=>?_⟩⟩
   refine⟨CT,rfl,.inl rfl,fun e he=>?_⟩;have fe:(upd H1 e (iG CT e)) e=some (iG CT e):=upd_same;have se:Same H1 (upd H1 e (iG CT e)):=Same.new he;generalize upd H1 e (iG CT e)=H2 at fe se ⊢;refine⟨_,rfl,sz (by simp),fun pt H3 s3 f3 n3=>⟨CT,.inl rfl,e,_,_,rfl,s3 _ _ fe,.inr (.inr ⟨pt,[C2,C3,C4],rfl,f3,EW⟩),?_⟩⟩;refine⟨_,rfl,aX (by decide) ?_⟩;refine⟨_,rfl,CT,.inl rfl,e,_,_,rfl,s3 _ _ fe,.inr (.inl ⟨_,rfl,ET⟩),_,rfl,?_⟩;refine⟨_,rfl,CT,.inl rfl,e,_,_,rfl,s3 _ _ fe,.inl ⟨_,rfl,EU⟩,_,rfl,CT,.inl rfl,e,_,_,rfl,s3 _ _ fe,.inl ⟨_,rfl,ES⟩,_,rfl,CT,.inl rfl,e,_,_,rfl,s3 _ _ fe,.inl ⟨_,rfl,EV⟩,_,rfl,sz (by simp),fun r H4 s4 f4 n4=>?_⟩;exact⟨_,rfl,kQ r H4 f4 (s1.trans (se.trans (s3.trans s4)))⟩
  ·refine⟨_,rfl,l,_,_,_,rfl,rfl,SqL.of hl0,rfl,_,rfl,l,_,_,_,rfl,rfl,SqL.of hl0,rfl,_,rfl,l,_,_,_,rfl,rfl,SqL.of hl0,rfl,x,y,z,rfl,hl,.inr ⟨qs,rs,ps,wy,gt,fun hf H1 s1=>?_,fun ht s' w' H1 mx s1=>⟨_,rfl,kQ ht s' w' H1 mx s1⟩⟩⟩
   refine⟨CF,rfl,.inr rfl,fun e he=>?_⟩;have fe:(upd H1 e (iG CF e)) e=some (iG CF e):=upd_same;have se:Same H1 (upd H1 e (iG CF e)):=Same.new he;generalize upd H1 e (iG CF e)=H2 at fe se ⊢;refine⟨_,rfl,sz (by simp),fun pt H3 s3 f3 n3=>⟨CF,.inr rfl,e,_,_,rfl,s3 _ _ fe,.inr (.inr ⟨pt,[C2,C3,C4],rfl,f3,Ek⟩),?_⟩⟩;refine⟨_,rfl,aX (by decide) ?_⟩;refine⟨_,rfl,CF,.inr rfl,e,_,_,rfl,s3 _ _ fe,.inr (.inl ⟨_,rfl,Eh⟩),_,rfl,?_⟩;refine⟨_,rfl,CF,.inr rfl,e,_,_,rfl,s3 _ _ fe,.inl ⟨_,rfl,Ei⟩,_,rfl,CF,.inr rfl,e,_,_,rfl,s3 _ _ fe,.inl ⟨_,rfl,Eg⟩,_,rfl,CF,.inr rfl,e,_,_,rfl,s3 _ _ fe,.inl ⟨_,rfl,Ej⟩,_,rfl,sz (by simp),fun r H4 s4 f4 n4=>?_⟩;exact⟨_,rfl,kE hf r H4 f4 (s1.trans (se.trans (s3.trans s4)))⟩
inductive Ij (vs:List V) (H:Hp) (Q:VK) (x_3:XK):Prop
 | mk:∀(l1 l2 l:Addr) (qs rs:Crn) (ps:List Pr) (wy:Str),(vs = [.ref l1,.ref l2,.ref l,.str wy])->((LineM H l1 qs∧1≤qs.length∧qs.length≤20))->((LineM H l2 rs∧1≤rs.length∧rs.length≤20))->(zU H l ps)->(ps.length<400)->((bQ (aP qs) (aP rs) wy ps=false->∀(r:Addr) (H':Hp),H' r=some (.tup xn)->Same H H'->Q (.ref r) H'))->((bQ (aP qs) (aP rs) wy ps=true->∀(s w:Int) (H':Hp),Ab qs rs (FS wy ps) s w->Same H H'->Q (.str (xR s w)) H'))->Ij vs H Q x_3
theorem GB:zQ ["one","other","pairs","way"] ["one","other","pairs","way"] (ag (top 133)):=smk
theorem kW(Dx:Df K mg "_law_due_of" (top 133))(Cb:Fn P w K mg base "_law_is_fence" ["one","other","thing","way"] 5 FC)(A8:Fn P w K mg base "_law_fence_square" ["one","other","fence","way"] 6 Ie)(AT:Fn P w K mg base "_law_shown" ["a"] 1 Ef):Fn P w K mg base "_law_due_of" ["one","other","pairs","way"] 7 Ij:=by
 refine Dx.fn GB (fun _ _ _ _ _ _ us hl=>by obtain⟨_,_,_,_,rfl⟩:=ir hl;rfl) (fun vs H Q E h=>?_) (fun f cdv A outer s H vs Q E hr h=>?_)
 ·obtain⟨l1,l2,l,qs,rs,ps,wy,rfl,_⟩:=h
  rfl
 ·obtain⟨l1,l2,l,qs,rs,ps,wy,rfl,⟨L1,h1,h20⟩,⟨L2,g1,g20⟩,PP,hlen,kE,kQ⟩:=h
  refine⟨_,(af (aF (bq (aM (ao Cb (hr.mono (by decide)) (by rfl) (aa (pv 0) (aa (pv 1) (aa (pv 2) (aa (pv 3) ae))))))) (ah (am (aG (aa bW (aa bW (aa bW (aa bW ae))))))) aw) (ah (am (ap bH aE (ao AT (hr.mono (by decide)) (by rfl) (aa (ao A8 (hr.mono (by decide)) (by rfl) (aa (pv 0) (aa (pv 1) (aa (pv 2) (aa (pv 3) ae))))) ae)))))),?_⟩;have hql:(qs.map fun (q:Addr×Int×Int)=>V.ref q.1).length=qs.length:=List.length_map _;have hrl:(rs.map fun (q:Addr×Int×Int)=>V.ref q.1).length=rs.length:=List.length_map _;refine⟨_,rfl,_,rfl,_,rfl,_,rfl,l1,l2,l,_,_,ps,wy,rfl,⟨L1.lst,by rw[hql];omega⟩,⟨L2.lst,by rw[hrl];omega⟩,PP,by omega,fun H1 s1=>?_⟩;rw[hql,hrl];refine⟨_,rfl,?_⟩;cases hc:bQ (aP qs) (aP rs) wy ps with
  | false =>
   refine cZ (by rw[show bQ ((qs.length:Int) - 1) ((rs.length:Int) - 1) wy ps=false from hc];rfl) ?_;exact⟨sz (by simp),fun r H2 s2 f2 n2=>kE hc r H2 f2 (s1.trans s2)⟩
  | true =>
   refine aX (by rw[show bQ ((qs.length:Int) - 1) ((rs.length:Int) - 1) wy ps=true from hc];decide) ?_;refine⟨_,rfl,_,rfl,_,rfl,_,rfl,l1,l2,l,qs,rs,ps,wy,rfl,⟨(L1.mono s1).la,h1,h20⟩,⟨(L2.mono s1).la,g1,g20⟩,PP.mono s1,hlen,lZ hc,fun r s' w' H2 fr mx s2=>?_⟩;obtain⟨dg,hz⟩:=vf (fr.wide (by decide));have hle:(Str.ofString "no shorter than ").length=16:=rfl;exact⟨r,s',w',rfl,fr.at_,dg,_,_,rfl,rfl,bP (by omega),kQ hc s' w' H2 mx (s1.trans s2)⟩
theorem qd{w y:Str}{rs:List R4}(h:∀r∈rs,(aR r).length≤167)(hl:rs.length≤101)(hw:w.length≤5∧y.length≤5):(cy w y rs).length≤17000:=by
 have h1:=StrLaws.join_length_le ⟨#[32]⟩ (w::y::rs.map aR);have h2:=StrLaws.sumLen_le (B:=167) (rs.map aR) fun y hy=>by
  obtain⟨c,hc,rfl⟩:=List.mem_map.mp hy;exact h c hc
 have h3:(⟨#[32]⟩:Str).length=1:=rfl;have h4:(w::y::rs.map aR).length≤103:=by simp;omega
 rw[List.length_map]at h2;rw[h3]at h1;simp only[List.map_cons,List.sum_cons]at h1;unfold cy;omega
theorem IF.len{q:Pr}(h:IF q):(aR (cb q)).length≤167:=by
 have l1:=ia h.ba h.bb;have l2:=ia h.bc h.bd;have l3:fN.length=1:=rfl;unfold aR cb;rw[Str.length_append,Str.length_append];dsimp only;omega
inductive Ik (vs:List V) (H:Hp) (Q:VK) (x_3:XK):Prop
 | mk:∀(p l:Addr) (x y z:Str) (a k:Int),(vs = [.ref p,.ref l,.int a])->(Pot H p k)->(k≤800000)->(H l=some (.lst [.str x,.str y,.str z]))->((0≤a∧a≤2))->(l≠p)->(((∃cs,x=cq cs∧OkL cs)∧(∃cs,y=cq cs∧OkL cs)∧∃wy rs,z=cy dD wy rs∧wy∈dQ))->((x.length≤600∧y.length≤600∧z.length≤17000))->(∀(r:Addr) (x' y' z':Str) (H':Hp),H' r=some (.lst [.str x',.str y',.str z'])->yp x' y' z'->xZ x' y' z'->But p H H'->Pot H' p (k+2)->Q (.ref r) H')->Ik vs H Q x_3
theorem vz{x:Str}(h:x.length≤600):∀y∈tw x,y.length≤800:=fun y hy=>by
 have e1:(Str.ofString " ").length=1:=rfl;have e2:(Str.ofString " 1").length=2:=rfl;have e3:(Str.ofString " 1/1:0").length=6:=rfl;have e4:(Str.ofString " 0,0:0").length=6:=rfl;have e5:(Str.ofString ",0").length=2:=rfl;have e6:(Str.ofString " 01,2").length=5:=rfl;have e7:(Str.ofString " 1000000000000,0").length=16:=rfl;simp only[tw,List.mem_cons,List.not_mem_nil,or_false]at hy;rcases hy with rfl|rfl|rfl|rfl|rfl|rfl|rfl|rfl|rfl|rfl|rfl|rfl|rfl <;> first|(rw[Str.length_append];omega)|decide
theorem vw{x:Str}(h:x.length≤17000):∀y∈tu x,y.length≤60000:=fun y hy=>by
 have e1:(Str.ofString " ").length=1:=rfl;have e2:(Str.ofString " 1").length=2:=rfl;have e3:(Str.ofString " 1/1:0").length=6:=rfl;have e4:(Str.ofString " 0,0:0").length=6:=rfl;have e5:=PyProof.Rows.len_upper x;simp only[tu,List.mem_cons,List.not_mem_nil,or_false]at hy;rcases hy with rfl|rfl|rfl|rfl|rfl|rfl|rfl|rfl|rfl|rfl|rfl|rfl|rfl <;> first|(rw[Str.length_append];omega)|omega|decide
theorem CO:zQ ["pot","texts","at","made","some"] ["pot","texts","at"] (ag (top 131)):=smk
theorem qq(E7:Df K mg "_law_bad" (top 131))(zR:Fn P w K mg base "_law_take" ["pot","size"] 1 Dr.spTk)(T:Txt mg):Fn P w K mg base "_law_bad" ["pot","texts","at"] 2 Ik:=by
 refine E7.fn CO (fun _ _ _ _ _ _ us hl=>by obtain⟨_,_,_,rfl⟩:=fI hl;rfl) (fun vs H Q E h=>?_) (fun f cdv A outer s H vs Q E hr h=>?_)
 ·obtain⟨p,l,x,y,z,a,k,rfl,_⟩:=h
  rfl
 ·obtain⟨p,l,x,y,z,a,k,rfl,p0,hk,hl,⟨a0,a2⟩,nlp,⟨⟨c1,ex,ok1⟩,⟨c2,ey,ok2⟩,wy,prs_,ez,hw⟩,⟨zx,zy,zz⟩,q⟩:=h
  have R:∃u:TS,PSs (aN CX0 P w K mg base ["pot","texts","at","made","some"] "_law_bad" (ag (top 131)) f cdv A outer s H E).nox ((aA (top 131)).drop 3) u∧∀(mk ls:Addr) (ss:List Str) (H3:Hp),H3 ls=some (.lst (ss.map V.str))->H3 mk=some (.lst [.str x,.str y,.str z])->ss.length=13->(a<2->∀v∈ss,noL v∧v.length≤800)->(a=2->∀v∈ss,noP v∧v.length≤60000)->Same H H3->H mk=none->H ls=none->u { nx:=fun _ H'=>Q .non H',rt:=Q } [some (.ref p),some (.ref l),some (.int a),some (.ref mk),some (.ref ls)] H3:=by
   refine⟨_,(af (cI (aj aC (pv 4) (ao zR (hr.mono (by decide)) (by rfl) (aa (pv 0) (aa (az aK (by rfl) T.z_len ck (aa (pv 4) ae)) ae))) (fun _ _=>rfl)) (jU (pv 3) (pv 2) ff)) (ah (am (pv 3)))),fun mk ls ss H3 f3 g3 hs hL hP s3 n1 n2=>?_⟩;have p3:=p0.same s3;refine⟨_,rfl,_,rfl,_,rfl,ls,_,rfl,.inl (SqL.of f3),p,_,_,rfl,p3,by omega,⟨by rw[List.length_map,hs];decide,by rw[List.length_map,hs];decide⟩,fun r8 H8 a8 b8' b8 p8=>?_⟩;refine xV (b8 _ _ (Pot.ne p0 n2) f3) a8 b8' fun v hv=>?_;obtain⟨s,hs',rfl⟩:=List.mem_map.mp hv;refine⟨_,rfl,_,rfl,mk,_,_,_,rfl,rfl,b8 _ _ (Pot.ne p0 n1) g3,mJ a0 (by show a<((3:Nat):Int);omega),fun H9 u9=>?_⟩;have B9:=nG ((But.of s3).trans b8) u9 n1;have P9:=(mD u9 p8 (Pot.ne p0 n1)).mono (k':=k+2) (by omega);refine⟨_,rfl,?_⟩;rcases(show a=0∨a=1∨a=2 by omega) with rfl|rfl|rfl
   ·obtain⟨h1,h2⟩:=hL (by decide) s hs'
    exact q mk s y z H9 u9.now (.inl h1) ⟨h2,by omega,by omega⟩ B9 P9
   ·obtain⟨h1,h2⟩:=hL (by decide) s hs'
    exact q mk x s z H9 u9.now (.inr (.inl h1)) ⟨by omega,h2,by omega⟩ B9 P9
   ·obtain⟨h1,h2⟩:=hP rfl s hs'
    exact q mk x y s H9 u9.now (.inr (.inr h1)) ⟨by omega,by omega,h2⟩ B9 P9
  obtain⟨u,hu,rd⟩:=R;refine⟨_,(af (av (i:=3) CO.nd rfl (Or.inl rfl) (cB gW (by rfl) T.z_list gH (aa (pv 1) ae))) (@af _ _ _ _ _ (@av _ _ 4 _ _ _ _ CO.nd rfl (Or.inl rfl) (@cu _ _ _ _ (@aa _ _ _ _ _ aE (@aa _ _ _ _ _ aE (@aa _ _ _ _ _ (ap bH (aj aC (pv 1) (pv 2) (fun _ _=>rfl)) aE) (@aa _ _ _ _ _ (ap bH aE (aj aC (pv 1) (pv 2) (fun _ _=>rfl))) (@aa _ _ _ _ _ (ap bH (aj aC (pv 1) (pv 2) (fun _ _=>rfl)) aE) (@aa _ _ _ _ _ (ap bH (aj aC (pv 1) (pv 2) (fun _ _=>rfl)) aE) (@aa _ _ _ _ _ (ap bH (aj aC (pv 1) (pv 2) (fun _ _=>rfl)) aE) ae (by rfl)) (by rfl)) (by rfl)) (by rfl)) (by rfl)) (by rfl)) (by rfl))) (by rfl) (by first|exact .inl rfl|exact .inr rfl|assumption)) (af (aF (ar lH (pv 2) ac (aq _)) (ah (av (i:=4) CO.nd rfl (Or.inl rfl) (ap jB (pv 4) (@cu _ _ _ _ (@aa _ _ _ _ _ (ap bH (aj aC (pv 1) (pv 2) (fun _ _=>rfl)) aE) (@aa _ _ _ _ _ (ap bH (aj aC (pv 1) (pv 2) (fun _ _=>rfl)) aE) (@aa _ _ _ _ _ (ap bH (aj aC (pv 1) (pv 2) (fun _ _=>rfl)) aE) (@aa _ _ _ _ _ aE (@aa _ _ _ _ _ aE (@aa _ _ _ _ _ aE ae (by rfl)) (by rfl)) (by rfl)) (by rfl)) (by rfl)) (by rfl)))))) (ah (av (i:=4) CO.nd rfl (Or.inl rfl) (ap jB (pv 4) (@cu _ _ _ _ (@aa _ _ _ _ _ aE (@aa _ _ _ _ _ aE (@aa _ _ _ _ _ aE (@aa _ _ _ _ _ aE (@aa _ _ _ _ _ (xL F.plainAttrs_str F.slot_str_upper F.type_str_upper ut (aj aC (pv 1) (pv 2) (fun _ _=>rfl))) (@aa _ _ _ _ _ aE ae (by rfl)) (by rfl)) (by rfl)) (by rfl)) (by rfl)) (by rfl))))))) hu))),?_⟩
  obtain⟨tx,hat,hsz,hcl⟩:∃tx:Str,atI [V.str x,V.str y,V.str z] a=some (.str tx)∧tx.length≤17000∧((a<2∧tx.length≤600∧∃cs,tx=cq cs∧OkL cs)∨(a=2∧tx=z)):=by
   rcases(show a=0∨a=1∨a=2 by omega) with rfl|rfl|rfl
   ·exact⟨x,rfl,by omega,.inl ⟨by decide,zx,c1,ex,ok1⟩⟩
   ·exact⟨y,rfl,by omega,.inl ⟨by decide,zy,c2,ey,ok2⟩⟩
   ·exact⟨z,rfl,by omega,.inr ⟨rfl,rfl⟩⟩
  have e1:(Str.ofString " ").length=1:=rfl;have e2:(Str.ofString " 1").length=2:=rfl;have e3:(Str.ofString " 1/1:0").length=6:=rfl;have e4:(Str.ofString " 0,0:0").length=6:=rfl;have e5:(Str.ofString ",0").length=2:=rfl;have e6:(Str.ofString " 01,2").length=5:=rfl;have e7:(Str.ofString " 1000000000000,0").length=16:=rfl;refine⟨_,rfl,l,_,rfl,.inl (SqL.of hl),fun mk H1 s1 f1 n1=>?_⟩;refine⟨_,rfl,_,rfl,l,_,_,_,rfl,rfl,SqL.of (s1 _ _ hl),hat,_,_,rfl,rfl,bP (by omega),_,rfl,_,rfl,l,_,_,_,rfl,rfl,SqL.of (s1 _ _ hl),hat,_,_,rfl,rfl,bP (by omega),_,rfl,_,rfl,l,_,_,_,rfl,rfl,SqL.of (s1 _ _ hl),hat,_,_,rfl,rfl,bP (by omega),_,rfl,_,rfl,l,_,_,_,rfl,rfl,SqL.of (s1 _ _ hl),hat,_,_,rfl,rfl,bP (by omega),_,rfl,_,rfl,l,_,_,_,rfl,rfl,SqL.of (s1 _ _ hl),hat,_,_,rfl,rfl,bP (by omega),sz (by simp),fun l2 H2 s2 f2 n2=>?_⟩;have S2:=s1.trans s2;have n2':H l2=none:=cD s1 n2;refine⟨_,rfl,_,_,rfl,rfl,_,rfl,aB (fun cc=>?_) (fun cc=>?_)⟩
  ·have cc:a<2:=bF cc
   refine⟨_,rfl,_,rfl,_,rfl,l,_,_,_,rfl,rfl,SqL.of (S2 _ _ hl),hat,_,_,rfl,rfl,bP (by omega),_,rfl,_,rfl,l,_,_,_,rfl,rfl,SqL.of (S2 _ _ hl),hat,_,_,rfl,rfl,bP (by omega),_,rfl,_,rfl,l,_,_,_,rfl,rfl,SqL.of (S2 _ _ hl),hat,_,_,rfl,rfl,bP (by omega),sz (by simp),fun l3 H3 s3 f3 n3=>?_⟩;refine⟨l2,l3,_,_,rfl,rfl,s3 _ _ f2,f3,sz (by simp),fun l4 H4 s4 f4 n4=>?_⟩;obtain⟨cs,et,ok⟩:∃cs,tx=cq cs∧OkL cs:=by
    rcases hcl with⟨_,_,h⟩|⟨h,_⟩
    ·exact h
    ·omega
   have hz:tx.length≤600:=by
    rcases hcl with⟨_,h,_⟩|⟨h,_⟩
    ·exact h
    ·omega
   have f4:H4 l4=some (.lst ((tw tx).map V.str)):=f4;exact rd mk l4 (tw tx) H4 f4 (s4 _ _ (s3 _ _ (s2 _ _ f1))) rfl (fun _ v hv=>⟨by rw[et]at hv;exact wO ok.1 v hv,vz hz v hv⟩) (fun h=>by omega) (S2.trans (s3.trans s4)) n1 (cD (S2.trans s3) n4)
  ·have cc:¬a<2:=ci cc
   have et:tx=z:=by
    rcases hcl with⟨h,_,_⟩|⟨_,h⟩
    ·exact absurd h cc
    ·exact h
   refine⟨_,rfl,_,rfl,_,rfl,l,_,_,_,rfl,rfl,SqL.of (S2 _ _ hl),hat,rfl,_,rfl,rfl,by omega,sz (by simp),fun l3 H3 s3 f3 n3=>?_⟩;refine⟨l2,l3,_,_,rfl,rfl,s3 _ _ f2,f3,sz (by simp),fun l4 H4 s4 f4 n4=>?_⟩;have f4:H4 l4=some (.lst ((tu tx).map V.str)):=f4;exact rd mk l4 (tu tx) H4 f4 (s4 _ _ (s3 _ _ (s2 _ _ f1))) rfl (fun h=>absurd h cc) (fun _ v hv=>⟨by rw[et,ez]at hv;exact wN hw v hv,vw hsz v hv⟩) (S2.trans (s3.trans s4)) n1 (cD (S2.trans s3) n4)
theorem yA:∀w∈dQ,w.length≤5:=by decide +kernel
inductive EM (vs:List V) (H:Hp) (Q:VK) (x_3:XK):Prop
 | mk:∀(p l:Addr) (k:Int) (ps:List Pr),(vs = [.ref p,.ref l])->(Pot H p k)->(k≤500000)->(zU H l ps)->((1≤ps.length∧ps.length≤100))->(∀(r:Addr) (rs:List Pr) (H':Hp),zU H' r rs->rs.length≤101->H r=none->But p H H'->Pot H' p (k+100)->Q (.ref r) H')->EM vs H Q x_3
theorem vh(ps:List Pr)(i:Int)(h0:0≤i)(h1:i<(ps.length:Int)):∃c:List Pr,ja (prs ps) (some i) (some (i+2))=prs c∧1≤c.length∧c.length≤2∧∀q∈c,q∈ps:=by
 unfold ja HT.sIx;dsimp only;rw[if_neg (by omega),if_neg (by omega),aV];refine⟨(ps.drop (min i.toNat ps.length)).take (min (i+2).toNat ps.length - min i.toNat ps.length),by unfold prs;rw[List.map_take,List.map_drop],?_,?_,fun w hw=>List.mem_of_mem_drop (List.mem_of_mem_take hw)⟩
 ·rw[List.length_take,List.length_drop]
  omega
 ·rw[List.length_take]
  omega
theorem CZ:zQ ["pot","pairs","made","at"] ["pot","pairs"] (ag (top 124)):=smk
theorem kS(Du:Df K mg "_law_spoilt" (top 124))(zR:Fn P w K mg base "_law_take" ["pot","size"] 1 Dr.spTk)(T:Txt mg):Fn P w K mg base "_law_spoilt" ["pot","pairs"] 2 EM:=by
 refine Du.fn CZ (fun _ _ _ _ _ _ us hl=>by obtain⟨_,_,rfl⟩:=cO hl;rfl) (fun vs H Q E h=>?_) (fun f cdv A outer s H vs Q E hr h=>?_)
 ·obtain⟨p,l,k,ps,rfl,_⟩:=h
  rfl
 ·obtain⟨p,l,k,ps,rfl,pt,hk,PP,⟨hp1,hp2⟩,q⟩:=h
  refine⟨_,(af (av (i:=2) CZ.nd rfl (Or.inl rfl) (cB gW (by rfl) T.z_list gH (aa (pv 1) ae))) (af (av (i:=3) CZ.nd rfl (Or.inl rfl) (ao zR (hr.mono (by decide)) (by rfl) (aa (pv 0) (aa (az aK (by rfl) T.z_len ck (aa (pv 2) ae)) ae)))) (af (cI (ji rfl rfl T.z_list rfl T.z_reversed (dR eF (pv 2) (dl (pv 3)) (dl (ap bz (pv 3) ac)))) (xI (pv 2) (dl (pv 3)) (dl (ap bz (pv 3) ac)))) (af (aF (ar aW (ao zR (hr.mono (by decide)) (by rfl) (aa (pv 0) (aa ac ae))) ac (aq _)) (ah (eS (fg F.plainAttrs_list F.slot_list_pop F.type_list_pop sK (pv 2) (aa (pv 3) ae)))) aw) (ah (am (pv 2))))))),?_⟩;have e63:(2:Int)^63=9223372036854775808:=by decide
  refine⟨_,rfl,l,_,rfl,.inl (SqL.of PP.lst),fun l1 H1 s1 f1 n1=>?_⟩;have P1:zU H1 l1 ps:=⟨f1,(PP.mono s1).pr⟩;have np:=Pot.ne pt n1;have p1:=pt.same s1;refine⟨_,rfl,_,rfl,l1,_,rfl,.inl (SqL.of f1),p,_,_,rfl,p1,by omega,⟨by rw[aV];omega,ai (bV (by omega) (by rw[aV];omega)) (by decide)⟩,fun at_ H2 a2 b2' b2 p2=>?_⟩;rw[aV]at b2';have P2:=mC P1 b2 p1 np;obtain⟨c,ec,hc1,hc2,hcm⟩:=vh ps at_ a2 b2';refine⟨_,rfl,_,rfl,_,rfl,_,rfl,_,_,rfl,rfl,_,rfl,l1,_,rfl,SqL.of P2.lst,fun l4 H4 s4 f4 n4=>?_⟩;rw[ec]at f4;refine⟨l4,_,rfl,SqL.of f4,fun l5 H5 s5 f5 n5=>?_⟩;have P5:=(P2.mono s4).mono s5;have n15:l1≠l5:=aS (s4 _ _ P2.lst) n5;refine⟨_,rfl,_,rfl,_,rfl,_,rfl,_,_,rfl,rfl,_,rfl,l1,l5,_,_,_,_,rfl,rfl,rfl,rfl,n15,P5.lst,f5,a2,by omega,by rw[aV];omega,sz (by rw[List.length_reverse,aV,aV];omega),?_⟩;have u6:=GP.mk' (ys:=(prs ps).take at_.toNat++(prs c).reverse++(prs ps).drop (at_+2).toNat) P5.lst;have p5:=(p2.same s4).same s5;have B5:But p H H5:=(But.of s1).trans (b2.trans ((But.of s4).trans (But.of s5)));have er:(prs ps).take at_.toNat++(prs c).reverse++(prs ps).drop (at_+2).toNat=prs (ps.take at_.toNat++c.reverse++ps.drop (at_+2).toNat):=by
   unfold prs;simp
  have P6:zU _ l1 (ps.take at_.toNat++c.reverse++ps.drop (at_+2).toNat):=qV u6 er fun z hz=>by
   rcases List.mem_append.mp hz with hz|hz
   ·rcases List.mem_append.mp hz with hz|hz
    ·exact P5.pr z (List.mem_of_mem_take hz)
    ·exact P5.pr z (hcm z (List.mem_reverse.mp hz))
   ·exact P5.pr z (List.mem_of_mem_drop hz)
  have B6:=nG B5 u6 n1;have p6:=mD u6 p5 np;have hl6:(ps.take at_.toNat++c.reverse++ps.drop (at_+2).toNat).length≤101:=by
   rw[List.length_append,List.length_append,List.length_take,List.length_reverse,List.length_drop];omega
  have ha6:at_.toNat<(ps.take at_.toNat++c.reverse++ps.drop (at_+2).toNat).length:=by
   rw[List.length_append,List.length_append,List.length_take,List.length_reverse,List.length_drop];omega
  generalize ps.take at_.toNat++c.reverse++ps.drop (at_+2).toNat=ys at *;generalize L2.upd H5 l1 _=H6 at *;refine⟨_,rfl,p,_,_,rfl,p6,by omega,⟨by decide,by decide⟩,fun r7 H7 a7 b7' b7 p7=>⟨rfl,_,rfl,aB (fun h=>?_) (fun h=>?_)⟩⟩
  ·have P7:=mC P6 b7 p6 np
   obtain⟨q0,hq0,mq0,eq0⟩:=yt (ps:=ys) a2 (by omega);refine⟨_,rfl,.inl ⟨rfl,_,SqL.of P7.lst⟩,_,rfl,l1,_,_,_,_,rfl,rfl,P7.lst,by rw[e63];omega,by rw[e63];omega,(mI (mJ a2 (by rw[aV];omega))).1,by unfold prs;rw[List.getElem?_map,hq0];rfl,fun H8 u8=>?_⟩;exact⟨_,rfl,q l1 (ys.eraseIdx at_.toNat) H8 (qV u8 (sB _ _) fun z hz=>P7.pr z (List.mem_of_mem_eraseIdx hz)) (by rw[List.length_eraseIdx];split <;> omega) n1 (nG (B6.trans b7) u8 n1) ((mD u8 p7 np).mono (by omega))⟩
  ·exact⟨_,rfl,q l1 ys H7 (mC P6 b7 p6 np) hl6 n1 (B6.trans b7) (p7.mono (by omega))⟩
theorem oE{H:Hp}{l:Addr}{qs:Crn}(L:LineM H l qs)(h1:1≤qs.length)(h2:qs.length≤10):OkL (qs.map (·.2)):=⟨by rw[List.length_map];exact h1,by rw[List.length_map];exact h2,fun c hc=>by
 obtain⟨q,hq,rfl⟩:=List.mem_map.mp hc;exact(L.crn q hq).2⟩
theorem iT{H H':Hp}{p l:Addr}{ps:List Pr}{k:Int}(P:zU H l ps)(b:But p H H')(pt:Pot H p k)(n:l≠p):zU H' l ps:=⟨b _ _ n P.lst,fun q hq=>(P.pr q hq).t (b.t pt)⟩
theorem wV{H:Hp}{r:Addr}(e:H r=some (.tup xn)):Rp H 9 (.ref r) (.tup [.bl false,.bl false,.bl true,.bl false]):=Rp.t4 e .bl .bl .bl .bl
theorem wW{H:Hp}{r:Addr}(e:H r=some (.tup yB)):Rp H 9 (.ref r) (.tup [.bl true,.bl false,.bl false,.bl false]):=Rp.t4 e .bl .bl .bl .bl
inductive EN (vs:List V) (H:Hp) (Q:VK) (x_3:XK):Prop
 | mk:∀(p l1 l2 l:Addr) (qs rs:Crn) (ps:List Pr) (wy:Str) (k:Int),(vs = [.ref p,.ref l1,.ref l2,.ref l,.str wy])->(Pot H p k)->(k≤700000)->((LineM H l1 qs∧1≤qs.length∧qs.length≤10))->((LineM H l2 rs∧1≤rs.length∧rs.length≤10))->(zU H l ps)->((1≤ps.length∧ps.length≤101))->(gU wy)->(∀H',But p H H'->Pot H' p (k+3)->Q (.bl true) H')->EN vs H Q x_3
theorem Fg:zQ ["pot","one","other","pairs","way","texts"] ["pot","one","other","pairs","way"] (ag (top 134)):=smk
theorem mY(DY:Df K mg "_law_right" (top 134))(AZ:Fn P w K mg base "_law_line_text" ["line"] 1 HV)(Bw:Fn P w K mg base "_law_paper_text" ["word","way","pairs"] 2 GR)(BF:Fn P w K mg base "_law_told_of" ["texts"] 12 Fu)(Dj:Fn P w K mg base "_law_due_of" ["one","other","pairs","way"] 7 Ij)(E4:Fn P w K mg base "_law_bad" ["pot","texts","at"] 2 Ik)(zR:Fn P w K mg base "_law_take" ["pot","size"] 1 Dr.spTk):Fn P w K mg base "_law_right" ["pot","one","other","pairs","way"] 13 EN:=by
 refine DY.fn Fg (fun _ _ _ _ _ _ us hl=>by obtain⟨_,_,_,_,_,rfl⟩:=uN hl;rfl) (fun vs H Q E h=>?_) (fun f cdv A outer s H vs Q E hr h=>?_)
 ·obtain⟨p,l1,l2,l,qs,rs,ps,wy,k,rfl,_⟩:=h
  rfl
 ·obtain⟨p,l1,l2,l,qs,rs,ps,wy,k,rfl,p0,hk,⟨L1,h1,h10⟩,⟨L2,g1,g10⟩,PP,⟨n1,n101⟩,hw,q⟩:=h
  have ok1:=oE L1 h1 h10;have ok2:=oE L2 g1 g10;have hwy:=xl hw;have nm:∀q∈ps,IF q:=fun q hq=>(PP.pr q hq).n;have ok3:Iu dD wy (ps.map cb):=⟨gc,hwy,by rw[List.length_map];omega,by rw[List.length_map];omega,fun r hr=>by
   obtain⟨q,hq,rfl⟩:=List.mem_map.mp hr;exact(nm q hq).ok4.1⟩
  have w5:dD.length≤5∧wy.length≤5:=⟨by decide,yA _ hwy⟩;have zx:(cq (qs.map (·.2))).length≤280:=by
   have:=oC ok1.2.2;rw[List.length_map]at this;omega
  have zy:(cq (rs.map (·.2))).length≤280:=by
   have:=oC ok2.2.2;rw[List.length_map]at this;omega
  have zz:(cy dD wy (ps.map cb)).length≤17000:=qd (fun r hr=>by
   obtain⟨q,hq,rfl⟩:=List.mem_map.mp hr;exact(nm q hq).len) (by rw[List.length_map];omega) w5
  have gt:Iv _ _ _ qs rs ps wy:=⟨rfl,rfl,rfl,ok1,ok2,ok3,nm⟩;have pos:∀q∈ps,0<q.b∧0<q.d:=fun q hq=>⟨(PP.pr q hq).lx.pos,(PP.pr q hq).ly.pos⟩;generalize ex:cq (qs.map (·.2))=x at *;generalize ey:cq (rs.map (·.2))=y at *;generalize ez:cy dD wy (ps.map cb)=z at *;have R:∃u:TS,PSs (aN CX0 P w K mg base ["pot","one","other","pairs","way","texts"] "_law_right" (ag (top 134)) f cdv A outer s H E).nox ((aA (top 134)).drop 2) u∧∀(lt:Addr) (H5:Hp),H5 lt=some (.lst [.str x,.str y,.str z])->Same H H5->H lt=none->u { nx:=fun _ H'=>Q .non H',rt:=Q } [some (.ref p),some (.ref l1),some (.ref l2),some (.ref l),some (.str wy),some (.ref lt)] H5:=by
   refine⟨_,(ah (am (aT (qk hr.units10) (ao BF (hr.mono (by decide)) (by rfl) (aa (ao E4 (hr.mono (by decide)) (by rfl) (aa (pv 0) (aa (pv 5) (aa (ao zR (hr.mono (by decide)) (by rfl) (aa (pv 0) (aa ac ae))) ae)))) ae)) (aG (aa bW (aa bW (aa bW (aa bW ae))))) (aq _)))),fun lt H5 f5 s5 n5=>?_⟩;have nlt:=Pot.ne p0 n5;refine⟨_,rfl,_,rfl,_,rfl,p,_,_,rfl,p0.same s5,by omega,⟨by decide,by decide⟩,fun a7 H7 a7' b7' b7 p7=>?_⟩;refine⟨p,lt,x,y,z,a7,_,rfl,p7,by omega,b7 _ _ nlt f5,⟨a7',by omega⟩,nlt,⟨⟨_,ex.symm,ok1⟩,⟨_,ey.symm,ok2⟩,wy,_,ez.symm,hwy⟩,⟨by omega,by omega,zz⟩,fun r x' y' z' H8 f8 hb hl' b8 p8=>?_⟩;refine⟨r,x',y',z',rfl,f8,hl',.inl ⟨hb,fun rr H9 f9 s9=>?_⟩⟩;refine⟨sz (by simp),fun tp H10 s10 f10 n10=>⟨_,_,wW (s10 _ _ f9),wW f10,?_⟩⟩;rw[iI];exact q H10 ((But.of s5).trans (b7.trans (b8.trans (But.of (s9.trans s10))))) ((p8.same (s9.trans s10)).mono (by omega))
  obtain⟨u,hu,rd⟩:=R;refine⟨_,(af (av (i:=5) Fg.nd rfl (Or.inl rfl) (cu (aa (ao AZ (hr.mono (by decide)) (by rfl) (aa (pv 1) ae)) (aa (ao AZ (hr.mono (by decide)) (by rfl) (aa (pv 2) ae)) (aa (ao Bw (hr.mono (by decide)) (by rfl) (aa aE (aa (pv 4) (aa (pv 3) ae)))) ae))))) (af (aF (ar (uh hr.units10) (ao BF (hr.mono (by decide)) (by rfl) (aa (pv 5) ae)) (ao Dj (hr.mono (by decide)) (by rfl) (aa (pv 1) (aa (pv 2) (aa (pv 3) (aa (pv 4) ae))))) (aq _)) (ah (am bW)) aw) hu)),?_⟩;refine⟨_,rfl,l1,qs,rfl,L1,by omega,fun H1 s1=>?_⟩;refine⟨_,rfl,l2,rs,rfl,L2.mono s1,by omega,fun H2 s2=>?_⟩;have S2:=s1.trans s2;refine⟨_,rfl,_,rfl,dD,wy,l,asV ps,rfl,sG (PP.mono S2),by unfold asV;rw[List.length_map];omega,fun q hq=>?_,w5,fun H3 s3=>?_⟩
  ·obtain⟨z',hz,rfl⟩:=List.mem_map.mp hq
   exact(nm z' hz).ok4
  have S3:=S2.trans s3;refine⟨sz (by simp),fun lt H4 s4 f4 n4=>?_⟩;rw[wR,ex,ey,ez]at f4;have S4:=S3.trans s4;have nlt:H lt=none:=cD S3 n4;refine⟨_,rfl,lt,x,y,z,rfl,f4,⟨by omega,by omega,by omega⟩,.inr ⟨qs,rs,ps,wy,gt,fun hf r H5 f5 s5=>?_,fun ht s' w' H5 mx s5=>?_⟩⟩
  ·have S5:=S4.trans s5
   refine⟨_,rfl,_,rfl,_,rfl,_,rfl,l1,l2,l,qs,rs,ps,wy,rfl,⟨L1.mono S5,h1,by omega⟩,⟨L2.mono S5,g1,by omega⟩,PP.mono S5,by omega,fun _ r2 H6 f6 s6=>?_,fun ht=>by rw[hf]at ht;cases ht⟩;refine⟨_,_,wV (s6 _ _ f5),wV f6,_,rfl,aX (by rw[iI];rfl) ?_⟩;exact rd lt H6 (s6 _ _ (s5 _ _ f4)) (S5.trans s6) nlt
  ·have S5:=S4.trans s5
   refine⟨_,rfl,_,rfl,_,rfl,_,rfl,l1,l2,l,qs,rs,ps,wy,rfl,⟨L1.mono S5,h1,by omega⟩,⟨L2.mono S5,g1,by omega⟩,PP.mono S5,by omega,fun hf=>(by rw[ht]at hf;cases hf),fun _ s2' w2' H6 mx2 s6=>?_⟩;obtain⟨rfl,rfl⟩:=mx.uniq mx2;refine⟨_,_,.str,.str,_,rfl,aX (by rw[iI];rfl) ?_⟩;exact rd lt H6 (s6 _ _ (s5 _ _ f4)) (S5.trans s6) nlt
theorem Ee:zQ ["script","one","other","n","m","cell","pot","way","pairs","made"] ["script"] (ag (top 135)):=smk
theorem yd(Iy:Df K mg "law" (top 135))(DL:Fn P w K mg base "_law_lines" ["script"] 5 (Gq K))(Di:Fn P w K mg base "_law_folded" ["cells","many"] 1 FD)(AU:Fn P w K mg base "_law_begun" ["cell"] 1 Dr.spBegun)(A5:Fn P w K mg base "_law_drawn_way" ["pot"] 2 G3)(Bo:Fn P w K mg base "_law_drawn_fence" ["pot","n","m","way"] 6 FF)(BK:Fn P w K mg base "_law_right" ["pot","one","other","pairs","way"] 13 EN)(Dd:Fn P w K mg base "_law_spoilt" ["pot","pairs"] 2 EM)(T:Txt mg):Fn P w K mg base "law" ["script"] 14 (nY K):=by
 refine Iy.fn Ee (fun _ _ _ _ _ _ us hl=>by obtain⟨_,rfl⟩:=dI hl;rfl) (fun vs H Q E h=>?_) (fun f cdv A outer s H vs Q E hr h=>?_)
 ·obtain⟨sa,ss,rfl,_⟩:=h
  rfl
 ·obtain⟨sa,ss,rfl,hS,hlen,fin⟩:=h
  refine⟨_,(af (cI (ao DL (hr.mono (by decide)) (by rfl) (aa (pv 0) ae)) (cJ rfl (aH (aI (i:=1) Ee.nd rfl (Or.inl rfl)) (aH (aI (i:=2) Ee.nd rfl (Or.inl rfl)) cn)))) (af (av (i:=3) Ee.nd rfl (Or.inl rfl) (ap bE (az aK (by rfl) T.z_len ck (aa (pv 1) ae)) ac)) (af (av (i:=4) Ee.nd rfl (Or.inl rfl) (ap bE (az aK (by rfl) T.z_len ck (aa (pv 2) ae)) ac)) (af (eV PassesOwn.never rfl (cW (ao Di (hr.mono (by decide)) (by rfl) (aa (dR eF (pv 0) (dl ac) fE) (aa ac ae)))) (aI (i:=5) Ee.nd rfl (Or.inl rfl)) (af (av (i:=6) Ee.nd rfl (Or.inl rfl) (ao AU (hr.mono (by decide)) (by rfl) (aa (pv 5) ae))) (af (av (i:=7) Ee.nd rfl (Or.inl rfl) (ao A5 (hr.mono (by decide)) (by rfl) (aa (pv 6) ae))) (af (av (i:=8) Ee.nd rfl (Or.inl rfl) (ao Bo (hr.mono (by decide)) (by rfl) (aa (pv 6) (aa (pv 3) (aa (pv 4) (aa (pv 7) ae)))))) (af (aF (bq (aM (ao BK (hr.mono (by decide)) (by rfl) (aa (pv 6) (aa (pv 1) (aa (pv 2) (aa (pv 8) (aa (pv 7) ae)))))))) (ah (am bW)) aw) (af (aF (bq (aM (ao BK (hr.mono (by decide)) (by rfl) (aa (pv 6) (aa (pv 1) (aa (pv 2) (aa (pv 8) (aa (ao A5 (hr.mono (by decide)) (by rfl) (aa (pv 6) ae)) ae)))))))) (ah (am bW)) aw) (af (av (i:=9) Ee.nd rfl (Or.inl rfl) (ao Dd (hr.mono (by decide)) (by rfl) (aa (pv 6) (aa (pv 8) ae)))) (ah (aF (bR (ar (uh hr.units10) (pv 9) (cu ae) (aq _)) (bU (bq (aM (ao BK (hr.mono (by decide)) (by rfl) (aa (pv 6) (aa (pv 1) (aa (pv 2) (aa (pv 9) (aa (pv 7) ae)))))))))).pt (ah (am bW)) aw))))))))) (ah (am bW)))))),?_⟩;refine⟨_,rfl,sa,ss,rfl,hS,fun t l r qs rs H1 s1 et L1 ⟨h1,h10⟩ R1 ⟨g1,g10⟩ _ _ _=>?_⟩;have hql:(qs.map fun (q:Addr×Int×Int)=>V.ref q.1).length=qs.length:=List.length_map _;have hrl:(rs.map fun (q:Addr×Int×Int)=>V.ref q.1).length=rs.length:=List.length_map _;refine⟨t,_,rfl,SqT.of et,rfl,_,_,rfl,_,_,rfl,rfl,?_⟩;refine⟨_,rfl,l,_,rfl,.inl (SqL.of L1.lst),_,_,rfl,rfl,?_⟩;refine⟨_,rfl,r,_,rfl,.inl (SqL.of R1.lst),_,_,rfl,rfl,?_⟩;have N0:0≤(((qs.map fun (q:Addr×Int×Int)=>V.ref q.1).length:Nat):Int) - 1:=by omega
  have N1:(((qs.map fun (q:Addr×Int×Int)=>V.ref q.1).length:Nat):Int) - 1≤20:=by omega
  have M0:0≤(((rs.map fun (q:Addr×Int×Int)=>V.ref q.1).length:Nat):Int) - 1:=by omega
  have M1:(((rs.map fun (q:Addr×Int×Int)=>V.ref q.1).length:Nat):Int) - 1≤20:=by omega
  generalize eN:(((qs.map fun (q:Addr×Int×Int)=>V.ref q.1).length:Nat):Int) - 1=N at *;generalize eM:(((rs.map fun (q:Addr×Int×Int)=>V.ref q.1).length:Nat):Int) - 1=M at *;refine⟨_,rfl,_,rfl,sa,_,rfl,s1.seq hS,fun c H2 s2 f2 n2=>?_⟩;rw[show(2:Int)=((2:Nat):Int) from rfl,vi]at f2;refine⟨c,_,rfl,f2,by rw[List.length_drop];omega,fun fo zs H3 e3 s3=>?_⟩;have L3:=(L1.mono s2).mono s3;have R3:=(R1.mono s2).mono s3;refine⟨fo,rfl,⟨_,SqL.of e3⟩,oM (K:=K) (a:=fo) (xs:=zs.map V.int) (fun i σ H4=>∃z5 z6 z7 z8 z9,σ = [some (.ref sa),some (.ref l),some (.ref r),some (.int N),some (.int M),z5,z6,z7,z8,z9]∧Same H3 H4)
   ⟨none,none,none,none,none,by rw[<- eN,<- eM];rfl,Same.refl _⟩ (fun i σ H4 _ ⟨_,_,_,_,_,_,s4⟩=>SqL.of (s4 _ _ e3)) ?_ ?_⟩
  ·rintro i x σ H4 hx ⟨z5,z6,z7,z8,z9,rfl,s4⟩
   rw[List.getElem?_map]at hx;obtain⟨cc,_,rfl⟩:=Option.map_eq_some_iff.mp hx;have L4:=L3.mono s4;have R4:=R3.mono s4;refine⟨_,rfl,cc,rfl,fun p H5 s5 n5 p5=>?_⟩;refine⟨_,rfl,p,_,rfl,p5,by decide,fun wy H6 hw b6 p6=>?_⟩;refine⟨_,rfl,_,rfl,_,rfl,_,rfl,p,N,M,_,wy,rfl,p6,by omega,⟨N0,N1⟩,⟨M0,M1⟩,fun l7 ps H7 P7 g7 h7 n7 b7 p7=>?_⟩;have nl7:l7≠p:=Pot.ne p6 n7;have B7:But p H5 H7:=b6.trans b7;have hn7:1≤ps.length:=by
    cases ps with
    | nil=>exact absurd g7.fence (by simp[bQ])
    | cons a b=>simp
   have Ln:∀{H':Hp},But p H5 H'->LineM H' l qs∧1≤qs.length∧qs.length≤10:=fun b=>⟨L4.mono (b.same s5 n5),h1,h10⟩;have Rn:∀{H':Hp},But p H5 H'->LineM H' r rs∧1≤rs.length∧rs.length≤10:=fun b=>⟨R4.mono (b.same s5 n5),g1,g10⟩;refine⟨_,rfl,_,rfl,_,rfl,_,rfl,_,rfl,p,l,r,l7,qs,rs,ps,wy,_,rfl,p7,by omega,Ln B7,Rn B7,P7,⟨hn7,by omega⟩,hw,fun H8 b8 p8=>⟨_,rfl,aX (by decide) ?_⟩⟩;have B8:=B7.trans b8;have P8:=iT P7 b8 p7 nl7;refine⟨_,rfl,_,rfl,_,rfl,_,rfl,_,rfl,p,_,rfl,p8,by omega,fun wy2 H9 hw2 b9 p9=>?_⟩;have B9:=B8.trans b9;have P9:=iT P8 b9 p8 nl7;refine⟨p,l,r,l7,qs,rs,ps,wy2,_,rfl,p9,by omega,Ln B9,Rn B9,P9,⟨hn7,by omega⟩,hw2,fun H10 b10 p10=>⟨_,rfl,aX (by decide) ?_⟩⟩;have B10:=B9.trans b10;have P10:=iT P9 b10 p9 nl7;refine⟨_,rfl,_,rfl,p,l7,_,ps,rfl,p10,by omega,P10,⟨hn7,by omega⟩,fun sp rs9 H11 P11 h11 n11 b11 p11=>?_⟩;have B11:=B10.trans b11;refine⟨_,rfl,sz (by simp),fun l0 H12 s12 f12 n12=>⟨_,_,t8 (P11.mono s12),Rp.l0 f12,_,rfl,?_⟩⟩;have B12:=B11.trans (But.of s12);cases rs9 with
   | nil =>
    refine aX (by decide) (aX (by decide) ?_);exact⟨_,_,_,_,_,rfl,s4.trans (B12.same s5 n5)⟩
   | cons fa ra =>
    refine cZ (by rfl) ?_;refine⟨_,rfl,_,rfl,_,rfl,_,rfl,_,rfl,p,l,r,sp,qs,rs,fa::ra,wy,_,rfl,p11.same s12,by omega,Ln B12,Rn B12,P11.mono s12,⟨by simp,h11⟩,hw,fun H13 b13 p13=>⟨_,rfl,aX (by decide) ?_⟩⟩;exact⟨_,_,_,_,_,rfl,s4.trans ((B12.trans b13).same s5 n5)⟩
  ·rintro σ H4 ⟨z5,z6,z7,z8,z9,rfl,s4⟩
   exact fin _
end
theorem hLeft:W.LeftO Challenge.rw_oneleash_k71_fences_judged.prog hView hLoose (fun _=>true) (W.Hook.obs (Hd.hook hFacts hGood)) (W.Hook.val (Hd.hook hFacts hGood)) 100000:=zI
theorem all_of{P:Program}{w:World}{K:W.Frag}(FK:hFacts K=hGood){h:Heap}{mg:Str->Option Value}{fa:Addr}(X:K.In h)(G:h.Ns mainGlobals mg)(hfa:mg "law" = some (.ref fa)) :
  ∃fd:FuncData,(∀(s:Shared) (v:Value),BindsTo s fd ⟨[v],[]⟩ [("script",v)])∧∀base:Heap,K.In base->base.Ns mainGlobals mg->EK P w K mg base CX0 14 fa fd ["script"] (nY K):=by
 have H0:(jH.map (fun p=>Hd.fnFact K p.1):List (Option (Arguments×List Stmt×Scope×Value)))=jH.map (fun p=>some (bj (top p.2),aA (top p.2),ag (top p.2),.none)):=(congrArg Prod.fst FK);have H1:(jG.map (fun p=>Hd.fnFact K p.1):List (Option (Arguments×List Stmt×Scope×Value)))=jG.map (fun p=>some (bj (top p.2),aA (top p.2),ag (top p.2),.none)):=(congrArg Prod.fst (congrArg Prod.snd FK));have H2:(jF.map (fun p=>Hd.fnFact K p.1):List (Option (Arguments×List Stmt×Scope×Value)))=jF.map (fun p=>some (bj (top p.2),aA (top p.2),ag (top p.2),.none)):=(congrArg Prod.fst (congrArg Prod.snd (congrArg Prod.snd FK)));have H3:(jE.map (fun p=>Hd.fnFact K p.1):List (Option (Arguments×List Stmt×Scope×Value)))=jE.map (fun p=>some (bj (top p.2),aA (top p.2),ag (top p.2),.none)):=(congrArg Prod.fst (congrArg Prod.snd (congrArg Prod.snd (congrArg Prod.snd FK))));have H4:(jC.map (fun p=>Hd.fnFactD K p.1):List (Option (Arguments×List Stmt×Scope×List V)))=jC.map (fun p=>some (bj (top p.2.1),aA (top p.2.1),ag (top p.2.1),p.2.2)):=(congrArg Prod.fst (congrArg Prod.snd (congrArg Prod.snd (congrArg Prod.snd (congrArg Prod.snd FK)))));have H5:(zd.all (Hd.excFact K):Bool)=true:=(congrArg Prod.fst (congrArg Prod.snd (congrArg Prod.snd (congrArg Prod.snd (congrArg Prod.snd (congrArg Prod.snd FK))))));have H6:(hNo.all (Hd.noFact K):Bool)=true:=(congrArg Prod.fst (congrArg Prod.snd (congrArg Prod.snd (congrArg Prod.snd (congrArg Prod.snd (congrArg Prod.snd (congrArg Prod.snd FK)))))));have H7:(wl.map (fun p=>Hd.tupFact K p.1):List (Option (List V)))=wl.map (fun p=>some p.2):=(congrArg Prod.fst (congrArg Prod.snd (congrArg Prod.snd (congrArg Prod.snd (congrArg Prod.snd (congrArg Prod.snd (congrArg Prod.snd (congrArg Prod.snd FK))))))));have H8:(jD.map (fun p=>Hd.fnFactA K p.1 p.2.1):List (Option (Arguments×List Stmt×Scope×Value)))=jD.map (fun p=>some (bj (top p.2.2),aA (top p.2.2),ag (top p.2.2),.none)):=(congrArg Prod.fst (congrArg Prod.snd (congrArg Prod.snd (congrArg Prod.snd (congrArg Prod.snd (congrArg Prod.snd (congrArg Prod.snd (congrArg Prod.snd (congrArg Prod.snd FK)))))))));have H9:(zh K:List (Option (Option Value)))=xj:=(congrArg Prod.fst (congrArg Prod.snd (congrArg Prod.snd (congrArg Prod.snd (congrArg Prod.snd (congrArg Prod.snd (congrArg Prod.snd (congrArg Prod.snd (congrArg Prod.snd (congrArg Prod.snd FK))))))))));have H10:(zg K:List (Option (Option V)))=xi:=(congrArg Prod.fst (congrArg Prod.snd (congrArg Prod.snd (congrArg Prod.snd (congrArg Prod.snd (congrArg Prod.snd (congrArg Prod.snd (congrArg Prod.snd (congrArg Prod.snd (congrArg Prod.snd (congrArg Prod.snd FK)))))))))));have H11:(zf K:List (Option Bool))=xh:=(congrArg Prod.fst (congrArg Prod.snd (congrArg Prod.snd (congrArg Prod.snd (congrArg Prod.snd (congrArg Prod.snd (congrArg Prod.snd (congrArg Prod.snd (congrArg Prod.snd (congrArg Prod.snd (congrArg Prod.snd (congrArg Prod.snd FK))))))))))));have H12:(ze K:List (Bool))=xg:=(congrArg Prod.snd (congrArg Prod.snd (congrArg Prod.snd (congrArg Prod.snd (congrArg Prod.snd (congrArg Prod.snd (congrArg Prod.snd (congrArg Prod.snd (congrArg Prod.snd (congrArg Prod.snd (congrArg Prod.snd (congrArg Prod.snd FK))))))))))));have EA:Df K mg "is_whole" (top 10):=Hd.df_of X G (Hd.at_map H0 0 rfl);have BD:Df K mg "common_divisor" (top 11):=Hd.df_of X G (Hd.at_map H0 1 rfl);have Ho:Df K mg "plus" (top 13):=Hd.df_of X G (Hd.at_map H0 2 rfl);have GF:Df K mg "minus" (top 14):=Hd.df_of X G (Hd.at_map H0 3 rfl);have GD:Df K mg "times" (top 15):=Hd.df_of X G (Hd.at_map H0 4 rfl);have Hq:Df K mg "over" (top 16):=Hd.df_of X G (Hd.at_map H0 5 rfl);have Hr:Df K mg "less" (top 17):=Hd.df_of X G (Hd.at_map H0 6 rfl);have EF:Df K mg "floor_of" (top 18):=Hd.df_of X G (Hd.at_map H0 7 rfl);have Bq:Df K mg "number_of_least" (top 19):=Hd.df_of X G (Hd.at_map H0 8 rfl);have EC:Df K mg "is_ratio" (top 21):=Hd.df_of X G (Hd.at_map H0 9 rfl);have EB:Df K mg "is_small" (top 25):=Hd.df_of X G (Hd.at_map H0 10 rfl);have D4:Df K mg "is_corner" (top 26):=Hd.df_of X G (Hd.at_map H0 11 rfl);have Fb:Df K mg "is_line" (top 27):=Hd.df_of X G (Hd.at_map H0 12 rfl);have E9:Df K mg "last_of" (top 28):=Hd.df_of X G (Hd.at_map H0 13 rfl);have ED:Df K mg "is_place" (top 30):=Hd.df_of X G (Hd.at_map H0 14 rfl);have BN:Df K mg "look_at_place" (top 31):=Hd.df_of X G (Hd.at_map H0 15 rfl);have Fa:Df K mg "is_pair" (top 32):=Hd.df_of X G (Hd.at_map H0 16 rfl);have D5:Df K mg "are_pairs" (top 33):=Hd.df_of X G (Hd.at_map H0 17 rfl);have DU:Df K mg "number_at" (top 34):=Hd.df_of X G (Hd.at_map H0 18 rfl);have Ep:Df K mg "point_at" (top 35):=Hd.df_of X G (Hd.at_map H0 19 rfl);have Bp:Df K mg "share_a_stretch" (top 36):=Hd.df_of X G (Hd.at_map H0 20 rfl);have DQ:Df K mg "step_from" (top 37):=Hd.df_of X G (Hd.at_map H0 21 rfl);have BT:Df K mg "inner_product" (top 38):=Hd.df_of X G (Hd.at_map H0 22 rfl);have BA:Df K mg "square_between" (top 39):=Hd.df_of X G (Hd.at_map H1 0 rfl);have DR:Df K mg "square_of" (top 40):=Hd.df_of X G (Hd.at_map H1 1 rfl)
 have Ce:Df K mg "nearest_part" (top 41):=Hd.df_of X G (Hd.at_map H1 2 rfl);have CB:Df K mg "least_along" (top 42):=Hd.df_of X G (Hd.at_map H1 3 rfl);have CA:Df K mg "look_at_way" (top 45):=Hd.df_of X G (Hd.at_map H1 4 rfl);have Dn:Df K mg "steps_back" (top 49):=Hd.df_of X G (Hd.at_map H1 5 rfl);have Ck:Df K mg "keeps_corner" (top 50):=Hd.df_of X G (Hd.at_map H1 6 rfl);have FY:Df K mg "slides" (top 51):=Hd.df_of X G (Hd.at_map H1 7 rfl);have Bd:Df K mg "has_whole_places" (top 52):=Hd.df_of X G (Hd.at_map H1 8 rfl);have Dy:Df K mg "hops_aside" (top 53):=Hd.df_of X G (Hd.at_map H1 9 rfl);have AK:Df K mg "is_measured_between" (top 59):=Hd.df_of X G (Hd.at_map H1 10 rfl);have BO:Df K mg "least_between" (top 60):=Hd.df_of X G (Hd.at_map H1 11 rfl);have Cd:Df K mg "slide_square" (top 61):=Hd.df_of X G (Hd.at_map H1 12 rfl);have Bb:Df K mg "measured_squares" (top 62):=Hd.df_of X G (Hd.at_map H1 13 rfl);have Do:Df K mg "show_ratio" (top 69):=Hd.df_of X G (Hd.at_map H1 14 rfl);have Dq:Df K mg "read_whole" (top 70):=Hd.df_of X G (Hd.at_map H1 15 rfl);have Ds:Df K mg "read_ratio" (top 71):=Hd.df_of X G (Hd.at_map H1 16 rfl);have DP:Df K mg "two_parts" (top 72):=Hd.df_of X G (Hd.at_map H1 17 rfl);have Cz:Df K mg "read_corner" (top 73):=Hd.df_of X G (Hd.at_map H1 18 rfl);have DT:Df K mg "read_line" (top 74):=Hd.df_of X G (Hd.at_map H1 19 rfl);have DS:Df K mg "read_pair" (top 75):=Hd.df_of X G (Hd.at_map H1 20 rfl);have Dt:Df K mg "read_paper" (top 76):=Hd.df_of X G (Hd.at_map H1 21 rfl);have FZ:Df K mg "judged" (top 90):=Hd.df_of X G (Hd.at_map H1 22 rfl);have CJ:Df K mg "_law_cell_at" (top 92):=Hd.df_of X G (Hd.at_map H2 0 rfl);have Dw:Df K mg "_law_folded" (top 93):=Hd.df_of X G (Hd.at_map H2 1 rfl);have D3:Df K mg "_law_begun" (top 94):=Hd.df_of X G (Hd.at_map H2 2 rfl);have Es:Df K mg "_law_take" (top 95):=Hd.df_of X G (Hd.at_map H2 3 rfl);have Er:Df K mg "_law_wide" (top 96):=Hd.df_of X G (Hd.at_map H2 4 rfl);have BC:Df K mg "_law_drawn_line" (top 97):=Hd.df_of X G (Hd.at_map H2 5 rfl);have Bt:Df K mg "_law_drawn_other" (top 98):=Hd.df_of X G (Hd.at_map H2 6 rfl);have D0:Df K mg "_law_lines" (top 99):=Hd.df_of X G (Hd.at_map H2 7 rfl);have CI:Df K mg "_law_divisor" (top 100):=Hd.df_of X G (Hd.at_map H2 8 rfl);have DZ:Df K mg "_law_ratio" (top 101):=Hd.df_of X G (Hd.at_map H2 9 rfl);have D2:Df K mg "_law_below" (top 102):=Hd.df_of X G (Hd.at_map H2 10 rfl);have DV:Df K mg "_law_whole" (top 103):=Hd.df_of X G (Hd.at_map H2 11 rfl);have Ch:Df K mg "_law_is_ratio" (top 104):=Hd.df_of X G (Hd.at_map H2 12 rfl);have Ci:Df K mg "_law_is_place" (top 105):=Hd.df_of X G (Hd.at_map H2 13 rfl);have Ev:Df K mg "_law_near" (top 106):=Hd.df_of X G (Hd.at_map H2 14 rfl);have BS:Df K mg "_law_are_pairs" (top 107):=Hd.df_of X G (Hd.at_map H2 15 rfl);have Ez:Df K mg "_law_back" (top 108):=Hd.df_of X G (Hd.at_map H2 16 rfl);have DW:Df K mg "_law_steps" (top 109):=Hd.df_of X G (Hd.at_map H2 17 rfl);have Cj:Df K mg "_law_is_fence" (top 110):=Hd.df_of X G (Hd.at_map H2 18 rfl);have Cf:Df K mg "_law_point_at" (top 111):=Hd.df_of X G (Hd.at_map H2 19 rfl);have BP:Df K mg "_law_square_of" (top 112):=Hd.df_of X G (Hd.at_map H2 20 rfl);have Dv:Df K mg "_law_lesser" (top 113):=Hd.df_of X G (Hd.at_map H2 21 rfl);have Ew:Df K mg "_law_foot" (top 114):=Hd.df_of X G (Hd.at_map H2 22 rfl);have Bs:Df K mg "_law_least_along" (top 115):=Hd.df_of X G (Hd.at_map H3 0 rfl);have CH:Df K mg "_law_greater" (top 116):=Hd.df_of X G (Hd.at_map H3 1 rfl);have CG:Df K mg "_law_spot_on" (top 117):=Hd.df_of X G (Hd.at_map H3 2 rfl);have E8:Df K mg "_law_any" (top 118):=Hd.df_of X G (Hd.at_map H3 3 rfl);have Ey:Df K mg "_law_down" (top 119):=Hd.df_of X G (Hd.at_map H3 4 rfl);have Et:Df K mg "_law_over" (top 120):=Hd.df_of X G (Hd.at_map H3 5 rfl);have Eu:Df K mg "_law_next" (top 121):=Hd.df_of X G (Hd.at_map H3 6 rfl);have D1:Df K mg "_law_ended" (top 122):=Hd.df_of X G (Hd.at_map H3 7 rfl);have Bu:Df K mg "_law_drawn_fence" (top 123):=Hd.df_of X G (Hd.at_map H3 8 rfl);have Du:Df K mg "_law_spoilt" (top 124):=Hd.df_of X G (Hd.at_map H3 9 rfl);have BR:Df K mg "_law_drawn_way" (top 125):=Hd.df_of X G (Hd.at_map H3 10 rfl);have Cg:Df K mg "_law_measured" (top 126):=Hd.df_of X G (Hd.at_map H3 11 rfl);have Bc:Df K mg "_law_fence_square" (top 127):=Hd.df_of X G (Hd.at_map H3 12 rfl);have DX:Df K mg "_law_shown" (top 128):=Hd.df_of X G (Hd.at_map H3 13 rfl);have BQ:Df K mg "_law_line_text" (top 129):=Hd.df_of X G (Hd.at_map H3 14 rfl);have BB:Df K mg "_law_paper_text" (top 130):=Hd.df_of X G (Hd.at_map H3 15 rfl);have E7:Df K mg "_law_bad" (top 131):=Hd.df_of X G (Hd.at_map H3 16 rfl);have CC:Df K mg "_law_told_of" (top 132):=Hd.df_of X G (Hd.at_map H3 17 rfl);have Dx:Df K mg "_law_due_of" (top 133):=Hd.df_of X G (Hd.at_map H3 18 rfl);have DY:Df K mg "_law_right" (top 134):=Hd.df_of X G (Hd.at_map H3 19 rfl);have Iy:Df K mg "law" (top 135):=Hd.df_of X G (Hd.at_map H3 20 rfl)
 have AA:Iz K mg "has_right_ends_fences" "has_right_ends" (top 47):=Hd.dfa_of X G (Hd.at_map H8 0 rfl);have Br:Iz K mg "may_step_fences" "may_step" (top 54):=Hd.dfa_of X G (Hd.at_map H8 1 rfl);have Ax:Iz K mg "has_right_steps_fences" "has_right_steps" (top 56):=Hd.dfa_of X G (Hd.at_map H8 2 rfl);have GE:HN K mg "ratio" (top 12) [.int 1]:=Hd.dfd_of X G (Hd.at_map H4 0 rfl);have EE:HN K mg "is_fence" (top 58) [.str "on"]:=Hd.dfd_of X G (Hd.at_map H4 1 rfl);have Cm:HN K mg "fence_square" (top 63) [.str "on"]:=Hd.dfd_of X G (Hd.at_map H4 2 rfl);have Cy:HN K mg "walk_square" (top 88) [.str "on"]:=Hd.dfd_of X G (Hd.at_map H4 3 rfl);have EZ:AW K mg "NoRatio" (Hd.cls K "NoRatio"):=Hd.exc_of X G (Hd.at_all H5 0 rfl);have D9:AW K mg "NoWay" (Hd.cls K "NoWay"):=Hd.exc_of X G (Hd.at_all H5 1 rfl);have FR:AW K mg "NoWalk" (Hd.cls K "NoWalk"):=Hd.exc_of X G (Hd.at_all H5 2 rfl);have C8:AW K mg "LeashError" (Hd.cls K "LeashError"):=Hd.exc_of X G (Hd.at_all H5 3 rfl);have Bv:AW K mg "NoFence" (Hd.cls K "NoFence"):=Hd.exc_of X G (Hd.at_all H5 4 rfl);have FT:AW K mg "NoLine" (Hd.cls K "NoLine"):=Hd.exc_of X G (Hd.at_all H5 5 rfl);have BW:AW K mg "NoPlace" (Hd.cls K "NoPlace"):=Hd.exc_of X G (Hd.at_all H5 6 rfl);have Aa:AW K mg "NoText" (Hd.cls K "NoText"):=Hd.exc_of X G (Hd.at_all H5 7 rfl);have T:Txt mg:=⟨W.mg_none_of X G (Hd.no_of (Hd.at_all H6 0 rfl)),W.mg_none_of X G (Hd.no_of (Hd.at_all H6 1 rfl)),W.mg_none_of X G (Hd.no_of (Hd.at_all H6 2 rfl)),W.mg_none_of X G (Hd.no_of (Hd.at_all H6 3 rfl)),W.mg_none_of X G (Hd.no_of (Hd.at_all H6 4 rfl)),W.mg_none_of X G (Hd.no_of (Hd.at_all H6 5 rfl)),W.mg_none_of X G (Hd.no_of (Hd.at_all H6 6 rfl)),W.mg_none_of X G (Hd.no_of (Hd.at_all H6 7 rfl)),W.mg_none_of X G (Hd.no_of (Hd.at_all H6 8 rfl)),W.mg_none_of X G (Hd.no_of (Hd.at_all H6 9 rfl)),W.mg_none_of X G (Hd.no_of (Hd.at_all H6 10 rfl)),W.mg_none_of X G (Hd.no_of (Hd.at_all H6 11 rfl)),W.mg_none_of X G (Hd.no_of (Hd.at_all H6 12 rfl)),W.mg_none_of X G (Hd.no_of (Hd.at_all H6 13 rfl)),W.mg_none_of X G (Hd.no_of (Hd.at_all H6 14 rfl)),W.mg_none_of X G (Hd.no_of (Hd.at_all H6 15 rfl))⟩;obtain⟨IY,od_WAYS,its_WAYS,n_WAYS,sl_WAYS,HQ,IR,HS⟩:=Hd.tup_of (Hd.at_map H7 0 rfl);obtain⟨Ir,od_PAPERS,its_PAPERS,n_PAPERS,sl_PAPERS,HR,HP,GG⟩:=Hd.tup_of (Hd.at_map H7 1 rfl);have DG:W.nsIn K cStatics "sys.int_max_str_digits" = some none:=Hd.at_two H9 0 rfl rfl;have HE:(W.nsIn K mainGlobals "FIGURES").map (fun o=>o.map Hd.bareV)=some (some (.str (Str.ofString "0123456789"))):=Hd.at_two H10 0 rfl rfl;have FL:(W.nsIn K mainGlobals "MOST_FIGURES").map (fun o=>o.map Hd.bareV)=some (some (.int 1000)):=Hd.at_two H10 1 rfl rfl;have Gw:(W.nsIn K mainGlobals "MOST_PAIRS").map (fun o=>o.map Hd.bareV)=some (some (.int 200)):=Hd.at_two H10 2 rfl rfl;have FM:(W.nsIn K mainGlobals "MOST_CORNERS").map (fun o=>o.map Hd.bareV)=some (some (.int 10)):=Hd.at_two H10 3 rfl rfl;have HD:(W.nsIn K mainGlobals "LARGEST").map (fun o=>o.map Hd.bareV)=some (some (.int 999999999999)):=Hd.at_two H10 4 rfl rfl;have FJ:W.exmOne K (.ref (Hd.cls K "NoText")) (.ref (Hd.cls K "LeashError"))=some true:=Hd.exmR_one (Hd.at_two H11 0 rfl rfl);have EU:W.kitOne K (.ref (Hd.cls K "NoText")) (.ref (Hd.cls K "NoText"))=some true:=Hd.kitR_one (Hd.at_two H11 1 rfl rfl);have ES:W.kitOne K (.ref (Hd.cls K "NoText")) (.ref (Hd.cls K "NoWalk"))=some false:=Hd.kitR_one (Hd.at_two H11 2 rfl rfl);have EV:W.kitOne K (.ref (Hd.cls K "NoText")) (.ref (Hd.cls K "NoFence"))=some false:=Hd.kitR_one (Hd.at_two H11 3 rfl rfl);have ET:W.kitOne K (.ref (Hd.cls K "NoText")) (.type "ValueError")=some true:=Hd.kitT_one (Hd.at_two H11 4 rfl rfl);have EW:W.kitAny K (.ref (Hd.cls K "NoText")) [(.ref (Hd.cls K "NoLine")),(.ref (Hd.cls K "NoPlace")),(.ref (Hd.cls K "NoWay"))]=some false:=Hd.kitRs_any (Hd.at_two H11 5 rfl rfl);have ER:W.exmOne K (.ref (Hd.cls K "NoFence")) (.ref (Hd.cls K "LeashError"))=some true:=Hd.exmR_one (Hd.at_two H11 6 rfl rfl);have Ei:W.kitOne K (.ref (Hd.cls K "NoFence")) (.ref (Hd.cls K "NoText"))=some false:=Hd.kitR_one (Hd.at_two H11 7 rfl rfl);have Eg:W.kitOne K (.ref (Hd.cls K "NoFence")) (.ref (Hd.cls K "NoWalk"))=some false:=Hd.kitR_one (Hd.at_two H11 8 rfl rfl);have Ej:W.kitOne K (.ref (Hd.cls K "NoFence")) (.ref (Hd.cls K "NoFence"))=some true:=Hd.kitR_one (Hd.at_two H11 9 rfl rfl);have Eh:W.kitOne K (.ref (Hd.cls K "NoFence")) (.type "ValueError")=some true:=Hd.kitT_one (Hd.at_two H11 10 rfl rfl);have Ek:W.kitAny K (.ref (Hd.cls K "NoFence")) [(.ref (Hd.cls K "NoLine")),(.ref (Hd.cls K "NoPlace")),(.ref (Hd.cls K "NoWay"))]=some false:=Hd.kitRs_any (Hd.at_two H11 11 rfl rfl);have HC:W.findIn K (.ref (Hd.cls K "NoText")) "__getattribute__" = some (some (.builtin "BaseException.__getattribute__")):=Hd.findR_eq (Hd.fE_ga K) (Hd.at_two H12 0 rfl rfl)
 have HB:W.findIn K (.ref (Hd.cls K "NoText")) "__getattr__" = some none:=Hd.findR_eq (Hd.fE_gn K) (Hd.at_two H12 1 rfl rfl);have HA:W.findIn K (.ref (Hd.cls K "NoText")) "__class__" = some (some (.builtin "object.__class__")):=Hd.findR_eq (Hd.fE_cl K) (Hd.at_two H12 2 rfl rfl);have Hb:W.findIn K (.ref (Hd.cls K "NoFence")) "__getattribute__" = some (some (.builtin "BaseException.__getattribute__")):=Hd.findR_eq (Hd.fE_ga K) (Hd.at_two H12 3 rfl rfl);have Ha:W.findIn K (.ref (Hd.cls K "NoFence")) "__getattr__" = some none:=Hd.findR_eq (Hd.fE_gn K) (Hd.at_two H12 4 rfl rfl);have G6:W.findIn K (.ref (Hd.cls K "NoFence")) "__class__" = some (some (.builtin "object.__class__")):=Hd.findR_eq (Hd.fE_cl K) (Hd.at_two H12 5 rfl rfl);refine x0 h hfa fun base=>?_;have hW:∀H,SqT K H IY [.str wOn,.str gQ,.str cp,.str aQ]:=fun H=>SqT.mod IR rfl (Hd.vals_sz HS (by decide)) HS;have hP:∀H,SqT K H Ir (dY.map V.str):=fun H=>SqT.mod HP rfl (Hd.vals_sz GG (by decide)) GG;have Ap:=oZ (P:=P) (w:=w) (base:=base) EA T;have Am:=iE (P:=P) (w:=w) (base:=base) BD T;have Aq:=uZ (P:=P) (w:=w) (base:=base) GE EZ Ap Am;have Bz:=o6 (P:=P) (w:=w) (base:=base) EF;have By:=o3 (P:=P) (w:=w) (base:=base) EC Ap Am T;have AH:=qw (P:=P) (w:=w) (base:=base) E9 T;have A9:=o4 (P:=P) (w:=w) (base:=base) ED By AH;have BL:=iY (P:=P) (w:=w) (base:=base) BN BW A9;have E2:=wA (P:=P) (w:=w) (base:=base) Ho Aq;have Dc:=u3 (P:=P) (w:=w) (base:=base) GF Aq;have Da:=uY (P:=P) (w:=w) (base:=base) GD Aq;have Hn:=wB (P:=P) (w:=w) (base:=base) Hq Aq;have AI:=wC (P:=P) (w:=w) (base:=base) Hr;have Co:=mU (P:=P) (w:=w) (base:=base) DU Aq;have Av:=oP (P:=P) (w:=w) (base:=base) Ep BL Bz AH Co T;have AR:=mQ (P:=P) (w:=w) (base:=base) DQ Dc;have Ai:=i7 (P:=P) (w:=w) (base:=base) BT E2 Da;have Ak:=iB (P:=P) (w:=w) (base:=base) BA AR Ai;have DI:=mR (P:=P) (w:=w) (base:=base) DR Ak Av;have Bi:=g9 (P:=P) (w:=w) (base:=base) Bp (lL AI) Bz (pU Aq);have B0:=jq (P:=P) (w:=w) (base:=base) Ce AR Ai Hn AI;have Cv:=kl (P:=P) (w:=w) (base:=base) CB Av B0 E2 Da Dc Ak;have BG:=ku (P:=P) (w:=w) (base:=base) CJ T;have AU:=na (P:=P) (w:=w) (base:=base) D3 T;have zR:=oR (P:=P) (w:=w) (base:=base) Es;have AS:=oQ (P:=P) (w:=w) (base:=base) Er zR T;have Al:=iD (P:=P) (w:=w) (base:=base) BC zR AS T;have Cu:=kj (P:=P) (w:=w) (base:=base) CA D9 (W.mg_of X G HQ) hW T;have E5:=qz (P:=P) (w:=w) (base:=base) Fa A9 T;have DO:=ni (P:=P) (w:=w) (base:=base) D5 E5 T;have Az:=eZ (P:=P) (w:=w) (base:=base) AA AH;have AV:=kM (P:=P) (w:=w) (base:=base) Dn (lL AI);have Ao:=jw (P:=P) (w:=w) (base:=base) Ck Bi;have EL:=sU (P:=P) (w:=w) (base:=base) FY Ao;have Ba:=gN (P:=P) (w:=w) (base:=base) Bd;have Dm:=kX (P:=P) (w:=w) (base:=base) Dy;have Bk:=hJ (P:=P) (w:=w) (base:=base) Br Dm EL AV;have Aw:=eP (P:=P) (w:=w) (base:=base) Ax Bk T;have Eo:=o5 (P:=P) (w:=w) (base:=base) EE Cu DO Ba Az Aw T;have Bn:=hV (P:=P) (w:=w) (base:=base) Bt zR Al T;have DL:=m4 (P:=P) (w:=w) (base:=base) D0 BG AU Al Bn;have AG:=kr (P:=P) (w:=w) (base:=base) CI T;have At:=mZ (P:=P) (w:=w) (base:=base) DZ AG;have zS:=m9 (P:=P) (w:=w) (base:=base) D2;have Ae:=ko (P:=P) (w:=w) (base:=base) CG zR AS At;have Bg:=qr (P:=P) (w:=w) (base:=base) E8 zR Ae;have Cp:=mV (P:=P) (w:=w) (base:=base) DV T;have Ca:=jt (P:=P) (w:=w) (base:=base) Ch Cp AG T;have Bl:=ju (P:=P) (w:=w) (base:=base) Ci Ca T;have Dh:=oV (P:=P) (w:=w) (base:=base) Ev zS;have BM:=i6 (P:=P) (w:=w) (base:=base) BS Bl T;have Bx:=oY (P:=P) (w:=w) (base:=base) Ez zS;have DK:=mW (P:=P) (w:=w) (base:=base) DW Bx Dh zS;have Cb:=jv (P:=P) (w:=w) (base:=base) Cj BM DK T;have Ac:=kT (P:=P) (w:=w) (base:=base) Dv zS;have Cw:=kq (P:=P) (w:=w) (base:=base) CH zS;have Dk:=oX (P:=P) (w:=w) (base:=base) Ey zR Ae zS T;have De:=oS (P:=P) (w:=w) (base:=base) Et zR Ae zS T;have Em:=oU (P:=P) (w:=w) (base:=base) Eu zR Bg Ac Cw Dk De;have DM:=m7 (P:=P) (w:=w) (base:=base) D1 T;have Bo:=hX (P:=P) (w:=w) (base:=base) Bu zR Bg Em DM T;have A5:=i5 (P:=P) (w:=w) (base:=base) BR zR;have Di:=kU (P:=P) (w:=w) (base:=base) Dw T;have Bj:=hG (P:=P) (w:=w) (base:=base) Bq AI T;have AJ:=fK (P:=P) (w:=w) (base:=base) AK AV;have AY:=iZ (P:=P) (w:=w) (base:=base) BO AI Cv;have BZ:=jp (P:=P) (w:=w) (base:=base) Cd Ao AY;have A7:=gL (P:=P) (w:=w) (base:=base) Bb DI AJ BZ T;have Cc:=jx (P:=P) (w:=w) (base:=base) Cm Bv Eo A7 Bj;have An:=jr (P:=P) (w:=w) (base:=base) Cf;have zX:=i0 (P:=P) (w:=w) (base:=base) BP An At;have En:=oW (P:=P) (w:=w) (base:=base) Ew At;have Ag:=hU (P:=P) (w:=w) (base:=base) Bs zX Ac En An zS;have B1:=js (P:=P) (w:=w) (base:=base) Cg zS Ag;have A8:=gM (P:=P) (w:=w) (base:=base) Bc zX Ac Bx B1 T;have Dl:=o0 (P:=P) (w:=w) (base:=base) EB (Hd.int_of X G HD) Ap;have DN:=ng (P:=P) (w:=w) (base:=base) D4 Dl T;have AC:=kN (P:=P) (w:=w) (base:=base) Do DG T;have AD:=kO (P:=P) (w:=w) (base:=base) Dq Aa DG (Hd.str_of X G HE) (Hd.int_of X G FL) T;have AT:=mX (P:=P) (w:=w) (base:=base) DX DG T;have BV:=kP (P:=P) (w:=w) (base:=base) Ds Aa By AC AD T
 have Bf:=mP (P:=P) (w:=w) (base:=base) DP Aa T;have DJ:=mS (P:=P) (w:=w) (base:=base) DS Bf BV;have Bw:=iC (P:=P) (w:=w) (base:=base) BB AT;have Db:=kR (P:=P) (w:=w) (base:=base) Dt Aa (Hd.int_of X G Gw) (W.mg_of X G HQ) hW (W.mg_of X G HR) hP DJ T;have E6:=qA (P:=P) (w:=w) (base:=base) Fb (Hd.int_of X G FM) DN T;have Ct:=ki (P:=P) (w:=w) (base:=base) Cz Bf AD;have AZ:=i4 (P:=P) (w:=w) (base:=base) BQ DG T;have Cn:=mT (P:=P) (w:=w) (base:=base) DT Aa Ct E6 T;have Cr:=kh (P:=P) (w:=w) (base:=base) Cy;have FX:=sV (P:=P) (w:=w) (base:=base) FZ DG Cn Db AC Cc Cr T;have BF:=km (P:=P) (w:=w) (base:=base) CC C8 Aa FR Bv FT BW D9 FJ ⟨HC,HB,HA⟩ EU ES EV ET EW ER ⟨Hb,Ha,G6⟩ Ei Eg Ej Eh Ek FX T;have Dj:=kW (P:=P) (w:=w) (base:=base) Dx Cb A8 AT;have E4:=qq (P:=P) (w:=w) (base:=base) E7 zR T;have Dd:=kS (P:=P) (w:=w) (base:=base) Du zR T;have BK:=mY (P:=P) (w:=w) (base:=base) DY AZ Bw BF Dj E4 zR;exact yd Iy DL Di AU A5 Bo BK Dd T
end K71
end
open PySem PySem.W PyProof.Rows
set_option maxRecDepth 100000 in
set_option maxHeartbeats 0 in
theorem PySem.Challenge.cw_oneleash_k71_fences_judged_holds : PySem.Challenge.rw_oneleash_k71_fences_judged.Holds := by
 w_on;o_law
 refine holds_open (q:=K71.hView) (loose:=K71.hLoose) (Xt:=fun _=>true) (XP:=fun _ _=>True) (Yf:=Hook.obs (Hd.hook K71.hFacts K71.hGood)) (Ya:=Hook.val (Hd.hook K71.hFacts K71.hGood)) (YP:=Hook.says (Hd.hook K71.hFacts K71.hGood)) (N:=100000) K71.hLeft (Hook.of _) (Hook.keeps _) (fun _ _=>trivial) (fun _ _ _ _ _=>trivial) (by rfl) (by rfl) (by rfl) (fun _ _=>recFacts_nil rfl) (by rfl) (by first|assumption|decide +kernel) (by decide +kernel) ⟨rfl,rfl,rfl,rfl,rfl,by decide +kernel⟩ ?hw ?hc
 case hw=>w_witness2
 exact Hd.law_walk (l:=Challenge.rw_oneleash_k71_fences_judged) (k:=14) ⟨rfl,by decide,by decide,rfl⟩ rfl rfl fun K FK w mg fa h KX G hmg=>K71.all_of FK KX G hmg
