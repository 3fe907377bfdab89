import PyProof.Rows.All
import Wide.All
import OpenK.AllK
import Wide.FinOn
import Lean
import PyProof.EqAt
import PyProof.EqKinds
import PyProof.TupleCall
import PyProof.ExcArgsOwn
import KE.KTryMore
import PyProof.NsDelKeeps
import PyProof.ConsumeWalk
import PyProof.ZipIter
import PyProof.WalksEnum
import PyProof.EnumMake
import PyProof.NeKinds
import PyProof.DictWalks
import PyProof.AttrMissHeap
import KE.KDictOf
import KE.KLam
import PyProof.CompMap
import KE.KRevIter
import PyProof.ListRange
import PyProof.WalkInts
import PyProof.MinMaxWalk
import PyProof.Rows.CallKwBuiltin
import KE.KSliceW
import PyProof.ReprRoads
import PyProof.CallStr
import PySem.Challenge.RW_oneleash_k44_whole_hops_shown_both_ways
section
set_option Elab.async false
set_option linter.all false
set_option maxRecDepth 100000
namespace L2
open PySem PySem.Spec PyProof.Rows
abbrev Key:=Sum Int Str
def j6:Key->Value->Bool
 | .inl k,v=>Value.isInt k v
 | .inr x,v=>Value.isStrOf x v
def xX(w:World):Key->Int
 | .inl k=>hashInt k
 | .inr x=>hashStr w x
theorem bR:∀{k:Key} {v:Value},j6 k v=true->(∃i t,k=Sum.inl i∧v=Value.int i t)∨(∃x t,k=Sum.inr x∧v=Value.str x t)
 | .inl i,v,h=>by
  obtain⟨t,e⟩:=Value.isInt_shape (k:=i) (v:=v) h;exact .inl ⟨i,t,rfl,e⟩
 | .inr x,v,h=>by
  obtain⟨t,e⟩:=Value.isStrOf_shape (x:=x) (v:=v) h;exact .inr ⟨x,t,rfl,e⟩
theorem qp(i:Int)(t:Tok):j6 (.inl i) (.int i t)=true:=by simp[j6,Value.isInt]
theorem qo(x:Str)(t:Tok):j6 (.inr x) (.str x t)=true:=by simp[j6,Value.isStrOf]
theorem we(a b:Int):decide ((Sum.inl a:Key)=Sum.inl b)=(a == b):=by
 by_cases e:a=b
 ·subst e;simp
 ·have h:¬(Sum.inl a:Key)=Sum.inl b:=fun q=>e (Sum.inl.inj q)
  rw[decide_eq_false h];exact(beq_eq_false_iff_ne.mpr e).symm
theorem wa(a b:Str):decide ((Sum.inr a:Key)=Sum.inr b)=decide (a=b):=by
 by_cases e:a=b
 ·subst e;simp
 ·have h:¬(Sum.inr a:Key)=Sum.inr b:=fun q=>e (Sum.inr.inj q)
  rw[decide_eq_false h,decide_eq_false e]
theorem wc(a:Int)(b:Str):decide ((Sum.inl a:Key)=Sum.inr b)=false:=decide_eq_false (fun q=>nomatch q)
theorem wb(a:Str)(b:Int):decide ((Sum.inr a:Key)=Sum.inl b)=false:=decide_eq_false (fun q=>nomatch q)
def cg(prog:Program)(w:World):PySem.KeyKind prog w Key where
 is:=j6
 hash:=xX w
 inj:=fun v a b ha hb=>by
  rcases bR ha with⟨i,t,rfl,rfl⟩|⟨x,t,rfl,rfl⟩
  ·rcases bR hb with⟨j,u,rfl,e⟩|⟨y,u,rfl,e⟩
   ·injection e with e1 _;rw[e1]
   ·exact nomatch e
  ·rcases bR hb with⟨j,u,rfl,e⟩|⟨y,u,rfl,e⟩
   ·exact nomatch e
   ·injection e with e1 _;rw[e1]
 byValue:=fun k v h=>by
  rcases bR h with⟨i,t,rfl,rfl⟩|⟨x,t,rfl,rfl⟩ <;> rfl
 pyHash:=fun hv h=>by
  rcases bR hv with⟨i,t,rfl,rfl⟩|⟨x,t,rfl,rfl⟩
  ·exact wpAny_pyHash_int h
  ·exact wpAny_pyHash_str h
 eqBool:=fun hu hv h=>by
  rcases bR hu with⟨i,t,rfl,rfl⟩|⟨x,t,rfl,rfl⟩
  ·rcases bR hv with⟨j,u,rfl,rfl⟩|⟨y,u,rfl,rfl⟩
   ·rw[we]at h;exact wpAny_eqBool_int h
   ·rw[wc]at h;exact SeqAt.EqAt.int_str i t y u _ _ _ _ h
  ·rcases bR hv with⟨j,u,rfl,rfl⟩|⟨y,u,rfl,rfl⟩
   ·rw[wb]at h;exact SeqAt.EqAt.str_int x t j u _ _ _ _ h
   ·rw[wa]at h;exact wpAny_eqBool_str h
 «strs»:=fun k x t v h=>by
  rcases bR h with⟨i,u,rfl,e⟩|⟨y,u,rfl,e⟩
  ·exact nomatch e
  ·injection e with e1 _
   subst e1;cases v <;> rfl
theorem mh(prog:Program)(w:World)(i:Int)(t:Tok):(cg prog w).is (.inl i) (.int i t)=true:=qp i t
theorem me(prog:Program)(w:World)(x:Str)(t:Tok):(cg prog w).is (.inr x) (.str x t)=true:=qo x t
end L2
namespace L2
open PySem PySem.Spec PyProof.Rows
inductive V where
 | non|bl (b:Bool)|int (i:Int)|str (x:Str)|byt (b:Array UInt8)|flt (b:UInt64)|ref (a:Addr)|ty (n:String)
 deriving DecidableEq
def aT:V->Value->Prop
 | .non,u=>u=Value.none
 | .bl b,u=>u=Value.bool b
 | .int i,u=>∃t,u=Value.int i t
 | .str x,u=>∃t,u=Value.str x t
 | .byt b,u=>∃t,u=Value.bytes b t
 | .flt b,u=>∃t,u=Value.float b t
 | .ref a,u=>u=Value.ref a
 | .ty n,u=>u=Value.type n
abbrev aR:List V->List Value->Prop:=Paired aT
theorem aR.length{xs:List V}{us:List Value}(r:aR xs us):xs.length=us.length:=Paired.length r
theorem aR.get:∀{xs:List V} {us:List Value} {i:Nat} {x:V},aR xs us->xs[i]? = some x->∃u,us[i]? = some u∧aT x u
 | _,_,_,_,.nil,e=>by simp at e
 | _,_,0,_,.cons r _,e=>by simp at e;subst e;exact⟨_,rfl,r⟩
 | _,_,i+1,x,.cons _ t,e=>by
  obtain⟨u,h1,h2⟩:=aR.get (i:=i) (x:=x) t (by simpa using e);exact⟨u,by simpa using h1,h2⟩
theorem aR.set{x:V}{u:Value}(r:aT x u):∀{xs:List V} {us:List Value} (i:Nat),aR xs us->aR (xs.set i x) (us.set i u)
 | _,_,_,.nil=>.nil
 | _,_,0,.cons _ t=>.cons r t
 | _,_,i+1,.cons q t=>.cons q (aR.set r i t)
theorem aR.append:∀{xs ys:List V} {us ws:List Value},aR xs us->aR ys ws->aR (xs++ys) (us++ws)
 | _,_,_,_,.nil,s=>s
 | _,_,_,_,.cons r t,s=>.cons r (aR.append t s)
theorem aR.take:∀{xs:List V} {us:List Value} (n:Nat),aR xs us->aR (xs.take n) (us.take n)
 | _,_,0,_=>.nil
 | _,_,_+1,.nil=>.nil
 | _,_,n+1,.cons r t=>.cons r (aR.take n t)
theorem aR.drop:∀{xs:List V} {us:List Value} (n:Nat),aR xs us->aR (xs.drop n) (us.drop n)
 | _,_,0,r=>r
 | _,_,_+1,.nil=>.nil
 | _,_,n+1,.cons _ t=>aR.drop n t
def jB:Option V->Option Value->Prop
 | some v,some u=>aT v u
 | none,none=>True
 | _,_=>False
def KV{κ:Type}:List (κ×V)->List (κ×Value)->Prop:=Paired fun (p:κ×V) (q:κ×Value)=>p.1=q.1∧aT p.2 q.2
def kV:Key->V
 | .inl i=>.int i
 | .inr x=>.str x
inductive HO where
 /-- a list -/
 | lst (xs:List V)
 /-- a tuple (never changes) -/
 | tup (xs:List V)
 /-- a dict whose keys are ints and texts;one whose keys are tuples of ints and texts (the empty one is both) -/
 | dK (kvs:List (Key×V))|dT (kvs:List (List Key×V))
 /-- a set of ints: its members,its size -/
 | set (S:Int->Bool) (n:Nat)
 /-- an instance of the class at C,its dict at dx,its attributes -/
 | ins (C dx:Addr) (fs:List (Str×V))
 /-- the dict of the instance at x -/
 | own (x:Addr)
 /-- the dict of an exception -/
 | xd (fs:List (Str×V))
 /-- a bound method,f of x -/
 | met (f x:Addr)
 /-- a range object lo,lo+1,.. below hi -/
 | rng (lo hi:Int)
 /-- a thing that is known to the object (the script;a dict while a loop walks it): read,never written while it is so -/
 | frz (o:Obj) (u:HO)
 /-- a code object's table -/
 | tbl (ps:Array Value)
 /-- any other thing,by what is true of its one object (a def of one's own: SetO a S n:=HO.ext fun h=>..) -/
 | ext (φ:Heap->Prop)
abbrev Hp:=Addr->Option HO
def upd(H:Hp)(a:Addr)(o:HO):Hp:=fun b=>if b=a then some o else H b
theorem upd_same{H:Hp}{a:Addr}{o:HO}:upd H a o a=some o:=by unfold upd;rw[if_pos rfl]
theorem aN{H:Hp}{a b:Addr}{o:HO}(h:b≠a):upd H a o b=H b:=by unfold upd;rw[if_neg h]
theorem rQ{H:Hp}{a b:Addr}{o u:HO}(h:H a=some o)(h':H b=some u)(d:o≠u):a≠b:=by
 intro e;subst e;rw[h]at h';exact d (Option.some.inj h')
theorem aE{H:Hp}{a b:Addr}{o:HO}(h:H a=some o)(h':H b=none):a≠b:=by
 intro e;subst e;rw[h]at h';cases h'
section
variable (P:Program) (w:World)
def bH(H:Hp)(h:Heap)(a:Addr):HO->Prop
 | .lst xs=>xs.length≤sizeLine∧∃(its:List Value) (n:Nat),aR xs its∧h.get? a=some { cls:=.type "list",data:=.seq its.toArray n }
 | .tup xs=>xs.length≤sizeLine∧∃its:List Value,aR xs its∧IsTup h a its.toArray
 | .dK kvs=>kvs.length≤sizeLine∧(a == sysModules)=false∧∃vs,KV kvs vs∧h.DictOf (cg P w) a vs
 | .dT kvs=>kvs.length≤sizeLine∧(a == sysModules)=false∧∃xs:List (List Key×Addr×Value),
   Paired (fun (p:List Key×V) (q:List Key×Addr×Value)=>p.1=q.1∧H q.2.1=some (.tup (p.1.map kV))∧aT p.2 q.2.2) kvs xs ∧
   ∃o es ep,h.get? a=some o∧o.ExactDict∧o.data = .dict es ep∧es.toList=xs.map (entryOfKey (tupleKind (cg P w)))∧(xs.map (·.1)).Nodup
 | .set S n=>h.SetOf (intKind P w) a S n
 | .ins C dx fs=>H dx=some (.own a)∧fs.length≤1000∧dx≠a∧h.get? a=some (W.instObj C dx) ∧
   ∃mA,h.Ns1 dx mA∧(∀f,jB (fs.lookup f) (mA f))∧PySem.Within mA (fs.map (·.1))
 | .own _=>∃o,h.get? a=some o
 | .xd fs=>∃mA,h.Ns1 a mA∧∀f,jB (fs.lookup f) (mA f)
 | .rng lo hi=>∃t u v,h.get? a=some { cls:=.type "range",data:=.fields #[.int lo t,.int hi u,.int 1 v] }
 | .frz o u=>h.get? a=some o∧bH H h a u
 | .tbl ps=>h.get? a=some { cls:=.none,data:=.fields ps }
 | .met f x=>h.get? a=some (W.methodObj (.ref f) (.ref x))
 | .ext φ=>φ h∧(∃o,h.get? a=some o)∧∀h1 h2:Heap,φ h1->(∀o,h1.get? a=some o->h2.get? a=some o)->φ h2
def HOk(H:Hp)(h:Heap):Prop:=∀a o,H a=some o->bH P w H h a o
end
section
variable {P:Program} {w:World} {H H':Hp} {h h':Heap} {a:Addr} {o:HO}
theorem bH.lt(x:bH P w H h a o):a<h.objs.size:=by
 cases o with
 | lst xs=>obtain⟨_,_,_,_,e⟩:=x;exact Heap.lt_size e
 | tup xs=>obtain⟨_,_,_,p⟩:=x;exact p.lt
 | dK kvs=>obtain⟨_,_,_,_,o,_,_,e,_⟩:=x;exact Heap.lt_size e
 | dT kvs=>obtain⟨_,_,_,_,o,_,_,e,_⟩:=x;exact Heap.lt_size e
 | set S n=>obtain⟨o,_,_,_,e,_⟩:=x;exact Heap.lt_size e
 | ins C dx fs=>obtain⟨_,_,_,e,_⟩:=x;exact Heap.lt_size e
 | own y=>obtain⟨_,e⟩:=x;exact Heap.lt_size e
 | xd fs=>obtain⟨_,⟨_,_,_,e,_⟩,_⟩:=x;exact Heap.lt_size e
 | rng lo hi=>obtain⟨_,_,_,e⟩:=x;exact Heap.lt_size e
 | frz ob u=>obtain⟨e,_⟩:=x;exact Heap.lt_size e
 | tbl ps=>exact Heap.lt_size (show h.get? a=some _ from x)
 | met f y=>exact Heap.lt_size (show h.get? a=some _ from x)
 | ext φ=>obtain⟨_,⟨_,e⟩,_⟩:=x;exact Heap.lt_size e
theorem Paired.mapP{α β:Type}{F G:α->β->Prop}:∀{l₁:List α} {l₂:List β},Paired F l₁ l₂->(∀a b,F a b->G a b)->Paired G l₁ l₂
 | _,_,.nil,_=>.nil
 | _,_,.cons r t,f=>.cons (f _ _ r) (Paired.mapP t f)
theorem bH.stay(x:bH P w H h a o)(k:∀b u,(b=a∨H b=some (.own a))->h.get? b=some u->h'.get? b=some u)
  (ho:∀b,H b=some (.own a)->H' b=some (.own a)) (ht:∀b xs,H b=some (.tup xs)->H' b=some (.tup xs)):bH P w H' h' a o:=by
 induction o with
 | lst xs=>obtain⟨z,its,n,r,e⟩:=x;exact⟨z,its,n,r,k _ _ (.inl rfl) e⟩
 | tup xs=>obtain⟨z,its,r,ob,e,c⟩:=x;exact⟨z,its,r,ob,k _ _ (.inl rfl) e,c⟩
 | dK kvs=>obtain⟨z,y,vs,r,ob,es,ep,e,c⟩:=x;exact⟨z,y,vs,r,ob,es,ep,k _ _ (.inl rfl) e,c⟩
 | dT kvs =>
  obtain⟨z,y,xs,r,ob,es,ep,e,c⟩:=x;exact⟨z,y,xs,Paired.mapP r fun p q z=>⟨z.1,ht _ _ z.2.1,z.2.2⟩,ob,es,ep,k _ _ (.inl rfl) e,c⟩
 | set S n=>obtain⟨ob,es,ep,t,e,c⟩:=x;exact⟨ob,es,ep,t,k _ _ (.inl rfl) e,c⟩
 | ins C dx fs =>
  obtain⟨d,z,ne,e,mA,⟨od,es,ep,e2,c⟩,r⟩:=x;exact⟨ho _ d,z,ne,k _ _ (.inl rfl) e,mA,⟨od,es,ep,k _ _ (.inr d) e2,c⟩,r⟩
 | own y=>obtain⟨ob,e⟩:=x;exact⟨ob,k _ _ (.inl rfl) e⟩
 | xd fs=>obtain⟨mA,⟨od,es,ep,e,c⟩,r⟩:=x;exact⟨mA,⟨od,es,ep,k _ _ (.inl rfl) e,c⟩,r⟩
 | rng lo hi=>obtain⟨t,u,v,e⟩:=x;exact⟨t,u,v,k _ _ (.inl rfl) e⟩
 | frz ob u ih=>obtain⟨e,q⟩:=x;exact⟨k _ _ (.inl rfl) e,ih q⟩
 | tbl ps =>
  have e:h.get? a=some { cls:=.none,data:=.fields ps }:=x;show h'.get? a=some { cls:=.none,data:=.fields ps };exact k a _ (.inl rfl) e
 | met f y =>
  have e:h.get? a=some (W.methodObj (.ref f) (.ref y)):=x;show h'.get? a=some (W.methodObj (.ref f) (.ref y));exact k a _ (.inl rfl) e
 | ext φ=>obtain⟨p,⟨o,e⟩,st⟩:=x;exact⟨st _ _ p fun o q=>k _ _ (.inl rfl) q,⟨o,k _ _ (.inl rfl) e⟩,st⟩
theorem HOk.lt(x:HOk P w H h)(e:H a=some o):a<h.objs.size:=(x a o e).lt
theorem HOk.fresh(x:HOk P w H h)(e:h.objs.size≤a):H a=none:=by
 cases q:H a with
 | none=>rfl
 | some u=>exact absurd (Nat.lt_of_lt_of_le (x.lt q) e) (Nat.lt_irrefl _)
theorem HOk.kept(x:HOk P w H h)(k:∀b u,h.get? b=some u->h'.get? b=some u):HOk P w H h':=fun a o e =>
 (x a o e).stay (fun b u _ q=>k b u q) (fun _ q=>q) fun _ _ q=>q
theorem HOk.laid(x:HOk P w H h)(k:∀b u,h.get? b=some u->h'.get? b=some u)(hp:h.objs.size≤a)(new:bH P w (upd H a o) h' a o):HOk P w (upd H a o) h':=fun b u e=>by
 have hn:=x.fresh hp
 by_cases hb:b=a
 ·subst hb;rw[upd_same]at e;cases e;exact new
 ·rw[aN hb]at e
  exact(x b u e).stay (fun c v _ q=>k c v q) (fun c q=>by rw[aN (aE q hn)];exact q) fun c xs q=>by rw[aN (aE q hn)];exact q
end
def Rd(H:Hp)(a:Addr)(u:HO):Prop:=H a=some u∨∃o,H a=some (.frz o u)
theorem Rd.ok{P:Program}{w:World}{H:Hp}{h:Heap}{a:Addr}{u:HO}(r:Rd H a u)(x:HOk P w H h):bH P w H h a u:=by
 rcases r with r|⟨o,r⟩
 ·exact x a u r
 ·obtain⟨_,q⟩:=x a _ r
  exact q
def Mut:Option HO->Prop
 | some (.lst _)=>True
 | some (.dK _)=>True
 | some (.dT _)=>True
 | some (.set _ _)=>True
 | some (.ins _ _ _)=>True
 | some (.ext _)=>True
 | _=>False
section
variable {P:Program} {w:World} {H:Hp} {h h':Heap} {x e:Addr} {o':HO}
theorem HOk.write(ok:HOk P w H h)(mu:Mut (H x))(he:e=x∨H e=some (.own x))(k:∀b u,b≠e->h.get? b=some u->h'.get? b=some u)(heo:∃u,h'.get? e=some u)
  (new:bH P w (upd H x o') h' x o'):HOk P w (upd H x o') h':=fun b u q=>by
 have nown:∀c y,H c=some (.own y)->c≠x:=fun c y r z=>by subst z;rw[r]at mu;exact mu
 have ntup:∀c xs,H c=some (.tup xs)->c≠x:=fun c xs r z=>by subst z;rw[r]at mu;exact mu
 by_cases hb:b=x
 ·subst hb;rw[upd_same]at q;cases q;exact new
 ·rw[aN hb]at q
  by_cases hbe:b=e
  ·have q':H b=some (.own x):=by
    rcases he with z|z
    ·exact absurd (hbe.trans z) hb
    ·rw[hbe];exact z
   rw[q]at q';cases q';obtain⟨v,hv⟩:=heo;exact⟨v,by rw[hbe];exact hv⟩
  ·refine(ok b u q).stay (fun c v hc r=>k c v ?_ r) (fun c r=>by rw[aN (nown c b r)];exact r) fun c xs r=>by rw[aN (ntup c xs r)];exact r
   rcases hc with rfl|hc
   ·exact hbe
   ·rintro rfl
    rcases he with z|z
    ·exact nown c b hc z
    ·rw[hc]at z;cases z;exact hb rfl
end
structure Un(fs ex:List Addr)(H H':Hp)(h h':Heap):Prop where
 keep:∀b o,h.get? b=some o->H b=none->b∉fs->b∉ex->h'.get? b=some o
 slot:∀b o,h.get? b=some o->H b=none->b∈fs->b∉ex->∃sl,h'.get? b=some { o with slots:=sl }
 free:∀b o,h.get? b=some o->H b=none->b∉ex->H' b=none
 there:∀b o,h.get? b=some o->b∉ex->∃o',h'.get? b=some o'
 tups:∀b xs,H b=some (.tup xs)->H' b=some (.tup xs)
 frzs:∀b o u,H b=some (.frz o u)->H' b=some (.frz o u)
 tbls:∀b ps,H b=some (.tbl ps)->∃more,H' b=some (.tbl (ps++more))
section
variable {fs fs' ex ex':List Addr} {H H1 H2:Hp} {h h1 h2 h':Heap} {a x e:Addr} {o:HO}
theorem Un.any(u:Un fs ex H H1 h h1){b:Addr}{ob:Obj}(q:h.get? b=some ob)(n:H b=none)(hx:b∉ex):∃sl,h1.get? b=some { ob with slots:=sl }:=by
 by_cases hb:b∈fs
 ·exact u.slot b ob q n hb hx
 ·exact⟨ob.slots,u.keep b ob q n hb hx⟩
theorem Un.kept(k:∀b u,h.get? b=some u->h'.get? b=some u):Un fs ex H H h h' :=
 ⟨fun b ob q _ _ _=>k b ob q,fun b ob q _ _ _=>⟨ob.slots,k b ob q⟩,fun _ _ _ n _=>n,fun b ob q _=>⟨ob,k b ob q⟩,fun _ _ q=>q,fun _ _ _ q=>q,fun _ ps q=>⟨#[],by rw[q];simp⟩⟩
theorem Un.refl:Un fs ex H H h h:=Un.kept fun _ _ q=>q
theorem Un.laid(k:∀b u,h.get? b=some u->h'.get? b=some u)(hp:h.objs.size≤a)(hn:H a=none):Un fs ex H (upd H a o) h h' where
 keep:=fun b u q _ _ _=>k b u q
 slot:=fun b u q _ _ _=>⟨u.slots,k b u q⟩
 free:=fun b u q n _=>by rw[aN (Nat.ne_of_lt (Nat.lt_of_lt_of_le (Heap.lt_size q) hp))];exact n
 there:=fun b u q _=>⟨u,k b u q⟩
 tups:=fun b xs q=>by rw[aN (aE q hn)];exact q
 frzs:=fun b u xs q=>by rw[aN (aE q hn)];exact q
 tbls:=fun b ps q=>⟨#[],by rw[aN (aE q hn),q];simp⟩
theorem Un.write(mu:Mut (H x))(he:e=x∨H e=some (.own x))(k:∀b u,b≠e->h.get? b=some u->h'.get? b=some u)(heo:∃u,h'.get? e=some u):Un fs ex H (upd H x o) h h':=by
 have hx:∀b,H b=none->b≠x:=fun b n z=>by subst z;rw[n]at mu;exact mu
 have hb:∀b,H b=none->b≠e:=fun b n z=>by
  subst z;rcases he with r|r
  ·exact hx b n r
  ·rw[n]at r;cases r
 have hm:∀b u,H b=some u->¬Mut (some u)->b≠x:=fun b u q nm z=>by subst z;rw[q]at mu;exact nm mu
 refine⟨fun b u q n _ _=>k b u (hb b n) q,fun b u q n _ _=>⟨u.slots,k b u (hb b n) q⟩,fun b u q n _=>by rw[aN (hx b n)];exact n,fun b u q _=>?_,
  fun b xs q=>by rw[aN (hm b _ q fun z=>z)];exact q,fun b u xs q=>by rw[aN (hm b _ q fun z=>z)];exact q,fun b ps q=>⟨#[],by rw[aN (hm b _ q fun z=>z),q];simp⟩⟩
 by_cases hbe:b=e
 ·subst hbe;exact heo
 ·exact⟨u,k b u hbe q⟩
end
def trk(h:Heap)(H:Hp):List Addr:=(List.range h.objs.size).filter fun a=>(H a).isSome
def kS(h:Heap)(H:Hp):Heap:=W.hideAll h (trk h H)
theorem qu(h:Heap)(H:Hp):(kS h H).objs.size=h.objs.size:=W.hideAll_size _ _
theorem sk{h:Heap}{H:Hp}{b:Addr}{o:Obj}(e:h.get? b=some o)(n:H b=none):(kS h H).get? b=some o :=
 W.hideAll_get _ e fun hm=>by
  have q:(H b).isSome=true:=(List.mem_filter.mp hm).2;rw[n]at q;simp at q
theorem t8{h:Heap}{H:Hp}{b:Addr}{o:Obj}(e:(kS h H).get? b=some o):h.get? b=some o∧H b=none:=by
 have e':h.get? b=some o:=W.of_hideAll (trk h H) e;refine⟨e',?_⟩;cases q:H b with
 | none=>rfl
 | some x =>
  have hm:b∈trk h H:=List.mem_filter.mpr ⟨List.mem_range.mpr (Heap.lt_size e'),by simp[q]⟩;have z:(kS h H).get? b=none:=W.hideAll_none (trk h H) hm;rw[z]at e;cases e
end L2
namespace L2
open PySem PySem.Spec PyProof.Rows
structure Mod(K:W.Frag)(mg:Str->Option Value)(base:Heap):Prop where
 kin:K.In base
 glob:base.Ns mainGlobals mg
 blt:∃mb,base.Ns builtinsNs mb∧∀x:Str,x≠"__name__"->mb x=bootBuiltins x
 nolimit:base.NoLimit
structure Cx where
 prog:Program
 w:World
 K:W.Frag
 mg:Str->Option Value
 base:Heap
 A:Around
 N:List Str
 s₀:Shared
 H₀:Hp
 env:Env
 outer:List Env
 stack:List Env
 ex:List Addr
 fn:Str->Bool
 calm:Bool
 pn:List (Addr×Obj)
 xe:Value->Shared->Prop
def frs(l:List Env):List Addr:=l.filterMap (·.frame)
abbrev Cx.fs(X:Cx):List Addr:=frs X.outer
def Vis(sc:Scope)(x:Str):Prop:=sc.names.lookup x=some .local∨sc.names.lookup x=some .cell∨sc.names.lookup x=some .free
def Loc(sc:Scope)(x:Str):Prop:=sc.names.lookup x=some .local∨sc.names.lookup x=some .cell
def ya(env:Env)(h:Heap)(m:Str->Option Value)(x:Str)(u:Value):Prop :=
 (env.kindOf x=some .local∧m x=some u)∨((env.kindOf x=some .cell∨env.kindOf x=some .free)∧∃c,env.cells.lookup x=some c∧h.IsCell c (some u))
structure Cx.Ok(X:Cx):Prop where
 mod:Mod X.K X.mg X.base
 kind:X.env.scope.kind = .function
 glob:X.env.globals=mainGlobals
 blt:X.env.builtins=builtinsNs
 above:X.s₀.heap.objs.size≤X.env.locals
 inj:∀x y c,X.env.cells.lookup x=some c->X.env.cells.lookup y=some c->x=y
 has:∀x,(X.env.kindOf x=some .cell∨X.env.kindOf x=some .free)->∃c,X.env.cells.lookup x=some c
 cab:∀x c,X.fn x=true->X.env.cells.lookup x=some c->X.s₀.heap.objs.size≤c
 hd:X.calm=true->X.A.handled=none
 frames:X.A.frames=some X.stack
 stk:X.stack=X.outer∨(X.stack=X.env::X.outer∧X.env.frame=some X.env.locals)
 exf:∀b∈X.ex,b≠X.env.locals∧∀x c,X.env.cells.lookup x=some c->c≠b
 bs:∀b o,X.base.get? b=some o->X.s₀.heap.get? b=some o∧X.H₀ b=none
 bsz:X.base.objs.size≤X.s₀.heap.objs.size
 noex:∀b o,X.base.get? b=some o->b∉X.ex
 exfs:∀b∈X.ex,b∉X.fs
 funs:X.s₀.heap.FunFrames X.base X.outer
 frf:∀b∈X.fs,X.H₀ b=none
structure yd(X:Cx)(pins:List (Addr×Obj))(σ:List (Option V))(H:Hp)(s:Shared):Prop where
 ok:X.Ok
 os:s.os=X.s₀.os
 bare:AllBare s.gens
 base:Un X.fs X.ex X.H₀ H X.s₀.heap s.heap
 loc:∃m,s.heap.Ns X.env.locals m∧∀(i:Nat) (x:Str) (v:V),X.N[i]? = some x->σ[i]? = some (some v)->Vis X.env.scope x->∃u,aT v u∧ya X.env s.heap m x u
 cell:∀x c,X.env.cells.lookup x=some c->∃v,s.heap.IsCell c v
 free:H X.env.locals=none
 freeC:∀x c,X.env.cells.lookup x=some c->H c=none
 pin:∀p∈X.pn++pins,s.heap.get? p.1=some p.2∧H p.1=none∧p.1≠X.env.locals∧p.1∉X.fs∧∀v,p.2.data≠.cell v
 hok:HOk X.prog X.w H s.heap
 len:σ.length=X.N.length
section
variable {X:Cx} {pins:List (Addr×Obj)} {σ:List (Option V)} {H H':Hp} {s:Shared} {h':Heap}
theorem Cx.Ok.nofr(ok:X.Ok){b:Addr}{o:Obj}(e:X.base.get? b=some o):b∉X.fs:=fun hb=>by
 have:=(ok.funs.mem hb).1;rw[e]at this;cases this
theorem yd.bs(I:yd X pins σ H s):∀b o,X.base.get? b=some o->s.heap.get? b=some o∧H b=none:=fun b o e =>
 ⟨I.base.keep b o (I.ok.bs b o e).1 (I.ok.bs b o e).2 (I.ok.nofr e) (I.ok.noex b o e),I.base.free b o (I.ok.bs b o e).1 (I.ok.bs b o e).2 (I.ok.noex b o e)⟩
theorem yd.bk(I:yd X pins σ H s):∀b o,X.base.get? b=some o->s.heap.get? b=some o:=fun b o e=>(I.bs b o e).1
theorem yd.mod(I:yd X pins σ H s):Mod X.K X.mg X.base:=I.ok.mod
theorem yd.kIn(I:yd X pins σ H s):X.K.In s.heap:=I.ok.mod.kin.keeps I.bk
theorem yd.lt(I:yd X pins σ H s):X.env.locals<s.heap.objs.size:=let ⟨_,hn,_⟩:=I.loc;hn.lt
theorem yd.sz(I:yd X pins σ H s):X.s₀.heap.objs.size≤s.heap.objs.size:=Nat.le_trans I.ok.above (Nat.le_of_lt I.lt)
theorem yd.nofs(I:yd X pins σ H s){a:Addr}(h:s.heap.objs.size≤a):a∉X.fs:=fun hb=>by
 obtain⟨_,o,ho,_⟩:=I.ok.funs.mem hb;exact absurd (Nat.lt_of_lt_of_le (Heap.lt_size ho) (Nat.le_trans I.sz h)) (Nat.lt_irrefl _)
theorem yd.cne(I:yd X pins σ H s):∀x c,X.env.cells.lookup x=some c->c≠X.env.locals:=fun x c e z=>by
 obtain⟨v,o,ho,hd⟩:=I.cell x c e;obtain⟨m,⟨o',es,ep,ho',hd',_⟩,_⟩:=I.loc;rw[z,ho']at ho;cases ho;rw[hd']at hd;cases hd
theorem yd.funs(I:yd X pins σ H s):s.heap.FunFrames X.base X.outer:=by
 have all:∀(l:List Env),(∀b∈frs l,b∈X.fs)->X.s₀.heap.FunFrames X.base l->s.heap.FunFrames X.base l:=by
  intro l
  induction l with
  | nil=>intro _ _;trivial
  | cons env r ih =>
   intro hs hl;obtain⟨hk,⟨L,o,hf,hn,ho,hd⟩,hr⟩:=hl;have hL:L∈X.fs:=hs L (by unfold frs;rw[List.filterMap_cons,hf];exact List.mem_cons_self);obtain⟨sl,e⟩:=I.base.slot L o ho (I.ok.frf L hL) hL fun z=>I.ok.exfs L z hL;exact⟨hk,⟨L,_,hf,hn,e,hd⟩,ih (fun b hb=>hs b (by unfold frs;rw[List.filterMap_cons,hf];exact List.mem_cons_of_mem _ hb)) hr⟩
 exact all X.outer (fun _ hb=>hb) I.ok.funs
theorem yd.stack(I:yd X pins σ H s):s.heap.FunFrames X.base X.stack:=by
 rcases I.ok.stk with e|⟨e,hf⟩
 ·rw[e];exact I.funs
 ·rw[e]
  obtain⟨m,hn,_⟩:=I.loc;refine .cons (by rw[I.ok.kind];decide) hf hn ?_ I.funs;exact Heap.get?_none_of_le (Nat.le_trans I.ok.bsz I.ok.above)
theorem yd.stkSub(I:yd X pins σ H s):∀b∈frs X.stack,b∈X.env.locals::X.fs:=fun b hb=>by
 rcases I.ok.stk with e|⟨e,hf⟩
 ·rw[e]at hb;exact List.mem_cons_of_mem _ hb
 ·rw[e]at hb
  unfold frs at hb;rw[List.filterMap_cons,hf]at hb;exact hb
theorem yd.stkFree(I:yd X pins σ H s):∀b∈frs X.stack,H b=none:=fun b hb=>by
 rcases List.mem_cons.mp (I.stkSub b hb) with e|hb
 ·rw[e];exact I.free
 ·obtain⟨_,o,ho,_⟩:=I.ok.funs.mem hb
  exact I.base.free b o ho (I.ok.frf b hb) fun z=>I.ok.exfs b z hb
theorem yd.step{g':Array GenState}{t':Nat}{d':Drawn}{ch:List Addr}(I:yd X pins σ H s)
  (hch:∀b∈ch,(b∈X.ex∨X.s₀.heap.objs.size≤b)∧b≠X.env.locals∧(∀x c,X.env.cells.lookup x=some c->c≠b)∧∀p∈X.pn++pins,p.1≠b)
  (keep:∀b o,b≠X.env.locals->b∉X.fs->b∉ch->s.heap.get? b=some o->H b=none->h'.get? b=some o)
  (slot:∀b o,b≠X.env.locals->b∈X.fs->b∉ch->s.heap.get? b=some o->H b=none->∃sl,h'.get? b=some { o with slots:=sl }) (free:∀b o,b∉ch->s.heap.get? b=some o->H b=none->H' b=none)
  (there:∀b o,b∉ch->s.heap.get? b=some o->∃o',h'.get? b=some o')
  (tups:∀b xs,H b=some (.tup xs)->H' b=some (.tup xs)) (frzs:∀b o u,H b=some (.frz o u)->H' b=some (.frz o u)) (tbls:∀b ps,H b=some (.tbl ps)->∃more,H' b=some (.tbl (ps++more)))
  (ns:∀m,s.heap.Ns X.env.locals m->h'.Ns X.env.locals m) (hok:HOk X.prog X.w H' h') (hg:AllBare g') :
  yd X pins σ H' { s with heap:=h',gens:=g',drawn:=d',toks:=t' }:=by
 have neL:∀b o,X.s₀.heap.get? b=some o->b≠X.env.locals:=fun b o e=>Nat.ne_of_lt (Nat.lt_of_lt_of_le (Heap.lt_size e) I.ok.above);have neC:∀b o,X.s₀.heap.get? b=some o->b∉X.ex->b∉ch:=fun b o e hx hb=>by
  rcases(hch b hb).1 with z|z
  ·exact hx z
  ·exact absurd (Nat.lt_of_lt_of_le (Heap.lt_size e) z) (Nat.lt_irrefl _)
 have cellK:∀x c,X.env.cells.lookup x=some c->∀v,s.heap.IsCell c v->h'.IsCell c v:=fun x c e v ⟨o,ho,hd⟩=>by
  have nch:c∉ch:=fun z=>(hch c z).2.2.1 x c e rfl
  by_cases hc:c∈X.fs
  ·obtain⟨sl,q⟩:=slot c o (I.cne x c e) hc nch ho (I.freeC x c e)
   exact⟨_,q,hd⟩
  ·exact⟨o,keep c o (I.cne x c e) hc nch ho (I.freeC x c e),hd⟩
 refine⟨I.ok,I.os,hg,⟨fun b o e n hb hx=>?_,fun b o e n hb hx=>?_,fun b o e n hx=>?_,fun b o e hx=>?_,fun b xs e=>tups b xs (I.base.tups b xs e),fun b o xs e=>frzs b o xs (I.base.frzs b o xs e),fun b ps e=>?_⟩,?_,fun x c e=>?_,?_,fun x c e=>?_,fun p hp=>?_,hok,I.len⟩
 ·exact keep b o (neL b o e) hb (neC b o e hx) (I.base.keep b o e n hb hx) (I.base.free b o e n hx)
 ·obtain⟨sl,e1⟩:=I.base.slot b o e n hb hx
  obtain⟨sl',e2⟩:=slot b _ (neL b o e) hb (neC b o e hx) e1 (I.base.free b o e n hx);exact⟨sl',e2⟩
 ·obtain⟨o',e1⟩:=I.base.there b o e hx
  exact free b o' (neC b o e hx) e1 (I.base.free b o e n hx)
 ·obtain⟨o',e1⟩:=I.base.there b o e hx
  exact there b o' (neC b o e hx) e1
 ·obtain⟨m1,e1⟩:=I.base.tbls b ps e
  obtain⟨m2,e2⟩:=tbls b _ e1;exact⟨m1++m2,by rw[e2,Array.append_assoc]⟩
 ·obtain⟨m,hn,hl⟩:=I.loc
  refine⟨m,ns m hn,fun i x v e1 e2 e3=>?_⟩;obtain⟨u,r,l⟩:=hl i x v e1 e2 e3;refine⟨u,r,?_⟩;rcases l with l|⟨k,c,e,z⟩
  ·exact .inl l
  ·exact .inr ⟨k,c,e,cellK x c e _ z⟩
 ·obtain⟨v,z⟩:=I.cell x c e
  exact⟨v,cellK x c e v z⟩
 ·obtain⟨m,⟨o,_,_,ho,_⟩,_⟩:=I.loc
  exact free _ o (fun z=>(hch _ z).2.1 rfl) ho I.free
 ·obtain⟨v,o,ho,hd⟩:=I.cell x c e
  exact free c o (fun z=>(hch c z).2.2.1 x c e rfl) ho (I.freeC x c e)
 ·obtain⟨e,n,ne,nf,d⟩:=I.pin p hp
  have nch:p.1∉ch:=fun z=>(hch p.1 z).2.2.2 p hp rfl;exact⟨keep p.1 p.2 ne nf nch e n,free p.1 p.2 nch e n,ne,nf,d⟩
theorem yd.un{t':Nat}(I:yd X pins σ H s)(u:Un X.fs [] H H' s.heap h')(hok:HOk X.prog X.w H' h'):yd X pins σ H' { s with heap:=h',toks:=t' }:=by
 obtain⟨m,⟨o,es,ep,ho,r⟩,_⟩:=id I.loc;obtain⟨sl,hL⟩:=u.any ho I.free (by simp);exact I.step (g':=s.gens) (d':=s.drawn) (ch:=[]) (fun _ z=>nomatch z) (fun b o _ hb _ e n=>u.keep b o e n hb (by simp)) (fun b o _ hb _ e n=>u.slot b o e n hb (by simp)) (fun b o _ e n=>u.free b o e n (by simp)) (fun b o _ e=>u.there b o e (by simp)) u.tups u.frzs u.tbls (fun m' hm=>by
  obtain⟨o',es',ep',ho',r'⟩:=hm;rw[ho]at ho';cases ho';exact⟨_,es',ep',hL,r'⟩) hok I.bare
theorem yd.call{g':Array GenState}{t':Nat}{d':Drawn}{ch:List Addr}(I:yd X pins σ H s)(u:Un (frs X.stack) ch H H' s.heap h')(hok:HOk X.prog X.w H' h')(hg:AllBare g')
  (hch:∀b∈ch,(b∈X.ex∨X.s₀.heap.objs.size≤b)∧b≠X.env.locals∧(∀x c,X.env.cells.lookup x=some c->c≠b)∧∀p∈X.pn++pins,p.1≠b) :
  yd X pins σ H' { s with heap:=h',gens:=g',drawn:=d',toks:=t' }:=by
 obtain⟨m,⟨o,es,ep,ho,r⟩,_⟩:=id I.loc;obtain⟨sl,hL⟩:=u.any ho I.free fun z=>(hch _ z).2.1 rfl;exact I.step (ch:=ch) hch (fun b o hL hb hc e n=>u.keep b o e n (fun z=>(List.mem_cons.mp (I.stkSub b z)).elim hL hb) hc) (fun b o _ _ hc e n=>u.any e n hc) (fun b o hc e n=>u.free b o e n hc) (fun b o hc e=>u.there b o e hc) u.tups u.frzs u.tbls (fun m' hm=>by
  obtain⟨o',es',ep',ho',r'⟩:=hm;rw[ho]at ho';cases ho';exact⟨_,es',ep',hL,r'⟩) hok hg
theorem yd.turned{t':Nat}{it:Addr}(I:yd X pins σ H s)(k:∀b o,b≠it->s.heap.get? b=some o->h'.get? b=some o)(hn:H it=none)(hL:it≠X.env.locals)
  (h1:it∈X.ex∨X.s₀.heap.objs.size≤it) (h2:∀x c,X.env.cells.lookup x=some c->c≠it) (h3:∀p∈X.pn++pins,p.1≠it):yd X pins σ H { s with heap:=h',toks:=t' }:=by
 have nit:∀b u,H b=some u->b≠it:=fun b u e z=>by rw[z,hn]at e;cases e
 refine I.step (g':=s.gens) (d':=s.drawn) (ch:=[it]) (fun b hb=>?_) (fun b o _ _ hc e _=>k b o (fun z=>hc (by simp[z])) e) (fun b o _ _ hc e _=>⟨o.slots,k b o (fun z=>hc (by simp[z])) e⟩) (fun _ _ _ _ n=>n)
  (fun b o hc e=>⟨o,k b o (fun z=>hc (by simp[z])) e⟩) (fun _ _ e=>e) (fun _ _ _ e=>e) (fun b ps e=>⟨#[],by rw[e];simp⟩) (fun m hm=>?_) (fun b u e=>?_) I.bare
 ·have e:b=it:=by simpa using hb
  subst e;exact⟨h1,hL,h2,h3⟩
 ·obtain⟨o,es,ep,ho,r⟩:=hm
  exact⟨o,es,ep,k _ o (Ne.symm hL) ho,r⟩
 ·refine(I.hok b u e).stay (fun c v hc q=>k c v ?_ q) (fun _ q=>q) fun _ _ q=>q
  rcases hc with z|z
  ·rw[z];exact nit b u e
  ·exact nit c _ z
theorem yd.tok(I:yd X pins σ H s)(t:Nat):yd X pins σ H { s with toks:=t }:=I.un (h':=s.heap) (t':=t) Un.refl I.hok
theorem yd.kept{t':Nat}(I:yd X pins σ H s)(k:∀b u,s.heap.get? b=some u->h'.get? b=some u):yd X pins σ H { s with heap:=h',toks:=t' }:=I.un (Un.kept k) (I.hok.kept k)
theorem yd.laid{a:Addr}{o:HO}{t':Nat}(I:yd X pins σ H s)(k:∀b u,s.heap.get? b=some u->h'.get? b=some u)(hp:s.heap.objs.size≤a)(new:bH X.prog X.w (upd H a o) h' a o) :
  yd X pins σ (upd H a o) { s with heap:=h',toks:=t' }:=I.un (Un.laid k hp (I.hok.fresh hp)) (I.hok.laid k hp new)
theorem yd.write{x e:Addr}{o:HO}{t':Nat}(I:yd X pins σ H s)(mu:Mut (H x))(he:e=x∨H e=some (.own x))(k:∀b u,b≠e->s.heap.get? b=some u->h'.get? b=some u)(heo:∃u,h'.get? e=some u)
  (new:bH X.prog X.w (upd H x o) h' x o):yd X pins σ (upd H x o) { s with heap:=h',toks:=t' }:=I.un (Un.write mu he k heo) (I.hok.write mu he k heo new)
theorem yd.pins_of{pins':List (Addr×Obj)}(I:yd X pins σ H s)(h:∀p∈pins',s.heap.get? p.1=some p.2∧H p.1=none∧p.1≠X.env.locals∧p.1∉X.fs∧∀v,p.2.data≠.cell v):yd X pins' σ H s :=
 ⟨I.ok,I.os,I.bare,I.base,I.loc,I.cell,I.free,I.freeC,fun p hp=>(List.mem_append.mp hp).elim (fun z=>I.pin p (List.mem_append_left _ z)) (h p),I.hok,I.len⟩
theorem ma{N:List Str}(hN:N.Nodup){i j:Nat}{x:Str}(a:N[i]? = some x)(b:N[j]? = some x):i=j:=by
 obtain⟨h1,e1⟩:=List.getElem?_eq_some_iff.mp a;obtain⟨h2,e2⟩:=List.getElem?_eq_some_iff.mp b;exact(List.getElem_inj hN).mp (e1.trans e2.symm)
theorem jV{M:Model}{A:Around}{E:Value->Shared->Prop}{i:Nat}{x:Str}{v:V}{u:Value}{Q:Unit->Shared->Prop}(I:yd X pins σ H s)(hN:X.N.Nodup)(hi:X.N[i]? = some x)(hx:Loc X.env.scope x)(r:aT v u)
  (h:∀s',yd X pins (σ.set i (some v)) H s'->(∃a,Heap.SameBut a s.heap s'.heap∧(a=X.env.locals∨X.env.cells.lookup x=some a))->Q () s') (hf:X.fn x=true∨X.env.scope.names.lookup x=some .local:=by first|exact .inl rfl|exact .inr rfl|assumption):wpAny M A (storeName X.env x u) Q E s:=by
 obtain⟨m,hn,hl⟩:=id I.loc;have hcls:(X.env.scope.kind == .class || (X.env.scope.kind == .module && X.env.locals != X.env.globals))=false:=by rw[I.ok.kind];rfl
 have hiσ:i<σ.length:=by rw[I.len];exact(List.getElem?_eq_some_iff.mp hi).1
 have cne:=I.cne;have tracked:∀{a:Addr} {h':Heap},(∃o,s.heap.get? a=some o∧H a=none)->Heap.SameBut a s.heap h'->HOk X.prog X.w H h':=fun {a h'} ha hs b ob e=>by
  obtain⟨_,_,hfree⟩:=ha;refine(I.hok b ob e).stay (fun c w' hc q=>(hs.2 c ?_).trans q) (fun _ q=>q) fun _ _ q=>q;rintro rfl;rcases hc with rfl|hc
  ·rw[hfree]at e;cases e
  ·rw[hfree]at hc;cases hc
 rcases hx with hk|hk
 ·refine wpAny_storeName_local hk hn (fun h' hn' hs=>?_) hcls
  obtain⟨oL,_,_,hoL,_⟩:=id hn;refine h _ ⟨I.ok,I.os,I.bare,⟨fun b o e n hb hx=>?_,fun b o e n hb hx=>?_,I.base.free,fun b o e hx=>?_,I.base.tups,I.base.frzs,I.base.tbls⟩,⟨_,hn',fun j y v' e1 e2 e3=>?_⟩,fun y c e=>?_,I.free,I.freeC,fun p hp=>?_,tracked ⟨oL,hoL,I.free⟩ hs,by simpa using I.len⟩ ⟨_,hs,.inl rfl⟩
  ·exact(hs.2 b (Nat.ne_of_lt (Nat.lt_of_lt_of_le (Heap.lt_size e) I.ok.above))).trans (I.base.keep b o e n hb hx)
  ·obtain⟨sl,e1⟩:=I.base.slot b o e n hb hx
   exact⟨sl,(hs.2 b (Nat.ne_of_lt (Nat.lt_of_lt_of_le (Heap.lt_size e) I.ok.above))).trans e1⟩
  ·obtain⟨o',e1⟩:=I.base.there b o e hx
   exact⟨o',(hs.2 b (Nat.ne_of_lt (Nat.lt_of_lt_of_le (Heap.lt_size e) I.ok.above))).trans e1⟩
  ·by_cases hj:j=i
   ·subst hj
    rw[hi]at e1;cases e1;rw[List.getElem?_set_self hiσ]at e2;cases e2;exact⟨u,r,.inl ⟨hk,by simp⟩⟩
   ·rw[List.getElem?_set_ne (Ne.symm hj)]at e2
    obtain⟨u',r',q⟩:=hl j y v' e1 e2 e3;refine⟨u',r',?_⟩;rcases q with⟨k,e⟩|⟨k,c,e,z⟩
    ·refine .inl ⟨k,?_⟩
     have:y≠x:=fun e=>hj (ma hN e1 (e▸hi));simp[this,e]
    ·exact .inr ⟨k,c,e,z.sameBut hs (cne y c e)⟩
  ·obtain⟨w',z⟩:=I.cell y c e
   exact⟨w',z.sameBut hs (cne y c e)⟩
  ·obtain⟨e,n,ne,nf,d⟩:=I.pin p hp
   exact⟨(hs.2 p.1 ne).trans e,n,ne,nf,d⟩
 ·have hfn:X.fn x=true:=by
   rcases hf with z|z
   ·exact z
   ·rw[z]at hk;cases hk
  obtain⟨c,hc⟩:=I.ok.has x (.inl hk);obtain⟨w',z⟩:=I.cell x c hc;refine wpAny_storeName_cell I.ok.kind hk hc z (fun h' hc' hs=>?_);obtain⟨oc,hoc,hocd⟩:=id z;refine h { s with heap:=h' } ⟨I.ok,I.os,I.bare,⟨fun b o e n hb hx=>?_,fun b o e n hb hx=>?_,I.base.free,fun b o e hx=>?_,I.base.tups,I.base.frzs,I.base.tbls⟩,⟨m,hn.sameBut hs (Ne.symm (cne x c hc)),fun j y v' e1 e2 e3=>?_⟩,fun y c' e=>?_,I.free,I.freeC,fun p hp=>?_,tracked ⟨oc,hoc,I.freeC x c hc⟩ hs,by simpa using I.len⟩ ⟨c,hs,.inr hc⟩
  ·exact(hs.2 b (Nat.ne_of_lt (Nat.lt_of_lt_of_le (Heap.lt_size e) (I.ok.cab x c hfn hc)))).trans (I.base.keep b o e n hb hx)
  ·obtain⟨sl,e1⟩:=I.base.slot b o e n hb hx
   exact⟨sl,(hs.2 b (Nat.ne_of_lt (Nat.lt_of_lt_of_le (Heap.lt_size e) (I.ok.cab x c hfn hc)))).trans e1⟩
  ·obtain⟨o',e1⟩:=I.base.there b o e hx
   exact⟨o',(hs.2 b (Nat.ne_of_lt (Nat.lt_of_lt_of_le (Heap.lt_size e) (I.ok.cab x c hfn hc)))).trans e1⟩
  ·by_cases hj:j=i
   ·subst hj
    rw[hi]at e1;cases e1;rw[List.getElem?_set_self hiσ]at e2;cases e2;exact⟨u,r,.inr ⟨.inl hk,c,hc,hc'⟩⟩
   ·rw[List.getElem?_set_ne (Ne.symm hj)]at e2
    obtain⟨u',r',q⟩:=hl j y v' e1 e2 e3;refine⟨u',r',?_⟩;rcases q with q|⟨k,c',e,z'⟩
    ·exact .inl q
    ·refine .inr ⟨k,c',e,z'.sameBut hs ?_⟩
     rintro rfl;exact hj (ma hN e1 (I.ok.inj _ _ _ e hc▸hi))
  ·by_cases hcc:c'=c
   ·subst hcc;exact⟨_,hc'⟩
   ·obtain⟨w2,z2⟩:=I.cell y c' e
    exact⟨w2,z2.sameBut hs hcc⟩
  ·obtain⟨e,n,ne,nf,d⟩:=I.pin p hp
   refine⟨(hs.2 p.1 ?_).trans e,n,ne,nf,d⟩;intro q;rw[q,hoc]at e;have q':oc=p.2:=Option.some.inj e;exact d w' (by rw[<- q'];exact hocd)
theorem eJ{M:Model}{A:Around}{E:Value->Shared->Prop}{i:Nat}{x:Str}{v:V}{u:Value}{Q:Unit->Shared->Prop}(I:yd X pins σ H s)(hN:X.N.Nodup)(hi:X.N[i]? = some x)(hx:Loc X.env.scope x)(r:aT v u)
  (h:∀s',yd X pins (σ.set i (some v)) H s'->Q () s') (hf:X.fn x=true∨X.env.scope.names.lookup x=some .local:=by first|exact .inl rfl|exact .inr rfl|assumption):wpAny M A (storeName X.env x u) Q E s :=
 jV I hN hi hx r (fun s' I' _=>h s' I') hf
theorem yd.call'{s':Shared}{ch:List Addr}(I:yd X pins σ H s)(ho:s'.os=s.os)(u:Un (frs X.stack) ch H H' s.heap s'.heap)(hok:HOk X.prog X.w H' s'.heap)(hg:AllBare s'.gens)
  (hch:∀b∈ch,(b∈X.ex∨X.s₀.heap.objs.size≤b)∧b≠X.env.locals∧(∀x c,X.env.cells.lookup x=some c->c≠b)∧∀p∈X.pn++pins,p.1≠b):yd X pins σ H' s':=by
 obtain⟨h',g',d',t',o'⟩:=s';have e:o'=s.os:=ho;subst e;exact I.call (g':=g') (t':=t') (d':=d') u hok hg hch
end
abbrev XK:=Value->Option Addr->Hp->Prop
abbrev St:=List (Option V)
abbrev VK:=V->Hp->Prop
abbrev TE:=St->Hp->VK->Prop
abbrev TT:=St->Hp->(Bool->Hp->Prop)->Prop
abbrev TA:=St->Hp->(List V->Hp->Prop)->Prop
structure Cz where
 nx:St->Hp->Prop
 rt:VK
 bk:St->Hp->Prop:=fun _ _=>False
 ct:St->Hp->Prop:=fun _ _=>False
abbrev TS:=Cz->St->Hp->Prop
def EP(X:Cx)(pins:List (Addr×Obj))(σ:St)(Q:VK)(u:Value)(s':Shared):Prop:=∃v H',yd X pins σ H' s'∧aT v u∧Q v H'
def TP(X:Cx)(pins:List (Addr×Obj))(σ:St)(Q:Bool->Hp->Prop)(b:Bool)(s':Shared):Prop:=∃H',yd X pins σ H' s'∧Q b H'
def AP(X:Cx)(pins:List (Addr×Obj))(σ:St)(Q:List V->Hp->Prop)(us:List Value)(s':Shared):Prop:=∃vs H',yd X pins σ H' s'∧aR vs us∧Q vs H'
def SP(X:Cx)(pins:List (Addr×Obj))(D:Cz)(f:Flow)(s':Shared):Prop :=
 match f with
 | .next=>∃σ' H',yd X pins σ' H' s'∧D.nx σ' H'
 | .brk=>∃σ' H',yd X pins σ' H' s'∧D.bk σ' H'
 | .cont=>∃σ' H',yd X pins σ' H' s'∧D.ct σ' H'
 | .ret u=>∃v σ' H',yd X pins σ' H' s'∧aT v u∧D.rt v H'
def PE(X:Cx)(e:Expr)(t:TE):Prop :=
 ∀(pins:List (Addr×Obj)) (s:Shared) (σ:St) (H:Hp) (Q:VK),yd X pins σ H s->t σ H Q->wpAny (model X.prog X.w) X.A (eval e X.env) (EP X pins σ Q) X.xe s
def PT(X:Cx)(e:Expr)(t:TT):Prop :=
 ∀(pins:List (Addr×Obj)) (s:Shared) (σ:St) (H:Hp) (Q:Bool->Hp->Prop),yd X pins σ H s->t σ H Q->wpAny (model X.prog X.w) X.A (isTrue e X.env (eval e X.env)) (TP X pins σ Q) X.xe s
def PW(X:Cx)(e:Expr)(t:TT):Prop :=
 ∀(whole:Sem Value) (pins:List (Addr×Obj)) (s:Shared) (σ:St) (H:Hp) (Q:Bool->Hp->Prop),yd X pins σ H s->t σ H Q->wpAny (model X.prog X.w) X.A (isTrue e X.env whole) (TP X pins σ Q) X.xe s
theorem PW.pt{X:Cx}{e:Expr}{t:TT}(h:PW X e t):PT X e t:=h _
def PA(X:Cx)(es:List Expr)(t:TA):Prop :=
 ∀(pos:Pos) (pins:List (Addr×Obj)) (s:Shared) (σ:St) (H:Hp) (Q:List V->Hp->Prop),yd X pins σ H s->t σ H Q->wpAny (model X.prog X.w) X.A (spliced (backTo pos (starEach es X.env))) (AP X pins σ Q) X.xe s
def PS(X:Cx)(st:Stmt)(t:TS):Prop :=
 ∀(pins:List (Addr×Obj)) (s:Shared) (σ:St) (H:Hp) (D:Cz),yd X pins σ H s->t D σ H->wpAny (model X.prog X.w) X.A (exec st X.env) (SP X pins D) X.xe s
def PSs(X:Cx)(st:List Stmt)(t:TS):Prop :=
 ∀(pins:List (Addr×Obj)) (s:Shared) (σ:St) (H:Hp) (D:Cz),yd X pins σ H s->t D σ H->wpAny (model X.prog X.w) X.A (execs st X.env) (SP X pins D) X.xe s
theorem thn{α:Type}{t:Sem α}{Q Q':α->Shared->Prop}{M:Model}{A:Around}{E:Value->Shared->Prop}{s:Shared}(h:wpAny M A t Q E s)(hQ:∀a s,Q a s->Q' a s):wpAny M A t Q' E s:=wpAny_mono h hQ fun _ _ x=>x
end L2
namespace L2
open PySem PySem.Spec PyProof.Rows
section
variable {X:Cx}
inductive DS (i:Nat) (σ:St) (H:Hp) (Q:VK):Prop
 | mk (v:V) (e:σ[i]? = some (some v)) (q:Q v H):DS i σ H Q
def tC(v:V):TE:=fun _ H Q=>Q v H
theorem rG{i:Nat}{x:Str}{pos:Pos}(hN:X.N[i]? = some x)(hv:Vis X.env.scope x)(hd:(x == ("__debug__" : Str))=false:=by decide)(hcd:(x == ("__classdict__" : Str))=false:=by decide):PE X (.Name x pos) (DS i):=by
 intro pins s σ H Q I h;obtain⟨v,e,h⟩:=h;obtain⟨m,hn,hl⟩:=I.loc;obtain⟨u,r,l⟩:=hl i x v hN e hv;have fin:EP X pins σ Q u s:=⟨v,H,I,r,h⟩;rcases l with⟨hk,hm⟩|⟨hk,c,hc,hcell⟩
 ·exact wpAny_Name (wpAny_loadName_local I.ok.kind hk hn hm fin) hd
 ·rcases hk with hk|hk
  ·exact wpAny_Name (wpAny_loadName_cell I.ok.kind hk hc hcell fin) hd
  ·exact wpAny_Name (wpAny_loadName_free I.ok.kind hk hc hcell fin hcd) hd
theorem ac{i j pos}:PE X (.Constant (.int i) j pos) (tC (.int i)):=fun _ _ _ H _ I h=>wpAny_Constant_int ⟨.int i,H,I.tok _,⟨_,rfl⟩,h⟩
theorem cT{b j pos}:PE X (.Constant (.bool b) j pos) (tC (.bl b)):=fun _ _ _ H _ I h=>Constant_bool ⟨.bl b,H,I,rfl,h⟩
theorem bp{j pos}:PE X (.Constant .none j pos) (tC .non):=fun _ _ _ H _ I h=>Constant_none ⟨.non,H,I,rfl,h⟩
theorem bC{x j pos}:PE X (.Constant (.str x) j pos) (tC (.str x)):=fun _ _ _ H _ I h=>Calls.Constant_str ⟨.str x,H,I.tok _,⟨_,rfl⟩,h⟩
def Gl(X:Cx)(x:Str):Prop:=X.env.kindOf x=some .globalImplicit
theorem iC{E:Value->Shared->Prop}{pins:List (Addr×Obj)}{s:Shared}{σ:St}{H:Hp}{x:Str}{u:Value}{pos:Pos}{Q:Value->Shared->Prop}(I:yd X pins σ H s)(hg:Gl X x)(hm:X.mg x=some u)(h:Q u s)
  (hd:(x == ("__debug__" : Str))=false:=by decide):wpAny (model X.prog X.w) X.A (eval (.Name x pos) X.env) Q E s :=
 Calls.Name_function_global I.ok.kind hg (Calls.loadGlobal_global (by rw[I.ok.glob];exact I.mod.glob.keeps I.bk) hm h) hd
theorem eT{E:Value->Shared->Prop}{pins:List (Addr×Obj)}{s:Shared}{σ:St}{H:Hp}{x:Str}{u:Value}{pos:Pos}{Q:Value->Shared->Prop}(I:yd X pins σ H s)(hg:Gl X x)(hm:X.mg x=none)(hv:bootBuiltins x=some u)(h:Q u s)
  (hn:x≠"__name__":=by decide) (hd:(x == ("__debug__" : Str))=false:=by decide):wpAny (model X.prog X.w) X.A (eval (.Name x pos) X.env) Q E s:=by
 obtain⟨mb,h1,h2⟩:=I.mod.blt;exact Calls.Name_function_global I.ok.kind hg (Calls.loadGlobal_builtin (by rw[I.ok.glob];exact I.mod.glob.keeps I.bk) hm (by rw[I.ok.blt];exact h1.keeps I.bk) ((h2 x hn).trans hv) h) hd
theorem tV{x:Str}{v:V}{u:Value}{pos:Pos}(hg:Gl X x)(hm:X.mg x=some u)(r:aT v u)(hd:(x == ("__debug__" : Str))=false:=by decide):PE X (.Name x pos) (tC v) :=
 fun _ _ _ H _ I h=>iC I hg hm ⟨v,H,I,r,h⟩ hd
theorem tY{x:Str}{v:V}{u:Value}{pos:Pos}(hg:Gl X x)(hm:X.mg x=none)(hv:bootBuiltins x=some u)(r:aT v u)(hn:x≠"__name__":=by decide)(hd:(x == ("__debug__" : Str))=false:=by decide):PE X (.Name x pos) (tC v) :=
 fun _ _ _ H _ I h=>eT I hg hm hv ⟨v,H,I,r,h⟩ hn hd
variable {a b:Expr} {ta tb:TE} {pos:Pos}
def PC(X:Cx)(op:CmpOp)(a b:Expr)(t:TE):Prop :=
 ∀(pins:List (Addr×Obj)) (s:Shared) (σ:St) (H:Hp) (Q:VK),yd X pins σ H s->t σ H Q ->
  wpAny (model X.prog X.w) X.A (eval a X.env) (fun v s₁=>wpAny (model X.prog X.w) X.A (eval b X.env) (fun u s₂=>wpAny (model X.prog X.w) X.A (compareOp op v u) (EP X pins σ Q) X.xe s₂) X.xe s₁) X.xe s
def tB(t:TE):TT:=fun σ H Q=>t σ H fun x H1=>∃c,x = .bl c∧Q c H1
theorem nS{op:CmpOp}{t:TE}(h:PC X op a b t)(h1:behindInMarks op b=false:=by first|exact nobehind _ (by decide) (by decide)|rfl):PT X (.Compare a [op] [b] pos) (tB t):=by
 intro pins s σ H Q I hw;refine wpAny_isTrue_Compare1 (thn (h pins s σ H _ I hw) fun v s1 h1=>thn h1 fun u s2 h2=>thn h2 fun c s3 ⟨x,H1,I1,r1,q1⟩=>?_) h1;obtain⟨d,rfl,q⟩:=q1;cases r1;exact wpAny_truthy_bool ⟨H1,I1,q⟩
theorem aV{e:Expr}{t:TE}(h:PE X e t)(he:∀whole,isTrue e X.env whole=(do let v <- whole;standAt e.pos;holding [v] (truthy v)):=by intro _;rfl):PT X e (tB t):=by
 intro pins s σ H Q I hw;refine isTrue_plain (thn (h pins s σ H _ I hw) fun v s1 ⟨x,H1,I1,r1,q1⟩=>?_) (he _);obtain⟨d,rfl,q⟩:=q1;cases r1;exact wpAny_truthy_bool ⟨H1,I1,q⟩
variable {tA tB':TT} {rest:List Expr}
def xR(t u:TT):TT:=fun σ H Q=>t σ H fun c H1=>if c=true then u σ H1 Q else Q false H1
def tOr(t u:TT):TT:=fun σ H Q=>t σ H fun c H1=>if c=true then Q true H1 else u σ H1 Q
def xJ(t:TT):TT:=fun σ H Q=>t σ H fun c H1=>Q (!c) H1
theorem cU(ha:PT X a tA):PW X (.BoolOp .And [a] pos) tA:=by
 intro wh pins s σ H Q I h;refine isTrue_and (thn (ha pins s σ H Q I h) fun c s1 e=>?_);cases c with
 | true=>exact isTrue_and_nil e
 | false=>exact e
theorem bz(ha:PT X a tA):PW X (.BoolOp .Or [a] pos) tA:=by
 intro wh pins s σ H Q I h;refine isTrue_or (thn (ha pins s σ H Q I h) fun c s1 e=>?_);cases c with
 | false=>exact isTrue_or_nil e
 | true=>exact e
theorem cZ(ha:PT X a tA)(hb:PW X (.BoolOp .And (b::rest) pos) tB'):PW X (.BoolOp .And (a::b::rest) pos) (xR tA tB'):=by
 intro wh pins s σ H Q I h;refine isTrue_and (thn (ha pins s σ H _ I h) fun c s1 ⟨H1,I1,q1⟩=>?_);cases c with
 | true=>exact hb wh pins s1 σ H1 Q I1 q1
 | false=>exact⟨H1,I1,q1⟩
theorem bK(ha:PT X a tA)(hb:PW X (.BoolOp .Or (b::rest) pos) tB'):PW X (.BoolOp .Or (a::b::rest) pos) (tOr tA tB'):=by
 intro wh pins s σ H Q I h;refine isTrue_or (thn (ha pins s σ H _ I h) fun c s1 ⟨H1,I1,q1⟩=>?_);cases c with
 | true=>exact⟨H1,I1,q1⟩
 | false=>exact hb wh pins s1 σ H1 Q I1 q1
theorem bF(ha:PT X a tA):PT X (.UnaryOp .Not a pos) (xJ tA):=by
 intro pins s σ H Q I h;exact isTrue_not (ha pins s σ H (fun c H1=>Q (!c) H1) I h)
def wW(ta tb:TE):TE:=fun σ H Q=>ta σ H fun x H1=>∃c,x = .bl c∧if c=true then tb σ H1 Q else Q (.bl false) H1
def xI(ta tb:TE):TE:=fun σ H Q=>ta σ H fun x H1=>∃c,x = .bl c∧if c=true then Q (.bl true) H1 else tb σ H1 Q
def wR(ta:TE):TE:=fun σ H Q=>ta σ H fun x H1=>∃c,x = .bl c∧Q (.bl (!c)) H1
theorem cV{op}{t:TE}(h:PE X a t):PE X (.BoolOp op [a] pos) t:=fun pins s σ H Q I hw=>BoolOp_one (h pins s σ H Q I hw)
theorem dw(ha:PE X a ta)(hb:PE X (.BoolOp .And (b::rest) pos) tb):PE X (.BoolOp .And (a::b::rest) pos) (wW ta tb):=by
 intro pins s σ H Q I h;refine BoolOp_and (thn (ha pins s σ H _ I h) fun v s1 ⟨x,H1,I1,r1,q1⟩=>?_);obtain⟨c,rfl,q1⟩:=q1;cases r1;refine wpAny_truthy_bool ?_;cases c with
 | true=>exact hb pins s1 σ H1 Q I1 q1
 | false=>exact⟨.bl false,H1,I1,rfl,q1⟩
theorem rH(ha:PE X a ta)(hb:PE X (.BoolOp .Or (b::rest) pos) tb):PE X (.BoolOp .Or (a::b::rest) pos) (xI ta tb):=by
 intro pins s σ H Q I h;refine BoolOp_or (thn (ha pins s σ H _ I h) fun v s1 ⟨x,H1,I1,r1,q1⟩=>?_);obtain⟨c,rfl,q1⟩:=q1;cases r1;refine wpAny_truthy_bool ?_;cases c with
 | false=>exact hb pins s1 σ H1 Q I1 q1
 | true=>exact⟨.bl true,H1,I1,rfl,q1⟩
theorem i0(ha:PE X a ta):PE X (.UnaryOp .Not a pos) (wR ta):=by
 intro pins s σ H Q I h;refine UnaryOp_ (thn (ha pins s σ H _ I h) fun v s1 ⟨x,H1,I1,r1,q1⟩=>?_);obtain⟨c,rfl,q1⟩:=q1;cases r1;exact not_of (wpAny_truthy_bool ⟨.bl (!c),H1,I1,rfl,q1⟩)
end
end L2
namespace L2
open PySem PySem.Spec PyProof.Rows
def SqL(K:W.Frag)(H:Hp)(a:Addr)(xs:List V):Prop :=
 Rd H a (.lst xs) ∨
  ∃(o:Obj) (its:Array Value) (n:Nat),K.lookup a=some o∧o.cls = .type "list"∧o.dict=none∧o.data = .seq its n∧its.size≤sizeLine∧aR xs its.toList
def SqT(K:W.Frag)(H:Hp)(a:Addr)(xs:List V):Prop :=
 Rd H a (.tup xs) ∨
  ∃(o:Obj) (its:Array Value) (n:Nat),K.lookup a=some o∧o.cls = .type "tuple"∧o.data = .seq its n∧its.size≤sizeLine∧aR xs its.toList
def x9:Value->Option V
 | .none=>some .non
 | .bool b=>some (.bl b)
 | .int i _=>some (.int i)
 | .str x _=>some (.str x)
 | .bytes b _=>some (.byt b)
 | .float b _=>some (.flt b)
 | .ref a=>some (.ref a)
 | .type n=>some (.ty n)
 | _=>none
theorem aT.abs{x:V}{u:Value}(r:aT x u):x9 u=some x:=by
 cases x with
 | non=>cases r;rfl
 | bl _=>cases r;rfl
 | int _=>obtain⟨t,rfl⟩:=r;rfl
 | str _=>obtain⟨t,rfl⟩:=r;rfl
 | byt _=>obtain⟨t,rfl⟩:=r;rfl
 | flt _=>obtain⟨t,rfl⟩:=r;rfl
 | ref _=>cases r;rfl
 | ty _=>cases r;rfl
theorem aT.inj{x y:V}{u:Value}(r:aT x u)(q:aT y u):x=y:=Option.some.inj (r.abs.symm.trans q.abs)
theorem aR.inj:∀{xs ys:List V} {us:List Value},aR xs us->aR ys us->xs=ys
 | _,_,_,.nil,.nil=>rfl
 | _,_,_,.cons r t,.cons r' t'=>by rw[r.inj r',aR.inj t t']
section
variable {X:Cx} {pins:List (Addr×Obj)} {σ:St} {H:Hp} {s:Shared} {a:Addr} {xs ys:List V}
theorem SqL.of{K:W.Frag}(h:H a=some (.lst xs)):SqL K H a xs:=.inl (.inl h)
theorem SqT.of{K:W.Frag}(h:H a=some (.tup xs)):SqT K H a xs:=.inl (.inl h)
theorem yd.list(I:yd X pins σ H s)(h:SqL X.K H a xs):∃its:List Value,aR xs its∧PlainL s.heap a its.toArray∧xs.length≤sizeLine:=by
 rcases h with h|⟨o,its,n,hk,hc,hd,hs,hz,r⟩
 ·obtain⟨z,its,n,r,e⟩:=h.ok I.hok
  exact⟨its,r,⟨_,n,e,rfl,rfl,rfl⟩,z⟩
 ·refine⟨its.toList,r,⟨o,n,I.kIn a o hk,hc,hd,by simpa using hs⟩,?_⟩
  have e:=r.length;simp only[Array.length_toList]at e;omega
theorem yd.tuple(I:yd X pins σ H s)(h:SqT X.K H a xs):∃its:List Value,aR xs its∧IsTup s.heap a its.toArray∧xs.length≤sizeLine:=by
 rcases h with h|⟨o,its,n,hk,hc,hs,hz,r⟩
 ·obtain⟨z,its,r,p⟩:=h.ok I.hok
  exact⟨its,r,p,z⟩
 ·refine⟨its.toList,r,⟨o,I.kIn a o hk,hc,n,by simpa using hs⟩,?_⟩
  have e:=r.length;simp only[Array.length_toList]at e;omega
theorem yd.list_inj(I:yd X pins σ H s)(h:SqL X.K H a xs)(h':SqL X.K H a ys):xs=ys:=by
 obtain⟨its,r,⟨o,n,e,_,_,d⟩,_⟩:=I.list h;obtain⟨its',r',⟨o',n',e',_,_,d'⟩,_⟩:=I.list h';rw[e]at e';cases e';rw[d]at d';injection d' with d1 _
 have:its=its':=by simpa using congrArg Array.toList d1
 subst this;exact r.inj r'
end
abbrev Cx.wish(X:Cx)(E:Value->Shared->Prop):Cx:={ X with xe:=E }
abbrev Cx.nox(X:Cx):Cx:=X.wish fun _ _=>False
theorem Cx.Ok.wish{X:Cx}(ok:X.Ok)(E:Value->Shared->Prop):(X.wish E).Ok :=
 ⟨ok.mod,ok.kind,ok.glob,ok.blt,ok.above,ok.inj,ok.has,ok.cab,ok.hd,ok.frames,ok.stk,ok.exf,ok.bs,ok.bsz,ok.noex,ok.exfs,ok.funs,ok.frf⟩
theorem Cx.Ok.unwish{X:Cx}{E:Value->Shared->Prop}(ok:(X.wish E).Ok):X.Ok :=
 ⟨ok.mod,ok.kind,ok.glob,ok.blt,ok.above,ok.inj,ok.has,ok.cab,ok.hd,ok.frames,ok.stk,ok.exf,ok.bs,ok.bsz,ok.noex,ok.exfs,ok.funs,ok.frf⟩
section
variable {X:Cx} {pins:List (Addr×Obj)} {σ:St} {H:Hp} {s:Shared} {E:Value->Shared->Prop}
theorem yd.wish(I:yd X pins σ H s)(E:Value->Shared->Prop):yd (X.wish E) pins σ H s:=⟨I.ok.wish E,I.os,I.bare,I.base,I.loc,I.cell,I.free,I.freeC,I.pin,I.hok,I.len⟩
theorem yd.unwish(I:yd (X.wish E) pins σ H s):yd X pins σ H s:=⟨I.ok.unwish,I.os,I.bare,I.base,I.loc,I.cell,I.free,I.freeC,I.pin,I.hok,I.len⟩
theorem SP.unwish{D:Cz}{f:Flow}{s':Shared}(h:SP (X.wish E) pins D f s'):SP X pins D f s':=by
 cases f with
 | next=>obtain⟨σ',H',I,q⟩:=h;exact⟨σ',H',I.unwish,q⟩
 | brk=>obtain⟨σ',H',I,q⟩:=h;exact⟨σ',H',I.unwish,q⟩
 | cont=>obtain⟨σ',H',I,q⟩:=h;exact⟨σ',H',I.unwish,q⟩
 | ret u=>obtain⟨v,σ',H',I,r,q⟩:=h;exact⟨v,σ',H',I.unwish,r,q⟩
theorem PSs.nox{st:List Stmt}{t:TS}(h:PSs X.nox st t):PSs X st t:=fun pins s σ H D I hw =>
 wpAny_mono (h pins s σ H D (I.wish _) hw) (fun _ _ q=>q.unwish) fun _ _ z=>False.elim z
end
section
variable {X:Cx} {st:Stmt} {rest:List Stmt} {t u:TS} {e:Expr} {te:TE} {pos:Pos}
def wS:TS:=fun D σ H=>D.nx σ H
def xG(t u:TS):TS:=fun D σ H=>t { D with nx:=u D } σ H
theorem aA:PSs X [] wS:=fun _ _ σ H _ I h=>wpAny_execs_nil ⟨σ,H,I,h⟩
theorem ae(h1:PS X st t)(h2:PSs X rest u):PSs X (st::rest) (xG t u):=by
 intro pins s σ H D I h;refine wpAny_execs_cons (thn (h1 pins s σ H { D with nx:=u D } I h) fun f s1 q=>?_);cases f with
 | next =>
  obtain⟨σ',H',I',q⟩:=q;exact h2 pins s1 σ' H' D I' q
 | ret v=>exact q
 | brk=>exact q
 | cont=>exact q
theorem ag(h1:PS X st t):PSs X [st] t:=by
 intro pins s σ H D I h;refine wpAny_execs_cons (thn (h1 pins s σ H D I h) fun f s1 q=>?_);cases f with
 | next=>exact wpAny_execs_nil q
 | ret v=>exact q
 | brk=>exact q
 | cont=>exact q
theorem yd.quiet{pins:List (Addr×Obj)}{σ:St}{H:Hp}{s:Shared}(I:yd X pins σ H s):interactive X.env=false:=by simp[interactive,I.ok.kind]
def wT(te:TE):TS:=fun D σ H=>te σ H fun _ H1=>D.nx σ H1
theorem bI(he:PE X e te)(hs:swapsWith e none pos.line X.env=pure false:=by rfl):PS X (.Expr e pos) (wT te):=by
 intro pins s σ H D I h;exact wpAny_Expr_any (thn (he pins s σ H _ I h) fun v s1 ⟨x,H1,I1,r1,q1⟩=>⟨σ,H1,I1,q1⟩) I.quiet hs
def vz(te:TE):TS:=fun D σ H=>te σ H D.rt
theorem ak(he:PE X e te):PS X (.Return (some e) pos) (vz te):=by
 intro pins s σ H D I h;exact wpAny_Return_some (thn (he pins s σ H _ I h) fun v s1 ⟨x,H1,I1,r1,q1⟩=>⟨x,σ,H1,I1,r1,q1⟩)
def xL(c:TT)(t u:TS):TS:=fun D σ H=>c σ H fun b H1=>if b=true then t D σ H1 else u D σ H1
theorem aM{c:Expr}{a b:List Stmt}{tc:TT}(hc:PT X c tc)(ha:PSs X a t)(hb:PSs X b u):PS X (.If c a b pos) (xL tc t u):=by
 intro pins s σ H D I h;refine wpAny_If (thn (hc pins s σ H _ I h) fun d s1 ⟨H1,I1,q1⟩=>?_);cases d with
 | true=>exact ha pins s1 σ H1 D I1 q1
 | false=>exact hb pins s1 σ H1 D I1 q1
end
abbrev TG:=V->St->Hp->(St->Hp->Prop)->Prop
abbrev TGs:=List V->St->Hp->(St->Hp->Prop)->Prop
def PG(X:Cx)(target:Expr)(t:TG):Prop :=
 ∀(pins:List (Addr×Obj)) (s:Shared) (σ:St) (H:Hp) (v:V) (u:Value) (Q:St->Hp->Prop),yd X pins σ H s->aT v u->t v σ H Q ->
  wpAny (model X.prog X.w) X.A (assign target X.env u) (fun _ s'=>∃σ' H',yd X pins σ' H' s'∧Q σ' H') X.xe s
def PGs(X:Cx)(ts:List Expr)(t:TGs):Prop :=
 ∀(pins:List (Addr×Obj)) (s:Shared) (σ:St) (H:Hp) (vs:List V) (us:List Value) (Q:St->Hp->Prop),yd X pins σ H s->aR vs us->t vs σ H Q ->
  wpAny (model X.prog X.w) X.A (assignInOrder ((assignEach ts X.env).map (·.2)) us) (fun _ s'=>∃σ' H',yd X pins σ' H' s'∧Q σ' H') X.xe s
abbrev wI:=V->V->V->Hp->(Hp->Prop)->Prop
def wJ(X:Cx)(t:wI):Prop :=
 ∀(pins:List (Addr×Obj)) (s:Shared) (σ:St) (H:Hp) (o i v:V) (ov iv u:Value) (Q:Hp->Prop),yd X pins σ H s->aT o ov->aT i iv->aT v u->t o i v H Q ->
  wpAny (model X.prog X.w) X.A (setItem ov iv u) (fun _ s'=>∃H',yd X pins σ H' s'∧Q H') X.xe s
abbrev TIp:=V->V->Hp->VK->Prop
def PIp(X:Cx)(op:Operator)(t:TIp):Prop :=
 ∀(pins:List (Addr×Obj)) (s:Shared) (σ:St) (H:Hp) (x y:V) (v u:Value) (Q:VK),yd X pins σ H s->aT x v->aT y u->t x y H Q ->
  wpAny (model X.prog X.w) X.A (inplaceOp op v u) (EP X pins σ Q) X.xe s
section
variable {X:Cx} {pos:Pos}
def pz(i:Nat):TG:=fun v σ H Q=>Q (σ.set i (some v)) H
theorem aP{i:Nat}{x:Str}(hN:X.N.Nodup)(hi:X.N[i]? = some x)(hx:Loc X.env.scope x)(hf:X.fn x=true∨X.env.scope.names.lookup x=some .local:=by first|exact .inl rfl|exact .inr rfl|assumption):PG X (.Name x pos) (pz i):=by
 intro pins s σ H v u Q I r h;exact wpAny_assign_Name (eJ I hN hi hx r (fun s' I'=>⟨_,H,I',h⟩) hf)
inductive E5 (vs:List V) (σ:St) (H:Hp) (Q:St->Hp->Prop):Prop
 | mk (e:vs = []) (q:Q σ H):E5 vs σ H Q
inductive ED (t:TG) (u:TGs) (vs:List V) (σ:St) (H:Hp) (Q:St->Hp->Prop):Prop
 | mk (v:V) (r:List V) (e:vs=v::r) (q:t v σ H fun σ' H'=>u r σ' H' Q):ED t u vs σ H Q
theorem dr:PGs X [] E5:=by
 intro pins s σ H vs us Q I r h;obtain⟨e,h⟩:=h;subst e;cases r;exact assignInOrder_nil ⟨σ,H,I,h⟩
theorem bh{e:Expr}{es:List Expr}{t:TG}{u:TGs}(h1:PG X e t)(h2:PGs X es u)
  (hs:(assignEach (e::es) X.env).map (·.2)=assign e X.env::(assignEach es X.env).map (·.2):=by rfl):PGs X (e::es) (ED t u):=by
 intro pins s σ H vs us Q I r h;obtain⟨v,vr,e1,h⟩:=h;subst e1;cases r with
 | cons r rr =>
  rw[hs];refine assignInOrder_cons (thn (h1 pins s σ H _ _ _ I r h) fun _ s1 ⟨σ1,H1,I1,q1⟩=>?_);exact h2 pins s1 σ1 H1 _ _ Q I1 rr q1
inductive ET (K:W.Frag) (n:Nat) (t:TGs) (v:V) (σ:St) (H:Hp) (Q:St->Hp->Prop):Prop
 | mk (a:Addr) (xs:List V) (e:v = .ref a) (s:SqT K H a xs) (l:xs.length=n) (q:t xs σ H Q):ET K n t v σ H Q
theorem dX{es:List Expr}{k:Nat}{t:TGs}{n:Nat}(hc:X.calm=true)(h:PGs X es t)
  (hn:(assignEach es X.env).length=n:=by rfl) (hst:(assignEach es X.env).findIdx? (·.1)=none:=by rfl):PG X (.Tuple es k pos) (ET X.K n t):=by
 intro pins s σ H v u Q I r hw;obtain⟨a,xs,e1,hq,hl,hw⟩:=hw;subst e1;cases r;obtain⟨its,rv,ht,hz⟩:=I.tuple hq;refine assign_Tuple_tuple (I.ok.hd hc) ht (by simp[hn,<- hl,rv.length]) hst fun h' hx=>?_;have I1:yd X pins σ H { s with heap:=h' }:=I.kept (t':=s.toks) fun b o e=>hx b o (Nat.ne_of_lt (Heap.lt_size e)) e
 exact h pins _ σ H xs _ Q I1 (by simpa using rv) hw
def x0(to ti:TE)(t:wI):TG:=fun v σ H Q=>to σ H fun o H1=>ti σ H1 fun i H2=>t o i v H2 fun H3=>Q σ H3
theorem vX{o i:Expr}{to ti:TE}{t:wI}(ho:PE X o to)(hi:PE X i ti)(hs:wJ X t)
  (ha:∀v,assign (.Subscript o i pos) X.env v=(do
   let ov <- holding [v] (eval o X.env)
   let iv <- holding [v,ov] (eval i X.env)
   standAt pos
   holding [v,ov,iv] (setItem ov iv v)
   release [v,ov,iv] []):=by intro _;rfl):PG X (.Subscript o i pos) (x0 to ti t):=by
 intro pins s σ H v u Q I r h;rw[ha];refine wpAny_bind (wpAny_holding (thn (ho pins s σ H _ I h) fun ov s1 ⟨x,H1,I1,r1,q1⟩=>?_));refine wpAny_bind (wpAny_holding (thn (hi pins s1 σ H1 _ I1 q1) fun iv s2 ⟨y,H2,I2,r2,q2⟩=>?_));refine wpAny_bind (wpAny_standAt (wpAny_bind (wpAny_holding (thn (hs pins s2 σ H2 x y v ov iv u _ I2 r1 r2 r q2) fun _ s3 ⟨H3,I3,q3⟩=>?_))));exact wpAny_release ⟨σ,H3,I3,q3⟩
def vG(te:TE)(g:TG):TS:=fun D σ H=>te σ H fun x H1=>g x σ H1 D.nx
theorem iV{tg e:Expr}{te:TE}{g:TG}(he:PE X e te)(hg:PG X tg g)(hs:swapsWithSole [tg] e pos.line X.env=pure false:=by rfl)(hw:swappedStores [tg] e X.env=pure none:=by rfl)
  (h1:(assignEach [tg] X.env).map (·.2) = [assign tg X.env]:=by rfl):PS X (.Assign [tg] e pos) (vG te g):=by
 intro pins s σ H D I h;refine wpAny_Assign_stores (thn (he pins s σ H _ I h) fun v s1 ⟨x,H1,I1,r1,q1⟩=>?_) hs hw;rw[h1];exact thn (hg pins s1 σ H1 x v _ I1 r1 q1) fun _ s2 q=>q
theorem aw{i:Nat}{x:Str}{e:Expr}{te:TE}{pos':Pos}(hN:X.N.Nodup)(hi:X.N[i]? = some x)(hx:Loc X.env.scope x)(he:PE X e te)(hs:swapsWith e (some (.Name x pos')) pos.line X.env=pure false:=by rfl)(hf:X.fn x=true∨X.env.scope.names.lookup x=some .local:=by first|exact .inl rfl|exact .inr rfl|assumption) :
  PS X (.Assign [.Name x pos'] e pos) (vG te (pz i)):=by
 intro pins s σ H D I h;refine wpAny_Assign_Name (thn (he pins s σ H _ I h) fun v s1 ⟨y,H1,I1,r1,q1⟩=>?_) hs;exact eJ I1 hN hi hx r1 (fun s2 I2=>⟨_,H1,I2,q1⟩) hf
def xH(i j:Nat)(ta:TA):TS:=fun D σ H=>ta σ H fun vs H1=>∃v w,vs = [v,w]∧D.nx ((σ.set i (some v)).set j (some w)) H1
theorem rD{i j:Nat}{x y:Str}{a b:Expr}{ta:TA}{px py pt:Pos}{kt k2 pt2}(hc:X.calm=true)(hN:X.N.Nodup)(hi:X.N[i]? = some x)(hj:X.N[j]? = some y)(hij:i≠j)
  (hx:X.env.scope.names.lookup x=some .local) (hy:X.env.scope.names.lookup y=some .local) (ha:PA X [a,b] ta)
  (hw:swappedStores [.Tuple [.Name x px,.Name y py] kt pt] (.Tuple [a,b] k2 pt2) X.env=pure (some [x,y]))
  (hs:swapsWithSole [.Tuple [.Name x px,.Name y py] kt pt] (.Tuple [a,b] k2 pt2) pos.line X.env=pure false:=by rfl) :
  PS X (.Assign [.Tuple [.Name x px,.Name y py] kt pt] (.Tuple [a,b] k2 pt2) pos) (xH i j ta):=by
 intro pins s σ H D I h;rw[exec_Assign_arm];refine wpAny_bind (wpAny_standAt ?_);rw[hs];refine wpAny_bind (wpAny_pure ?_);rw[if_neg (by decide)];refine wpAny_bind (Tuple_ (thn (ha _ pins s σ H _ I h) fun us s1 ⟨vs,H1,I1,r1,q1⟩=>?_));obtain⟨v,w,e1,q1⟩:=q1;subst e1;obtain⟨u1,u2,rfl,rv,rw'⟩:∃u1 u2,us = [u1,u2]∧aT v u1∧aT w u2:=by
  cases r1 with
  | cons p q =>
   cases q with
   | cons p' q' =>
    cases q';exact⟨_,_,rfl,p,p'⟩
 refine wpAny_newObj_type ?_ (by show 2≤sizeLine;decide);have I2:yd X pins σ H1 { s1 with heap:=s1.heap.push { cls:=.type "tuple",data:=.seq [u1,u2].toArray } }:=I1.kept (t':=s1.toks) fun b o e=>Heap.get?_push_of_some _ e;rw[hw];refine wpAny_bind (wpAny_pure ?_);show wpAny (model X.prog X.w) X.A (do rule "assign.swapped-stores";let items <- unpackItems (.ref s1.heap.objs.size) 2 none;assignInOrder [fun v=>bindName X.env y v,fun v=>bindName X.env x v] items.reverse;pure Flow.next) _ _ _
 refine wpAny_bind (wpAny_rule (wpAny_bind (unpackItems_tuple (items:=#[u1,u2]) (I.ok.hd hc) (IsTup.new s1.heap _) fun h' hx'=>?_)));have I3:=I2.kept (h':=h') (t':=s1.toks) fun b o e=>hx' b o (Nat.ne_of_lt (Heap.lt_size e)) e;show wpAny _ _ (assignInOrder [fun v=>bindName X.env y v,fun v=>bindName X.env x v] [u2,u1] >>= fun _=>pure Flow.next) _ _ _;refine wpAny_bind (assignInOrder_cons (wpAny_bindName (eJ I3 hN hj (.inl hy) rw' (fun s2 I4=>?_) (.inr hy))));refine assignInOrder_cons (wpAny_bindName (eJ I4 hN hi (.inl hx) rv (fun s3 I5=>assignInOrder_nil (wpAny_pure ?_)) (.inr hx)));rw[List.set_comm _ _ (Ne.symm hij)]at I5;exact⟨_,H1,I5,q1⟩
def xQ(i:Nat)(te:TE)(ti:TIp):TS:=fun D σ H=>∃x,σ[i]? = some (some x)∧te σ H fun y H1=>ti x y H1 fun z H2=>D.nx (σ.set i (some z)) H2
theorem vT{i:Nat}{x:Str}{e:Expr}{te:TE}{op:Operator}{ti:TIp}{pos':Pos}(hN:X.N.Nodup)(hi:X.N[i]? = some x)(hx:Loc X.env.scope x)(he:PE X e te)(ho:PIp X op ti)(hf:X.fn x=true∨X.env.scope.names.lookup x=some .local:=by first|exact .inl rfl|exact .inr rfl|assumption) :
  PS X (.AugAssign (.Name x pos') op e pos) (xQ i te ti):=by
 intro pins s σ H D I h;obtain⟨v,e1,h⟩:=h;obtain⟨m,hn,hl⟩:=I.loc;have vis:Vis X.env.scope x:=by rcases hx with k|k;exact .inl k;exact .inr (.inl k)
 obtain⟨u,r,l⟩:=hl i x v hi e1 vis;refine wpAny_AugAssign_Name ?_;have go:wpAny (model X.prog X.w) X.A (eval e X.env) (fun w s₂=>wpAny (model X.prog X.w) X.A (inplaceOp op u w) (fun r s₃=>wpAny (model X.prog X.w) X.A (storeName X.env x r) (fun _=>SP X pins D .next) X.xe s₃) X.xe s₂) X.xe s:=by
  refine thn (he pins s σ H _ I h) fun w s1 ⟨y,H1,I1,r1,q1⟩=>?_;refine thn (ho pins s1 σ H1 v y u w _ I1 r r1 q1) fun z s2 ⟨zv,H2,I2,r2,q2⟩=>?_;exact eJ I2 hN hi hx r2 (fun s3 I3=>⟨_,H2,I3,q2⟩) hf
 rcases l with⟨hk,hm⟩|⟨hk,c,hc,hcell⟩
 ·exact wpAny_loadName_local I.ok.kind hk hn hm go
 ·rcases hk with hk|hk
  ·exact wpAny_loadName_cell I.ok.kind hk hc hcell go
  ·rcases hx with k|k
   ·have:X.env.scope.names.lookup x=some .free:=hk
    rw[k]at this;cases this
   ·have:X.env.scope.names.lookup x=some .free:=hk
    rw[k]at this;cases this
def ipI(f:Int->Int->Int):TIp:=fun x y H Q=>∃i j,x = .int i∧y = .int j∧Q (.int (f i j)) H
theorem wf:PIp X .Add (ipI fun i j=>i+j):=by
 intro pins s σ H x y v u Q I r1 r2 h;obtain⟨i,j,e1,e2,q⟩:=h;subst e1;subst e2;obtain⟨t,rfl⟩:=r1;obtain⟨t',rfl⟩:=r2;exact iadd_int ⟨.int _,H,I.tok _,⟨_,rfl⟩,q⟩
end
section
variable {X:Cx} {pos:Pos}
def qV(c:TT)(tb:TS):TS:=fun D σ H=>∃W:Nat->St->Hp->Prop,(∃m,W m σ H)∧∀m σ H,W m σ H ->
 c σ H fun b H1=>if b=true then ∃N:St->Hp->Prop,(∀σ' H',N σ' H'->∃m',m'<m∧W m' σ' H')∧tb { D with nx:=N,ct:=N,bk:=D.nx } σ H1 else D.nx σ H1
theorem eO{c:Expr}{body:List Stmt}{tc:TT}{tb:TS}(hp:PassesOwn (model X.prog X.w) X.A X.env X.xe)(hc:PT X c tc)(hb:PSs X body tb):PS X (.While c body [] pos) (qV tc tb):=by
 intro pins s σ H D I h;obtain⟨W,⟨m0,w0⟩,turn⟩:=h;refine wpAny_While (codeAny_whileLoop (fun n s'=>∃σ' H',yd X pins σ' H' s'∧W n σ' H') ?_ m0 ⟨σ,H,I,w0⟩);rintro n s1 ⟨σ1,H1,I1,w1⟩;refine wpAny_passesOwn hp (thn (hc pins s1 σ1 H1 _ I1 (turn n σ1 H1 w1)) fun b s2 ⟨H2,I2,q2⟩=>?_);cases b with
 | true =>
  obtain⟨N,hN,q2⟩:=q2;rw[if_pos rfl];refine wpAny_passesOwn hp (thn (hb pins s2 σ1 H2 _ I2 q2) fun f s3 q3=>?_);cases f with
  | next =>
   obtain⟨σ3,H3,I3,n3⟩:=q3;obtain⟨m',hm,w3⟩:=hN σ3 H3 n3;exact⟨m',hm,σ3,H3,I3,w3⟩
  | cont =>
   obtain⟨σ3,H3,I3,n3⟩:=q3;obtain⟨m',hm,w3⟩:=hN σ3 H3 n3;exact⟨m',hm,σ3,H3,I3,w3⟩
  | brk=>exact q3
  | ret v=>exact q3
 | false =>
  rw[if_neg Bool.false_ne_true];exact wpAny_execs_nil ⟨σ1,H2,I2,q2⟩
end
structure It where
 go:Nat->Hp->Prop
 yld:Nat->Hp->V->Hp->Prop
 stop:Nat->Hp->Prop
def eC(X:Cx)(pins:List (Addr×Obj))(H:Hp)(b:Addr):Prop :=
 H b=none∧b≠X.env.locals∧b∉X.fs∧(b∈X.ex∨X.s₀.heap.objs.size≤b)∧(∀x c,X.env.cells.lookup x=some c->c≠b)∧∀p∈X.pn++pins,p.1≠b
theorem yd.fpOk{X:Cx}{pins:List (Addr×Obj)}{σ:St}{H H':Hp}{s:Shared}{b:Addr}(I:yd X pins σ H s)(hb:s.heap.objs.size≤b)(hn:H' b=none):eC X pins H' b:=by
 refine⟨hn,Nat.ne_of_gt (Nat.lt_of_lt_of_le I.lt hb),I.nofs hb,.inr (Nat.le_trans I.sz hb),fun x c e z=>?_,fun p hp z=>?_⟩
 ·obtain⟨v,q⟩:=I.cell x c e
  exact absurd (Nat.lt_of_lt_of_le q.lt (by rw[z];exact hb)) (Nat.lt_irrefl _)
 ·exact absurd (Nat.lt_of_lt_of_le (Heap.lt_size (I.pin p hp).1) (by rw[z];exact hb)) (Nat.lt_irrefl _)
structure CU(P:Program)(w:World)(K:W.Frag)(tg:Expr)(J:It)(fp:List Addr)(it:Addr)(tn:Nat->Heap->Prop):Prop where
 mem:it∈fp
 obj:∀i h,tn i h->∀b∈fp,∃o,h.get? b=some o∧∀v,o.data≠.cell v
 keep:∀i h h',tn i h->(∀b∈fp,∀o,h.get? b=some o->h'.get? b=some o)->tn i h'
 item:∀(X:Cx),X.prog=P->X.w=w->X.K=K->X.calm=true->∀(i:Nat) (pins:List (Addr×Obj)) (s:Shared) (σ:St) (H:Hp) (E:Value->Shared->Prop),yd X pins σ H s->(∀b∈fp,eC X pins H b)->tn i s.heap->J.go i H ->
  wpAny (model P w) X.A (pyNext (.ref it)) (fun r s1=>∃u,r=some u ∧
   wpAny (model P w) X.A (letOwnedTupleGo tg (.ref it) u) (fun _ s2=>∃x H',yd X pins σ H' s2∧aT x u∧J.yld i H x H'∧tn (i+1) s2.heap∧∀b∈fp,H' b=none) E s1) E s
 done:∀(X:Cx),X.prog=P->X.w=w->X.K=K->X.calm=true->∀(i:Nat) (pins:List (Addr×Obj)) (s:Shared) (σ:St) (H:Hp) (E:Value->Shared->Prop),yd X pins σ H s->(∀b∈fp,eC X pins H b)->tn i s.heap->J.stop i H ->
  wpAny (model P w) X.A (pyNext (.ref it)) (fun r s1=>r=none∧yd X pins σ H s1) E s
 self:∀(A:Around) (i:Nat) (s:Shared) (Q:Value->Shared->Prop) (E:Value->Shared->Prop),tn i s.heap->Q (.ref it) s->wpAny (model P w) A (pyIter (.ref it)) Q E s
abbrev TI:=St->Hp->(It->Hp->Prop)->Prop
def PIE(X:Cx)(pins:List (Addr×Obj))(σ:St)(tg:Expr)(R:It->Hp->Prop)(itv:Value)(s2:Shared):Prop :=
 ∃(it:Addr) (fp:List Addr) (tn:Nat->Heap->Prop) (J:It) (H':Hp),itv = .ref it∧yd X pins σ H' s2∧CU X.prog X.w X.K tg J fp it tn∧tn 0 s2.heap∧(∀b∈fp,eC X pins H' b)∧R J H'
def PI(X:Cx)(tg iter:Expr)(wi:TI):Prop :=
 ∀(pins:List (Addr×Obj)) (s:Shared) (σ:St) (H:Hp) (R:It->Hp->Prop),yd X pins σ H s->wi σ H R ->
  wpAny (model X.prog X.w) X.A (eval iter X.env) (fun v s1=>wpAny (model X.prog X.w) X.A (pyIter v) (PIE X pins σ tg R) X.xe s1) X.xe s
theorem pi{M:Model}{A:Around}{E:Value->Shared->Prop}{s:Shared}{tg:Expr}{it:Addr}{u:Value}{o:Obj}{n:String}{vs:Array Value}{Q:Unit->Shared->Prop}(ho:s.heap.get? it=some o)(hc:o.cls = .type n)(hd:o.data = .fields vs)
    (hn:["enumerate","zip","dict_itemiterator","dict_reverseitemiterator","odict_iterator","itertools.zip_longest","itertools.pairwise"].contains n=false) (hQ:Q () s):wpAny M A (letOwnedTupleGo tg (.ref it) u) Q E s:=by
  unfold letOwnedTupleGo;cases tg <;> first
    | exact wpAny_pure hQ
    | (cases u <;> first
        | exact wpAny_pure hQ
        | (refine wpAny_bind (wpAny_load ho ?_)
           rw[hc,hd];show wpAny M A (if (["enumerate","zip","dict_itemiterator","dict_reverseitemiterator","odict_iterator","itertools.zip_longest","itertools.pairwise"].contains n && vs[0]? == some (rawInt _))=true then _ else _) Q E s
           rw[if_neg (by intro h;rw[hn,Bool.false_and]at h;cases h)];exact wpAny_pure hQ))
def Itl(K:W.Frag)(a:Addr):It :=
 ⟨fun i H=>∃xs x,SqL K H a xs∧xs[i]? = some x,fun i H x H'=>H'=H∧∀xs,SqL K H a xs->xs[i]? = some x,fun i H=>∃xs,SqL K H a xs∧xs.length≤i⟩
def Itr(lo:Int)(n:Nat):It:=⟨fun i _=>i<n,fun i H x H'=>H'=H∧x = .int (lo+i),fun i _=>n≤i⟩
theorem pO{P:Program}{w:World}{K:W.Frag}{tg:Expr}(a it:Addr):CU P w K tg (Itl K a) [it] it (fun i h=>h.IsListIter it a i) where
 mem:=by simp
 obj:=fun i h st b hb=>by
  have e:b=it:=by simpa using hb
  subst e;obtain⟨o,e,c,d⟩:=st;exact⟨o,e,fun v z=>by rw[d]at z;cases z⟩
 keep:=fun i h h' st k=>st.at fun o e=>k it (by simp) o e
 item:=by
  intro X hP hw hK hc i pins s σ H E I hf st hg;subst hP hw hK;obtain⟨xs,x,hq,hx⟩:=hg;obtain⟨its,rv,p,hz⟩:=I.list hq;obtain⟨u,hu,ru⟩:=rv.get hx;obtain⟨f0,f1,f2,f3,f4,f5⟩:=hf it (by simp);refine wpAny_pyNext_list_item st p.isList (x:=u) (by simpa using hu) fun h' st' sb=>?_;have I1:yd X pins σ H { s with heap:=h' }:=I.turned (t':=s.toks) (fun b o hb e=>(sb.2 b hb).trans e) f0 f1 f3 f4 f5;obtain⟨o,e,c,d⟩:=id st';exact⟨u,rfl,pi (s:={ s with heap:=h' }) e c d (by decide) ⟨x,H,I1,ru,⟨rfl,fun ys hy=>by rw[I.list_inj hy hq];exact hx⟩,st',fun b hb=>(hf b hb).1⟩⟩
 done:=by
  intro X hP hw hK hc i pins s σ H E I hf st hg;subst hP hw hK;obtain⟨xs,hq,hx⟩:=hg;obtain⟨its,rv,p,hz⟩:=I.list hq;obtain⟨f0,f1,f2,f3,f4,f5⟩:=hf it (by simp);have hl:=rv.length;exact wpAny_pyNext_list_end (I.ok.hd hc) st p.isList (by simp;omega) fun h' eb=>⟨rfl,I.turned (t':=s.toks) (fun b o hb e=>eb b o hb e) f0 f1 f3 f4 f5⟩
 self:=fun _ _ _ _ _ st h=>wpAny_pyIter_listiter st h
theorem nK{P:Program}{w:World}{K:W.Frag}{tg:Expr}(it:Addr)(lo:Int)(n:Nat):CU P w K tg (Itr lo n) [it] it (fun i h=>IsRangeIter h it (lo+(i:Nat)*1) ((n:Int) - (i:Nat)) 1) where
 mem:=by simp
 obj:=fun i h st b hb=>by
  have e:b=it:=by simpa using hb
  subst e;exact⟨_,st,fun v z=>by
   have z':Data.fields _=Data.cell v:=z;cases z'⟩
 keep:=fun i h h' st k=>k it (by simp) _ st
 item:=by
  intro X hP hw hK hc i pins s σ H E I hf st hg;subst hP hw hK;obtain⟨f0,f1,f2,f3,f4,f5⟩:=hf it (by simp);have W:=Walks.range (prog:=X.prog) (w:=X.w) (I.ok.hd hc) it lo 1 n;refine W.item i s _ _ hg st fun v h' tk hv st' kk=>?_;obtain⟨t,rfl⟩:=hv;have I1:yd X pins σ H { s with heap:=h',toks:=tk }:=I.turned (fun b o hb e=>kk b o (by simpa using hb) e) f0 f1 f3 f4 f5;refine⟨_,rfl,pi (s:={ s with heap:=h',toks:=tk }) (n:="range_iterator") st' rfl rfl (by decide) ⟨.int (lo+i),H,I1,⟨t,?_⟩,⟨rfl,rfl⟩,st',fun b hb=>(hf b hb).1⟩⟩;rw[Int.mul_one]
 done:=by
  intro X hP hw hK hc i pins s σ H E I hf st hg;subst hP hw hK;obtain⟨f0,f1,f2,f3,f4,f5⟩:=hf it (by simp);exact wpAny_pyNext_range_end (I.ok.hd hc) st (by have:n≤i:=hg;omega) fun h' eb=>⟨rfl,I.turned (t':=s.toks) (fun b o hb e=>eb b o hb e) f0 f1 f3 f4 f5⟩
 self:=fun _ _ _ _ _ st h=>wpAny_pyIter_rangeiter st h
end L2
namespace L2
open PySem PySem.Spec PyProof.Rows
section
variable {X:Cx} {tg:Expr}
def xk(K:W.Frag)(tl:TE):TI:=fun σ H R=>tl σ H fun x H1=>∃a,x = .ref a∧(∃xs,SqL K H1 a xs)∧R (Itl K a) H1
theorem cF{l:Expr}{tl:TE}(hl:PE X l tl):PI X tg l (xk X.K tl):=by
 intro pins s σ H R I h;refine thn (hl pins s σ H _ I h) fun v s1 ⟨x,H1,I1,r1,q1⟩=>?_;obtain⟨a,e,⟨xs,hq⟩,q⟩:=q1;subst e;cases r1;obtain⟨its,rv,p,hz⟩:=I1.list hq;refine wpAny_pyIter_list p.isList ?_;refine⟨s1.heap.objs.size,[s1.heap.objs.size],_,_,H1,rfl,I1.kept (t':=s1.toks) fun b o e=>Heap.get?_push_of_some _ e,pO a _,⟨_,Heap.get?_push_size _ rfl,rfl,rfl⟩,fun b hb=>?_,q⟩;have e:b=s1.heap.objs.size:=by simpa using hb
 subst e;exact I1.fpOk (Nat.le_refl _) (I1.hok.fresh (Nat.le_refl _))
theorem lR{pins:List (Addr×Obj)}{σ:St}{H:Hp}{s:Shared}{R:It->Hp->Prop}{E:Value->Shared->Prop}{lo hi:Int}{t u v:Tok}{tk:Nat}(I:yd X pins σ H s)(h1:-(2^62)≤lo)(h2:lo<2^62)(h3:-(2^62)≤hi)(h4:hi<2^62)
  (q:R (Itr lo (hi - lo).toNat) H):wpAny (model X.prog X.w) X.A (pyIter (.ref s.heap.objs.size)) (PIE X pins σ tg R) E { s with heap:=s.heap.push { cls:=.type "range",data:=.fields #[.int lo t,.int hi u,.int 1 v] },toks:=tk }:=by
 refine wpAny_pyIter_range (IsRange.new ..) (small_one h1 h2 h3 h4) ?_;have I1:yd X pins σ H { s with heap:=s.heap.push { cls:=.type "range",data:=.fields #[.int lo t,.int hi u,.int 1 v] },toks:=tk }:=I.kept fun b o e=>Heap.get?_push_of_some _ e;refine⟨(s.heap.push { cls:=.type "range",data:=.fields #[.int lo t,.int hi u,.int 1 v] }).objs.size,[(s.heap.push { cls:=.type "range",data:=.fields #[.int lo t,.int hi u,.int 1 v] }).objs.size],_,_,H,rfl,
  I1.kept (t':=tk) fun b o e=>Heap.get?_push_of_some _ e,nK _ lo (hi - lo).toNat,?_,fun b hb=>?_,q⟩
 ·have e1:lo+((0:Nat):Int)*1=lo:=by simp
  have e2:(((hi - lo).toNat:Nat):Int) - ((0:Nat):Int)=Builtin.Range.rangeSize lo hi 1:=by rw[rangeSize_one];split <;> omega
  show IsRangeIter _ _ (lo+((0:Nat):Int)*1) ((((hi - lo).toNat:Nat):Int) - ((0:Nat):Int)) 1;rw[e1,e2];exact Heap.get?_push_size _ rfl
 ·have e:b=(s.heap.push { cls:=.type "range",data:=.fields #[.int lo t,.int hi u,.int 1 v] }).objs.size:=by simpa using hb
  subst e;exact I1.fpOk (Nat.le_refl _) (I1.hok.fresh (Nat.le_refl _))
def xj(ta:TA):TI:=fun σ H R=>ta σ H fun vs H1=>∃j:Int,vs = [.int j]∧-(2^62)≤j∧j<2^62∧R (Itr 0 j.toNat) H1
def xi(ta:TA):TI:=fun σ H R=>ta σ H fun vs H1=>∃i j:Int,vs = [.int i,.int j]∧(-(2^62)≤i∧i<2^62∧-(2^62)≤j∧j<2^62)∧R (Itr i (j - i).toNat) H1
theorem gL{a:Expr}{ta:TA}{p pos:Pos}(hg:Gl X "range")(hm:X.mg "range" = none)(ha:PA X [a] ta)(hs:starEach [a] X.env = [(false,eval a X.env)]:=by rfl):PI X tg (.Call (.Name "range" p) [a] [] pos) (xj ta):=by
 intro pins s σ H R I h;refine Call_ (eT I hg hm boot_range (PyProof.Rows.callWith_type1 (thn (ha pos pins s σ H _ I h) fun us s1 ⟨vs,H1,I1,r1,q1⟩=>?_) hs rfl));obtain⟨j,e,q1,q2,q⟩:=q1;subst e;cases r1 with
 | cons r rr =>
  cases rr;obtain⟨t,rfl⟩:=r;exact call_range_1 (lR I1 (by omega) (by omega) q1 q2 (by simpa using q))
theorem jY{a b:Expr}{ta:TA}{p pos:Pos}(hg:Gl X "range")(hm:X.mg "range" = none)(ha:PA X [a,b] ta)(hs:starEach [a,b] X.env = [(false,eval a X.env),(false,eval b X.env)]:=by rfl)(hs2:starEach [b] X.env = [(false,eval b X.env)]:=by rfl) :
  PI X tg (.Call (.Name "range" p) [a,b] [] pos) (xi ta):=by
 intro pins s σ H R I h;refine Call_ (eT I hg hm boot_range (PyProof.Rows.callWith_type1 (thn (ha pos pins s σ H _ I h) fun us s1 ⟨vs,H1,I1,r1,q1⟩=>?_) (by rw[hs,hs2]) (by rw[hs2];rfl)));obtain⟨i,j,e,⟨q1,q2,q3,q4⟩,q⟩:=q1;subst e;cases r1 with
 | cons r rr =>
  cases rr with
  | cons r' rr =>
   cases rr;obtain⟨t,rfl⟩:=r;obtain⟨t',rfl⟩:=r';exact call_range_2 (lR I1 q1 q2 q3 q4 q)
def xN(wi:TI)(g:TG)(tb:TS):TS:=fun D σ H=>wi σ H fun J H1=>∃W:Nat->Nat->St->Hp->Prop,(∃m,W 0 m σ H1)∧∀i m σ H,W i m σ H ->
 (J.stop i H∧D.nx σ H)∨(J.go i H∧∃N:St->Hp->Prop,(∀σ' H',N σ' H'->∃m',m'<m∧W (i+1) m' σ' H')∧∀x H',J.yld i H x H'->g x σ H' fun σ2 H2=>tb { D with nx:=N,ct:=N,bk:=D.nx } σ2 H2)
def iX(fp:List Addr)(h:Heap):List (Addr×Obj):=fp.filterMap fun b=>(h.get? b).map fun o=>(b,o)
theorem da{fp:List Addr}{h:Heap}{b:Addr}{o:Obj}(hb:b∈fp)(e:h.get? b=some o):(b,o)∈iX fp h:=List.mem_filterMap.mpr ⟨b,hb,by rw[e];rfl⟩
theorem qd{fp:List Addr}{h:Heap}{p:Addr×Obj}(hp:p∈iX fp h):p.1∈fp∧h.get? p.1=some p.2:=by
 obtain⟨b,hb,e⟩:=List.mem_filterMap.mp hp;cases q:h.get? b with
 | none=>rw[q]at e;cases e
 | some o =>
  rw[q]at e;have e':(b,o)=p:=Option.some.inj e;subst e';exact⟨hb,q⟩
theorem yd.pinned{pins:List (Addr×Obj)}{σ:St}{H:Hp}{s:Shared}{fp:List Addr}(I:yd X pins σ H s)(hf:∀b∈fp,eC X pins H b)(ho:∀b∈fp,∃o,s.heap.get? b=some o∧∀v,o.data≠.cell v):yd X (pins++iX fp s.heap) σ H s :=
 I.pins_of fun p hp=>(List.mem_append.mp hp).elim (fun z=>I.pin p (List.mem_append_right _ z)) fun z=>by
  obtain⟨hb,e⟩:=qd z;obtain⟨f0,f1,f2,_⟩:=hf p.1 hb;obtain⟨o,e',d⟩:=ho p.1 hb;rw[e]at e';cases e';exact⟨e,f0,f1,f2,d⟩
theorem yd.unpinned{pins pl:List (Addr×Obj)}{σ:St}{H:Hp}{s:Shared}(I:yd X (pins++pl) σ H s):yd X pins σ H s:=I.pins_of fun p hp=>I.pin p (List.mem_append_right _ (List.mem_append_left _ hp))
theorem cB{iter:Expr}{body:List Stmt}{wi:TI}{g:TG}{tb:TS}{pos:Pos}(hp:PassesOwn (model X.prog X.w) X.A X.env X.xe)(hc:X.calm=true)(hi:PI X tg iter wi)(hg:PG X tg g)(hb:PSs X body tb)
  (hs:∀x,foldedSetIterable iter X.env x=pure x:=by intro _;rfl):PS X (.For tg iter body [] pos) (xN wi g tb):=by
 intro pins s σ H D I h;refine wpAny_For (thn (hi pins s σ H _ I h) fun v s1 h1=>thn h1 fun itv s2 h2=>?_) hs;obtain⟨it,fp,tn,J,H2,e,I2,T,st2,f2,W,⟨m0,w0⟩,turn⟩:=h2;subst e;have stat:∀{H':Hp},(∀b∈fp,H' b=none)->∀b∈fp,eC X pins H' b:=fun hn b hb=>⟨hn b hb,(f2 b hb).2⟩;refine codeAny_forLoop_any (fun n s'=>∃i σ' H',yd X pins σ' H' s'∧tn i s'.heap∧(∀b∈fp,H' b=none)∧W i n σ' H') ?_ m0 ⟨0,σ,H2,I2,st2,fun b hb=>(f2 b hb).1,w0⟩;rintro n s3 ⟨i,σ3,H3,I3,st3,fr3,w3⟩;rcases turn i n σ3 H3 w3 with⟨stop,qn⟩|⟨go,N,hN,step⟩
 ·refine wpAny_passesOwn hp (thn (T.done X rfl rfl rfl hc i pins s3 σ3 H3 X.xe I3 (stat fr3) st3 stop) fun r s4 ⟨hr,I4⟩=>?_)
  subst hr;exact wpAny_execs_nil ⟨σ3,H3,I4,qn⟩
 ·refine wpAny_passesOwn hp (thn (T.item X rfl rfl rfl hc i pins s3 σ3 H3 X.xe I3 (stat fr3) st3 go) fun r s4 ⟨u,hr,h4⟩=>?_)
  subst hr;refine wpAny_passesOwn hp (thn h4 fun _ s5 ⟨x,H5,I5,r5,y5,st5,fr5⟩=>?_);have I5':=I5.pinned (stat fr5) (T.obj _ _ st5);refine wpAny_passesOwn hp (thn (hg _ s5 σ3 H5 x u _ I5' r5 (step x H5 y5)) fun _ s6 ⟨σ6,H6,I6,q6⟩=>?_);refine wpAny_passesOwn hp (thn (hb _ s6 σ6 H6 _ I6 q6) fun f s7 q7=>?_);have again:∀{σ7:St} {H7:Hp},yd X (pins++iX fp s5.heap) σ7 H7 s7->N σ7 H7->∃m,m<n∧∃i σ' H',yd X pins σ' H' s7∧tn i s7.heap∧(∀b∈fp,H' b=none)∧W i m σ' H':=fun {σ7 H7} I7 n7=>by
   obtain⟨m',hm,w7⟩:=hN σ7 H7 n7;refine⟨m',hm,i+1,σ7,H7,I7.unpinned,T.keep _ _ _ st5 fun b hb o e=>(I7.pin (b,o) (List.mem_append_right _ (List.mem_append_right _ (da hb e)))).1,fun b hb=>?_,w7⟩;obtain⟨o,e,d⟩:=T.obj _ _ st5 b hb;exact(I7.pin (b,o) (List.mem_append_right _ (List.mem_append_right _ (da hb e)))).2.1
  cases f with
  | next=>obtain⟨σ7,H7,I7,n7⟩:=q7;exact again I7 n7
  | cont=>obtain⟨σ7,H7,I7,n7⟩:=q7;exact again I7 n7
  | brk=>obtain⟨σ7,H7,I7,q7⟩:=q7;exact⟨σ7,H7,I7.unpinned,q7⟩
  | ret v=>obtain⟨x7,σ7,H7,I7,r7,q7⟩:=q7;exact⟨x7,σ7,H7,I7.unpinned,r7,q7⟩
end
theorem cJ{K:W.Frag}{a:Addr}{xs:List V}{g:TG}{tb:TS}{D:Cz}{σ:St}{H:Hp}(Pv:Nat->St->Hp->Prop)(h0:Pv 0 σ H)(hl:∀i σ H,i≤xs.length->Pv i σ H->SqL K H a xs)
  (hs:∀i x σ H,xs[i]? = some x->Pv i σ H->g x σ H fun σ2 H2=>tb { D with nx:=Pv (i+1),ct:=Pv (i+1),bk:=D.nx } σ2 H2) (hd:∀σ H,Pv xs.length σ H->D.nx σ H) :
  ∃W:Nat->Nat->St->Hp->Prop,(∃m,W 0 m σ H)∧∀i m σ H,W i m σ H ->
   ((Itl K a).stop i H∧D.nx σ H)∨((Itl K a).go i H∧∃N:St->Hp->Prop,(∀σ' H',N σ' H'->∃m',m'<m∧W (i+1) m' σ' H')∧∀x H',(Itl K a).yld i H x H'->g x σ H' fun σ2 H2=>tb { D with nx:=N,ct:=N,bk:=D.nx } σ2 H2):=by
 refine⟨fun i m σ H=>m=xs.length - i∧i≤xs.length∧Pv i σ H,⟨xs.length,by simp,Nat.zero_le _,h0⟩,?_⟩;rintro i m σ H ⟨rfl,hi,p⟩;have q:=hl i σ H hi p
 by_cases hlt:i<xs.length
 ·refine .inr ⟨⟨xs,xs[i],q,by simp[hlt]⟩,Pv (i+1),fun σ' H' p'=>⟨xs.length - (i+1),by omega,rfl,hlt,p'⟩,fun x H' y=>?_⟩
  obtain⟨e,y⟩:=y;subst e;exact hs i x σ _ (y xs q) p
 ·have e:i=xs.length:=by omega
  subst e;exact .inl ⟨⟨xs,q,Nat.le_refl _⟩,hd σ H p⟩
theorem fk{lo:Int}{n:Nat}{g:TG}{tb:TS}{D:Cz}{σ:St}{H:Hp}(Pv:Nat->St->Hp->Prop)(h0:Pv 0 σ H)
  (hs:∀i σ H,i<n->Pv i σ H->g (.int (lo+i)) σ H fun σ2 H2=>tb { D with nx:=Pv (i+1),ct:=Pv (i+1),bk:=D.nx } σ2 H2) (hd:∀σ H,Pv n σ H->D.nx σ H) :
  ∃W:Nat->Nat->St->Hp->Prop,(∃m,W 0 m σ H)∧∀i m σ H,W i m σ H ->
   ((Itr lo n).stop i H∧D.nx σ H)∨((Itr lo n).go i H∧∃N:St->Hp->Prop,(∀σ' H',N σ' H'->∃m',m'<m∧W (i+1) m' σ' H')∧∀x H',(Itr lo n).yld i H x H'->g x σ H' fun σ2 H2=>tb { D with nx:=N,ct:=N,bk:=D.nx } σ2 H2):=by
 refine⟨fun i m σ H=>m=n - i∧i≤n∧Pv i σ H,⟨n,by simp,Nat.zero_le _,h0⟩,?_⟩;rintro i m σ H ⟨rfl,hi,p⟩
 by_cases hlt:i<n
 ·refine .inr ⟨hlt,Pv (i+1),fun σ' H' p'=>⟨n - (i+1),by omega,rfl,hlt,p'⟩,fun x H' y=>?_⟩
  obtain⟨e,y⟩:=y;subst e y;exact hs i σ _ hlt p
 ·have e:i=n:=by omega
  subst e;exact .inl ⟨Nat.le_refl _,hd σ H p⟩
theorem eE{c:TT}{tb:TS}{D:Cz}{σ:St}{H:Hp}(Pv:St->Hp->Prop)(μ:St->Hp->Nat)(h0:Pv σ H)
  (hs:∀σ H,Pv σ H->c σ H fun b H1=>if b=true then tb { D with nx:=fun σ' H'=>Pv σ' H'∧μ σ' H'<μ σ H,ct:=fun σ' H'=>Pv σ' H'∧μ σ' H'<μ σ H,bk:=D.nx } σ H1 else D.nx σ H1)
  (mono:∀σ H Q Q',(∀b H1,Q b H1->Q' b H1)->c σ H Q->c σ H Q'):qV c tb D σ H:=by
 refine⟨fun m σ H=>m=μ σ H∧Pv σ H,⟨_,rfl,h0⟩,?_⟩;rintro m σ H ⟨rfl,p⟩;refine mono σ H _ _ (fun b H1 q=>?_) (hs σ H p);cases b with
 | true=>exact⟨_,fun σ' H' ⟨p',l⟩=>⟨_,l,rfl,p'⟩,q⟩
 | false=>exact q
end L2
namespace L2
open PySem PySem.Spec PyProof.Rows
abbrev R2:=V->V->Hp->VK->Prop
def OpR(X:Cx)(f:Value->Value->Sem Value)(r:R2):Prop :=
 ∀(pins:List (Addr×Obj)) (s:Shared) (σ:St) (H:Hp) (x y:V) (v u:Value) (Q:VK),yd X pins σ H s->aT x v->aT y u->r x y H Q ->
  wpAny (model X.prog X.w) X.A (f v u) (EP X pins σ Q) X.xe s
def UnR(X:Cx)(f:Value->Sem Value)(r:V->Hp->VK->Prop):Prop :=
 ∀(pins:List (Addr×Obj)) (s:Shared) (σ:St) (H:Hp) (x:V) (v:Value) (Q:VK),yd X pins σ H s->aT x v->r x H Q ->
  wpAny (model X.prog X.w) X.A (f v) (EP X pins σ Q) X.xe s
def gG(X:Cx)(f:Value)(r:List V->Hp->VK->Prop):Prop :=
 ∀(pins:List (Addr×Obj)) (s:Shared) (σ:St) (H:Hp) (xs:List V) (us:List Value) (Q:VK),yd X pins σ H s->aR xs us->r xs H Q ->
  wpAny (model X.prog X.w) X.A (call f us) (EP X pins σ Q) X.xe s
def tOp(r:R2)(ta tb:TE):TE:=fun σ H Q=>ta σ H fun x H1=>tb σ H1 fun y H2=>r x y H2 Q
def tUn(r:V->Hp->VK->Prop)(ta:TE):TE:=fun σ H Q=>ta σ H fun x H1=>r x H1 Q
inductive rI (C:Int->Int->Prop) (g:Int->Int->V) (x y:V) (H:Hp) (Q:VK):Prop
 | mk (i j:Int) (e:x = .int i) (f:y = .int j) (c:C i j) (q:Q (g i j) H):rI C g x y H Q
inductive Et (g:Int->Int->V) (x y:V) (H:Hp) (Q:VK):Prop
 | mk (i j:Int) (e:x = .int i) (f:y = .int j) (q:Q (g i j) H):Et g x y H Q
def rU(g:Int->V):V->Hp->VK->Prop:=fun x H Q=>∃i,x = .int i∧Q (g i) H
section
variable {X:Cx} {a b c:Expr} {ta tb tc:TE} {pos:Pos}
theorem wF(ha:PE X a ta)(hb:PE X b tb){pins:List (Addr×Obj)}{s:Shared}{σ:St}{H:Hp}{R:V->V->Hp->Prop}(I:yd X pins σ H s)
  (h:ta σ H fun x H1=>tb σ H1 fun y H2=>R x y H2) {Q:Value->Shared->Prop} {f:Value->Value->Sem Value}
  (hf:∀v u s2 x y H2,yd X pins σ H2 s2->aT x v->aT y u->R x y H2->wpAny (model X.prog X.w) X.A (f v u) Q X.xe s2) :
  wpAny (model X.prog X.w) X.A (eval a X.env) (fun v s₁=>wpAny (model X.prog X.w) X.A (eval b X.env) (fun u s₂=>wpAny (model X.prog X.w) X.A (f v u) Q X.xe s₂) X.xe s₁) X.xe s:=by
 refine thn (ha pins s σ H _ I h) fun v s1 ⟨x,H1,I1,r1,q1⟩=>?_;refine thn (hb pins s1 σ H1 _ I1 q1) fun u s2 ⟨y,H2,I2,r2,q2⟩=>?_;exact hf v u s2 x y H2 I2 r1 r2 q2
theorem am{op:Operator}{r:R2}(ho:OpR X (binaryOp op) r)(ha:PE X a ta)(hb:PE X b tb):PE X (.BinOp a op b pos) (tOp r ta tb):=by
 intro pins s σ H Q I h;exact wpAny_BinOp (wF ha hb I h fun v u s2 x y H2 I2 rx ry q=>ho pins s2 σ H2 x y v u Q I2 rx ry q)
theorem iY{op:UnaryOp}{r:V->Hp->VK->Prop}(ho:UnR X (unaryOp op) r)(ha:PE X a ta):PE X (.UnaryOp op a pos) (tUn r ta):=by
 intro pins s σ H Q I h;exact UnaryOp_ (thn (ha pins s σ H _ I h) fun v s1 ⟨x,H1,I1,r1,q1⟩=>ho pins s1 σ H1 x v Q I1 r1 q1)
theorem opI{f:Value->Value->Sem Value}{C:Int->Int->Prop}{g:Int->Int->Int}
  (rule:∀(i j:Int) (t u:Tok) (s:Shared) (Q:Value->Shared->Prop) (E:Value->Shared->Prop),C i j->Q (.int (g i j) s.toks) { s with toks:=s.toks+1 }->wpAny (model X.prog X.w) X.A (f (.int i t) (.int j u)) Q E s) :
  OpR X f (rI C fun i j=>.int (g i j)):=by
 intro pins s σ H x y v u Q I rx ry h;obtain⟨i,j,rfl,rfl,hc,q⟩:=h;obtain⟨t,rfl⟩:=rx;obtain⟨t',rfl⟩:=ry;exact rule i j t t' s _ _ hc ⟨.int (g i j),H,I.tok _,⟨_,rfl⟩,q⟩
theorem xc{f:Value->Value->Sem Value}{g:Int->Int->Int}
  (rule:∀(i j:Int) (t u:Tok) (s:Shared) (Q:Value->Shared->Prop) (E:Value->Shared->Prop),Q (.int (g i j) s.toks) { s with toks:=s.toks+1 }->wpAny (model X.prog X.w) X.A (f (.int i t) (.int j u)) Q E s) :
  OpR X f (Et fun i j=>.int (g i j)):=by
 intro pins s σ H x y v u Q I rx ry h;obtain⟨i,j,rfl,rfl,q⟩:=h;obtain⟨t,rfl⟩:=rx;obtain⟨t',rfl⟩:=ry;exact rule i j t t' s _ _ ⟨.int (g i j),H,I.tok _,⟨_,rfl⟩,q⟩
theorem t5{f:Value->Value->Sem Value}{g:Int->Int->Bool}
  (rule:∀(i j:Int) (t u:Tok) (s:Shared) (Q:Value->Shared->Prop) (E:Value->Shared->Prop),Q (.bool (g i j)) s->wpAny (model X.prog X.w) X.A (f (.int i t) (.int j u)) Q E s) :
  OpR X f (Et fun i j=>.bl (g i j)):=by
 intro pins s σ H x y v u Q I rx ry h;obtain⟨i,j,rfl,rfl,q⟩:=h;obtain⟨t,rfl⟩:=rx;obtain⟨t',rfl⟩:=ry;exact rule i j t t' s _ _ ⟨.bl (g i j),H,I,rfl,q⟩
def yb(i j:Int):Prop:=0≤j∧j≤1000000∧i.natAbs<2^64
def uY(i j:Int):Prop:=(-(2^64)<i∧i<2^64)∨(-(2^64)<j∧j<2^64)
theorem uY.ok{i j:Int}(h:uY i j):IntMulOk i j:=by
 rcases h with⟨h1,h2⟩|⟨h1,h2⟩
 ·exact .of_left (intBits_le_64 h1 h2)
 ·exact .of_right (intBits_le_64 h1 h2)
theorem a8:OpR X (binaryOp .Add) (Et fun i j=>.int (i+j)):=xc fun _ _ _ _ _ _ _ q=>add_int q
theorem aS:OpR X (binaryOp .Sub) (Et fun i j=>.int (i - j)):=xc fun _ _ _ _ _ _ _ q=>sub_int q
theorem d5:OpR X (binaryOp .Mod) (rI (fun _ j=>0<j) fun i j=>.int (i % j)):=opI fun i j _ _ _ _ _ hc q=>by
 have h1:(0:Int)<j:=hc;exact mod_int' (by omega) (by rw[Int.fmod_eq_emod_of_nonneg i (by omega)];exact q)
theorem fS:OpR X (binaryOp .Pow) (rI yb fun i j=>.int (i^j.toNat)):=opI fun _ _ _ _ _ _ _ hc q=>pow_int_small hc.1 hc.2.1 hc.2.2 q
theorem unI{f:Value->Sem Value}{g:Int->Int}
  (rule:∀(i:Int) (t:Tok) (s:Shared) (Q:Value->Shared->Prop) (E:Value->Shared->Prop),Q (.int (g i) s.toks) { s with toks:=s.toks+1 }->wpAny (model X.prog X.w) X.A (f (.int i t)) Q E s) :
  UnR X f (rU fun i=>.int (g i)):=by
 intro pins s σ H x v Q I rx h;obtain⟨i,rfl,q⟩:=h;obtain⟨t,rfl⟩:=rx;exact rule i t s _ _ ⟨.int (g i),H,I.tok _,⟨_,rfl⟩,q⟩
theorem fO:UnR X (unaryOp .USub) (rU fun i=>.int (-i)):=unI fun _ _ _ _ _ q=>neg_int q
end
def wY:V->V->Bool
 | .non,.non=>true | .non,.int _=>true | .int _,.non=>true | .non,.bl _=>true | .bl _,.non=>true | .non,.str _=>true | .str _,.non=>true
 | .int _,.int _=>true | .bl _,.bl _=>true | .str _,.str _=>true | .byt _,.byt _=>true
 | .int _,.str _=>true | .str _,.int _=>true | .bl _,.str _=>true | .str _,.bl _=>true
 | _,_=>false
inductive E8 (x y:V) (H:Hp) (Q:VK):Prop
 | mk (s:wY x y=true) (q:Q (.bl (decide (x=y))) H):E8 x y H Q
inductive Fd (x y:V) (H:Hp) (Q:VK):Prop
 | mk (s:wY x y=true) (q:Q (.bl (!decide (x=y))) H):Fd x y H Q
theorem pH{i j:Int}:decide (V.int i=V.int j)=(i == j):=by
 rw[Bool.eq_iff_iff];simp
theorem sV{i j:Bool}:decide (V.bl i=V.bl j)=(i == j):=by
 rw[Bool.eq_iff_iff];simp
theorem pG{i j:Str}:decide (V.str i=V.str j)=(i == j):=by
 rw[Bool.eq_iff_iff];simp
theorem pI{i j:Array UInt8}:decide (V.byt i=V.byt j)=(i.toList == j.toList):=by
 rw[Bool.eq_iff_iff];cases i;cases j;simp
section
variable {X:Cx} {a b c:Expr} {ta tb tc:TE} {pos:Pos}
theorem aY{pins:List (Addr×Obj)}{σ:St}{H:Hp}{s:Shared}{Q:VK}{k k':Bool}(I:yd X pins σ H s)(q:Q (.bl k) H)(e:k=k'):EP X pins σ Q (.bool k') s:=by
 subst e;exact⟨.bl k,H,I,rfl,q⟩
theorem bG:OpR X (compareOp .Eq) E8:=by
 intro pins s σ H x y v u Q I rx ry h;obtain⟨hs,q⟩:=h;cases x with
 | non =>
  cases rx;cases y with
  | non=>cases ry;exact PySem.EqNone.eq_none_none (aY I q (by simp))
  | bl j=>cases ry;exact PySem.EqNone.eq_none_bool (aY I q (by simp))
  | int j=>obtain⟨t',rfl⟩:=ry;exact PySem.EqNone.eq_none_int (aY I q (by simp))
  | str j=>obtain⟨t',rfl⟩:=ry;exact PySem.EqNone.eq_none_str (aY I q (by simp))
  | _=>exact absurd (show false=true from hs) Bool.false_ne_true
 | bl i =>
  cases rx;cases y with
  | non=>cases ry;exact PySem.EqNone.eq_bool_none (aY I q (by simp))
  | bl j=>cases ry;exact eq_bool (aY I q sV)
  | str j=>obtain⟨t',rfl⟩:=ry;exact PySem.EqMixed.eq_bool_str (aY I q (by simp))
  | _=>exact absurd (show false=true from hs) Bool.false_ne_true
 | int i =>
  obtain⟨t,rfl⟩:=rx;cases y with
  | non=>cases ry;exact PySem.EqNone.eq_int_none (aY I q (by simp))
  | int j=>obtain⟨t',rfl⟩:=ry;exact eq_int (aY I q pH)
  | str j=>obtain⟨t',rfl⟩:=ry;exact PySem.EqMixed.eq_int_str (aY I q (by simp))
  | _=>exact absurd (show false=true from hs) Bool.false_ne_true
 | str i =>
  obtain⟨t,rfl⟩:=rx;cases y with
  | non=>cases ry;exact PySem.EqNone.eq_str_none (aY I q (by simp))
  | bl j=>cases ry;exact PySem.EqMixed.eq_str_bool (aY I q (by simp))
  | int j=>obtain⟨t',rfl⟩:=ry;exact PySem.EqMixed.eq_str_int (aY I q (by simp))
  | str j=>obtain⟨t',rfl⟩:=ry;exact eq_str (aY I q pG)
  | _=>exact absurd (show false=true from hs) Bool.false_ne_true
 | byt i =>
  obtain⟨t,rfl⟩:=rx;cases y with
  | byt j=>obtain⟨t',rfl⟩:=ry;exact W.eq_bytes (aY I q pI)
  | _=>exact absurd (show false=true from hs) Bool.false_ne_true
 | _=>cases y <;> exact absurd (show false=true from hs) Bool.false_ne_true
theorem dn:OpR X (compareOp .NotEq) Fd:=by
 intro pins s σ H x y v u Q I rx ry h;obtain⟨hs,q⟩:=h;cases x with
 | non =>
  cases rx;cases y with
  | non=>cases ry;exact PySem.EqNone.ne_none_none (aY I q (by simp))
  | bl j=>cases ry;exact PySem.EqNone.ne_none_bool (aY I q (by simp))
  | int j=>obtain⟨t',rfl⟩:=ry;exact PySem.EqNone.ne_none_int (aY I q (by simp))
  | str j=>obtain⟨t',rfl⟩:=ry;exact PySem.EqNone.ne_none_str (aY I q (by simp))
  | _=>exact absurd (show false=true from hs) Bool.false_ne_true
 | bl i =>
  cases rx;cases y with
  | non=>cases ry;exact PySem.EqNone.ne_bool_none (aY I q (by simp))
  | bl j=>cases ry;exact ne_bool (aY I q (congrArg not sV))
  | str j=>obtain⟨t',rfl⟩:=ry;exact PySem.EqMixed.ne_bool_str (aY I q (by simp))
  | _=>exact absurd (show false=true from hs) Bool.false_ne_true
 | int i =>
  obtain⟨t,rfl⟩:=rx;cases y with
  | non=>cases ry;exact PySem.EqNone.ne_int_none (aY I q (by simp))
  | int j=>obtain⟨t',rfl⟩:=ry;exact ne_int (aY I q (congrArg not pH))
  | str j=>obtain⟨t',rfl⟩:=ry;exact PySem.EqMixed.ne_int_str (aY I q (by simp))
  | _=>exact absurd (show false=true from hs) Bool.false_ne_true
 | str i =>
  obtain⟨t,rfl⟩:=rx;cases y with
  | non=>cases ry;exact PySem.EqNone.ne_str_none (aY I q (by simp))
  | bl j=>cases ry;exact PySem.EqMixed.ne_str_bool (aY I q (by simp))
  | int j=>obtain⟨t',rfl⟩:=ry;exact PySem.EqMixed.ne_str_int (aY I q (by simp))
  | str j=>obtain⟨t',rfl⟩:=ry;exact ne_str (aY I q (congrArg not pG))
  | _=>exact absurd (show false=true from hs) Bool.false_ne_true
 | byt i =>
  obtain⟨t,rfl⟩:=rx;cases y with
  | byt j=>obtain⟨t',rfl⟩:=ry;exact W.ne_bytes (aY I q (congrArg not pI))
  | _=>exact absurd (show false=true from hs) Bool.false_ne_true
 | _=>cases y <;> exact absurd (show false=true from hs) Bool.false_ne_true
theorem dq:OpR X (compareOp .Lt) (Et fun i j=>.bl (decide (i<j))):=t5 fun _ _ _ _ _ _ _ q=>lt_int q
theorem eR:OpR X (compareOp .LtE) (Et fun i j=>.bl (decide (i≤j))):=t5 fun _ _ _ _ _ _ _ q=>le_int q
theorem rL:OpR X (compareOp .Gt) (Et fun i j=>.bl (decide (j<i))):=t5 fun _ _ _ _ _ _ _ q=>gt_int q
theorem lY:OpR X (compareOp .GtE) (Et fun i j=>.bl (decide (j≤i))):=t5 fun _ _ _ _ _ _ _ q=>ge_int q
theorem kM:OpR X (compareOp .Is) (fun x y H Q=>y = .non∧Q (.bl (decide (x = .non))) H):=by
 intro pins s σ H x y v u Q I rx ry h;obtain⟨rfl,q⟩:=h;cases ry;refine is_none_gen (aY I q ?_);cases x <;> first
  | (cases rx;rfl)
  | (obtain⟨t,rfl⟩:=rx;rfl)
theorem kJ:OpR X (compareOp .IsNot) (fun x y H Q=>y = .non∧Q (.bl (!decide (x = .non))) H):=by
 intro pins s σ H x y v u Q I rx ry h;obtain⟨rfl,q⟩:=h;cases ry;refine isnot_none_gen (aY I q ?_);cases x <;> first
  | (cases rx;rfl)
  | (obtain⟨t,rfl⟩:=rx;rfl)
theorem ar(b:Expr){op:CmpOp}(h:op≠.In:=by decide)(h2:op≠.NotIn:=by decide):behindInMarks op b=false:=by
 have e1:(op == CmpOp.In)=false:=by cases op <;> first|rfl|exact absurd rfl h
 have e2:(op == CmpOp.NotIn)=false:=by cases op <;> first|rfl|exact absurd rfl h2
 cases b <;> simp[behindInMarks,e1,e2]
theorem bq{op:CmpOp}{r:R2}(ho:OpR X (compareOp op) r)(ha:PE X a ta)(hb:PE X b tb)(hm:behindInMarks op b=false):PE X (.Compare a [op] [b] pos) (tOp r ta tb):=by
 intro pins s σ H Q I h;exact wpAny_Compare1 (wF ha hb I h fun v u s2 x y H2 I2 rx ry q=>ho pins s2 σ H2 x y v u Q I2 rx ry q) hm
inductive Fe (x:V) (H:Hp) (Q:Bool->Hp->Prop):Prop
 | mk (k:Bool) (e:x = .bl k) (q:Q k H):Fe x H Q
def wO(t:TE):TT:=fun σ H Q=>t σ H fun x H'=>Fe x H' Q
theorem aq{op:CmpOp}{r:R2}(ho:OpR X (compareOp op) r)(ha:PE X a ta)(hb:PE X b tb)(hm:behindInMarks op b=false):PT X (.Compare a [op] [b] pos) (wO (tOp r ta tb)):=by
 intro pins s σ H Q I h;refine wpAny_isTrue_Compare1 (thn (ha pins s σ H _ I h) fun v s1 ⟨x,H1,I1,r1,q1⟩=>thn (hb pins s1 σ H1 _ I1 q1) fun u s2 ⟨y,H2,I2,r2,q2⟩ =>
  thn (ho pins s2 σ H2 x y v u _ I2 r1 r2 q2) fun c s3 ⟨z,H3,I3,r3,k,e,q3⟩=>?_) hm
 subst e;cases r3;exact wpAny_truthy_bool ⟨H3,I3,q3⟩
def vD(r r':R2)(ta tb tc:TE):TE:=fun σ H Q=>ta σ H fun x H1=>tb σ H1 fun y H2=>r x y H2 fun z H3=>∃k,z = .bl k ∧
 (if k=true then tc σ H3 fun w' H4=>r' y w' H4 Q else Q (.bl false) H3)
theorem rJ{op op':CmpOp}{r r':R2}(ho:OpR X (compareOp op) r)(ho':OpR X (compareOp op') r')(ha:PE X a ta)(hb:PE X b tb)(hc:PE X c tc)
  (hm:lastMarks [op,op'] [b,c]=false:=by with_unfolding_all rfl):PE X (.Compare a [op,op'] [b,c] pos) (vD r r' ta tb tc):=by
 intro pins s σ H Q I h;refine Compare_chain (thn (ha pins s σ H _ I h) fun v s1 ⟨x,H1,I1,r1,q1⟩=>chain_link (thn (hb pins s1 σ H1 _ I1 q1) fun u s2 ⟨y,H2,I2,r2,q2⟩ =>
  thn (ho pins s2 σ H2 x y v u _ I2 r1 r2 q2) fun d s3 ⟨z,H3,I3,r3,k,e,q3⟩=>?_)) hm
 subst e;cases r3;refine wpAny_truthy_bool ?_;cases k with
 | false=>exact ite_ff ⟨.bl false,H3,I3,rfl,q3⟩
 | true=>exact ite_tt (chain_last (thn (hc pins s3 σ H3 _ I3 q3) fun w' s4 ⟨z',H4,I4,r4,q4⟩=>ho' pins s4 σ H4 y z' u w' Q I4 r2 r4 q4))
theorem kN:(sizeLine:Nat)<2^63:=by rw[sizeLine_eq];decide
theorem gb{x:V}{us:List Value}(r:aR [x] us):∃u,us = [u]∧aT x u:=by
 cases r with
 | cons r1 r2=>cases r2;exact⟨_,rfl,r1⟩
theorem lE{x y:V}{us:List Value}(r:aR [x,y] us):∃u w',us = [u,w']∧aT x u∧aT y w':=by
 cases r with
 | cons r1 r2 =>
  cases r2 with
  | cons r3 r4=>cases r4;exact⟨_,_,rfl,r1,r3⟩
theorem eX:gG X (.builtin "abs") (fun xs H Q=>∃i,xs = [.int i]∧Q (.int (if i<0 then -i else i)) H):=by
 intro pins s σ H xs us Q I r h;obtain⟨i,rfl,q⟩:=h;obtain⟨u,rfl,t,rfl⟩:=gb r;exact call_abs_int fun u tk=>⟨.int (if i<0 then -i else i),H,I.tok _,⟨_,rfl⟩,q⟩
theorem qM(hc:X.calm=true):gG X (.builtin "max") (fun xs H Q=>∃i j,xs = [.int i,.int j]∧Q (.int (if j>i then j else i)) H):=by
 intro pins s σ H xs us Q I r h;obtain⟨i,j,rfl,q⟩:=h;obtain⟨u,w',rfl,⟨t,rfl⟩,⟨t',rfl⟩⟩:=lE r;refine max_two_ints (I.ok.hd hc) fun h' tk k=>⟨_,H,I.kept k,?_,q⟩
 by_cases hj:j>i
 ·rw[if_pos hj,if_pos hj];exact⟨_,rfl⟩
 ·rw[if_neg hj,if_neg hj];exact⟨_,rfl⟩
theorem gZ(hc:X.calm=true):gG X (.builtin "min") (fun xs H Q=>∃i j,xs = [.int i,.int j]∧Q (.int (if j<i then j else i)) H):=by
 intro pins s σ H xs us Q I r h;obtain⟨i,j,rfl,q⟩:=h;obtain⟨u,w',rfl,⟨t,rfl⟩,⟨t',rfl⟩⟩:=lE r;refine min_two_ints (I.ok.hd hc) fun h' tk k=>⟨_,H,I.kept k,?_,q⟩
 by_cases hj:j<i
 ·rw[if_pos hj,if_pos hj];exact⟨_,rfl⟩
 ·rw[if_neg hj,if_neg hj];exact⟨_,rfl⟩
end
end L2
namespace L2
open PySem PySem.Spec PyProof.Rows
structure EY(h:Heap)(x dx C:Addr)(mA:Str->Option Value):Prop where
 obj:h.get? x=some (W.instObj C dx)
 ns:h.Ns1 dx mA
 ne:dx≠x
theorem qk{h:Heap}{dx:Addr}{mA:Str->Option Value}(n:h.Ns1 dx mA):∃od,h.get? dx=some od∧∀name,W.lookIn name od=some (mA name):=by
 obtain⟨o,es,ep,ho,hd,hk,_,hm⟩:=n;refine⟨o,ho,fun name=>?_⟩;have e:=hm name;unfold nsFind findBy at e;rw[<- Array.find?_toList]at e;unfold W.lookIn;rw[hd];dsimp only
 split
 ·rename_i y q
  rw[q]at e;exact congrArg some e
 ·rename_i q
  rw[q]at e;have a:es.toList.any (·.refKey)=false:=by
   rw[List.any_eq_false];intro y hy;obtain⟨z,t,hkey⟩:=hk y (Array.mem_toList_iff.mp hy);simp[DictEntry.refKey,hkey]
  have a':¬es.toList.any (·.refKey)=true:=by rw[a];exact Bool.false_ne_true
  rw[if_neg a'];exact congrArg some e
theorem EY.look{h:Heap}{x dx C:Addr}{mA:Str->Option Value}(I:EY h x dx C mA):∃od,W.InstAt h x (W.instObj C dx) C (some od)∧∀name,W.lookIn name od=some (mA name) :=
 let ⟨od,ho,hl⟩:=qk I.ns
 ⟨od,⟨I.obj,rfl,rfl,ho⟩,hl⟩
section
variable {prog:Program} {w:World} {A:Around} {E:Value->Shared->Prop} {s:Shared} {K:W.Frag} {x dx C f:Addr} {mA:Str->Option Value} {name:Str} {v:Value}
end
theorem jB.some_of{v:V}{o:Option Value}(r:jB (some v) o):∃u,o=some u∧aT v u:=by
 cases o with
 | none=>exact(show False from r).elim
 | some u=>exact⟨u,rfl,r⟩
section
variable {P:Program} {w:World} {H H':Hp} {h h':Heap} {a C dx:Addr} {fs fs':List (Str×V)}
theorem ur(hok:HOk P w H h)(e:H a=some (.ins C dx fs)):∃mA,EY h a dx C mA∧(∀f,jB (fs.lookup f) (mA f))∧PySem.Within mA (fs.map (·.1))∧fs.length≤1000∧H dx=some (.own a):=by
 obtain⟨d,z,ne,ob,mA,n,r,q⟩:=(show bH P w H h a (.ins C dx fs) from hok a _ e);exact⟨mA,⟨ob,n,ne⟩,r,q,z,d⟩
end
structure Fc(K:W.Frag)(C:Addr):Prop where
 pg:W.plainGet K C Str.empty=true
 hd:W.hasDictIn K C=true
 po:W.plainOver K C=true
 sa:W.findIn K (.ref C) "__setattr__" = some (some (.builtin "object.__setattr__"))
theorem Fc.get{K:W.Frag}{C:Addr}(c:Fc K C)(f:Str):W.plainGet K C f=true:=c.pg
section
variable {X:Cx} {pins:List (Addr×Obj)} {σ:St} {H:Hp} {s:Shared} {a C dx:Addr} {fs:List (Str×V)} {f:Str} {v:V} {A:Around} {E:Value->Shared->Prop}
end
section
variable {X:Cx} {o e value:Expr} {f:Str} {pos pos' tpos:Pos} {ta tv:TE}
end
section
variable {X:Cx} {pins:List (Addr×Obj)} {σ:St} {H:Hp} {s:Shared} {A:Around} {E:Value->Shared->Prop} {Q:Value->Shared->Prop} {c:Value} {b:Bool}
inductive BH (K:W.Frag) (H:Hp):V->Value->Prop where
 | non:BH K H .non (.type "NoneType")
 | bl (x:Bool):BH K H (.bl x) (.type "bool")
 | int (i:Int):BH K H (.int i) (.type "int")
 | str (x:Str):BH K H (.str x) (.type "str")
 | flt (x:UInt64):BH K H (.flt x) (.type "float")
 | lst {a:Addr} {xs:List V} (e:H a=some (.lst xs)):BH K H (.ref a) (.type "list")
 | frz {a:Addr} {o:Obj} {xs:List V} (e:H a=some (.frz o (.lst xs))):BH K H (.ref a) (.type "list")
 | tup {a:Addr} {xs:List V} (e:H a=some (.tup xs)):BH K H (.ref a) (.type "tuple")
 | dK {a:Addr} {kvs:List (Key×V)} (e:H a=some (.dK kvs)):BH K H (.ref a) (.type "dict")
 | dT {a:Addr} {kvs:List (List Key×V)} (e:H a=some (.dT kvs)):BH K H (.ref a) (.type "dict")
 | ins {a C dx:Addr} {fs:List (Str×V)} (e:H a=some (.ins C dx fs)) (cl:Fc K C) (ha:W.findIn K (.ref C) "__class__" = some (some (.builtin "object.__class__")))
   (hn:W.specialIn K (.builtin "object.__class__") "__get__" = some (some (.builtin "getset_descriptor.__get__"))) (htk:W.takesIn K (.builtin "object.__class__")=some true)
   (hm:W.mroIn K C (.type "object")=some true):BH K H (.ref a) (.ref C)
theorem qq{x:V}{u t:Value}(I:yd X pins σ H s)(rx:aT x u)(ty:BH X.K H x t)(e:W.kitOne X.K t c=some b)(h:∀tk,Q (.bool b) { s with toks:=tk }) :
  wpAny (model X.prog X.w) A (call (.builtin "isinstance") [u,c]) Q E s:=by
 cases ty with
 | non=>cases (show u=Value.none from rx);exact W.kia_one W.kitx_none I.kIn True.intro e (fun z=>nomatch z) h
 | bl y=>cases (show u=Value.bool y from rx);exact W.kia_one W.kitx_bool I.kIn True.intro e (fun z=>nomatch z) h
 | int i=>obtain⟨t,q⟩:=(show ∃t,u=Value.int i t from rx);cases q;exact W.kia_one W.kitx_int I.kIn True.intro e (fun z=>nomatch z) h
 | str y=>obtain⟨t,q⟩:=(show ∃t,u=Value.str y t from rx);cases q;exact W.kia_one W.kitx_str I.kIn True.intro e (fun z=>nomatch z) h
 | flt y=>obtain⟨t,q⟩:=(show ∃t,u=Value.float y t from rx);cases q;exact W.kia_one W.kitx_float I.kIn True.intro e (fun z=>nomatch z) h
 | @lst a xs ea =>
  cases (show u=Value.ref a from rx);obtain⟨_,_,n,_,h1⟩:=(show bH X.prog X.w H s.heap a (.lst xs) from I.hok a _ ea);exact W.kia_one W.kitx_list I.kIn ⟨_,h1,rfl⟩ e (fun z=>nomatch z) h
 | @frz a ob xs ea =>
  cases (show u=Value.ref a from rx);obtain⟨_,_,_,n,_,h1⟩:=(show bH X.prog X.w H s.heap a (.frz ob (.lst xs)) from I.hok a _ ea);exact W.kia_one W.kitx_list I.kIn ⟨_,h1,rfl⟩ e (fun z=>nomatch z) h
 | @tup a xs ea =>
  cases (show u=Value.ref a from rx);obtain⟨_,_,_,p⟩:=(show bH X.prog X.w H s.heap a (.tup xs) from I.hok a _ ea);obtain⟨o,h1,h2,_⟩:=p;exact W.kia_one W.kitx_tuple I.kIn ⟨o,h1,h2⟩ e (fun z=>nomatch z) h
 | @dK a kvs ea =>
  cases (show u=Value.ref a from rx);obtain⟨_,_,vs,_,p⟩:=(show bH X.prog X.w H s.heap a (.dK kvs) from I.hok a _ ea);obtain⟨o,es,ep,h1,h2,_⟩:=p;exact W.kia_one W.kitx_dict I.kIn ⟨o,h1,h2.1⟩ e (fun z=>nomatch z) h
 | @dT a kvs ea =>
  cases (show u=Value.ref a from rx);obtain⟨_,_,xs,_,o,es,ep,h1,h2,_⟩:=(show bH X.prog X.w H s.heap a (.dT kvs) from I.hok a _ ea);exact W.kia_one W.kitx_dict I.kIn ⟨o,h1,h2.1⟩ e (fun z=>nomatch z) h
 | @ins a C dx fs ea cl ha hn htk hm =>
  cases (show u=Value.ref a from rx);obtain⟨mA,O,_⟩:=ur I.hok ea;obtain⟨od,J,_⟩:=O.look;exact W.kia_one (W.kitx_own (cl.get _) cl.hd ha hn htk hm) I.kIn J e (fun z=>nomatch z) h
end
end L2
namespace L2
open PySem PySem.Spec PyProof.Rows
structure yP(k:Nat)(A:Around):Prop where
 hd:A.handled=none
 dp:A.depth+3*k+5<recursionLimit
 un:A.units+16*k+200<cLine
 gd:A.guards=some []
theorem yP.mono{j k:Nat}{A:Around}(r:yP k A)(h:j≤k):yP j A:=⟨r.hd,by have:=r.dp;omega,by have:=r.un;omega,r.gd⟩
theorem yP.deeper{k:Nat}{A:Around}(r:yP (k+1) A)(env:Env):yP k (A.deeper env) :=
 ⟨r.hd,by have:=r.dp;show A.depth+1+3*k+5<_;omega,by have:=r.un;show A.units+3+16*k+200<_;omega,r.gd⟩
theorem yP.depth{k:Nat}{A:Around}(r:yP k A):A.depth<recursionLimit:=by have:=r.dp;omega
theorem yP.units{k:Nat}{A:Around}(r:yP k A):A.units+64<cLine:=by have:=r.un;omega
theorem yP.units0{k:Nat}{A:Around}(r:yP k A):A.units<cLine:=by have:=r.un;omega
def vA:TA:=fun _ H Q=>Q [] H
def oP(ta:TE)(tr:TA):TA:=fun σ H Q=>ta σ H fun x H1=>tr σ H1 fun xs H2=>Q (x::xs) H2
section
variable {X:Cx} {e:Expr} {es:List Expr} {te:TE} {t:TA} {pos:Pos}
theorem ad:PA X [] vA:=fun _ _ _ _ H Q I h=>Calls.spliced_nil ⟨[],H,I,.nil,h⟩
theorem aa(ha:PE X e te)(hr:PA X es t)(hs:starEach (e::es) X.env=(false,eval e X.env)::starEach es X.env:=by rfl):PA X (e::es) (oP te t):=by
 intro pos pins s σ H Q I h;rw[hs];show wpAny _ _ (spliced ((false,eval e X.env)::backTo pos (starEach es X.env))) _ _ s;refine Calls.spliced_cons (thn (ha pins s σ H _ I h) fun u s1 ⟨x,H1,I1,r1,q1⟩=>?_);exact thn (hr pos pins s1 σ H1 _ I1 q1) fun us s2 ⟨xs,H2,I2,r2,q2⟩=>⟨x::xs,H2,I2,.cons r1 r2,q2⟩
def xF(t:TA):TE:=fun σ H Q=>t σ H fun xs H1=>xs.length≤sizeLine∧∀p,H1 p=none->Q (.ref p) (upd H1 p (.tup xs))
theorem oa{x1}(h:PA X es t):PE X (.Tuple es x1 pos) (xF t):=by
 intro pins s σ H Q I hq;refine wpAny_Tuple_spliced (thn (h pos pins s σ H _ I hq) fun us s1 ⟨xs,H1,I1,r,z,q⟩=>⟨by rw[<- r.length];exact z,?_⟩);have hf:H1 s1.heap.objs.size=none:=I1.hok.fresh (Nat.le_refl _);refine⟨.ref s1.heap.objs.size,upd H1 s1.heap.objs.size (.tup xs),I1.laid (t':=s1.toks) (fun b u e=>Heap.get?_push_of_some _ e) (Nat.le_refl _) ?_,rfl,q _ hf⟩;exact⟨z,us,r,⟨_,Heap.get?_push_size _ rfl,rfl,_,rfl⟩⟩
end
abbrev Sp:=List V->Hp->VK->XK->Prop
abbrev CXT:=List Env->Hp->Shared->XK->Value->Shared->Prop
structure DX(P:Program)(w:World)(K:W.Frag)(mg:Str->Option Value)(base:Heap)(A:Around)(outer:List Env)(s:Shared)(H:Hp):Prop where
 frames:A.frames=some outer
 mod:Mod K mg base
 bs:∀b o,base.get? b=some o->s.heap.get? b=some o∧H b=none
 bsz:base.objs.size≤s.heap.objs.size
 funs:s.heap.FunFrames base outer
 frf:∀b∈frs outer,H b=none
 hok:HOk P w H s.heap
 bare:AllBare s.gens
def CE(outer:List Env)(P:Program)(w:World)(H:Hp)(s:Shared)(Q:VK)(u:Value)(s':Shared):Prop :=
 ∃v H',s'.os=s.os∧AllBare s'.gens∧Un (frs outer) [] H H' s.heap s'.heap∧HOk P w H' s'.heap∧aT v u∧Q v H'
def CR(CX:CXT)(outer:List Env)(P:Program)(w:World)(H:Hp)(s:Shared)(Q:VK)(E:XK)(r:Result)(s':Shared):Prop :=
 match r with
 | .ok (.ret u)=>CE outer P w H s Q u s'
 | .ok _=>False
 | .error e=>CX outer H s E e s'
structure An(P:Program)(w:World)(K:W.Frag)(mg:Str->Option Value)(base:Heap)(CX:CXT)(k:Nat)(f:Addr)(fd:FuncData)(ps:List Str)(sp:Sp):Prop where
 len:∀vs H Q E,sp vs H Q E->vs.length=ps.length
 run:∀(A:Around) (outer:List Env) (s:Shared) (H:Hp) (args:Args) (us:List Value) (vs:List V) (Q:VK) (E:XK),yP k A->DX P w K mg base A outer s H->BindsTo s fd args (ps.zip us)->aR vs us->sp vs H Q E ->
  codeAny (model P w) A (.call (.ref f) args) (CR CX outer P w H s Q E) s
theorem An.mono{P:Program}{w:World}{K:W.Frag}{mg:Str->Option Value}{base:Heap}{CX:CXT}{j k:Nat}{f:Addr}{fd:FuncData}{ps:List Str}{sp:Sp}(F:An P w K mg base CX j f fd ps sp)(h:j≤k) :
  An P w K mg base CX k f fd ps sp:=⟨F.len,fun A outer s H args us vs Q E hr=>F.run A outer s H args us vs Q E (hr.mono h)⟩
theorem An.imp{P:Program}{w:World}{K:W.Frag}{mg:Str->Option Value}{base:Heap}{CX:CXT}{k:Nat}{f:Addr}{fd:FuncData}{ps:List Str}{sp sp':Sp}(F:An P w K mg base CX k f fd ps sp)
  (h:∀vs H Q E,sp' vs H Q E->sp vs H Q E):An P w K mg base CX k f fd ps sp' :=
 ⟨fun vs H Q E q=>F.len vs H Q E (h _ _ _ _ q),fun A outer s H args us vs Q E hr he hb hv hs=>F.run A outer s H args us vs Q E hr he hb hv (h _ _ _ _ hs)⟩
section
variable {X:Cx} {pins:List (Addr×Obj)} {σ:St} {H:Hp} {s s':Shared}
theorem yd.env0(I:yd X pins σ H s):DX X.prog X.w X.K X.mg X.base X.A X.stack s H :=
 ⟨I.ok.frames,I.ok.mod,I.bs,Nat.le_trans I.ok.bsz I.sz,I.stack,I.stkFree,I.hok,I.bare⟩
theorem yd.after{Q:VK}{u:Value}(I:yd X pins σ H s)(h:CE X.stack X.prog X.w H s Q u s'):EP X pins σ Q u s':=by
 obtain⟨v,H',os,bare,un,hok,r,q⟩:=h;obtain⟨hh,g,d,t,os'⟩:=s';obtain rfl:os'=s.os:=os;exact⟨v,H',I.call (h':=hh) (g':=g) (d':=d) (t':=t) (ch:=[]) un hok bare (fun b z=>absurd z (by simp)),r,q⟩
end
def lK(sp:Sp)(dvs:List V)(E:XK)(t:TA):TE:=fun σ H Q=>t σ H fun vs H1=>sp (vs++dvs) H1 Q E
def gH(K:W.Frag)(fd:FuncData)(ps:List Str)(ds:List Value):Prop :=
 ∀(s:Shared) (us:List Value),K.In s.heap->(us++ds).length=ps.length->BindsTo s fd ⟨us,[]⟩ (ps.zip (us++ds))
theorem gH.all{K:W.Frag}{fd:FuncData}{ps:List Str}(h:∀us:List Value,us.length=ps.length->bindArgs fd ⟨us,[]⟩=pure (ps.zip us)):gH K fd ps []:=fun s us _ hl=>by
 rw[List.append_nil]at hl ⊢;exact .of_eq (h us hl)
def jC(CX:CXT)(X:Cx)(E:XK):Prop:=∀(pins:List (Addr×Obj)) (σ:St) (H:Hp) (s:Shared) (e:Value) (s':Shared),yd X pins σ H s->CX X.stack H s E e s'->X.xe e s'
section
variable {X:Cx} {CX:CXT} {k:Nat} {f C:Addr} {fd:FuncData} {ps:List Str} {sp:Sp} {dvs:List V} {ds:List Value} {E:XK} {x m:Str} {p pos apos:Pos} {e o:Expr} {es:List Expr} {ta:TE} {t:TA}
theorem rj{pins:List (Addr×Obj)}{σ:St}{H:Hp}{s:Shared}{Q:VK}{us:List Value}{vs:List V}(F:An X.prog X.w X.K X.mg X.base CX k f fd ps sp)(hr:yP k X.A)(hb:gH X.K fd ps ds)(hd:aR dvs ds)(hx:jC CX X E)
  (I:yd X pins σ H s) (r:aR vs us) (h:sp (vs++dvs) H Q E):wpAny (model X.prog X.w) X.A (call (.ref f) us) (EP X pins σ Q) X.xe s:=by
 have r2:aR (vs++dvs) (us++ds):=r.append hd;have hl:(us++ds).length=ps.length:=by rw[<- r2.length];exact F.len _ _ _ _ h
 refine wpAny_call (codeAny_mono (F.run X.A X.stack s H ⟨us,[]⟩ (us++ds) (vs++dvs) Q E hr I.env0 (hb s us I.kIn hl) r2 h) fun r s' hq=>?_);cases r with
 | error e=>exact hx pins σ H s e s' I hq
 | ok fl =>
  cases fl with
  | ret u=>exact I.after hq
  | next=>exact False.elim hq
  | brk=>exact False.elim hq
  | cont=>exact False.elim hq
theorem kI(F:An X.prog X.w X.K X.mg X.base CX k f fd ps sp)(hr:yP k X.A)(hg:Gl X x)(hm:X.mg x=some (.ref f))(hk:W.keepIn X.K (.ref f)=true)(hb:gH X.K fd ps ds)(hd:aR dvs ds)(hx:jC CX X E)
  (ha:PA X (e::es) t) (hdb:(x == ("__debug__" : Str))=false:=by decide) (he:starEach (e::es) X.env=(false,eval e X.env)::starEach es X.env:=by rfl) (hpl:(backTo pos (starEach es X.env)).any (·.1)=false:=by rfl) :
  PE X (.Call (.Name x p) (e::es) [] pos) (lK sp dvs E t):=by
 intro pins s σ H Q I h;refine wpAny_Call_Name_kw (iC I hg hm ?_ hdb);refine W.callWith_K (h₀:=X.base) I.ok.mod.kin hk (thn (ha pos pins s σ H _ I h) fun us s1 ⟨vs,H1,I1,r,q⟩=>⟨I1.kIn,?_⟩) he hpl;exact rj F hr hb hd hx I1 r q
end
section
variable {X:Cx} {CX:CXT} {k:Nat} {f C:Addr} {fd:FuncData} {ps ks:List Str} {sp:Sp} {E:XK} {x m:Str} {p pos apos kpos:Pos} {e o:Expr} {es:List Expr} {kws:List Keyword} {te ta:TE} {t tk:TA} {nm:Option Str}
variable {g:List Value->List Value->List Value} {gV:List V->List V->List V}
end
structure yc(N P:List Str)(sc:Scope):Prop where
 kind:sc.kind = .function
 co:sc.isCoroutine=false
 gen:sc.isGenerator=false
 nd:N.Nodup
 pre:N.take P.length=P
 par:∀x∈P,sc.names.lookup x=some .local∨sc.names.lookup x=some .cell
 nofree:∀y∈sc.names,y.2≠.free
theorem ki{kindOf:Str->Option NameKind}{x:Str}:∀{binds:List (Str×Value)} {m:Str->Option Value},(∀v,(x,v)∉binds)->bindL kindOf binds m x=m x
 | [],_,_=>rfl
 | (n,v)::r,m,h=>by
  unfold bindL;rw[ki fun w hw=>h w (List.mem_cons_of_mem _ hw)]
  split
  ·have:x≠n:=by rintro rfl;exact h v List.mem_cons_self
   simp[this]
  ·rfl
theorem km{kindOf:Str->Option NameKind}{x:Str}:∀{binds:List (Str×Value)} {m:Str->Option Value},(∀v,(x,v)∉binds)->bindC kindOf binds m x=m x
 | [],_,_=>rfl
 | (n,v)::r,m,h=>by
  unfold bindC;rw[km fun w hw=>h w (List.mem_cons_of_mem _ hw)]
  split
  ·rfl
  ·have:x≠n:=by rintro rfl;exact h v List.mem_cons_self
   simp[this]
theorem kj{kindOf:Str->Option NameKind}{x:Str}{v:Value}:∀{P:List Str} {vs:List Value} {i:Nat} {m:Str->Option Value},P.Nodup->P[i]? = some x->vs[i]? = some v->kindOf x=some .local ->
  bindL kindOf (P.zip vs) m x=some v
 | [],_,_,_,_,h,_,_=>by simp at h
 | _::_,[],_,_,_,_,h,_=>by simp at h
 | p::P,w::vs,0,m,nd,h1,h2,hk=>by
  simp at h1 h2;subst h1;subst h2;show bindL kindOf ((p,w)::P.zip vs) m p=_;unfold bindL;rw[ki fun v hv=>(List.nodup_cons.mp nd).1 (List.of_mem_zip hv).1,if_pos hk];simp
 | p::P,w::vs,i+1,m,nd,h1,h2,hk=>by
  show bindL kindOf ((p,w)::P.zip vs) m x=_;unfold bindL;exact kj (i:=i) (List.nodup_cons.mp nd).2 (by simpa using h1) (by simpa using h2) hk
theorem ko{kindOf:Str->Option NameKind}{x:Str}{v:Value}:∀{P:List Str} {vs:List Value} {i:Nat} {m:Str->Option Value},P.Nodup->P[i]? = some x->vs[i]? = some v->kindOf x≠some .local ->
  bindC kindOf (P.zip vs) m x=some v
 | [],_,_,_,_,h,_,_=>by simp at h
 | _::_,[],_,_,_,_,h,_=>by simp at h
 | p::P,w::vs,0,m,nd,h1,h2,hk=>by
  simp at h1 h2;subst h1;subst h2;show bindC kindOf ((p,w)::P.zip vs) m p=_;unfold bindC;rw[km fun v hv=>(List.nodup_cons.mp nd).1 (List.of_mem_zip hv).1,if_neg hk];simp
 | p::P,w::vs,i+1,m,nd,h1,h2,hk=>by
  show bindC kindOf ((p,w)::P.zip vs) m x=_;unfold bindC;exact ko (i:=i) (List.nodup_cons.mp nd).2 (by simpa using h1) (by simpa using h2) hk
def d9(N:List Str)(vs:List V):St:=vs.map some++List.replicate (N.length - vs.length) none
def aZ(CX:CXT)(P:Program)(w:World)(K:W.Frag)(mg:Str->Option Value)(base:Heap)(N:List Str)(qual:Str)(scope:Scope)(f:Addr)(cd:Value)(A:Around)(outer:List Env)(s:Shared)(H:Hp)(E:XK):Cx where
 prog:=P
 w:=w
 K:=K
 mg:=mg
 base:=base
 A:=A.deeper (envOfC qual scope s.heap.objs.size f cd)
 N:=N
 s₀:=s
 H₀:=H
 env:=envOfC qual scope s.heap.objs.size f cd
 outer:=outer
 stack:=envOfC qual scope s.heap.objs.size f cd::outer
 ex:=[]
 calm:=true
 fn:=fun _=>true
 pn:=[]
 xe:=fun e s'=>wpAny (model P w) (A.deeper (envOfC qual scope s.heap.objs.size f cd)) (leaving (envOfC qual scope s.heap.objs.size f cd) e) (fun _ s''=>CX outer H s E e s'') (fun e' s''=>CX outer H s E e' s'') s'
theorem nE{sc:Scope}{n:Nat}{x:Str}(h:sc.names.lookup x=some .cell):∃c,(cellsFrom n sc.names []).lookup x=some c:=by
 have q:=W.cellsFrom_some sc.names n [] (.inl h);exact Option.isSome_iff_exists.mp q
theorem qr{CX:CXT}{P:Program}{w:World}{K:W.Frag}{mg:Str->Option Value}{base:Heap}{N ps:List Str}{qual:Str}{scope:Scope}{f:Addr}{cd:Value}{A:Around}{outer:List Env}{s s1:Shared}{H:Hp}{E:XK}{us:List Value}{vs:List V}
  (S:yc N ps scope) (hd:A.handled=none) (e0:DX P w K mg base A outer s H) (hl:vs.length=ps.length) (r:aR vs us)
  (x:InCallC s s.heap.objs.size (bindL (envOfC qual scope s.heap.objs.size f cd).kindOf (ps.zip us) fun _=>none) (cellsFrom (s.heap.objs.size+1) scope.names []) (bindC (envOfC qual scope s.heap.objs.size f cd).kindOf (ps.zip us) fun _=>none) s1) :
  yd (aZ CX P w K mg base N qual scope f cd A outer s H E) [] (d9 N vs) H s1:=by
 have hpl:ps.length≤N.length:=by have:=congrArg List.length S.pre;rw[List.length_take]at this;omega
 obtain⟨h1,tk,rfl,hk⟩:=x.done;have noA:∀b:Addr,b∉(aZ CX P w K mg base N qual scope f cd A outer s H E).ex:=fun b z=>absurd (show b∈([]:List Addr) from z) (by simp);refine⟨⟨e0.mod,S.kind,rfl,rfl,Nat.le_refl _,fun y z c h1 h2=>?_,fun y hy=>?_,fun y c _ h=>?_,fun _=>hd,Around.frames_deeper e0.frames,.inr ⟨rfl,rfl⟩,fun b z=>absurd z (noA b),e0.bs,e0.bsz,fun b _ _=>noA b,fun b z=>absurd z (noA b),e0.funs,e0.frf⟩,
  rfl,e0.bare,Un.kept hk,⟨_,x.toInCall.ns,fun i y v h1 h2 h3=>?_⟩,fun y c h=>⟨_,x.cell y c h⟩,e0.hok.fresh (Nat.le_refl _),fun y c h=>?_,fun p hp=>absurd (show p∈([]:List (Addr×Obj)) from hp) (by simp),e0.hok.kept hk,?_⟩
 ·exact name_of_addr x.apart (PySem.mem_of_lookup h1) (PySem.mem_of_lookup h2)
 ·have hy:scope.names.lookup y=some .cell∨scope.names.lookup y=some .free:=hy
  rcases hy with hy|hy
  ·exact nE hy
  ·exact absurd rfl (S.nofree _ (PySem.mem_of_lookup hy))
 ·exact Nat.le_of_lt (x.above y c (PySem.mem_of_lookup h))
 ·have hi:i<vs.length:=by
   unfold d9 at h2
   by_cases hi:i<vs.length
   ·exact hi
   ·rw[List.getElem?_append_right (by simpa using hi)]at h2
    rw[List.getElem?_replicate]at h2
    split at h2 <;> cases h2
  have ha:vs[i]? = some v:=by
   unfold d9 at h2;rw[List.getElem?_append_left (by simpa using hi),List.getElem?_map]at h2;cases e:vs[i]? with
   | none=>rw[e]at h2;cases h2
   | some a=>rw[e]at h2;cases h2;rfl
  obtain⟨u,hu,rv⟩:=r.get ha;have hp:ps[i]? = some y:=by
   rw[<- S.pre,List.getElem?_take_of_lt (by omega)];exact h1
  have ndP:ps.Nodup:=by rw[<- S.pre];exact S.nd.sublist (List.take_sublist _ _)
  refine⟨u,rv,?_⟩;rcases S.par y (List.mem_of_getElem? hp) with k|k
  ·exact .inl ⟨k,kj ndP hp hu k⟩
  ·obtain⟨c,e⟩:=nE (n:=s.heap.objs.size+1) k
   refine .inr ⟨.inl k,c,e,?_⟩;have q:=x.cell y c e;rw[ko ndP hp hu (by show scope.names.lookup y≠_;rw[k];decide)]at q;exact q
 ·exact e0.hok.fresh (Nat.le_of_lt (x.above y c (PySem.mem_of_lookup h)))
 ·unfold d9
  show _=N.length;rw[List.length_append,List.length_map,List.length_replicate];omega
theorem mE{CX:CXT}{P:Program}{w:World}{K:W.Frag}{mg:Str->Option Value}{base:Heap}{k:Nat}{f:Addr}{name qual:Str}{params:Arguments}{body:List Stmt}{scope:Scope}{dV kV doc pm cdv ct oc:Value}{an od:Option Addr}
  {osl:Array (Option Value)} {N ps:List Str} {sp:Sp} (lk:K.lookup f=some ⟨oc,od,.func (W.fnOf name qual params body scope dV kV doc pm an cdv ct),osl⟩) (hcd:W.codeIn K cdv qual=true) (S:yc N ps scope)
  (len:∀vs H Q E,sp vs H Q E->vs.length=ps.length)
  (hbody:∀(A:Around) (outer:List Env) (s:Shared) (H:Hp) (vs:List V) (Q:VK) (E:XK),yP k (A.deeper (envOfC qual scope s.heap.objs.size f cdv))->sp vs H Q E ->
   ∃t,PSs (aZ CX P w K mg base N qual scope f cdv A outer s H E) body t∧t { nx:=fun _ H'=>Q .non H',rt:=Q } (d9 N vs) H) :
  An P w K mg base CX (k+1) f (W.fnOf name qual params body scope dV kV doc pm an cdv ct) ps sp:=by
 refine⟨len,fun A outer s H args us vs Q E hr e0 hb r hsp=>?_⟩;have hl:=len _ _ _ _ hsp;have KX:K.In s.heap:=e0.mod.kin.keeps fun b o e=>(e0.bs b o e).1;have lim:s.heap.NoLimit:=e0.mod.nolimit.keeps fun b o e=>(e0.bs b o e).1;have hkind:∀y∈ps.zip us,scope.names.lookup y.1=some .local∨(scope.names.lookup y.1=some .cell∧((cellsFrom (s.heap.objs.size+1) scope.names []).lookup y.1).isSome=true):=fun ⟨n,v⟩ hy=>by
  rcases S.par n (List.of_mem_zip hy).1 with q|q
  ·exact .inl q
  ·exact .inr ⟨q,W.cellsFrom_some _ _ _ (.inl q)⟩
 refine codeAny_call_function hr.depth (KX _ _ lk) rfl S.co S.gen rfl (W.codeRec_of KX hcd) (hb _ _ _ _ ?_);refine wpAny_newFunctionEnv_cells S.kind hkind fun env he s1 x=>?_;subst he;refine⟨lim.keeps x.toInCall.keep,codeAny_func ?_⟩;obtain⟨t,ht,hq⟩:=hbody A outer s H vs Q E (hr.deeper _) hsp;have I:yd (aZ CX P w K mg base N qual scope f cdv A outer s H E) [] (d9 N vs) H s1:=qr S hr.hd e0 hl r x;refine wpAny_mono (ht [] s1 (d9 N vs) H _ I hq) (fun fl s' hs=>?_) fun e s' hs=>hs;have fin:∀{σ':St} {H':Hp} {v:V} {u:Value},yd (aZ CX P w K mg base N qual scope f cdv A outer s H E) [] σ' H' s'->aT v u->Q v H'->CE outer P w H s Q u s' :=
  fun {σ' H' v u} J rv q=>⟨v,H',J.os,J.bare,J.base,J.hok,rv,q⟩
 cases fl with
 | ret u =>
  obtain⟨v,σ',H',J,rv,q⟩:=hs;exact fin J rv q
 | next =>
  obtain⟨σ',H',J,q⟩:=hs;exact fin (v:=V.non) (u:=Value.none) J rfl q
 | brk =>
  obtain⟨_,_,_,q⟩:=hs;exact False.elim q
 | cont =>
  obtain⟨_,_,_,q⟩:=hs;exact False.elim q
end L2
namespace L2
open PySem PySem.Spec PyProof.Rows
section
variable {X:Cx} {x:Str} {p pos:Pos} {e:Expr} {es:List Expr} {t:TA} {id T:String} {r:List V->Hp->VK->Prop}
def tCB(r:List V->Hp->VK->Prop)(t:TA):TE:=fun σ H Q=>t σ H fun vs H1=>r vs H1 Q
theorem aJ(hc:gG X (.builtin id) r)(hg:Gl X x)(hm:X.mg x=none)(hv:bootBuiltins x=some (.builtin id))(ha:PA X (e::es) t)(hn:x≠"__name__":=by decide)(hdb:(x == ("__debug__" : Str))=false:=by decide)
  (he:starEach (e::es) X.env=(false,eval e X.env)::starEach es X.env:=by rfl) (hpl:(backTo pos (starEach es X.env)).any (·.1)=false:=by rfl):PE X (.Call (.Name x p) (e::es) [] pos) (tCB r t):=by
 intro pins s σ H Q I h;refine wpAny_Call_Name_kw (eT I hg hm hv ?_ hn hdb);exact PyProof.Rows.callWith_builtin1 (thn (ha pos pins s σ H _ I h) fun us s1 ⟨vs,H1,I1,r1,q1⟩=>hc pins s1 σ H1 vs us Q I1 r1 q1) he hpl
theorem dM(hc:gG X (.type T) r)(hg:Gl X x)(hm:X.mg x=none)(hv:bootBuiltins x=some (.type T))(ha:PA X (e::es) t)(hn:x≠"__name__":=by decide)(hdb:(x == ("__debug__" : Str))=false:=by decide)
  (he:starEach (e::es) X.env=(false,eval e X.env)::starEach es X.env:=by rfl) (hpl:(backTo pos (starEach es X.env)).any (·.1)=false:=by rfl):PE X (.Call (.Name x p) (e::es) [] pos) (tCB r t):=by
 intro pins s σ H Q I h;refine wpAny_Call_Name_kw (eT I hg hm hv ?_ hn hdb);exact PyProof.Rows.callWith_type1 (thn (ha pos pins s σ H _ I h) fun us s1 ⟨vs,H1,I1,r1,q1⟩=>hc pins s1 σ H1 vs us Q I1 r1 q1) he hpl
end
end L2
namespace HT
open PySem PyProof.Rows
section
open PySem.SeqAt
open PySem.AutoSeq1 (wpAny_loadPart')
open PySem.MeetsSeq PySem.MeetsSeq2 PySem.MeetsSeq3
end
section
variable {prog:Program} {w:World} {A:Around} {E:Value->Shared->Prop} {s:Shared}
def sIx(n d:Nat):Option Int->Nat
 | none=>d
 | some v=>if v<0 then (v+(n:Int)).toNat else min v.toNat n
theorem sIx_none(n d:Nat):sIx n d none=d:=rfl
theorem sIx_nat(n d k:Nat):sIx n d (some (k:Int))=min k n:=by
 show(if (k:Int)<0 then ((k:Int)+(n:Int)).toNat else min (k:Int).toNat n)=min k n
 rw[if_neg (by omega),Int.toNat_natCast]
end
end HT
namespace L2
open PySem PySem.Spec PyProof.Rows
abbrev TO:=St->Hp->(Option Int->Hp->Prop)->Prop
def PO(X:Cx)(e:Option Expr)(t:TO):Prop :=
 ∀(pins:List (Addr×Obj)) (s:Shared) (σ:St) (H:Hp) (Q:Option Int->Hp->Prop),yd X pins σ H s->t σ H Q ->
  wpAny (model X.prog X.w) X.A (evalPart e X.env) (fun u s'=>∃o H',yd X pins σ H' s'∧IsPart u o∧Q o H') X.xe s
def tF:TO:=fun _ H Q=>Q none H
def wQ(t:TE):TO:=fun σ H Q=>t σ H fun x H1=>∃i,x = .int i∧Q (some i) H1
section
variable {X:Cx} {e:Expr} {te:TE} {lo hi:Option Expr} {tl th:TO} {pos p2:Pos}
theorem kF:PO X none tF:=by
 intro pins s σ H Q I h;rw[evalPart_none];exact wpAny_pure ⟨none,H,I,.none,h⟩
theorem iA(h:PE X e te):PO X (some e) (wQ te):=by
 intro pins s σ H Q I hw;rw[evalPart_some];refine thn (h pins s σ H _ I hw) fun u s1 ⟨x,H1,I1,r1,q1⟩=>?_;obtain⟨i,rfl,q⟩:=q1;obtain⟨t,rfl⟩:=r1;exact⟨some i,H1,I1,.int i t,q⟩
def SlR(X:Cx)(r:V->Option Int->Option Int->Hp->VK->Prop):Prop :=
 ∀(pins:List (Addr×Obj)) (s:Shared) (σ:St) (H:Hp) (x:V) (v vl vu:Value) (lo hi:Option Int) (sl:Addr) (Q:VK),yd X pins σ H s->aT x v->s.heap.IsSliceOf sl vl vu .none->IsPart vl lo->IsPart vu hi->r x lo hi H Q ->
  ∃T id,typeLookup (.type T) "__getitem__" = pure (some (.builtin id))∧s.TypeIs v T∧wpAny (model X.prog X.w) X.A (getItem v (.ref sl)) (EP X pins σ Q) X.xe s
def tSl(r:V->Option Int->Option Int->Hp->VK->Prop)(te:TE)(tl th:TO):TE:=fun σ H Q=>te σ H fun x H1=>tl σ H1 fun l H2=>th σ H2 fun u H3=>r x l u H3 Q
theorem iZ{r:V->Option Int->Option Int->Hp->VK->Prop}(hr:SlR X r)(he:PE X e te)(hl:PO X lo tl)(hu:PO X hi th):PE X (.Subscript e (.Slice lo hi none p2) pos) (tSl r te tl th):=by
 intro pins s σ H Q I h;refine Subscript_ (thn (he pins s σ H _ I h) fun v s1 ⟨x,H1,I1,r1,q1⟩=>?_);refine wpAny_Slice (thn (hl pins s1 σ H1 _ I1 q1) fun vl s2 ⟨l,H2,I2,pl,q2⟩=>thn (hu pins s2 σ H2 _ I2 q2) fun vu s3 ⟨u,H3,I3,pu,q3⟩=>?_);rw[evalPart_none];refine wpAny_pure ?_;have I4:yd X pins σ H3 { s3 with heap:=s3.heap.push { cls:=.type "slice",data:=.fields #[vl,vu,.none] } }:=I3.kept (t':=s3.toks) fun b ob q=>Heap.get?_push_of_some _ q;obtain⟨T,id,hT,ht,hg⟩:=hr pins { s3 with heap:=s3.heap.push { cls:=.type "slice",data:=.fields #[vl,vu,.none] } } σ H3 x v vl vu l u s3.heap.objs.size Q I4 r1 (Heap.IsSliceOf.new ..) pl pu q3;show wpAny (model X.prog X.w) X.A (subscriptTail e (.Slice lo hi none p2) v (.ref s3.heap.objs.size)) (EP X pins σ Q) X.xe { s3 with heap:=s3.heap.push { cls:=.type "slice",data:=.fields #[vl,vu,.none] } };exact tail_any (ops:=[.ref s3.heap.objs.size,v]) ht hT hg (by with_unfolding_all rfl)
def js(xs:List V)(lo hi:Option Int):List V:=(xs.drop (HT.sIx xs.length 0 lo)).take (HT.sIx xs.length xs.length hi - HT.sIx xs.length 0 lo)
theorem nj(xs:List V)(lo hi:Option Int):(js xs lo hi).length≤xs.length:=by
 unfold js;rw[List.length_take,List.length_drop];omega
end
end L2
namespace L2
open PySem PySem.Spec PyProof.Rows
def ixN(n:Nat)(i:Int):Option Nat:=if 0≤i then (if i<n then some i.toNat else none) else if -(n:Int)≤i then some (i+n).toNat else none
def atI{α:Type}(xs:List α)(i:Int):Option α:=(ixN xs.length i).bind fun j=>xs[j]?
theorem pe{n:Nat}{i:Int}{j:Nat}(h:ixN n i=some j):seqIndex? i n=some j∧j<n∧-(n:Int)≤i∧i<n:=by
 unfold ixN at h
 by_cases h0:0≤i
 ·rw[if_pos h0]at h
  by_cases h1:i<n
  ·rw[if_pos h1]at h
   have e:i.toNat=j:=Option.some.inj h;exact⟨by rw[seqIndex_of h0 h1,e],by omega,by omega,h1⟩
  ·rw[if_neg h1]at h;cases h
 ·rw[if_neg h0]at h
  by_cases h1:-(n:Int)≤i
  ·rw[if_pos h1]at h
   have e:(i+n).toNat=j:=Option.some.inj h;exact⟨by rw[seqIndex_neg (by omega) h1,e],by omega,h1,by omega⟩
  ·rw[if_neg h1]at h;cases h
theorem pN{α:Type}{xs:List α}{i:Int}{v:α}(h:atI xs i=some v):∃j,seqIndex? i xs.length=some j∧xs[j]? = some v∧j<xs.length∧-(xs.length:Int)≤i∧i<xs.length:=by
 unfold atI at h;cases e:ixN xs.length i with
 | none=>rw[e]at h;cases h
 | some j =>
  rw[e]at h;obtain⟨h1,h2,h3,h4⟩:=pe e;exact⟨j,h1,h,h2,h3,h4⟩
theorem dh{α:Type}{xs:List α}{j:Nat}{v:α}(h:xs[j]? = some v):atI xs (j:Int)=some v:=by
 have hj:j<xs.length:=(List.getElem?_eq_some_iff.mp h).1;have e:ixN xs.length (j:Int)=some j:=by
  unfold ixN;rw[if_pos (by omega),if_pos (by omega)];simp
 unfold atI;rw[e];exact h
theorem tm{α:Type}(xs:List α)(v:α):atI (xs++[v]) (-1)=some v:=by
 have hl:(xs++[v]).length=xs.length+1:=by simp
 have e:ixN (xs++[v]).length (-1)=some xs.length:=by
  unfold ixN;rw[hl,if_neg (by decide),if_pos (by omega)]
  congr 1
  omega
 unfold atI;rw[e];show(xs++[v])[xs.length]? = some v;simp
def uV(b:Expr):Prop:=∀o i,subscripted b false o i=operate [o,i] (getItem o i)
def IxR(X:Cx)(r:R2):Prop :=
 ∀(value slice:Expr) (pins:List (Addr×Obj)) (s:Shared) (σ:St) (H:Hp) (x y:V) (v u:Value) (Q:VK),yd X pins σ H s->aT x v->aT y u->r x y H Q ->
  subscripted slice false v u=operate [v,u] (getItem v u)->wpAny (model X.prog X.w) X.A (subscriptTail value slice v u) (EP X pins σ Q) X.xe s
def MtR(X:Cx)(id:String)(r:V->List V->Hp->VK->Prop):Prop :=
 ∀(pins:List (Addr×Obj)) (s:Shared) (σ:St) (H:Hp) (x:V) (xs:List V) (v:Value) (us:List Value) (Q:VK),yd X pins σ H s->aT x v->aR xs us->r x xs H Q ->
  wpAny (model X.prog X.w) X.A (call (.builtin id) (v::us)) (EP X pins σ Q) X.xe s
section
variable {X:Cx} {a b:Expr} {ta tb:TE} {pos:Pos}
theorem aj{r:R2}(hr:IxR X r)(ha:PE X a ta)(hb:PE X b tb)(hs:uV b):PE X (.Subscript a b pos) (tOp r ta tb):=by
 intro pins s σ H Q I h;exact Subscript_ (wF ha hb I h fun v u s2 x y H2 I2 rx ry q=>hr a b pins s2 σ H2 x y v u Q I2 rx ry q (hs _ _))
inductive Ej (K:W.Frag) (x y:V) (H:Hp) (Q:VK):Prop
 | mk (p:Addr) (xs:List V) (i:Int) (v:V) (e:x = .ref p) (f:y = .int i) (s:SqL K H p xs) (a:atI xs i=some v) (q:Q v H):Ej K x y H Q
inductive Es (K:W.Frag) (x y:V) (H:Hp) (Q:VK):Prop
 | mk (p:Addr) (xs:List V) (i:Int) (v:V) (e:x = .ref p) (f:y = .int i) (s:SqT K H p xs) (a:atI xs i=some v) (q:Q v H):Es K x y H Q
theorem aQ:IxR X (Ej X.K):=by
 intro value slice pins s σ H x y v u Q I rx ry h hs;obtain⟨p,xs,i,z,rfl,rfl,hq,he,q⟩:=h;cases rx;obtain⟨t,rfl⟩:=ry;obtain⟨its,r,pl,hz⟩:=I.list hq;obtain⟨j,h1,h2,h3,h4,h5⟩:=pN he;obtain⟨w,ew,rw'⟩:=r.get h2;have hl:=r.length;have hn:=kN;have fin:EP X pins σ Q w s:=⟨z,H,I,rw',q⟩
 by_cases h0:0≤i
 ·have hj:i.toNat=j:=by
   rw[seqIndex_of h0 h5]at h1;exact Option.some.inj h1
  exact item_listR pl.isList h0 (by omega) (by rw[hj];simpa using ew) fin hs
 ·have hj:(i+(its.toArray.size:Int)).toNat=j:=by
   rw[seqIndex_neg (by omega) h4]at h1;rw[List.size_toArray,<- hl];exact Option.some.inj h1
  exact subscriptTail_builtinR (x:=w) pl.isList.typeIs slot_list_getitem.lookup
   (wpAny_getItem_list_neg (Q:=fun r s'=>r=w∧EP X pins σ Q r s') pl.isList (by omega) (by rw[List.size_toArray] <;> omega) (by omega) (by rw[hj];simpa using ew) ⟨rfl,fin⟩) hs
theorem ah:IxR X (Es X.K):=by
 intro value slice pins s σ H x y v u Q I rx ry h hs;obtain⟨p,xs,i,z,rfl,rfl,hq,he,q⟩:=h;cases rx;obtain⟨t,rfl⟩:=ry;obtain⟨its,r,pl,hz⟩:=I.tuple hq;obtain⟨j,h1,h2,h3,h4,h5⟩:=pN he;obtain⟨w,ew,rw'⟩:=r.get h2;have hl:=r.length;have hn:=kN;have fin:EP X pins σ Q w s:=⟨z,H,I,rw',q⟩;exact subscriptTail_builtinR (x:=w) pl.typeIs slot_tuple_getitem.lookup
  (getItem_tuple (j:=j) (Q:=fun r s'=>r=w∧EP X pins σ Q r s') pl (by omega) (by omega) (by rw[List.size_toArray,<- hl];exact h1) (by simpa using ew) ⟨rfl,fin⟩) hs
theorem om(its:List Value)(n j:Nat)(u:Value):Obj.mapSeq (·.setIfInBounds j u) { cls:=.type "list",data:=.seq its.toArray n }={ cls:=.type "list",data:=.seq (its.set j u).toArray n }:=by
 simp[Obj.mapSeq]
theorem yd.lst{pins:List (Addr×Obj)}{σ:St}{H:Hp}{s:Shared}{p:Addr}{xs:List V}(I:yd X pins σ H s)(h:H p=some (.lst xs)) :
  ∃(its:List Value) (n:Nat),aR xs its∧s.heap.get? p=some { cls:=.type "list",data:=.seq its.toArray n }∧xs.length≤sizeLine:=by
 obtain⟨z,its,n,r,e⟩:=I.hok p _ h;exact⟨its,n,r,e,z⟩
theorem yd.lstUpd{pins:List (Addr×Obj)}{σ:St}{H:Hp}{s:Shared}{p:Addr}{xs ys:List V}{its its':List Value}{n n':Nat}{f:Obj->Obj}(I:yd X pins σ H s)(h:H p=some (.lst xs))
  (ho:s.heap.get? p=some { cls:=.type "list",data:=.seq its.toArray n }) (hf:f { cls:=.type "list",data:=.seq its.toArray n }={ cls:=.type "list",data:=.seq its'.toArray n' }) (r:aR ys its') (hz:ys.length≤sizeLine) (t:Nat) :
  yd X pins σ (upd H p (.lst ys)) { s with heap:=s.heap.update p f,toks:=t }:=by
 have e:(s.heap.update p f).get? p=some { cls:=.type "list",data:=.seq its'.toArray n' }:=by
  rw[Heap.get?_update_self f ho (by rw[hf] <;> rfl),hf]
 refine I.write (x:=p) (e:=p) (by rw[h];trivial) (.inl rfl) (fun b u hb q=>(Heap.get?_update_other _ _ (Ne.symm hb)).trans q) ⟨_,e⟩ ?_;exact⟨hz,its',n',r,e⟩
def w9:V->V->V->Hp->(Hp->Prop)->Prop:=fun o i v H Q=>∃p xs k j,o = .ref p∧i = .int k∧H p=some (.lst xs)∧ixN xs.length k=some j∧Q (upd H p (.lst (xs.set j v)))
theorem rf:wJ X w9:=by
 intro pins s σ H o i v ov iv u Q I ro ri rv h;obtain⟨p,xs,k,j,rfl,rfl,hp,hj,q⟩:=h;cases ro;obtain⟨t,rfl⟩:=ri;obtain⟨its,n,r,ho,hz⟩:=I.lst hp;obtain⟨h1,h2,h3,h4⟩:=pe hj;have hl:=r.length;have hn:=kN;have I':yd X pins σ (upd H p (.lst (xs.set j v))) { s with heap:=s.heap.update p (Obj.mapSeq (·.setIfInBounds j u)) } :=
  I.lstUpd hp ho (om its n j u) (r.set rv j) (by rw[List.length_set];exact hz) s.toks
 by_cases h0:0≤k
 ·have hk:k.toNat=j:=by
   rw[seqIndex_of h0 h4]at h1;exact Option.some.inj h1
  exact W.ki_setAt ho h0 (by omega) (by rw[List.size_toArray,<- hl];exact h4) (by rw[hk];exact⟨_,I',q⟩)
 ·have hk:(k+(its.toArray.size:Int)).toNat=j:=by
   rw[seqIndex_neg (by omega) h3]at h1;rw[List.size_toArray,<- hl];exact Option.some.inj h1
  exact W.ki_setBack ho (by omega) (by rw[List.size_toArray,<- hl];exact h3) (by omega) (by rw[hk];exact⟨_,I',q⟩)
theorem kB(lo hi:Option Int)(n:Nat):(sliceBounds lo hi none n).1=((HT.sIx n 0 lo:Nat):Int)∧(sliceBounds lo hi none n).2.1=((HT.sIx n n hi:Nat):Int)∧(sliceBounds lo hi none n).2.2=1:=by
 refine⟨?_,?_,rfl⟩
 ·cases lo with
  | none=>simp[sliceBounds,HT.sIx]
  | some i =>
   simp only[sliceBounds,HT.sIx,Option.getD_none,show(1:Int)>0 by decide,if_true]
   by_cases h:i<0
   ·simp only[h,if_true] <;> omega
   ·simp only[h,if_false] <;> omega
 ·cases hi with
  | none=>simp[sliceBounds,HT.sIx]
  | some i =>
   simp only[sliceBounds,HT.sIx,Option.getD_none,show(1:Int)>0 by decide,if_true]
   by_cases h:i<0
   ·simp only[h,if_true] <;> omega
   ·simp only[h,if_false] <;> omega
theorem jF(its:List Value)(lo hi:Option Int):slicePick its.toArray lo hi none=((its.drop (HT.sIx its.length 0 lo)).take (HT.sIx its.length its.length hi - HT.sIx its.length 0 lo)).toArray:=by
 obtain⟨h1,h2,h3⟩:=kB lo hi its.toArray.size;unfold slicePick;rw[h1,h2,h3];simp only[sliceRange_one,pick_run,List.size_toArray] <;> rfl
def xU(K:W.Frag):V->Option Int->Option Int->Hp->VK->Prop:=fun x lo hi H Q=>∃a xs,x = .ref a∧SqL K H a xs∧∀p,H p=none->Q (.ref p) (upd H p (.lst (js xs lo hi)))
theorem tK:SlR X (xU X.K):=by
 intro pins s σ H x v vl vu lo hi sl Q I rx hs pl pu h;obtain⟨a,xs,rfl,hx,q⟩:=h;cases rx;obtain⟨its,r,ht,hz⟩:=I.list hx;have hlen:=r.length;refine⟨"list",_,slot_list_getitem.lookup,ht.isList.typeIs,?_⟩;refine wpAny_getItem_list_slice ht.isList hs pl pu .none (by simp) ?_ (by rw[List.size_toArray] <;> omega);rw[jF,<- hlen];refine⟨.ref s.heap.objs.size,_,I.laid (t':=s.toks) (o:=.lst (js xs lo hi)) (fun b ob q=>Heap.get?_push_of_some _ q) (Nat.le_refl _) ?_,rfl,q _ (I.hok.fresh (Nat.le_refl _))⟩;exact⟨Nat.le_trans (nj xs lo hi) hz,_,0,(r.drop (HT.sIx xs.length 0 lo)).take (HT.sIx xs.length xs.length hi - HT.sIx xs.length 0 lo),Heap.get?_push_size _ rfl⟩
def hZ:V->Bool
 | .non=>true
 | .bl _=>true
 | .int _=>true
 | .str _=>true
 | _=>false
def eqV:V->V->Bool
 | .non,.non=>true
 | .bl a,.bl b=>a == b
 | .bl a,.int b=>(if a then 1 else 0) == b
 | .int a,.bl b=>a == (if b then 1 else 0)
 | .int a,.int b=>a == b
 | .str a,.str b=>a == b
 | _,_=>false
theorem sT{A:Around}{s:Shared}{y x:V}{u v:Value}(ry:aT y u)(rx:aT x v)(fy:hZ y=true)(fx:hZ x=true):SeqAt.EqAt A s u v (eqV y x):=by
 cases y with
 | non =>
  cases ry;cases x with
  | non=>cases rx;exact SeqAt.EqAt.same _
  | bl b=>cases rx;exact SeqAt.EqAt.none_bool b
  | int b=>obtain⟨t,rfl⟩:=rx;exact SeqAt.EqAt.none_int b t
  | str b=>obtain⟨t,rfl⟩:=rx;exact SeqAt.EqAt.none_str b t
  | _=>exact absurd (show false=true from fx) Bool.false_ne_true
 | bl a =>
  cases ry;cases x with
  | non=>cases rx;exact SeqAt.EqAt.bool_none a
  | bl b=>cases rx;exact SeqAt.EqAt.bool_bool a b
  | int b=>obtain⟨t,rfl⟩:=rx;exact SeqAt.EqAt.bool_int a b t
  | str b=>obtain⟨t,rfl⟩:=rx;exact SeqAt.EqAt.bool_str a b t
  | _=>exact absurd (show false=true from fx) Bool.false_ne_true
 | int a =>
  obtain⟨t',rfl⟩:=ry;cases x with
  | non=>cases rx;exact SeqAt.EqAt.int_none a t'
  | bl b=>cases rx;exact SeqAt.EqAt.int_bool a t' b
  | int b=>obtain⟨t,rfl⟩:=rx;exact SeqAt.EqAt.int_int a t' b t
  | str b=>obtain⟨t,rfl⟩:=rx;exact SeqAt.EqAt.int_str a t' b t
  | _=>exact absurd (show false=true from fx) Bool.false_ne_true
 | str a =>
  obtain⟨t',rfl⟩:=ry;cases x with
  | non=>cases rx;exact SeqAt.EqAt.str_none a t'
  | bl b=>cases rx;exact SeqAt.EqAt.str_bool a t' b
  | int b=>obtain⟨t,rfl⟩:=rx;exact SeqAt.EqAt.str_int a t' b t
  | str b=>obtain⟨t,rfl⟩:=rx;exact SeqAt.EqAt.str_str a t' b t
  | _=>exact absurd (show false=true from fx) Bool.false_ne_true
 | _=>exact absurd (show false=true from fy) Bool.false_ne_true
def eqU(x:V)(u:Value):Bool:=match u with
 | .none=>eqV .non x
 | .bool b=>eqV (.bl b) x
 | .int i _=>eqV (.int i) x
 | .str z _=>eqV (.str z) x
 | _=>false
theorem sS{x y:V}{u:Value}(r:aT y u)(f:hZ y=true):eqU x u=eqV y x:=by
 cases y with
 | non=>cases r;rfl
 | bl b=>cases r;rfl
 | int i=>obtain⟨t,rfl⟩:=r;rfl
 | str z=>obtain⟨t,rfl⟩:=r;rfl
 | _=>exact absurd (show false=true from f) Bool.false_ne_true
theorem lz{x:V}:∀{xs:List V} {us:List Value},aR xs us->xs.all hZ=true->us.any (eqU x)=xs.any fun y=>eqV y x
 | _,_,.nil,_=>rfl
 | y::xs,u::us,.cons r t,f=>by
  rw[List.all_cons,Bool.and_eq_true]at f;rw[List.any_cons,List.any_cons,sS r f.1,lz t f.2]
theorem i5{A:Around}{s:Shared}{x:V}{v:Value}(rx:aT x v)(fx:hZ x=true):∀{xs:List V} {us:List Value},aR xs us->xs.all hZ=true->∀u∈us,SeqAt.EqAt A s u v (eqU x u)
 | _,_,.nil,_=>fun u hu=>by cases hu
 | y::xs,u::us,.cons r t,f=>fun u' hu=>by
  rw[List.all_cons,Bool.and_eq_true]at f;rcases List.mem_cons.mp hu with rfl|hu
  ·rw[sS r f.1];exact sT r rx f.1 fx
  ·exact i5 rx fx t f.2 u' hu
def inV(x:V)(xs:List V):Bool:=xs.any fun y=>eqV y x
def rIn(K:W.Frag)(neg:Bool):R2:=fun x y H Q=>∃p xs,y = .ref p∧(SqL K H p xs∨SqT K H p xs)∧hZ x=true∧xs.all hZ=true∧Q (.bl (if neg then !inV x xs else inV x xs)) H
theorem kK:OpR X (compareOp .NotIn) (rIn X.K true):=by
 intro pins s σ H x y v u Q I rx ry h;obtain⟨p,xs,rfl,hq,fx,fs,q⟩:=h;cases ry;rcases hq with hq|hq
 ·obtain⟨its,r,pl,hz⟩:=I.list hq
  refine SeqAt.notIn_listAt (eqU x) pl.isList (fun w hw=>i5 rx fx r fs w (by simpa using hw)) ⟨.bl _,H,I,rfl,?_⟩;rw[show its.toArray.any (eqU x)=its.any (eqU x) by simp,lz r fs];exact q
 ·obtain⟨its,r,pl,hz⟩:=I.tuple hq
  refine SeqAt.notIn_tupleAt (eqU x) pl (fun w hw=>i5 rx fx r fs w (by simpa using hw)) ⟨.bl _,H,I,rfl,?_⟩;rw[show its.toArray.any (eqU x)=its.any (eqU x) by simp,lz r fs];exact q
inductive EB (K:W.Frag) (xs:List V) (H:Hp) (Q:VK):Prop
 | mk (p:Addr) (ys:List V) (e:xs = [.ref p]) (s:SqL K H p ys∨SqT K H p ys) (q:Q (.int ys.length) H):EB K xs H Q
theorem aL:gG X (.builtin "len") (EB X.K):=by
 intro pins s σ H xs us Q I r h;obtain⟨p,ys,rfl,hq,q⟩:=h;obtain⟨u,rfl,rx⟩:=gb r;cases rx;have hn:=kN;rcases hq with hq|hq
 ·obtain⟨its,r',pl,hz⟩:=I.list hq
  have hlen:=r'.length;exact Calls.call_len_list pl.isList (by simp only[List.size_toArray] <;> omega) ⟨.int ys.length,H,I.tok _,⟨s.toks+1,by rw[List.size_toArray,hlen]⟩,q⟩
 ·obtain⟨its,r',pl,hz⟩:=I.tuple hq
  have hlen:=r'.length;exact len_tuple pl (by simp only[List.size_toArray] <;> omega) ⟨.int ys.length,H,I.tok _,⟨s.toks+1,by rw[List.size_toArray,hlen]⟩,q⟩
theorem li:gG X (.type "list") (fun xs H Q=>∃p ys,xs = [.ref p]∧(SqL X.K H p ys∨SqT X.K H p ys)∧∀l,H l=none->Q (.ref l) (upd H l (.lst ys))):=by
 intro pins s σ H xs us Q I r h;obtain⟨p,ys,rfl,hq,q⟩:=h;obtain⟨u,rfl,rx⟩:=gb r;cases rx;have fin:∀(its:List Value),aR ys its->ys.length≤sizeLine->∀(h':Heap) (c':Nat),(∀b o',s.heap.get? b=some o'->h'.get? b=some o') ->
   h'.get? s.heap.objs.size=some { cls:=.type "list",dict:=none,data:=.seq its.toArray c',slots:=#[] }->EP X pins σ Q (.ref s.heap.objs.size) { s with heap:=h' }:=fun its r' hz h' c' kp e =>
  ⟨.ref s.heap.objs.size,_,I.laid (t':=s.toks) kp (Nat.le_refl _) (show bH X.prog X.w _ h' _ (.lst ys) from⟨hz,its,c',r',e⟩),rfl,q _ (I.hok.fresh (Nat.le_refl _))⟩
 rcases hq with hq|hq
 ·obtain⟨its,r',pl,hz⟩:=I.list hq
  have hlen:=r'.length;obtain⟨o,ho,hc,n,hd⟩:=pl.isList;exact call_list_seq p (.inl rfl) ho hc hd (fun h' c' kp e=>fin its r' hz h' c' kp e) (by simp only[List.size_toArray] <;> omega)
 ·obtain⟨its,r',pl,hz⟩:=I.tuple hq
  have hlen:=r'.length;obtain⟨o,ho,hc,n,hd⟩:=pl;exact call_list_seq p (.inr rfl) ho hc hd (fun h' c' kp e=>fin its r' hz h' c' kp e) (by simp only[List.size_toArray] <;> omega)
def tyV(K:W.Frag)(T:String)(x:V)(H:Hp):Prop:=match x with
 | .str _=>T = "str"
 | .int _=>T = "int"
 | .ref p=>(T = "list"∧∃xs,SqL K H p xs)∨(T = "tuple"∧∃o,K.lookup p=some o∧o.cls = .type "tuple"∧o.dict=none) ∨
   (T = "dict"∧((∃kvs,H p=some (.dK kvs))∨∃kvs,H p=some (.dT kvs)))∨(T = "set"∧∃S n,H p=some (.set S n))
 | _=>False
theorem qR{pins:List (Addr×Obj)}{σ:St}{H:Hp}{s:Shared}{T:String}{x:V}{v:Value}(I:yd X pins σ H s)(r:aT x v)(ty:tyV X.K T x H) :
  s.TypeIs v T∧∀a,v = .ref a->∃ob,s.heap.get? a=some ob∧ob.dict=none:=by
 cases x with
 | str z =>
  obtain⟨t,rfl⟩:=r;cases (show T = "str" from ty);exact⟨typeIs_str s z t,fun _ e=>nomatch e⟩
 | int i =>
  obtain⟨t,rfl⟩:=r;cases (show T = "int" from ty);exact⟨typeIs_int s i t,fun _ e=>nomatch e⟩
 | ref p =>
  cases r;rcases ty with⟨rfl,xs,hq⟩|⟨rfl,o,hk,hc,hd⟩|⟨rfl,hk⟩|⟨rfl,S,n,hk⟩
  ·obtain⟨its,_,pl,_⟩:=I.list hq
   refine⟨pl.isList.typeIs,fun a e=>?_⟩;cases e;obtain⟨o,n,e,c,hd,_⟩:=pl;exact⟨o,e,hd⟩
  ·refine⟨⟨o,I.kIn p o hk,hc⟩,fun a e=>?_⟩
   cases e;exact⟨o,I.kIn _ o hk,hd⟩
  ·have z:∃o,s.heap.get? p=some o∧o.ExactDict:=by
    rcases hk with⟨kvs,hk⟩|⟨kvs,hk⟩
    ·obtain⟨_,_,_,_,o,_,_,e,ex,_⟩:=I.hok p _ hk
     exact⟨o,e,ex⟩
    ·obtain⟨_,_,_,_,o,_,_,e,ex,_⟩:=I.hok p _ hk
     exact⟨o,e,ex⟩
   obtain⟨o,e,ex⟩:=z;refine⟨⟨o,e,ex.1⟩,fun a e2=>?_⟩;cases e2;exact⟨o,e,ex.2.1⟩
  ·obtain⟨o,_,_,_,e,ex,_⟩:=I.hok p _ hk
   refine⟨⟨o,e,ex.1⟩,fun a e2=>?_⟩;cases e2;exact⟨o,e,ex.2.1⟩
 | _=>exact False.elim ty
def xP(K:W.Frag)(T:String)(r:V->List V->Hp->VK->Prop)(to:TE):TE:=fun σ H Q=>to σ H fun x H1=>tyV K T x H1∧r x [] H1 Q
def tBM(K:W.Frag)(T:String)(r:V->List V->Hp->VK->Prop)(to:TE)(t:TA):TE:=fun σ H Q=>to σ H fun x H1=>tyV K T x H1∧t σ H1 fun xs H2=>r x xs H2 Q
variable {o e:Expr} {es:List Expr} {to:TE} {t:TA} {name:Str} {apos cpos:Pos} {T id:String} {r:V->List V->Hp->VK->Prop}
theorem rK(pa:PlainAttrs T)(slot:Slot T name id)(hty:typeOf (.builtin id)=pure (.type "method_descriptor"))(hm:MtR X id r)(ho:PE X o to)
  (hbase:attributeBase o name X.env (eval o X.env)=eval o X.env:=by rfl) (hline:(apos.endLine == cpos.line)=true:=by rfl):PE X (.Call (.Attribute o name apos) [] [] cpos) (xP X.K T r to):=by
 intro pins s σ H Q I h;refine wpAny_Call_method0_late hbase hline (thn (ho pins s σ H _ I h) fun v s1 ⟨x,H1,I1,r1,ty,q1⟩=>?_);obtain⟨h1,h2⟩:=qR I1 r1 ty;exact⟨T,id,pa,slot,hty,h1,h2,Calls.callWith_builtin rfl (PySem.evalArgs_none (hm pins s1 σ H1 x [] v [] Q I1 r1 .nil q1))⟩
theorem eh(pa:PlainAttrs T)(slot:Slot T name id)(hty:typeOf (.builtin id)=pure (.type "method_descriptor"))(hm:MtR X id r)(ho:PE X o to)(ha:PA X (e::es) t)
  (hbase:attributeBase o name X.env (eval o X.env)=eval o X.env:=by rfl)
  (hfew:((backTo cpos (starEach (e::es) X.env)).all (fun x=>!x.1) && (backToKw cpos (keywordEach [] X.env)).all (fun x=>x.1.isSome)
   && decide ((e::es).length+([]:List Keyword).length+(if ([]:List Keyword).isEmpty then 0 else 1)<30))=true:=by rfl)
  (hline:(apos.endLine == cpos.line)=true:=by rfl) (hs:starEach (e::es) X.env=(false,eval e X.env)::starEach es X.env:=by rfl) (hplain:(backTo cpos (starEach es X.env)).any (·.1)=false:=by rfl) :
  PE X (.Call (.Attribute o name apos) (e::es) [] cpos) (tBM X.K T r to t):=by
 intro pins s σ H Q I h;refine wpAny_Call_method_late hbase hfew hline rfl (thn (ho pins s σ H _ I h) fun v s1 ⟨x,H1,I1,r1,ty,q1⟩=>?_);obtain⟨h1,h2⟩:=qR I1 r1 ty;refine⟨T,id,pa,slot,hty,h1,h2,?_⟩;have hA:=ha cpos pins s1 σ H1 _ I1 q1;rw[hs]at hA ⊢;refine Calls.callWith_builtin (by show(false || (backTo cpos (starEach es X.env)).any (·.1))=false;rw[hplain] <;> rfl) (Calls.evalArgs_plain ?_);exact thn hA fun us s2 ⟨vs,H2,I2,r2,q2⟩=>hm pins s2 σ H2 x vs v us Q I2 r1 r2 q2
end
end L2
namespace L2
open PySem PySem.Spec PyProof.Rows
def MtM(X:Cx)(id:String)(r:V->List V->Hp->VK->Prop):Prop :=
 ∀(pins:List (Addr×Obj)) (s:Shared) (σ:St) (H:Hp) (x:V) (xs:List V) (v:Value) (us:List Value) (Q:VK),yd X pins σ H s->aT x v->aR xs us->r x xs H Q ->
  wpAny (model X.prog X.w) X.A (call (.builtin id) (v::us)) (EP X pins σ Q) X.xe s
theorem aR.one:∀{x:V} {us:List Value},aR [x] us->∃u,us = [u]∧aT x u
 | _,_,.cons r .nil=>⟨_,rfl,r⟩
theorem aR.zero:∀{us:List Value},aR [] us->us = []
 | _,.nil=>rfl
theorem aR.reverse{xs:List V}{us:List Value}(h:aR xs us):aR xs.reverse us.reverse:=by
 induction h with
 | nil=>exact .nil
 | cons r t ih=>rw[List.reverse_cons,List.reverse_cons];exact aR.append ih (.cons r .nil)
section
variable {X:Cx} {pins:List (Addr×Obj)} {σ:St} {H:Hp} {s:Shared} {l b:Addr} {xs ys zs:List V}
theorem yd.lset{its its':List Value}{n:Nat}{f:Array Value->Array Value}{t':Nat}(I:yd X pins σ H s)(hH:H l=some (.lst xs))
  (e:s.heap.get? l=some { cls:=.type "list",data:=.seq its.toArray n }) (hf:f its.toArray=its'.toArray) (hv:aR ys its') (hz:ys.length≤sizeLine) :
  yd X pins σ (upd H l (.lst ys)) { s with heap:=s.heap.update l (Obj.mapSeq f),toks:=t' }:=by
 have q:=PySem.IsL.update e f;rw[hf]at q;refine I.write (x:=l) (e:=l) (by rw[hH];exact trivial) (.inl rfl) (fun b' u hb hu=>(Heap.get?_update_other s.heap (Obj.mapSeq f) (Ne.symm hb)).trans hu) ⟨_,q⟩ ?_;exact⟨hz,its',_,hv,q⟩
theorem yd.fresh(I:yd X pins σ H s):H s.heap.objs.size=none:=I.hok.fresh (Nat.le_refl _)
theorem yd.lstM(I:yd X pins σ H s)(hH:H l=some (.lst xs)):xs.length≤sizeLine∧∃(its:List Value) (n:Nat),aR xs its∧xs.length=its.length∧s.heap.get? l=some { cls:=.type "list",data:=.seq its.toArray n }:=by
 obtain⟨z,its,n,r,e⟩:=I.hok l _ hH;exact⟨z,its,n,r,r.length,e⟩
theorem rN{n:Nat}(h:n≤sizeLine):Builtin.List.listTooLong n=false:=by
 unfold Builtin.List.listTooLong;exact decide_eq_false (by omega)
end
section
variable {X:Cx}
def tQ:V->List V->Hp->VK->Prop:=fun x vs H Q=>∃l xs y,x = .ref l∧vs = [y]∧H l=some (.lst xs)∧xs.length<sizeLine∧Q .non (upd H l (.lst (xs++[y])))
theorem gN:MtM X "list.append" tQ:=by
 intro pins s σ H x vs v us Q I rx rv h;obtain⟨l,xs,y,rfl,rfl,hH,hz,q⟩:=h;cases rx;obtain⟨u,rfl,ru⟩:=rv.one;obtain⟨z,its,n,r,hl,e⟩:=I.lstM hH;refine call_meets F.slot_list_append ⟨_,e,rfl⟩ F.entry_list_append (F.args_list_append_2 _ _) (PySem.list_append l its.toArray n u (by rw[List.size_toArray];omega)) ⟨e,?_⟩;refine⟨.non,_,I.lset (its':=its++[u]) hH e (by simp) (r.append (.cons ru .nil)) ?_,rfl,q⟩;rw[List.length_append,List.length_singleton];omega
def tP:V->List V->Hp->VK->Prop:=fun x vs H Q=>∃l b xs zs,x = .ref l∧vs = [.ref b]∧H l=some (.lst xs)∧H b=some (.lst zs)∧xs.length+zs.length≤sizeLine∧Q .non (upd H l (.lst (xs++zs)))
theorem qi:MtM X "list.extend" tP:=by
 intro pins s σ H x vs v us Q I rx rv h;obtain⟨l,b,xs,zs,rfl,rfl,hH,hB,hz,q⟩:=h;cases rx;obtain⟨u,rfl,ru⟩:=rv.one;cases ru;obtain⟨z,its,n,r,hl,e⟩:=I.lstM hH;obtain⟨z2,its2,n2,r2,hl2,e2⟩:=I.lstM hB;have hsz:its.toArray.size+its2.toArray.size≤sizeLine:=by rw[List.size_toArray,List.size_toArray];omega
 have hlong:¬(!its.toArray.isEmpty && Builtin.List.listTooLong (its.toArray.size+its2.toArray.size))=true:=by
  rw[rN hsz,Bool.and_false];exact Bool.false_ne_true
 refine call_meets F.slot_list_extend ⟨_,e,rfl⟩ F.entry_list_extend (F.args_list_extend_2 _ _)
  (AutoSeq1.list_extend_list_list_0 l its.toArray n b its2.toArray n2 hlong (by rw[List.size_toArray];omega) (by omega)) ⟨e,e2,?_⟩
 refine⟨.non,_,I.lset (its':=its++its2) hH e (by simp) (r.append r2) ?_,rfl,q⟩;rw[List.length_append];omega
def rB:V->List V->Hp->VK->Prop:=fun x vs H Q=>∃l xs,x = .ref l∧vs = []∧H l=some (.lst xs)∧Q .non (upd H l (.lst xs.reverse))
theorem ol:MtM X "list.reverse" rB:=by
 intro pins s σ H x vs v us Q I rx rv h;obtain⟨l,xs,rfl,rfl,hH,q⟩:=h;cases rx;have hus:=rv.zero;subst hus;obtain⟨z,its,n,r,hl,e⟩:=I.lstM hH;refine call_meets F.slot_list_reverse ⟨_,e,rfl⟩ F.entry_list_reverse (F.args_list_reverse_1 _) (AutoSeq1.list_reverse_list_0 l its.toArray n (by rw[List.size_toArray];omega)) ⟨e,?_⟩;refine⟨.non,_,I.lset (its':=its.reverse) hH e (by simp) r.reverse ?_,rfl,q⟩;rw[List.length_reverse];omega
def vQ:V->List V->Hp->VK->Prop:=fun x vs H Q=>∃l xs,x = .ref l∧vs = []∧H l=some (.lst xs)∧Q .non (upd H l (.lst []))
theorem rR:MtM X "list.clear" vQ:=by
 intro pins s σ H x vs v us Q I rx rv h;obtain⟨l,xs,rfl,rfl,hH,q⟩:=h;cases rx;have hus:=rv.zero;subst hus;obtain⟨z,its,n,r,hl,e⟩:=I.lstM hH;refine call_meets F.slot_list_clear ⟨_,e,rfl⟩ F.entry_list_clear (F.args_list_clear_1 _) (AutoSeq1.list_clear_list_0 l its.toArray n (by rw[List.size_toArray];omega)) ⟨e,?_⟩;exact⟨.non,_,I.lset (its':=[]) (ys:=[]) hH e rfl .nil (Nat.zero_le _),rfl,q⟩
end
section
variable {prog:Program} {w:World} {A:Around} {E:Value->Shared->Prop} {s:Shared}
set_option maxRecDepth 100000 in
end
section
variable {X:Cx}
end
end L2
namespace Att
open PySem PySem.W PySem.Calls PyProof.Rows
theorem ic{P:Params}{h:Heap}:∀(ns:List Int) (vs:List Value),WellAll P h vs (ns.map WData.int)->IntsAre vs ns:=by
 intro ns
 induction ns with
 | nil =>
  intro vs w;rw[List.map_nil]at w;cases w;exact .nil
 | cons n ns ih =>
  intro vs w;rw[List.map_cons]at w;cases w with
  | cons a b =>
   cases a;exact .cons _ _ (ih _ b)
theorem pT{l:OpenLaw}{n:Nat}(hn:l.most=some n){P:Params}{h:Heap}{args:List WData}{vals:List Value}
  (hpre:l.row.toRowW.claim.pre args=true) (hwl:WellAll P h vals args) :
  ∃a vs ns,vals = [Value.ref a]∧args = [WData.list (ns.map WData.int)]∧h.get? a=some { cls:=.type "list",data:=.seq vs.toArray }∧IntsAre vs ns∧ns.length≤n:=by
 have hsh:WShape.hasAll [] args [.list .int]=true:=(pre_splitW hpre).1;have hc:l.pre.holds [] { args:=args }=true:=(pre_splitW hpre).2;obtain⟨d,r,rfl,h1,h2⟩:=hasAllW_cons hsh;obtain rfl:=hasAllW_nil h2;obtain⟨xs,rfl,h3⟩:=hasW_list h1;obtain⟨ns,rfl⟩:=items_int h3;have hlen:ns.length≤n:=by
  unfold OpenLaw.pre at hc;have h4:(WTm.not (.lt (.lit (.int (n:Int))) (.len (.arg 0)))).holds [] { args:=[.list (ns.map .int)] }=true:=by
   have h4:=(holds_andW hc).1;rw[hn]at h4;exact h4
  have h5:=condW_of h4 (w_not (w_lt w_lit (w_len_list (w_arg rfl))));rw[List.length_map]at h5;refine Nat.le_of_not_lt fun q=>?_;have q':(n:Int)<((ns.length:Nat):Int):=by omega
  first
   | (rw[decide_eq_true q']at h5;exact absurd h5 (by decide))
   | (simp at h5;omega)
 cases hwl with
 | cons w1 w2 =>
  cases w2;cases w1 with
  | list ho hall=>exact⟨_,_,ns,rfl,rfl,ho,ic ns _ hall,hlen⟩
theorem pV(l:OpenLaw)(args:List WData):l.row.toRowW.claim.post args (.bool true) args=true :=
 postW_of (r:=l.row.toRowW) (X:=(true == true))
  (show WShape.has [] (.bool true) .bool=true by first|rfl|decide|simp[WShape.has,WShape.arms,WShape.armsAll])
  (show(WTm.eq .res (.lit (.bool true))).value [] { args:=args,res:=some (.bool true),after:=args }=some (.bool (true == true)) from w_eq_bool (w_res rfl) w_lit) rfl
theorem attach_call{l:OpenLaw}{n:Nat}{q:Program}{loose:List Str}{XP:(Str->Option Value)->Heap->Prop}{YP:World->Heap->Prop}{d:DefRec}
  (hn:l.most=some n) (hdf:d.params.defaults = [])
  (call:∀(w:World) (s₀ s₁:Shared) (mg mb:Str->Option Value) (fa:Addr) (o:Obj) (pm cd doc:Value) (a:Addr) (vs:List Value) (ns:List Int),
   Ground q loose [] XP w s₀ mg mb s₁.heap->YP w s₁.heap ->
   s₁.heap.get? fa=some o->o.data = .func (docDef d.name d.params d.body d.scope pm cd doc)->s₁.heap.CodeRec cd d.name->mg d.name=some (.ref fa) ->
   s₁.heap.get? a=some { cls:=.type "list",data:=.seq vs.toArray }->IntsAre vs ns->ns.length≤n->s₁.gens = #[] ->
   codeAny (model l.prog w) callerA (.call (.ref fa) ⟨[.ref a],[]⟩) (fun r s'=>r = .ok (.ret (.bool true))∧OldK s₁.heap s'.heap∧s'.os=s₁.os∧AllBare s'.gens) s₁) :
  WalkO q loose XP YP l.row.toRowW d [] (fun f vs=>PySem.call f vs):=by
 intro w s₀ s₁ mg mb G Y fa o pm cd doc dV kV ho hd hcd hD hmg hg args vals as hpre hlay hrd hwl hlo;obtain rfl:dV = .none:=Dflts.none hD hdf;obtain rfl:kV = .none:=Dflts.noKw hD;obtain⟨a,vs,ns,rfl,rfl,hobj,hints,hlen⟩:=pT hn hpre hwl;refine enter_call (codeAny_mono (call w s₀ s₁ mg mb fa o pm cd doc a vs ns G Y ho (fd_plain hd) hcd hmg hobj hints hlen hg) fun r s' hq=>?_);obtain⟨rfl,h2,h3,h4⟩:=hq;exact⟨.inl ⟨.bool true,.bool true,[],rfl,fun _=>rfl,.bool true,pV l _,fun _=>⟨List.Pairwise.nil,fun _ hm=>(nomatch hm)⟩⟩,h2,h3,h4⟩
section
variable {prog:Program} {w:World} {A:Around} {E:Value->Shared->Prop} {s:Shared} {K:Frag}
end
end Att
namespace L2
open PySem PySem.Spec PyProof.Rows
theorem jS:∀{vs:List Value} {ns:List Int},IntsAre vs ns->aR (ns.map V.int) vs
 | _,_,.nil=>.nil
 | _,_,.cons n t h=>.cons ⟨t,rfl⟩ (jS h)
end L2
namespace L2
open PySem PySem.Spec PyProof.Rows
end L2
namespace L2
open PySem PySem.Spec PyProof.Rows
def aU(s:Stmt):Arguments:=match s with
 | .FunctionDef _ a _ _ _ _ _ _ _ _=>a
 | _=>{ posonlyargs:=[],args:=[],vararg:=none,kwonlyargs:=[],kw_defaults:=[],kwarg:=none,defaults:=[] }
def aH(s:Stmt):List Stmt:=match s with
 | .FunctionDef _ _ b _ _ _ _ _ _ _=>b
 | _=>[]
def af(s:Stmt):Scope:=match s with
 | .FunctionDef _ _ _ _ _ _ sc _ _ _=>sc
 | _=>{ kind:=.function,names:=[],isGenerator:=false,isCoroutine:=false }
abbrev CX0:CXT:=fun _ _ _ _ _ _=>False
abbrev E0:XK:=fun _ _ _=>False
theorem vk{X:Cx}:jC CX0 X E0:=fun _ _ _ _ _ _ _ h=>h.elim
section
variable {P:Program} {w:World} {K:W.Frag} {mg:Str->Option Value} {base:Heap}
end
theorem jb{A:Around}{k:Nat}(hr:yP k A):A.units+1<cLine:=Nat.lt_of_le_of_lt (Nat.add_le_add_left (by decide:1≤64) _) hr.units
theorem bZ{n:Nat}(h:n≤1000):n<sizeLine:=Nat.lt_of_le_of_lt h (by decide)
section
variable {X:Cx}
theorem pv(i:Nat){x:Str}{pos:Pos}(hN:X.N[i]? = some x:=by rfl)(hv:Vis X.env.scope x:=by first|exact Or.inl rfl|exact Or.inr (Or.inl rfl)|exact Or.inr (Or.inr rfl))(hd:(x == ("__debug__" : Str))=false:=by decide)
  (hcd:(x == ("__classdict__" : Str))=false:=by decide):PE X (.Name x pos) (DS i):=rG hN hv hd hcd
end
theorem eW{A B:Prop}(h:B):if false=true then A else B:=by
 rw[if_neg Bool.false_ne_true];exact h
theorem eV{A B:Prop}(h:A):if true=true then A else B:=by
 rw[if_pos rfl];exact h
def Same(H H':Hp):Prop:=∀b o,H b=some o->H' b=some o
theorem Same.refl(H:Hp):Same H H:=fun _ _ h=>h
theorem Same.trans{H H1 H2:Hp}(a:Same H H1)(b:Same H1 H2):Same H H2:=fun c o h=>b c o (a c o h)
theorem Same.free{H H':Hp}(e:Same H H'){l:Addr}(h:H' l=Option.none):H l=Option.none:=by
 cases q:H l with
 | none=>rfl
 | some o =>
  rw[e l o q]at h;cases h
theorem Same.seq{K:W.Frag}{H H':Hp}{a:Addr}{xs:List V}(e:Same H H')(h:SqL K H a xs):SqL K H' a xs:=by
 rcases h with(h|⟨o,h⟩)|h
 ·exact .inl (.inl (e _ _ h))
 ·exact .inl (.inr ⟨o,e _ _ h⟩)
 ·exact .inr h
end L2
end
section
set_option Elab.async false
set_option linter.all false
set_option maxRecDepth 100000
set_option maxHeartbeats 4000000
namespace Mth
theorem mz{a b:Int}(ha:0≤a)(hb:0<b):Int.gcd b (a % b)=Int.gcd a b:=by
 obtain⟨m,rfl⟩:=Int.eq_ofNat_of_zero_le ha;obtain⟨n,rfl⟩:=Int.eq_ofNat_of_zero_le (Int.le_of_lt hb);rw[<- Int.natCast_emod];show Nat.gcd (n:Int).natAbs ((m % n:Nat):Int).natAbs=Nat.gcd (m:Int).natAbs (n:Int).natAbs;simp only[Int.natAbs_natCast];rw[Nat.gcd_comm m n,Nat.gcd_comm n (m % n)];exact(Nat.gcd_rec n m).symm
theorem pk(a b:Int):Int.gcd (if a<0 then -a else a) b=Int.gcd a b:=by
 split
 ·exact Int.neg_gcd
 ·rfl
theorem sx(a b:Int):Int.gcd a (if b<0 then -b else b)=Int.gcd a b:=by
 rw[Int.gcd_comm,pk,Int.gcd_comm]
theorem gcd_zero{a:Int}(ha:0≤a):(Int.gcd a 0:Int)=a:=by
 rw[Int.gcd_zero];omega
structure AI(t b:Int):Prop where
 pos:1≤b
 one:Int.gcd t b=1
theorem iJ{a b:Int}(h:b≠0):0<(Int.gcd a b:Int):=by
 have:=Int.gcd_pos_of_ne_zero_right a h;omega
theorem wv(a b:Int):a=a / (Int.gcd a b:Int)*(Int.gcd a b:Int):=(Int.ediv_mul_cancel (Int.gcd_dvd_left a b)).symm
theorem pD(a b:Int):b=b / (Int.gcd a b:Int)*(Int.gcd a b:Int):=(Int.ediv_mul_cancel (Int.gcd_dvd_right a b)).symm
theorem uL{a b:Int}(hb:0<b):AI (a / (Int.gcd a b:Int)) (b / (Int.gcd a b:Int)):=by
 have hg:=iJ (a:=a) (b:=b) (by omega);refine⟨?_,?_⟩
 ·have h1:=pD a b
  have h2:0<b / (Int.gcd a b:Int):=Int.ediv_pos_of_pos_of_dvd hb (by omega) (Int.gcd_dvd_right a b);omega
 ·rw[Int.gcd_ediv (Int.gcd_dvd_left a b) (Int.gcd_dvd_right a b)]
  simp only[Int.natAbs_natCast];exact Nat.div_self (by omega)
theorem oZ{t b t' b':Int}(h:AI t b)(e:t*b'=t'*b):b∣b':=by
 have h1:b.natAbs∣t.natAbs*b'.natAbs:=by
  rw[<- Int.natAbs_mul,e,Int.natAbs_mul];exact Nat.dvd_mul_left _ _
 have h2:Nat.Coprime b.natAbs t.natAbs:=by
  have:=h.one;unfold Nat.Coprime;rw[Nat.gcd_comm];exact this
 exact Int.natAbs_dvd_natAbs.mp (h2.dvd_of_dvd_mul_left h1)
theorem d8{t b t' b':Int}(h:AI t b)(h':AI t' b')(e:t*b'=t'*b):t=t'∧b=b':=by
 have d1:=oZ h e;have d2:=oZ h' e.symm;have p1:=h.pos;have p2:=h'.pos;have eb:b=b':=Int.le_antisymm (Int.le_of_dvd (by omega) d1) (Int.le_of_dvd (by omega) d2);subst eb;exact⟨Int.eq_of_mul_eq_mul_right (by omega) e,rfl⟩
structure ye(top bottom t b:Int):Prop where
 low:AI t b
 eq:top*b=t*bottom
theorem gw{a b:Int}(hb:0<b):ye a b (a / (Int.gcd a b:Int)) (b / (Int.gcd a b:Int)):=by
 refine⟨uL hb,?_⟩;have h1:=wv a b;have h2:=pD a b;generalize a / (Int.gcd a b:Int)=x at *;generalize b / (Int.gcd a b:Int)=y at *;generalize (Int.gcd a b:Int)=g at *;subst h1 h2
 grind
theorem kg{a b:Int}(hb:b≠0)(d:Int)(hd:d=if b<0 then -(Int.gcd a b:Int) else (Int.gcd a b:Int)):ye a b (a.fdiv d) (b.fdiv d):=by
 have hg:=iJ (a:=a) (b:=b) hb
 by_cases h:b<0
 ·rw[if_pos h]at hd
  have f:=gw (a:=-a) (b:=-b) (by omega);rw[Int.gcd_neg,Int.neg_gcd]at f;subst hd;have e1:a.fdiv (-(Int.gcd a b:Int)) = -a / (Int.gcd a b:Int):=by
   rw[<- Int.neg_fdiv_neg,Int.neg_neg];exact Int.fdiv_eq_ediv_of_nonneg _ (by omega)
  have e2:b.fdiv (-(Int.gcd a b:Int)) = -b / (Int.gcd a b:Int):=by
   rw[<- Int.neg_fdiv_neg,Int.neg_neg];exact Int.fdiv_eq_ediv_of_nonneg _ (by omega)
  rw[e1,e2];exact⟨f.low,by have:=f.eq;grind⟩
 ·rw[if_neg h]at hd
  subst hd;rw[Int.fdiv_eq_ediv_of_nonneg _ (by omega),Int.fdiv_eq_ediv_of_nonneg _ (by omega)];exact gw (by omega)
theorem dD{a b t u t' u':Int}(hb:b≠0)(h:ye a b t u)(h':ye a b t' u'):t=t'∧u=u':=by
 refine d8 h.low h'.low ?_;have e1:=h.eq;have e2:=h'.eq;have:b*(t*u')=b*(t'*u):=by grind
 exact Int.eq_of_mul_eq_mul_left hb this
theorem kb{t u:Int}(h:AI t u):ye t u t u:=⟨h,rfl⟩
end Mth
namespace L2
open PySem PySem.Spec PyProof.Rows
abbrev ao(i:Int):Nat:=Builtin.Int.intBits i
theorem fF{i:Int}{n:Nat}(h:i.natAbs<2^n):ao i≤n:=intBits_le h
theorem dF{i:Int}{n:Nat}(h:ao i≤n):i.natAbs<2^n:=by
 unfold ao Builtin.Int.intBits at h
 by_cases h0:i=0
 ·subst h0
  exact Nat.pos_of_ne_zero (by simp)
 ·rw[if_neg (by simpa using h0)]at h
  have h1:i.natAbs≠0:=by omega
  exact(Nat.log2_lt h1).mp (by omega)
theorem fG{i j:Int}{n:Nat}(h:i.natAbs≤j.natAbs)(hj:ao j≤n):ao i≤n:=fF (Nat.lt_of_le_of_lt h (dF hj))
theorem bits_mul{i j:Int}{m n:Nat}(hi:ao i≤m)(hj:ao j≤n):ao (i*j)≤m+n:=by
 refine fF ?_;rw[Int.natAbs_mul,Nat.pow_add];exact Nat.mul_lt_mul'' (dF hi) (dF hj)
theorem ce{i j:Int}{n:Nat}(hi:ao i≤n)(hj:ao j≤n):ao (i+j)≤n+1:=by
 refine fF ?_;have h1:=dF hi;have h2:=dF hj;have h3:(2:Nat)^(n+1)=2*2^n:=by rw[Nat.pow_succ,Nat.mul_comm]
 omega
theorem aO{i j:Int}{n:Nat}(hi:ao i≤n)(hj:ao j≤n):ao (i - j)≤n+1:=by
 refine fF ?_;have h1:=dF hi;have h2:=dF hj;have h3:(2:Nat)^(n+1)=2*2^n:=by rw[Nat.pow_succ,Nat.mul_comm]
 omega
theorem bits_neg{i:Int}{n:Nat}(hi:ao i≤n):ao (-i)≤n:=fG (by omega) hi
theorem kh{i j:Int}{n:Nat}(hj:0<j)(hi:ao i≤n):ao (i / j)≤n:=by
 refine fG ?_ hi;exact Int.natAbs_ediv_le_natAbs i j
theorem fH{i j:Int}{n:Nat}(hi:ao i≤n):ao (i.fdiv j)≤n:=PySem.intBits_fdiv_le hi
theorem dC{i b:Int}{n:Nat}(h0:0≤i)(h1:i≤b)(hb:ao b≤n):ao i≤n:=fG (by omega) hb
theorem ap{i:Int}{m n:Nat}(h:ao i≤m)(hm:m≤n):ao i≤n:=Nat.le_trans h hm
section
variable {X:Cx} {pos:Pos}
def CM(i j:Int):Prop:=IntMulOk i j
theorem CM.b{i j:Int}{m n:Nat}(hi:ao i≤m)(hj:ao j≤n)(hm:m≤2^20)(hn:n≤2^20):CM i j:=IntMulOk.of_bits (Nat.le_trans hi hm) (Nat.le_trans hj hn)
theorem CM.l{i j:Int}(h:-(2^64)<i∧i<2^64):CM i j:=uY.ok (.inl h)
theorem CM.r{i j:Int}(h:-(2^64)<j∧j<2^64):CM i j:=uY.ok (.inr h)
theorem aF:OpR X (binaryOp .Mult) (rI CM fun i j=>.int (i*j)):=opI fun _ _ _ _ _ _ _ hc q=>mul_int q hc
def CD(_ j:Int):Prop:=0<j∧ao j≤8000
theorem gr{j:Int}{n:Nat}(hj:j≠0)(h:ao j≤n)(hn:n≤9000):j.natAbs.log2<9000:=by
 have h1:j.natAbs≠0:=by omega
 have h2:=(Nat.log2_lt h1).mpr (dF h);omega
theorem gk:OpR X (binaryOp .FloorDiv) (rI CD fun i j=>.int (i / j)):=opI fun i j _ _ _ _ _ hc q=>by
 have h1:(0:Int)<j:=hc.1;exact floordiv_int (by omega) (by rw[Int.fdiv_eq_ediv_of_nonneg i (by omega)];exact q) (.inl (PyProof.noPylong_of_log2 (gr (by omega) hc.2 (by decide))))
def CDZ(_ j:Int):Prop:=j≠0∧ao j≤8000
theorem lZ:OpR X (binaryOp .FloorDiv) (rI CDZ fun i j=>.int (i.fdiv j)):=opI fun i j _ _ _ _ _ hc q =>
 floordiv_int hc.1 q (.inl (PyProof.noPylong_of_log2 (gr hc.1 hc.2 (by decide))))
end
theorem sY:bootBuiltins "int" = some (.type "int"):=by decide +kernel
theorem pL:bootBuiltins "bool" = some (.type "bool"):=by decide +kernel
theorem wC:bootBuiltins "str" = some (.type "str"):=by decide +kernel
theorem gE:bootBuiltins "tuple" = some (.type "tuple"):=by decide +kernel
theorem fE:bootBuiltins "list" = some (.type "list"):=by decide +kernel
theorem be:bootBuiltins "isinstance" = some (.builtin "isinstance"):=by decide +kernel
theorem ju:bootBuiltins "abs" = some (.builtin "abs"):=by decide +kernel
theorem bP:bootBuiltins "len" = some (.builtin "len"):=by decide +kernel
theorem oE:bootBuiltins "min" = some (.builtin "min"):=by decide +kernel
theorem wD:bootBuiltins "max" = some (.builtin "max"):=by decide +kernel
theorem fM{X:Cx}{x:Str}{T:String}{pos:Pos}(hm:X.mg x=none)(hv:bootBuiltins x=some (.type T))(hg:Gl X x:=by rfl)(hn:x≠"__name__":=by decide)(hd:(x == ("__debug__" : Str))=false:=by decide) :
  PE X (.Name x pos) (tC (.ty T)):=tY hg hm hv rfl hn hd
inductive Kn (H:Hp):V->String->Prop where
 | non:Kn H .non "NoneType"
 | bl (b:Bool):Kn H (.bl b) "bool"
 | int (i:Int):Kn H (.int i) "int"
 | str (x:Str):Kn H (.str x) "str"
 | lst {a:Addr} {xs:List V} (e:H a=some (.lst xs)):Kn H (.ref a) "list"
 | tup {a:Addr} {xs:List V} (e:H a=some (.tup xs)):Kn H (.ref a) "tuple"
 | dict {a:Addr} {kvs:List (Key×V)} (e:H a=some (.dK kvs)):Kn H (.ref a) "dict"
theorem Kn.ty{K:W.Frag}{H:Hp}{x:V}{t:String}(k:Kn H x t):BH K H x (.type t):=by
 cases k with
 | non=>exact .non
 | bl b=>exact .bl b
 | int i=>exact .int i
 | str x=>exact .str x
 | lst e=>exact .lst e
 | tup e=>exact .tup e
 | dict e=>exact .dK e
theorem Kn.mono{H H':Hp}{x:V}{t:String}(k:Kn H x t)(s:Same H H'):Kn H' x t:=by
 cases k with
 | non=>exact .non
 | bl b=>exact .bl b
 | int i=>exact .int i
 | str x=>exact .str x
 | lst e=>exact .lst (s _ _ e)
 | tup e=>exact .tup (s _ _ e)
 | dict e=>exact .dict (s _ _ e)
def gv(t T:String):Bool:=t == T || (t == "bool" && T == "int")
def oF(T:String):Prop:=T = "int"∨T = "bool"∨T = "tuple"∨T = "list"∨T = "str"
theorem v9(K:W.Frag){H:Hp}{x:V}{t T:String}(k:Kn H x t)(n:oF T):W.kitOne K (.type t) (.type T)=some (gv t T):=by
 rcases n with rfl|rfl|rfl|rfl|rfl <;> cases k <;> kernel_rfl
inductive E4 (xs:List V) (H:Hp) (Q:VK):Prop
 | mk (x:V) (t T:String) (e:xs = [x,.ty T]) (k:Kn H x t) (n:oF T) (q:Q (.bl (gv t T)) H):E4 xs H Q
theorem bJ{X:Cx}:gG X (.builtin "isinstance") E4:=by
 intro pins s σ H xs us Q I rs h;obtain⟨x,t,T,rfl,k,n,q⟩:=h;obtain⟨u,v,rfl,ru,rv⟩:=lE rs;cases (show v=Value.type T from rv);exact qq I ru k.ty (v9 X.K k n) fun tk=>⟨.bl _,H,I.tok _,rfl,q⟩
structure Fn(P:Program)(w:World)(K:W.Frag)(mg:Str->Option Value)(base:Heap)(x:Str)(ps:List Str)(k:Nat)(sp:Sp):Prop where
 ex:∃(f:Addr) (fd:FuncData) (o:Obj),mg x=some (.ref f)∧W.keepIn K (.ref f)=true∧(∀us:List Value,us.length=ps.length->bindArgs fd ⟨us,[]⟩=pure (ps.zip us))∧(K.lookup f=some o∧o.data = .func fd)∧An P w K mg base CX0 k f fd ps sp
theorem az{X:Cx}{x:Str}{ps:List Str}{k:Nat}{sp:Sp}{p pos:Pos}{e:Expr}{es:List Expr}{t:TA}(F:Fn X.prog X.w X.K X.mg X.base x ps k sp)(hr:yP k X.A)(hg:Gl X x)(ha:PA X (e::es) t)
  (hdb:(x == ("__debug__" : Str))=false:=by decide) (he:starEach (e::es) X.env=(false,eval e X.env)::starEach es X.env:=by rfl) (hpl:(backTo pos (starEach es X.env)).any (·.1)=false:=by rfl) :
  PE X (.Call (.Name x p) (e::es) [] pos) (lK sp [] E0 t):=by
 obtain⟨f,fd,o,hm,hk,hb,_,G⟩:=F.ex;exact kI G hr hg hm hk (.all hb) .nil vk ha hdb he hpl
structure Df(K:W.Frag)(mg:Str->Option Value)(x:Str)(st:Stmt):Prop where
 ex:∃(f:Addr) (oc:Value) (od:Option Addr) (kV doc pm:Value) (an:Option Addr) (cdv ct:Value) (osl:Array (Option Value)),
  mg x=some (.ref f)∧K.lookup f=some ⟨oc,od,.func (W.fnOf x x (aU st) (aH st) (af st) .none kV doc pm an cdv ct),osl⟩∧W.codeIn K cdv x=true∧W.keepIn K (.ref f)=true
theorem xC{K:W.Frag}{mg:Str->Option Value}{h:Heap}{x:Str}{st:Stmt}{f:Addr}{oc:Value}{od an:Option Addr}{osl:Array (Option Value)}{kV doc pm cdv ct:Value}(X:K.In h)(G:h.Ns mainGlobals mg)
  (a:W.nsIn K mainGlobals x=some (some (.ref f))) (l:K.lookup f=some ⟨oc,od,.func (W.fnOf x x (aU st) (aH st) (af st) .none kV doc pm an cdv ct),osl⟩) (c:W.codeIn K cdv x=true) (k:W.keepIn K (.ref f)=true) :
  Df K mg x st:=⟨⟨f,oc,od,kV,doc,pm,an,cdv,ct,osl,W.mg_of X G a,l,c,k⟩⟩
theorem Df.fn{P:Program}{w:World}{K:W.Frag}{mg:Str->Option Value}{base:Heap}{x:Str}{st:Stmt}{N ps:List Str}{k:Nat}{sp:Sp}(D:Df K mg x st)(S:yc N ps (af st))
  (hbind:∀(kV doc pm:Value) (an:Option Addr) (cdv ct:Value) (us:List Value),us.length=ps.length->bindArgs (W.fnOf x x (aU st) (aH st) (af st) .none kV doc pm an cdv ct) ⟨us,[]⟩=pure (ps.zip us))
  (len:∀vs H Q E,sp vs H Q E->vs.length=ps.length)
  (hbody:∀(f:Addr) (cdv:Value) (A:Around) (outer:List Env) (s:Shared) (H:Hp) (vs:List V) (Q:VK) (E:XK),yP k (A.deeper (envOfC x (af st) s.heap.objs.size f cdv))->sp vs H Q E ->
   ∃t,PSs (aZ CX0 P w K mg base N x (af st) f cdv A outer s H E).nox (aH st) t∧t { nx:=fun _ H'=>Q .non H',rt:=Q } (d9 N vs) H):Fn P w K mg base x ps (k+1) sp:=by
 obtain⟨f,oc,od,kV,doc,pm,an,cdv,ct,osl,hm,lk,hcd,hk⟩:=D.ex;refine⟨⟨f,_,_,hm,hk,hbind kV doc pm an cdv ct,⟨lk,rfl⟩,mE lk hcd S len fun A outer s H vs Q E hr hsp=>?_⟩⟩;obtain⟨t,h,q⟩:=hbody f cdv A outer s H vs Q E hr hsp;exact⟨t,h.nox,q⟩
theorem v7{P:Program}{w:World}{K:W.Frag}{mg:Str->Option Value}{fa:Addr}{k:Nat}{sp:Sp}(h:Heap)(hfa:mg "law" = some (.ref fa))(F:∀base:Heap,Fn P w K mg base "law" ["script"] k sp) :
  ∃fd:FuncData,(∀(s:Shared) (v:Value),BindsTo s fd ⟨[v],[]⟩ [("script",v)])∧∀base:Heap,K.In base->base.Ns mainGlobals mg->An P w K mg base CX0 k fa fd ["script"] sp:=by
 obtain⟨f,fd,o,hm,_,hb,⟨hl,hd⟩,_⟩:=(F h).ex;rw[hfa]at hm;cases hm;refine⟨fd,fun s v=>.of_eq (hb [v] rfl),fun base _ _=>?_⟩;obtain⟨f',fd',o',hm',_,_,⟨hl',hd'⟩,G⟩:=(F base).ex;rw[hfa]at hm';cases hm';rw[hl]at hl';cases hl';rw[hd]at hd';cases hd';exact G
theorem Same.new{H:Hp}{p:Addr}{o:HO}(h:H p=none):Same H (upd H p o):=fun b o' e=>by
 rw[aN (aE e h)];exact e
theorem aW{c:Bool}{A B:Prop}(h1:c=true->A)(h2:c=false->B):if c=true then A else B:=by
 cases c with
 | true=>exact eV (h1 rfl)
 | false=>exact eW (h2 rfl)
theorem aB{b:Bool}{A B:Prop}(hb:b=false)(h:B):if b=true then A else B:=by
 subst hb;exact eW h
theorem um{b:Bool}{A B:Prop}(hb:b=true)(h:A):if b=true then A else B:=by
 subst hb;exact eV h
def uD(s:Stmt):List Stmt:=match s with
 | .For _ _ b _ _=>b
 | _=>[]
def kR:V->Bool
 | .int _=>true
 | _=>false
end L2
namespace Sp1
open PySem PySem.Spec L2 Mth
inductive B6 (vs:List V) (H:Hp) (Q:VK) (x_3:XK):Prop
 | mk:∀x t,(vs = [x])->(Kn H x t)->(Q (.bl (kR x)) H)->B6 vs H Q x_3
inductive DN (vs:List V) (H:Hp) (Q:VK) (x_3:XK):Prop
 | mk:∀a b:Int,(vs = [.int a,.int b])->(Q (.int (Int.gcd a b:Int)) H)->DN vs H Q x_3
inductive Ag (vs:List V) (H:Hp) (Q:VK) (x_3:XK):Prop
 | mk:∀(p q:Addr) (a b c d:Int),(vs = [.ref p,.ref q])->(H p=some (.tup [.int a,.int b]))->(H q=some (.tup [.int c,.int d]))->((ao a≤2000∧ao b≤2000∧ao c≤2000∧ao d≤2000))->(Q (.bl (decide (a*d<c*b))) H)->Ag vs H Q x_3
inductive CQ (vs:List V) (H:Hp) (Q:VK) (x_3:XK):Prop
 | mk:∀(p:Addr) (a b:Int),(vs = [.ref p])->(H p=some (.tup [.int a,.int b]))->((0<b∧ao b≤2000))->(Q (.int (a / b)) H)->CQ vs H Q x_3
def i7(a b:Int):Bool:=decide (1≤b) && decide (Int.gcd a b=1)
def jG:List V->Bool
 | [.int a,.int b]=>i7 a b
 | _=>false
def gq(H:Hp):V->Bool
 | .ref p=>match H p with
  | some (.tup xs)=>jG xs
  | _=>false
 | _=>false
structure yT(H:Hp)(x:V):Prop where
 kn:∃t,Kn H x t
 parts:∀p xs,x = .ref p->H p=some (.tup xs)->∀y∈xs,∃t,Kn H y t
inductive DL (vs:List V) (H:Hp) (Q:VK) (x_3:XK):Prop
 | mk:∀x,(vs = [x])->(yT H x)->(Q (.bl (gq H x)) H)->DL vs H Q x_3
theorem jR{H:Hp}{x:V}{t:String}(k:Kn H x t):(gv t "int" = true->(!gv t "bool")=kR x)∧(gv t "int" = false->kR x=false):=by
 cases k with
 | non=>exact⟨fun h=>absurd h (by decide),fun _=>rfl⟩
 | bl b=>exact⟨fun _=>(show(!gv "bool" "bool")=false by decide),fun h=>absurd h (by decide)⟩
 | int i=>exact⟨fun _=>(show(!gv "int" "bool")=true by decide),fun h=>absurd h (by decide)⟩
 | str x=>exact⟨fun h=>absurd h (by decide),fun _=>rfl⟩
 | lst e=>exact⟨fun h=>absurd h (by decide),fun _=>rfl⟩
 | tup e=>exact⟨fun h=>absurd h (by decide),fun _=>rfl⟩
 | dict e=>exact⟨fun h=>absurd h (by decide),fun _=>rfl⟩
theorem jA(a:Int):0≤(if a<0 then -a else a):=by split <;> omega
theorem Kn.cases_int{H:Hp}{y:V}{t:String}(k:Kn H y t):(∃a,y = .int a∧t = "int")∨((∀a,y≠.int a)∧kR y=false):=by
 cases k with
 | int a=>exact .inl ⟨a,rfl,rfl⟩
 | non=>exact .inr ⟨fun a e=>(nomatch e),rfl⟩
 | bl b=>exact .inr ⟨fun a e=>(nomatch e),rfl⟩
 | str x=>exact .inr ⟨fun a e=>(nomatch e),rfl⟩
 | lst e=>exact .inr ⟨fun a e=>(nomatch e),rfl⟩
 | tup e=>exact .inr ⟨fun a e=>(nomatch e),rfl⟩
 | dict e=>exact .inr ⟨fun a e=>(nomatch e),rfl⟩
theorem Kn.cases_tup{H:Hp}{y:V}{t:String}(k:Kn H y t):(∃p xs,y = .ref p∧H p=some (.tup xs)∧t = "tuple")∨(gq H y=false∧gv t "tuple" = false):=by
 cases k with
 | tup e=>exact .inl ⟨_,_,rfl,e,rfl⟩
 | non=>exact .inr ⟨rfl,by decide⟩
 | bl b=>exact .inr ⟨rfl,by decide⟩
 | str x=>exact .inr ⟨rfl,by decide⟩
 | int a=>exact .inr ⟨rfl,by decide⟩
 | lst e=>exact .inr ⟨by simp only[gq,e],by decide⟩
 | dict e=>exact .inr ⟨by simp only[gq,e],by decide⟩
theorem rV{H:Hp}{p:Addr}{xs:List V}(e:H p=some (.tup xs)):gq H (.ref p)=jG xs:=by simp only[gq,e]
theorem rX{xs:List V}(h:xs.length≠2):jG xs=false:=by
 unfold jG
 split
 ·exact absurd rfl h
 ·rfl
theorem rY{y z:V}(h:∀a,y≠.int a):jG [y,z]=false:=by
 unfold jG
 split
 ·rename_i a b e
  cases e;exact absurd rfl (h a)
 ·rfl
theorem rW{y z:V}(h:∀a,z≠.int a):jG [y,z]=false:=by
 unfold jG
 split
 ·rename_i a b e
  cases e;exact absurd rfl (h b)
 ·rfl
theorem sz{n:Nat}(h:n≤1000):n≤sizeLine:=Nat.le_of_lt (bZ h)
theorem oo{H:Hp}{p:Addr}{o:HO}(h:H p=none):∃H1,upd H p o=H1∧Same H H1∧H1 p=some o:=⟨_,rfl,Same.new h,upd_same⟩
theorem atI_mem{α:Type}{xs:List α}{k:Int}(h0:0≤k)(h1:k<(xs.length:Int)):∃v,atI xs k=some v∧v∈xs:=by
 have hk:k.toNat<xs.length:=by omega
 have ek:k=((k.toNat:Nat):Int):=by omega
 have q:=dh (xs:=xs) (j:=k.toNat) (List.getElem?_eq_getElem hk);rw[<- ek]at q;exact⟨xs[k.toNat],q,List.getElem_mem hk⟩
theorem th_tup{H:Hp}{p:Addr}{xs:List V}(e:H p=some (.tup xs))(h:∀y∈xs,∃t,Kn H y t):yT H (.ref p):=⟨⟨_,.tup e⟩,fun p' ys e1 e2=>by
 cases e1;rw[e]at e2;cases e2;exact h⟩
theorem qw{a b:Int}{n:Nat}(hb:b≠0)(h:ao b≤n):ao (Int.gcd a b:Int)≤n:=by
 refine fG ?_ h;have h1:(Int.gcd a b)∣b.natAbs:=Int.gcd_dvd_natAbs_right a b;have h2:=Nat.le_of_dvd (by omega) h1;omega
end Sp1
namespace L2
open PySem PySem.Spec PyProof.Rows
theorem nI(ns ms:List Int):((List.range (min ns.length ms.length)).all (fun j=>decide (ns[j]? = ms[j]?)) && ns.length == ms.length)=decide (ns=ms):=by
 rw[Bool.eq_iff_iff];simp only[Bool.and_eq_true,List.all_eq_true,List.mem_range,decide_eq_true_eq,beq_iff_eq];constructor
 ·rintro⟨h1,h2⟩
  refine List.ext_getElem? fun j=>?_
  by_cases hj:j<ns.length
  ·exact h1 j (by omega)
  ·rw[List.getElem?_eq_none (by omega),List.getElem?_eq_none (by omega)]
 ·rintro rfl
  exact⟨fun _ _=>rfl,rfl⟩
theorem qQ{ns:List Int}{us:List Value}{j:Nat}(r:aR (ns.map V.int) us)(h:j<us.length):∃a,ns[j]? = some a∧aT (.int a) us[j]:=by
 have hl:=r.length;rw[List.length_map]at hl;have hj:j<ns.length:=by omega
 obtain⟨u,e,q⟩:=r.get (i:=j) (x:=.int ns[j]) (by rw[List.getElem?_map,List.getElem?_eq_getElem hj];rfl);rw[List.getElem?_eq_getElem h]at e;cases e;exact⟨ns[j],List.getElem?_eq_getElem hj,q⟩
section
variable {X:Cx}
inductive Eu (K:W.Frag) (neg:Bool) (x:V) (y:V) (H:Hp) (Q:VK):Prop
 | mk:∀(p q:Addr) (ns ms:List Int),(x = .ref p)->(y = .ref q)->(SqT K H p (ns.map V.int))->(SqT K H q (ms.map V.int))->(Q (.bl (if neg then !decide (ns=ms) else decide (ns=ms))) H)->Eu K neg x y H Q
theorem mx{A:Around}{s:Shared}{ns ms:List Int}{us vs:List Value}(r:aR (ns.map V.int) us)(r':aR (ms.map V.int) vs)(j:Nat)(h1:j<us.toArray.size)(h2:j<vs.toArray.size) :
  SeqAt.EqAt A s us.toArray[j] vs.toArray[j] (decide (ns[j]? = ms[j]?)):=by
 rw[List.size_toArray]at h1 h2;obtain⟨a,ea,ra⟩:=qQ r h1;obtain⟨b,eb,rb⟩:=qQ r' h2;have q:=sT (A:=A) (s:=s) ra rb rfl rfl;have e:eqV (.int a) (.int b)=decide (ns[j]? = ms[j]?):=by
  rw[ea,eb];show(a == b)=decide (some a=some b);rw[Bool.eq_iff_iff];simp
 rw[e]at q;exact q
theorem v3(hu:X.A.units<cLine):OpR X (compareOp .Eq) (Eu X.K false):=by
 intro pins s σ H x y v u Q I rx ry h;obtain⟨p,q,ns,ms,rfl,rfl,hp,hq,k⟩:=h;cases rx;cases ry;obtain⟨its,r,pl,_⟩:=I.tuple hp;obtain⟨jts,r',pl',_⟩:=I.tuple hq;refine SeqAt.eq_tupleAt pl pl' hu (mx r r') ⟨.bl _,H,I,rfl,?_⟩;have e1:=r.length;have e2:=r'.length;rw[List.length_map]at e1 e2;rw[List.size_toArray,List.size_toArray,<- e1,<- e2,nI];exact k
theorem dZ(hu:X.A.units<cLine):OpR X (compareOp .NotEq) (Eu X.K true):=by
 intro pins s σ H x y v u Q I rx ry h;obtain⟨p,q,ns,ms,rfl,rfl,hp,hq,k⟩:=h;cases rx;cases ry;obtain⟨its,r,pl,_⟩:=I.tuple hp;obtain⟨jts,r',pl',_⟩:=I.tuple hq;refine SeqAt.RcNeAt.tuples pl pl' hu (mx r r') _ _ _ _ ⟨.bl _,H,I,rfl,?_⟩;have e1:=r.length;have e2:=r'.length;rw[List.length_map]at e1 e2;rw[List.size_toArray,List.size_toArray,<- e1,<- e2,nI];exact k
end
end L2
namespace L2
open PySem PySem.Spec PyProof.Rows
section
variable {prog:Program} {w:World} {A:Around} {E:Value->Shared->Prop}
end
end L2
namespace L2
open PySem PySem.Spec PyProof.Rows
theorem bH.has{P:Program}{w:World}{H:Hp}{h:Heap}{a:Addr}{o:HO}(x:bH P w H h a o):∃ob,h.get? a=some ob:=by
 cases o with
 | lst xs=>obtain⟨_,_,_,_,e⟩:=x;exact⟨_,e⟩
 | tup xs=>obtain⟨_,_,_,ob,e,_⟩:=x;exact⟨_,e⟩
 | dK kvs=>obtain⟨_,_,_,_,ob,_,_,e,_⟩:=x;exact⟨_,e⟩
 | dT kvs=>obtain⟨_,_,_,_,ob,_,_,e,_⟩:=x;exact⟨_,e⟩
 | set S n=>obtain⟨ob,_,_,_,e,_⟩:=x;exact⟨_,e⟩
 | ins C dx fs=>obtain⟨_,_,_,e,_⟩:=x;exact⟨_,e⟩
 | own y=>obtain⟨ob,e⟩:=x;exact⟨_,e⟩
 | xd fs=>obtain⟨_,⟨od,_,_,e,_⟩,_⟩:=x;exact⟨_,e⟩
 | rng lo hi=>obtain⟨_,_,_,e⟩:=x;exact⟨_,e⟩
 | frz ob u=>obtain⟨e,_⟩:=x;exact⟨_,e⟩
 | tbl ps=>exact⟨_,(show h.get? a=some _ from x)⟩
 | met f y=>exact⟨_,(show h.get? a=some _ from x)⟩
 | ext φ=>obtain⟨_,⟨ob,e⟩,_⟩:=x;exact⟨_,e⟩
structure E7(B:Heap)(fs:List Addr)(H':Hp)(h:Heap):Prop where
 tr:∀b o,H' b=some o->∃ob,B.get? b=some ob
 old:∀b o,h.get? b=some o->b∉fs->∃ob,B.get? b=some ob
section
variable {P:Program} {w:World} {fs fs':List Addr} {H H1 H':Hp} {h h1 h2 B:Heap}
theorem Un.fly(un:Un fs [] H H' h h1)(big:E7 B fs H' h)(st1:B.StaysIn h1)(st2:B.StaysIn h2)(sl:h1.UpToSlots h2)
  (fr:∀b∈fs,H b=none∧∀o,h1.get? b=some o->∀vs,o.data≠.fields vs):Un fs [] H H' h h2 where
 keep:=fun b o e n hb hx=>by
  have e1:=un.keep b o e n hb hx;obtain⟨ob,eb⟩:=big.old b o e hb;have e2:=st1 b ob eb;rw[e1]at e2;cases e2;exact st2 b _ eb
 slot:=fun b o e n hb hx=>by
  obtain⟨s1,e1⟩:=un.slot b o e n hb hx;obtain⟨s2,e2⟩:=sl b _ e1 ((fr b hb).2 _ e1);exact⟨s2,e2⟩
 free:=un.free
 there:=fun b o e hx=>by
  by_cases hb:b∈fs
  ·obtain⟨s1,e1⟩:=un.slot b o e (fr b hb).1 hb hx
   obtain⟨s2,e2⟩:=sl b _ e1 ((fr b hb).2 _ e1);exact⟨_,e2⟩
  ·obtain⟨ob,eb⟩:=big.old b o e hb
   exact⟨_,st2 b ob eb⟩
 tups:=un.tups
 frzs:=un.frzs
 tbls:=un.tbls
theorem HOk.fly(hok:HOk P w H' h1)(big:E7 B fs H' h)(st1:B.StaysIn h1)(st2:B.StaysIn h2):HOk P w H' h2:=fun a o e=>by
 refine(hok a o e).stay (fun b u hb q=>?_) (fun _ q=>q) fun _ _ q=>q;have hb':∃ob,B.get? b=some ob:=by
  rcases hb with z|z
  ·rw[z]
   exact big.tr a o e
  ·exact big.tr b _ z
 obtain⟨ob,eb⟩:=hb';have e2:=st1 b ob eb;rw[q]at e2;cases e2;exact st2 b _ eb
theorem Un.shed(a:Un fs [] H H1 h h1)(b:Un fs' [] H1 H' h1 h2)(sub:∀x∈fs,x∈fs')(out:∀x o,h.get? x=some o->x∈fs'->x∈fs):Un fs [] H H' h h2 where
 keep:=fun x o e n hx hn=>b.keep x o (a.keep x o e n hx hn) (a.free x o e n hn) (fun z=>hx (out x o e z)) hn
 slot:=fun x o e n hx hn=>by
  obtain⟨s1,e1⟩:=a.slot x o e n hx hn;obtain⟨s2,e2⟩:=b.slot x _ e1 (a.free x o e n hn) (sub x hx) hn;exact⟨s2,e2⟩
 free:=fun x o e n hn=>by
  obtain⟨o1,e1⟩:=a.there x o e hn;exact b.free x o1 e1 (a.free x o e n hn) hn
 there:=fun x o e hn=>by
  obtain⟨o1,e1⟩:=a.there x o e hn;exact b.there x o1 e1 hn
 tups:=fun x xs e=>b.tups x xs (a.tups x xs e)
 frzs:=fun x o xs e=>b.frzs x o xs (a.frzs x o xs e)
 tbls:=fun x ps e=>by
  obtain⟨m1,e1⟩:=a.tbls x ps e;obtain⟨m2,e2⟩:=b.tbls x _ e1;exact⟨m1++m2,by rw[e2,Array.append_assoc]⟩
end
def CXE(P:Program)(w:World):CXT:=fun outer H s E e s'=>∃(ea t:Addr) (cls:Value) (H':Hp) (B:Heap),
 e = .ref ea∧s'.os=s.os∧AllBare s'.gens∧Un (frs outer) [] H H' s.heap s'.heap∧HOk P w H' s'.heap∧Heap.FlyingW B outer ea cls (.ref t) s'.heap∧E7 B (frs outer) H' s.heap∧E cls none H'
section
variable {P:Program} {w:World} {K:W.Frag} {mg:Str->Option Value} {base:Heap} {N:List Str} {qual:Str} {scope:Scope} {f:Addr} {cdv:Value} {A:Around} {outer:List Env} {s₀:Shared} {H₀:Hp} {E:XK}
theorem sy{env:Env}{L:Addr}(hf:env.frame=some L)(l:List Env):frs (env::l)=L::frs l:=by
 unfold frs;rw[List.filterMap_cons,hf]
theorem vP{pins:List (Addr×Obj)}{σ:St}{H:Hp}{s:Shared}{h':Heap}{e:Addr}{cls:Value}{vs:List Value}(I:yd (aZ (CXE P w) P w K mg base N qual scope f cdv A outer s₀ H₀ E) pins σ H s)
  (hx:Heap.MadeExcOf s.heap h' e cls vs) (q:E cls none H):(aZ (CXE P w) P w K mg base N qual scope f cdv A outer s₀ H₀ E).xe (.ref e) { s with heap:=h' }:=by
 have hin:∀env∈(aZ (CXE P w) P w K mg base N qual scope f cdv A outer s₀ H₀ E).stack,∀a,env.frame=some a->a∈frs (aZ (CXE P w) P w K mg base N qual scope f cdv A outer s₀ H₀ E).stack :=
  fun env he a ha=>List.mem_filterMap.mpr ⟨env,he,ha⟩
 have neL:∀b o,s₀.heap.get? b=some o->b∉frs outer->b∉frs (aZ (CXE P w) P w K mg base N qual scope f cdv A outer s₀ H₀ E).stack:=fun b o eb hb hm=>by
  rcases List.mem_cons.mp (I.stkSub b hm) with z|z
  ·exact absurd z (Nat.ne_of_lt (Nat.lt_of_lt_of_le (Heap.lt_size eb) I.ok.above))
  ·exact hb z
 refine wpAny_leaves_madeW (base:=W.hideAll s.heap (frs (aZ (CXE P w) P w K mg base N qual scope f cdv A outer s₀ H₀ E).stack)) (h:=s.heap) (L:=s₀.heap.objs.size) I.ok.frames rfl (fun b o z=>W.of_hideAll _ z) (W.funFrames_hide I.stack hin) hx fun h'' t fl _ _ up=>?_;have big:E7 (W.hideAll s.heap (frs (aZ (CXE P w) P w K mg base N qual scope f cdv A outer s₀ H₀ E).stack)) (frs outer) H s₀.heap:=by
  refine⟨fun b o eb=>?_,fun b o eb hb=>?_⟩
  ·obtain⟨ob,z⟩:=(I.hok b o eb).has
   refine⟨ob,W.hideAll_get _ z fun hm=>?_⟩;rw[I.stkFree b hm]at eb;cases eb
  ·obtain⟨ob,z⟩:=I.base.there b o eb (by intro z;cases z)
   exact⟨ob,W.hideAll_get _ z (neL b o eb hb)⟩
 have st1:(W.hideAll s.heap (frs (aZ (CXE P w) P w K mg base N qual scope f cdv A outer s₀ H₀ E).stack)).StaysIn s.heap:=fun b o z=>W.of_hideAll _ z;have sl:s.heap.UpToSlots h'':=(Heap.UpToSlots.of_keeps hx.keeps).trans up;exact⟨e,t,cls,H,_,rfl,I.os,I.bare,Un.fly I.base big st1 fl.1 sl fun b hb=>⟨I.ok.frf b hb,fun o eo=>by
   obtain⟨_,o',eo',nf⟩:=I.funs.mem hb;rw[eo]at eo';cases eo';exact nf⟩,HOk.fly I.hok big st1 fl.1,fl,big,q⟩
theorem tZ{E1:XK}(hE:∀c o H',E1 c o H'->E c o H'):jC (CXE P w) (aZ (CXE P w) P w K mg base N qual scope f cdv A outer s₀ H₀ E) E1:=by
 intro pins σ H s e s' I h;obtain⟨ea,t,cls,H',B,rfl,os,bare,un,hok,fl,big,q⟩:=h;refine wpAny_leaves_onW (L:=s₀.heap.objs.size) I.ok.frames rfl fl fun h'' fl' up=>?_;have out:∀x o,s₀.heap.get? x=some o->x∈frs (aZ (CXE P w) P w K mg base N qual scope f cdv A outer s₀ H₀ E).stack->x∈frs outer:=fun x o ex hm=>by
  rcases List.mem_cons.mp (I.stkSub x hm) with z|z
  ·exact absurd z (Nat.ne_of_lt (Nat.lt_of_lt_of_le (Heap.lt_size ex) I.ok.above))
  ·exact z
 have sub:∀x∈frs outer,x∈frs (aZ (CXE P w) P w K mg base N qual scope f cdv A outer s₀ H₀ E).stack:=fun x hx=>by
  show x∈frs (_::outer);rw[sy (L:=s₀.heap.objs.size) rfl];exact List.mem_cons_of_mem _ hx
 have un1:Un (frs outer) [] H₀ H' s₀.heap s'.heap:=Un.shed I.base un sub out;have big1:E7 B (frs outer) H' s₀.heap:=by
  refine⟨big.tr,fun b o eb hb=>?_⟩;obtain⟨ob,z⟩:=I.base.there b o eb (by intro z;cases z);exact big.old b ob z fun hm=>hb (out b o eb hm)
 refine⟨ea,t,cls,H',B,rfl,os.trans I.os,bare,Un.fly un1 big1 fl.1 fl'.1 up fun b hb=>⟨I.ok.frf b hb,fun o eo=>?_⟩,HOk.fly hok big1 fl.1 fl'.1,fl',big1,hE _ _ _ q⟩;obtain⟨_,o',eo',nf⟩:=fl'.2.2.1.mem hb;obtain⟨_,o2,eo2,nf2⟩:=fl.2.2.1.mem (sub b hb);rw[eo]at eo2;cases eo2;exact nf2
end
structure Cs(K:W.Frag)(mg:Str->Option Value)(x:Str)(C:Addr):Prop where
 bound:mg x=some (.ref C)
 obj:∀h:Heap,K.In h->∃bm N nm qn bs hd sn sub ab col dd k0 k1 k2 k3 k5 mN,h.get? C=some (excClassObj nm qn C N bs bm hd sn sub ab col dd k0 k1 k2 k3 k5 "ValueError.__new__")∧h.Ns N mN∧mN "__init__" = none ∧
  OwnTail h [.type "ValueError",.type "Exception",.type "BaseException",.type "object"] bm
theorem uJ{K:W.Frag}{h:Heap}{C:Addr}{bmB:List Value}{newId:String}(X:K.In h)(q:W.excIn K C bmB newId=true) :
  ∃bm N nm qn bs hd sn sub ab col dd k0 k1 k2 k3 k5 mN,h.get? C=some (excClassObj nm qn C N bs bm hd sn sub ab col dd k0 k1 k2 k3 k5 newId)∧h.Ns N mN∧mN "__init__" = none∧OwnTail h bmB bm:=by
 unfold W.excIn at q
 split at q
 next dct cl sls look =>
  split at q
  next C2 bms a0 a1 a2 a3 nid a5 hmro hsls =>
   simp only[Bool.not_eq_true',beq_iff_eq,Bool.and_eq_true]at q;obtain⟨⟨⟨⟨⟨q1,q2⟩,q3⟩,q4⟩,q5⟩,q6⟩:=q;subst q1 q2;obtain⟨c1,c2,c3,c4,c5,c6,c7,c8,c9,c10,c11⟩:=cl;dsimp only at hmro q3 q5 q6;subst hmro q3;obtain⟨lst⟩:=sls;simp only at hsls;subst hsls;exact⟨bms,c4,c1,c5,c2,c6,c7,c8,c9,c10,dct,a0,a1,a2,a3,a5,_,X _ _ look,.of_isNs (W.isNs_of_in X q5),W.nsMap_none_of_in X q5 q6,W.tail_of_in X q4⟩
  next=>cases q
 next=>cases q
theorem wn{K:W.Frag}{mg:Str->Option Value}{h:Heap}{x:Str}{C:Addr}(X:K.In h)(G:h.Ns mainGlobals mg)(a:W.nsIn K mainGlobals x=some (some (.ref C)))
  (q:W.excIn K C [.type "ValueError",.type "Exception",.type "BaseException",.type "object"] "ValueError.__new__" = true):Cs K mg x C:=⟨W.mg_of X G a,fun _ Y=>uJ Y q⟩
section
variable {P:Program} {w:World} {K:W.Frag} {mg:Str->Option Value} {base:Heap} {N:List Str} {qual:Str} {scope:Scope} {f:Addr} {cdv:Value} {A:Around} {outer:List Env} {s₀:Shared} {H₀:Hp} {E:XK}
theorem gh{x:Str}{C:Addr}{np cpos pos:Pos}(O:Cs K mg x C)(hg:Gl (aZ (CXE P w) P w K mg base N qual scope f cdv A outer s₀ H₀ E) x)(hdb:(x == ("__debug__" : Str))=false:=by decide) :
  PS (aZ (CXE P w) P w K mg base N qual scope f cdv A outer s₀ H₀ E) (.Raise (some (.Call (.Name x np) [] [] cpos)) none pos) (fun _ _ H=>E (.ref C) none H):=by
 intro pins s σ H D I h;obtain⟨bm,N',nm,qn,bs,hd,sn,sub,ab,col,dd,k0,k1,k2,k3,k5,mN,hC,hN,hni,T⟩:=O.obj s.heap I.kIn;refine wpAny_Raise_call_subT (C:=C) (nm:=nm) (q:=qn) (N:=N') (bs:=bs) (bm:=bm) (hdct:=hd) (sn:=sn) (sub:=sub) (ab:=ab) (col:=col) (dd:=dd) (k0:=k0) (k1:=k1) (k2:=k2) (k3:=k3) (k5:=k5) PySem.F.excBase_ValueError (mN:=mN) (T.hasType (by decide +kernel)) (I.ok.hd rfl) rfl hni (iC I hg O.bound ⟨rfl,?_⟩ hdb);exact evalArgs_empty ⟨rfl,Nat.zero_le _,hC,hN,T,fun h' e hx=>vP I hx h⟩
end
section
variable {X:Cx}
end
structure Fx(P:Program)(w:World)(K:W.Frag)(mg:Str->Option Value)(base:Heap)(x:Str)(ps:List Str)(k:Nat)(ds:List V)(sp:Sp):Prop where
 ex:∃(f:Addr) (fd:FuncData) (its:List Value),mg x=some (.ref f)∧W.keepIn K (.ref f)=true∧gH K fd ps []∧gH K fd ps its∧aR ds its∧An P w K mg base (CXE P w) k f fd ps sp
structure EH(K:W.Frag)(mg:Str->Option Value)(x:Str)(st:Stmt)(ds:List V):Prop where
 ex:∃(f T:Addr) (oT:Obj) (n:Nat) (its:List Value) (oc:Value) (od:Option Addr) (kV doc pm:Value) (an:Option Addr) (cdv ct:Value) (osl:Array (Option Value)),
  mg x=some (.ref f)∧K.lookup f=some ⟨oc,od,.func (W.fnOf x x (aU st) (aH st) (af st) (.ref T) kV doc pm an cdv ct),osl⟩∧W.codeIn K cdv x=true∧W.keepIn K (.ref f)=true∧K.lookup T=some oT∧oT.data = .seq its.toArray n∧aR ds its
theorem wx{K:W.Frag}{mg:Str->Option Value}{h:Heap}{x:Str}{st:Stmt}{ds:List V}{its:List Value}{f T:Addr}{oT:Obj}{n:Nat}{oc:Value}{od an:Option Addr}{osl:Array (Option Value)}{kV doc pm cdv ct:Value}(X:K.In h)(G:h.Ns mainGlobals mg)
  (a:W.nsIn K mainGlobals x=some (some (.ref f))) (l:K.lookup f=some ⟨oc,od,.func (W.fnOf x x (aU st) (aH st) (af st) (.ref T) kV doc pm an cdv ct),osl⟩) (c:W.codeIn K cdv x=true) (k:W.keepIn K (.ref f)=true)
  (t:K.lookup T=some oT) (d:oT.data = .seq its.toArray n) (v:aR ds its):EH K mg x st ds:=⟨⟨f,T,oT,n,its,oc,od,kV,doc,pm,an,cdv,ct,osl,W.mg_of X G a,l,c,k,t,d,v⟩⟩
theorem EH.fx{P:Program}{w:World}{K:W.Frag}{mg:Str->Option Value}{base:Heap}{x:Str}{st:Stmt}{ds:List V}{N ps:List Str}{k:Nat}{sp:Sp}(D:EH K mg x st ds)(S:yc N ps (af st))
  (hb:∀(T:Addr) (kV doc pm:Value) (an:Option Addr) (cdv ct:Value) (us its:List Value) (oT:Obj) (n:Nat) (s:Shared),aR ds its->us.length=ps.length->s.heap.get? T=some oT->oT.data = .seq its.toArray n ->
   BindsTo s (W.fnOf x x (aU st) (aH st) (af st) (.ref T) kV doc pm an cdv ct) ⟨us,[]⟩ (ps.zip us))
  (hd:∀(T:Addr) (kV doc pm:Value) (an:Option Addr) (cdv ct:Value) (us its:List Value) (oT:Obj) (n:Nat) (s:Shared),aR ds its->(us++its).length=ps.length->s.heap.get? T=some oT->oT.data = .seq its.toArray n ->
   BindsTo s (W.fnOf x x (aU st) (aH st) (af st) (.ref T) kV doc pm an cdv ct) ⟨us,[]⟩ (ps.zip (us++its)))
  (len:∀vs H Q E,sp vs H Q E->vs.length=ps.length)
  (hbody:∀(f:Addr) (cdv:Value) (A:Around) (outer:List Env) (s:Shared) (H:Hp) (vs:List V) (Q:VK) (E:XK),yP k (A.deeper (envOfC x (af st) s.heap.objs.size f cdv))->sp vs H Q E ->
   ∃t,PSs (aZ (CXE P w) P w K mg base N x (af st) f cdv A outer s H E) (aH st) t∧t { nx:=fun _ H'=>Q .non H',rt:=Q } (d9 N vs) H):Fx P w K mg base x ps (k+1) ds sp:=by
 obtain⟨f,T,oT,n,its,oc,od,kV,doc,pm,an,cdv,ct,osl,hm,lk,hcd,hk,hT,hs,hv⟩:=D.ex;refine⟨⟨f,_,its,hm,hk,fun s us KX hl=>?_,fun s us KX hl=>hd T kV doc pm an cdv ct us its oT n s hv hl (KX _ _ hT) hs,hv,mE lk hcd S len fun A outer s H vs Q E hr hsp=>hbody f cdv A outer s H vs Q E hr hsp⟩⟩;rw[List.append_nil]at hl ⊢;exact hb T kV doc pm an cdv ct us its oT n s hv hl (KX _ _ hT) hs
theorem Df.fx{P:Program}{w:World}{K:W.Frag}{mg:Str->Option Value}{base:Heap}{x:Str}{st:Stmt}{N ps:List Str}{k:Nat}{sp:Sp}(D:Df K mg x st)(S:yc N ps (af st))
  (hbind:∀(kV doc pm:Value) (an:Option Addr) (cdv ct:Value) (us:List Value),us.length=ps.length->bindArgs (W.fnOf x x (aU st) (aH st) (af st) .none kV doc pm an cdv ct) ⟨us,[]⟩=pure (ps.zip us))
  (len:∀vs H Q E,sp vs H Q E->vs.length=ps.length)
  (hbody:∀(f:Addr) (cdv:Value) (A:Around) (outer:List Env) (s:Shared) (H:Hp) (vs:List V) (Q:VK) (E:XK),yP k (A.deeper (envOfC x (af st) s.heap.objs.size f cdv))->sp vs H Q E ->
   ∃t,PSs (aZ (CXE P w) P w K mg base N x (af st) f cdv A outer s H E) (aH st) t∧t { nx:=fun _ H'=>Q .non H',rt:=Q } (d9 N vs) H):Fx P w K mg base x ps (k+1) [] sp:=by
 obtain⟨f,oc,od,kV,doc,pm,an,cdv,ct,osl,hm,lk,hcd,hk⟩:=D.ex;have hb:gH K (W.fnOf x x (aU st) (aH st) (af st) .none kV doc pm an cdv ct) ps []:=.all (hbind kV doc pm an cdv ct);exact⟨⟨f,_,[],hm,hk,hb,hb,.nil,mE lk hcd S len fun A outer s H vs Q E hr hsp=>hbody f cdv A outer s H vs Q E hr hsp⟩⟩
theorem eg{P:Program}{w:World}{K:W.Frag}{mg:Str->Option Value}{base:Heap}{N:List Str}{qual:Str}{scope:Scope}{f:Addr}{cdv:Value}{A:Around}{outer:List Env}{s₀:Shared}{H₀:Hp}{E:XK}
  {x:Str} {ps:List Str} {k:Nat} {ds:List V} {sp:Sp} {p pos:Pos} {e:Expr} {es:List Expr} {t:TA} (F:Fx P w K mg base x ps k ds sp) (hr:yP k (aZ (CXE P w) P w K mg base N qual scope f cdv A outer s₀ H₀ E).A) (hg:Gl (aZ (CXE P w) P w K mg base N qual scope f cdv A outer s₀ H₀ E) x)
  (ha:PA (aZ (CXE P w) P w K mg base N qual scope f cdv A outer s₀ H₀ E) (e::es) t)
  (hdb:(x == ("__debug__" : Str))=false:=by decide) (he:starEach (e::es) (aZ (CXE P w) P w K mg base N qual scope f cdv A outer s₀ H₀ E).env=(false,eval e (aZ (CXE P w) P w K mg base N qual scope f cdv A outer s₀ H₀ E).env)::starEach es (aZ (CXE P w) P w K mg base N qual scope f cdv A outer s₀ H₀ E).env:=by rfl)
  (hpl:(backTo pos (starEach es (aZ (CXE P w) P w K mg base N qual scope f cdv A outer s₀ H₀ E).env)).any (·.1)=false:=by rfl) :
  PE (aZ (CXE P w) P w K mg base N qual scope f cdv A outer s₀ H₀ E) (.Call (.Name x p) (e::es) [] pos) (lK sp [] E t):=by
 obtain⟨g,fd,its,hm,hk,hb,_,_,G⟩:=F.ex;exact kI G hr hg hm hk hb .nil (tZ fun _ _ _ z=>z) ha hdb he hpl
theorem pZ{P:Program}{w:World}{X:Cx}:jC (CXE P w) X E0:=fun _ _ _ _ _ _ _ h=>by
 obtain⟨_,_,_,_,_,_,_,_,_,_,_,_,q⟩:=h;exact q.elim
theorem dk{X:Cx}{x:Str}{ps:List Str}{k:Nat}{ds:List V}{sp:Sp}{p pos:Pos}{e:Expr}{es:List Expr}{t:TA}(F:Fx X.prog X.w X.K X.mg X.base x ps k ds sp)(hr:yP k X.A)(hg:Gl X x)(ha:PA X (e::es) t)
  (hdb:(x == ("__debug__" : Str))=false:=by decide) (he:starEach (e::es) X.env=(false,eval e X.env)::starEach es X.env:=by rfl) (hpl:(backTo pos (starEach es X.env)).any (·.1)=false:=by rfl) :
  PE X (.Call (.Name x p) (e::es) [] pos) (lK sp [] E0 t):=by
 obtain⟨g,fd,its,hm,hk,hb,_,_,G⟩:=F.ex;exact kI G hr hg hm hk hb .nil pZ ha hdb he hpl
section
variable {X:Cx}
variable {x fn:Str} {i:Nat} {ps:List Str} {k:Nat} {ds:List V} {sp:Sp} {e:Expr} {es:List Expr} {ta:TA} {px pf cpos pos:Pos}
end
end L2
namespace Sp2
open PySem PySem.Spec L2 Mth Sp1
def nY(n:Int):List V->Bool
 | [.int a,.int b]=>i7 a b && (decide (0≤a) && decide (a≤n*b))
 | _=>false
def bf(n:Int)(H:Hp):V->Bool
 | .ref p=>match H p with
  | some (.tup xs)=>nY n xs
  | _=>false
 | _=>false
theorem i6{H:Hp}{x:V}(h:gq H x=true):∃p a b,x = .ref p∧H p=some (.tup [.int a,.int b])∧AI a b:=by
 unfold gq at h
 split at h
 ·split at h
  ·rename_i p _ xs e
   unfold jG at h
   split at h
   ·rename_i a b
    unfold i7 at h;rw[Bool.and_eq_true,decide_eq_true_eq,decide_eq_true_eq]at h;exact⟨p,a,b,rfl,e,h.1,h.2⟩
   ·cases h
  ·cases h
 ·cases h
theorem fQ{n:Int}{H:Hp}{p:Addr}{a b:Int}(e:H p=some (.tup [.int a,.int b])):bf n H (.ref p)=(i7 a b && (decide (0≤a) && decide (a≤n*b))):=by
 simp only[bf,e,nY]
theorem mn{H:Hp}{p:Addr}{a b:Int}(e:H p=some (.tup [.int a,.int b])):gq H (.ref p)=i7 a b:=by
 simp only[gq,e,jG]
theorem iW{n:Int}{H:Hp}{x:V}(h:gq H x=false):bf n H x=false:=by
 unfold bf
 split
 ·split
  ·rename_i p _ xs e
   unfold nY
   split
   ·rename_i a b
    rw[mn e]at h;rw[h,Bool.false_and]
   ·rfl
  ·rfl
 ·rfl
theorem mi{a b:Int}(h:AI a b):i7 a b=true:=by
 unfold i7;rw[decide_eq_true h.pos,decide_eq_true h.one];rfl
theorem fe{n:Int}{H:Hp}{p:Addr}{a b:Int}(e:H p=some (.tup [.int a,.int b]))(h:AI a b)(h0:0≤a)(h1:a≤n*b):bf n H (.ref p)=true:=by
 rw[fQ e,mi h,decide_eq_true h0,decide_eq_true h1];rfl
theorem nX{n:Int}{H:Hp}{x:V}(h:bf n H x=true):∃p a b,x = .ref p∧H p=some (.tup [.int a,.int b])∧AI a b∧0≤a∧a≤n*b:=by
 cases hl:gq H x with
 | false =>
  rw[iW hl]at h;cases h
 | true =>
  obtain⟨p,a,b,rfl,e,lw⟩:=i6 hl;rw[fQ e,mi lw,Bool.true_and,Bool.and_eq_true,decide_eq_true_eq,decide_eq_true_eq]at h;exact⟨p,a,b,rfl,e,lw,h.1,h.2⟩
inductive BE (vs:List V) (H:Hp) (Q:VK) (x_3:XK):Prop
 | mk:∀(p:Addr) (xs:List V),(vs = [.ref p])->(H p=some (.lst xs))->(Q (.int ((xs.length:Int) - 1)) H)->BE vs H Q x_3
inductive BG (vs:List V) (H:Hp) (Q:VK) (x_3:XK):Prop
 | mk:∀(p:Addr) (xs:List V) (x:V),(vs = [.ref p,x])->(H p=some (.lst xs))->(xs.length≤100)->(yT H x)->(Q (.bl (bf ((xs.length:Int) - 1) H x)) H)->BG vs H Q x_3
inductive Dp (C:Addr) (vs:List V) (H:Hp) (Q:VK) (E:XK):Prop
 | mk:∀(p:Addr) (xs:List V) (x:V),(vs = [.ref p,x])->(H p=some (.lst xs))->(xs.length≤100)->(yT H x)->((bf ((xs.length:Int) - 1) H x=false->E (.ref C) none H))->((bf ((xs.length:Int) - 1) H x=true->Q .non H))->Dp C vs H Q E
structure LineAt(H:Hp)(l:Addr)(qs:List (Addr×Int×Int)):Prop where
 lst:H l=some (.lst (qs.map fun q=>V.ref q.1))
 crn:∀q∈qs,H q.1=some (.tup [.int q.2.1,.int q.2.2])∧ao q.2.1≤50∧ao q.2.2≤50
theorem LineAt.mono{H H':Hp}{l:Addr}{qs:List (Addr×Int×Int)}(L:LineAt H l qs)(s:Same H H'):LineAt H' l qs:=⟨s _ _ L.lst,fun q h=>⟨s _ _ (L.crn q h).1,(L.crn q h).2⟩⟩
theorem vo{n:Int}(h0:-1000≤n)(h1:n≤1000):-(2^64)<n∧n<2^64:=by
 have e:(2:Int)^64=18446744073709551616:=by decide
 rw[e];omega
theorem wG{ns:List Int}{k:Int}(j:Nat)(e:k=(j:Int))(h:j<ns.length):atI (ns.map V.int) k=some (.int ns[j]):=by
 subst e;exact dh (by rw[List.getElem?_map,List.getElem?_eq_getElem h];rfl)
theorem jw{n:Int}(h0:-1000≤n)(h1:n≤1000):ao n≤10:=by
 refine fF (n:=10) ?_;show _<1024;omega
theorem xy{a b k:Int}(hb:0<b)(h:k*b≤a):k≤a / b:=(Int.le_ediv_iff_mul_le hb).mpr h
theorem xx{a b:Int}(hb:0<b)(h:0≤a):0≤a / b:=Int.ediv_nonneg h (by omega)
end Sp2
namespace L2
open PySem PySem.Spec PyProof.Rows
end L2
namespace L2
open PySem PySem.Spec PyProof.Rows
abbrev Cx.blk(X:Cx)(N':List Str)(scope:Scope)(cl:List (Str×Addr))(fp:List Addr)(s₀:Shared)(H₀:Hp):Cx :=
 { X with N:=N',s₀:=s₀,H₀:=H₀,env:=compEnvC scope cl s₀.heap.objs.size X.env,outer:=X.stack,ex:=fp,fn:=fun _=>false,pn:=[],xe:=fun _ _=>False }
theorem cw{α:Type}{y:Str}{c:α}:∀{l:List (Str×α)},l.lookup y=some c->(y,c)∈l
 | [],h=>by simp at h
 | (n,d)::r,h=>by
  rw[List.lookup_cons]at h;cases e:y == n with
  | true =>
   rw[e]at h;cases h;rw[beq_iff_eq.mp e];exact List.mem_cons_self
  | false =>
   rw[e]at h;exact List.mem_cons_of_mem _ (cw h)
structure BC(X:Cx)(scope:Scope)(cl:List (Str×Addr))(x:Str)(fv:List (Str×Nat)):Prop where
 clos:closureFor scope X.env=pure cl
 kind:scope.kind = .function
 cell:∀y∈scope.names,y.2≠.cell
 names:∀y∈scope.names,y.2 = .local->scope.names.lookup y.1=some .local
 own:scope.names.lookup x=some .local
 cells:∀p∈cl,X.env.cells.lookup p.1=some p.2
 has:((relabel scope X.env).names.all fun q=>!(q.2 == .cell || q.2 == .free) || (cl.lookup q.1).isSome)=true
 nd:(x::fv.map (·.1)).Nodup
 slot:∀p∈fv,X.N[p.2]? = some p.1∧X.env.kindOf p.1=some .cell∧Vis X.env.scope p.1∧(cl.lookup p.1).isSome=true∧((relabel scope X.env).names.lookup p.1=some .cell)
 stk:X.stack=X.env::X.outer∧X.env.frame=some X.env.locals
 noex:X.ex = []
def fvs(fv:List (Str×Nat))(σ:St):St:=fv.map fun p=>(σ[p.2]?).join
def wV(wi:TI)(fv:List (Str×Nat))(te:TE):TE:=fun σ H Q=>wi σ H fun J H1=>∀p,H1 p=none->∃W:Nat->Nat->List V->Hp->Prop,(∃m,W 0 m [] (upd H1 p (.lst [])))∧∀i m acc H2,W i m acc H2 ->
 H2 p=some (.lst acc)∧acc.length<sizeLine∧((J.stop i H2∧Q (.ref p) H2)∨(J.go i H2∧∀x H3,J.yld i H2 x H3->te (some x::fvs fv σ) H3 fun y H4=>H4 p=some (.lst acc)∧∃m',m'<m∧W (i+1) m' (acc++[y]) (upd H4 p (.lst (acc++[y])))))
section
variable {X:Cx} {scope:Scope} {cl:List (Str×Addr)} {x:Str} {fv:List (Str×Nat)} {elt iter:Expr} {px pos:Pos} {te:TE}
theorem wE{pins:List (Addr×Obj)}{σ:St}{H:Hp}{s:Shared}{fp:List Addr}(C:BC X scope cl x fv)(I:yd X pins σ H s)(hf:∀b∈fp,eC X pins H b)(ho:∀b∈fp,b<s.heap.objs.size):(X.blk (x::fv.map (·.1)) scope cl fp s H).Ok:=by
 have hcl:∀y c,cl.lookup y=some c->X.env.cells.lookup y=some c:=fun y c h=>C.cells _ (cw h);have old:∀b∈fp,X.s₀.heap.objs.size≤b:=fun b hb=>by
  rcases(hf b hb).2.2.2.1 with z|z
  ·rw[C.noex]at z
   cases z
  ·exact z
 refine⟨I.ok.mod,by show(relabel scope X.env).kind=_;exact C.kind,I.ok.glob,I.ok.blt,Nat.le_refl _,fun y z c h1 h2=>I.ok.inj y z c (hcl y c h1) (hcl z c h2),fun y hy=>?_,(fun y c h=>by cases h),I.ok.hd,I.ok.frames,.inl rfl,fun b hb=>?_,fun b o e=>I.bs b o e,Nat.le_trans I.ok.bsz I.sz,fun b o e hb=>?_,fun b hb hm=>?_,I.stack,I.stkFree⟩
 ·have q:=C.has
  rw[List.all_eq_true]at q;have hm:∃k,(y,k)∈(relabel scope X.env).names∧(k = .cell∨k = .free):=by
   rcases hy with hy|hy
   ·exact⟨_,cw hy,.inl rfl⟩
   ·exact⟨_,cw hy,.inr rfl⟩
  obtain⟨k,hk,hk2⟩:=hm;have q2:=q _ hk;have q3:(cl.lookup y).isSome=true:=by
   rcases hk2 with rfl|rfl
   ·simpa using q2
   ·simpa using q2
  exact Option.isSome_iff_exists.mp q3
 ·obtain⟨f0,f1,f2,f3,f4,f5⟩:=hf b hb
  refine⟨?_,fun y c h=>f4 y c (hcl y c h)⟩;exact Nat.ne_of_lt (ho b hb)
 ·have z:=Heap.lt_size e
  have z2:=old b hb;exact absurd (Nat.lt_of_lt_of_le z (Nat.le_trans I.ok.bsz z2)) (Nat.lt_irrefl _)
 ·obtain⟨f0,f1,f2,f3,f4,f5⟩:=hf b hb
  rcases List.mem_cons.mp (I.stkSub b hm) with z|z
  ·exact f1 z
  ·exact f2 z
theorem uR{pins:List (Addr×Obj)}{σ:St}{H:Hp}{s s4:Shared}{fp:List Addr}(C:BC X scope cl x fv)(I:yd X pins σ H s)(hf:∀b∈fp,eC X pins H b)(ho:∀b∈fp,b<s.heap.objs.size)
  (hs:s4.os=s.os∧s4.gens=s.gens) (ns:s4.heap.Ns s.heap.objs.size fun _=>none) (kp:∀b o,s.heap.get? b=some o->s4.heap.get? b=some o) :
  yd (X.blk (x::fv.map (·.1)) scope cl fp s H) [] (none::fvs fv σ) H s4:=by
 have hcl:∀y c,cl.lookup y=some c->X.env.cells.lookup y=some c:=fun y c h=>C.cells _ (cw h);refine⟨wE C I hf ho,hs.1,by rw[hs.2];exact I.bare,Un.kept kp,⟨_,ns,fun i y v e1 e2 e3=>?_⟩,fun y c h=>?_,I.hok.fresh (Nat.le_refl _),fun y c h=>I.freeC y c (hcl y c h),fun p hp=>by simp at hp,I.hok.kept kp,by simp[fvs]⟩
 ·cases i with
  | zero=>simp at e2
  | succ j =>
   have e1':(fv.map (·.1))[j]? = some y:=by simpa using e1
   have e2':(fvs fv σ)[j]? = some (some v):=by simpa using e2
   rw[List.getElem?_map]at e1';unfold fvs at e2';rw[List.getElem?_map]at e2';cases hq:fv[j]? with
   | none =>
    rw[hq]at e1';cases e1'
   | some q =>
    rw[hq]at e1' e2';have ey:q.1=y:=Option.some.inj e1';have ev:(σ[q.2]?).join=some v:=Option.some.inj e2';have hm:q∈fv:=List.mem_of_getElem? hq;obtain⟨s1,s2,s3,s4',s5⟩:=C.slot q hm;have ev2:σ[q.2]? = some (some v):=by
     cases hz:σ[q.2]? with
     | none =>
      rw[hz]at ev;cases ev
     | some z =>
      rw[hz]at ev;have ev':z=some v:=ev;rw[ev']
    obtain⟨m,hn,hl⟩:=I.loc;obtain⟨u,r,lk⟩:=hl q.2 q.1 v s1 ev2 s3;obtain⟨c,hc⟩:=Option.isSome_iff_exists.mp s4';refine⟨u,r,.inr ⟨.inl (by rw[<- ey];exact s5),c,by rw[<- ey];exact hc,?_⟩⟩;rcases lk with⟨k,_⟩|⟨_,c',hc',z⟩
    ·rw[s2]at k
     cases k
    ·rw[hcl _ _ hc]at hc'
     cases hc';obtain⟨o,ho',hd⟩:=z;exact⟨o,kp _ _ ho',hd⟩
 ·obtain⟨v,o,ho',hd⟩:=I.cell y c (hcl y c h)
  exact⟨v,o,kp _ _ ho',hd⟩
theorem uP{pins:List (Addr×Obj)}{σ:St}{H2:Hp}{s2:Shared}{it:Addr}{fp:List Addr}{tn:Nat->Heap->Prop}{J:It}{RR:Value->Addr->Result->Shared->Prop}{E:Value->Shared->Prop}{Qf:V->Hp->Prop}
  (hcalm:X.calm=true) (C:BC X scope cl x fv) (I2:yd X pins σ H2 s2) (T:CU X.prog X.w X.K (.Name x px) J fp it tn) (st:tn 0 s2.heap) (f2:∀b∈fp,eC X pins H2 b)
  (rd:∀p,H2 p=none->∃W:Nat->Nat->List V->Hp->Prop,(∃m,W 0 m [] (upd H2 p (.lst [])))∧∀i m acc H2,W i m acc H2 ->
   H2 p=some (.lst acc)∧acc.length<sizeLine∧((J.stop i H2∧Qf (.ref p) H2)∨(J.go i H2∧∀x H3,J.yld i H2 x H3->te (some x::fvs fv σ) H3 fun y H4=>H4 p=some (.lst acc)∧∃m',m'<m∧W (i+1) m' (acc++[y]) (upd H4 p (.lst (acc++[y]))))))
  (he:∀(s₀:Shared) (H₀:Hp),PE (X.blk (x::fv.map (·.1)) scope cl fp s₀ H₀) elt te)
  (hRR:∀(p C:Addr) (H':Hp) (s':Shared),(∃m,s'.heap.Ns C m)->C≠X.env.locals->H' C=none->X.s₀.heap.objs.size≤C->(∀y c,X.env.cells.lookup y=some c->c≠C)->(∀q∈X.pn++pins,q.1≠C)->yd X pins σ H' s'->Qf (.ref p) H'->RR (.ref p) C (.ok .next) s') :
  wpAny (model X.prog X.w) X.A (newList []) (fun acc s₃=>wpAny (model X.prog X.w) X.A (newFunctionEnv scope X.env.globals cl [] X.env.qual none .none (some X.env)) (fun cenv s₄ =>
   codeAny (model X.prog X.w) X.A (.compStart (.ListComp elt [⟨.Name x px,iter,[],0⟩] scope pos) 0 (.ref it) acc { cenv with scope:=relabel scope X.env }) (RR acc cenv.locals) s₄) E s₃) E s2:=by
 refine wpAny_newObj_type ?_;have hfresh:=I2.fresh;have I3:yd X pins σ (upd H2 s2.heap.objs.size (.lst [])) { s2 with heap:=s2.heap.push { cls:=.type "list",data:=.seq ([]:List Value).toArray } } :=
  I2.laid (t':=s2.toks) (fun b u q=>Heap.get?_push_of_some _ q) (Nat.le_refl _) ⟨Nat.zero_le _,[],0,.nil,Heap.get?_push_size _ rfl⟩
 generalize hs3:({ s2 with heap:=s2.heap.push { cls:=.type "list",data:=.seq ([]:List Value).toArray } }:Shared)=s3 at I3 ⊢;have hp3:s2.heap.objs.size<s3.heap.objs.size:=by rw[<- hs3];exact Nat.lt_of_lt_of_le (Nat.lt_succ_self _) (Nat.le_of_eq (Heap.size_push _ _).symm)
 have k23:∀b o,s2.heap.get? b=some o->s3.heap.get? b=some o:=fun b o e=>by rw[<- hs3];exact Heap.get?_push_of_some _ e
 have fpo:∀b∈fp,b<s2.heap.objs.size:=fun b hb=>by
  obtain⟨o,e,_⟩:=T.obj 0 _ st b hb;exact Heap.lt_size e
 have f3:∀b∈fp,eC X pins (upd H2 s2.heap.objs.size (.lst [])) b:=fun b hb=>⟨by rw[aN (Nat.ne_of_lt (fpo b hb))];exact(f2 b hb).1,(f2 b hb).2⟩;refine wpAny_newFunctionEnv C.cell (by intro y hy;simp at hy) (fun h1 hns1 hsb1=>?_) C.kind;have kp:∀b o,s3.heap.get? b=some o->h1.get? b=some o:=fun b o e=>(hsb1.2 b (Nat.ne_of_lt (Heap.lt_size e))).trans (Heap.get?_push_of_some _ e);have I4:=uR (s4:={ s3 with heap:=h1,toks:=s3.toks+([]:List (Str×Value)).length }) C I3 f3 (fun b hb=>Nat.lt_trans (fpo b hb) hp3) ⟨rfl,rfl⟩ hns1 kp;have st4:tn 0 h1:=T.keep 0 _ _ st fun b _ o e=>kp b o (k23 b o e);obtain⟨W,⟨m0,w0⟩,step⟩:=rd _ hfresh;have loop:codeAny (model X.prog X.w) X.A (.compLoop (.ListComp elt [⟨.Name x px,iter,[],0⟩] scope pos) 0 (.ref it) (.ref s2.heap.objs.size) (compEnvC scope cl s3.heap.objs.size X.env)) (RR (.ref s2.heap.objs.size) s3.heap.objs.size)
   { s3 with heap:=h1,toks:=s3.toks+([]:List (Str×Value)).length }:=by
  refine codeAny_compLoop_list (fun n s=>∃i acc σv H',yd (X.blk (x::fv.map (·.1)) scope cl fp s3 (upd H2 s2.heap.objs.size (.lst []))) [] (σv::fvs fv σ) H' s∧tn i s.heap∧(∀b∈fp,H' b=none)∧W i n acc H') ?_ m0 ⟨0,[],none,_,I4,st4,fun b hb=>(f3 b hb).1,w0⟩;rintro n s ⟨i,acc,σv,H',I',st',fr',w'⟩;obtain⟨hp,hlen,alt⟩:=step i n acc H' w';have fpk:∀{H5:Hp},(∀b∈fp,H5 b=none)->∀b∈fp,eC (X.blk (x::fv.map (·.1)) scope cl fp s3 (upd H2 s2.heap.objs.size (.lst []))) [] H5 b:=fun h5 b hb =>
   ⟨h5 b hb,(I'.ok.exf b hb).1,I'.ok.exfs b hb,.inl hb,fun y c e=>(I'.ok.exf b hb).2 y c e,fun q hq=>by simp at hq⟩
  rcases alt with⟨stop,qf⟩|⟨go,turn⟩
  ·refine wpAny_mono (T.done (X.blk (x::fv.map (·.1)) scope cl fp s3 (upd H2 s2.heap.objs.size (.lst []))) rfl rfl rfl hcalm i [] s _ H' (fun _ _=>False) I' (fpk fr') st' stop) (fun r s5 ⟨hr,I5⟩=>?_) fun _ _ z=>False.elim z
   subst hr;refine hRR _ _ H' s5 (let ⟨m,hn,_⟩:=I5.loc;⟨m,hn⟩) (Nat.ne_of_gt I3.lt) I5.free I3.sz (fun y c e=>?_) (fun q hq=>?_) ?_ qf
   ·obtain⟨v,z⟩:=I3.cell y c e
    exact Nat.ne_of_lt z.lt
   ·exact Nat.ne_of_lt (Heap.lt_size (I3.pin q hq).1)
   ·exact I3.call' (s':=s5) (ch:=fp) I5.os I5.base I5.hok I5.bare fun b hb=>⟨(f2 b hb).2.2.2.1,(f2 b hb).2.1,(f2 b hb).2.2.2.2.1,(f2 b hb).2.2.2.2.2⟩
  ·refine wpAny_mono (T.item (X.blk (x::fv.map (·.1)) scope cl fp s3 (upd H2 s2.heap.objs.size (.lst []))) rfl rfl rfl hcalm i [] s _ H' (fun _ _=>False) I' (fpk fr') st' go) (fun r s5 ⟨u,hr,h5⟩=>?_) fun _ _ z=>False.elim z
   subst hr;have e5:assign (.Name x px) (compEnvC scope cl s3.heap.objs.size X.env) u=(letOwnedTupleGo (.Name x px) (.ref it) u >>= fun _=>assign (.Name x px) (compEnvC scope cl s3.heap.objs.size X.env) u):=by
    rw[show letOwnedTupleGo (.Name x px) (.ref it) u=pure () from rfl];rfl
   show wpAny _ _ (assign (.Name x px) (compEnvC scope cl s3.heap.objs.size X.env) u) _ _ _;rw[e5];refine wpAny_bind (wpAny_mono h5 (fun _ s6 ⟨y,H6,I6,r6,y6,st6,fr6⟩=>?_) fun _ _ z=>False.elim z);have I6':=I6.pinned (fpk fr6) (T.obj _ _ st6);have lx:(relabel scope X.env).names.lookup x=some .local:=lookup_relabel_local C.own;refine wpAny_mono (aP (X:=X.blk (x::fv.map (·.1)) scope cl fp s3 (upd H2 s2.heap.objs.size (.lst []))) (i:=0) C.nd rfl (.inl lx) (.inr lx) _ s6 _ H6 y u (fun σ7 H7=>σ7=some y::fvs fv σ∧H7=H6) I6' r6 ⟨rfl,rfl⟩) (fun _ s7 ⟨σ7,H7,I7,e7,e7'⟩=>?_) fun _ _ z=>False.elim z;subst e7 e7';refine wpAny_mono (he s3 _ _ s7 _ _ _ I7 (turn y _ y6)) (fun v8 s8 ⟨y8,H8,I8,r8,q8,m',hm',w8⟩=>?_) fun _ _ z=>False.elim z;refine wpAny_mono (gN (X:=X.blk (x::fv.map (·.1)) scope cl fp s3 (upd H2 s2.heap.objs.size (.lst []))) _ s8 _ H8 (.ref s2.heap.objs.size) [y8] (.ref s2.heap.objs.size) [v8] (fun _ H9=>H9=upd H8 s2.heap.objs.size (.lst (acc++[y8]))) I8 rfl (.cons r8 .nil) ⟨_,acc,y8,rfl,rfl,q8,hlen,rfl⟩) (fun _ s9 ⟨_,H9,I9,_,e9⟩=>?_) fun _ _ z=>False.elim z;subst e9;refine⟨m',hm',i+1,acc++[y8],some y,_,I9.unpinned,T.keep _ _ _ st6 fun b hb o e=>(I9.pin (b,o) (List.mem_append_right _ (List.mem_append_right _ (da hb e)))).1,fun b hb=>?_,w8⟩;obtain⟨o,e,d⟩:=T.obj _ _ st6 b hb;exact(I9.pin (b,o) (List.mem_append_right _ (List.mem_append_right _ (da hb e)))).2.1
 exact codeAny_compStart_list loop (T.self _ 0 _ _ _ st4 loop)
theorem tX{wi:TI}(hcalm:X.calm=true)(C:BC X scope cl x fv)(hi:PI X (.Name x px) iter wi)(he:∀(fp:List Addr) (s₀:Shared) (H₀:Hp),PE (X.blk (x::fv.map (·.1)) scope cl fp s₀ H₀) elt te)
  (hs:∀v,foldedSetIterable iter X.env v=pure v:=by intro _;rfl):PE X (.ListComp elt [⟨.Name x px,iter,[],0⟩] scope pos) (wV wi fv te):=by
 intro pins s σ H Q I h;rw[eval_ListComp];refine wpAny_comprehension_free (use:=none) rfl hs C.clos C.kind C.names (wpAny_mono (hi pins s σ H _ I h) (fun v s1 h1=>wpAny_mono h1 (fun itv s2 h2=>?_) fun _ _ z=>z) fun _ _ z=>z);obtain⟨it,fp,tn,J,H2,rfl,I2,T,st2,f2,rd⟩:=h2;refine uP (Qf:=Q) hcalm C I2 T st2 f2 rd (he fp) fun p D H' s' ns nL nH n0 nC nP I8 q=>?_;obtain⟨m,hn⟩:=ns;exact⟨m,hn,fun h'' sb=>⟨.ref p,H',I8.turned (t':=s'.toks) (fun b o hb e=>(sb.2 b hb).trans e) nH nL (.inr n0) nC nP,rfl,q⟩⟩
end
end L2
namespace L2
open PySem PySem.Spec PyProof.Rows
theorem oC{n:Nat}{lo:Int}{fv:List (Str×Nat)}{te:TE}{σ:St}{H1:Hp}{Qp:Hp->Prop}{l:Addr}(Pv:Nat->List V->Hp->Prop)(h0:Pv 0 [] (upd H1 l (.lst [])))(hp:∀i acc H2,i≤n->Pv i acc H2->H2 l=some (.lst acc)∧acc.length<sizeLine)
  (hs:∀i acc H2 (K:VK),i<n->Pv i acc H2->(∀y H4,H4 l=some (.lst acc)->Pv (i+1) (acc++[y]) (upd H4 l (.lst (acc++[y])))->K y H4)->te (some (.int (lo+i))::fvs fv σ) H2 K) (hd:∀acc H2,Pv n acc H2->Qp H2) :
  ∃W:Nat->Nat->List V->Hp->Prop,(∃m,W 0 m [] (upd H1 l (.lst [])))∧∀i m acc H2,W i m acc H2 ->
   H2 l=some (.lst acc)∧acc.length<sizeLine∧(((Itr lo n).stop i H2∧Qp H2)∨((Itr lo n).go i H2∧∀x H3,(Itr lo n).yld i H2 x H3->te (some x::fvs fv σ) H3 fun y H4=>H4 l=some (.lst acc)∧∃m',m'<m∧W (i+1) m' (acc++[y]) (upd H4 l (.lst (acc++[y]))))):=by
 refine⟨fun i m acc H2=>m=n - i∧i≤n∧Pv i acc H2,⟨n,by simp,Nat.zero_le _,h0⟩,?_⟩;rintro i m acc H2 ⟨rfl,hi,p⟩;refine⟨(hp i acc H2 hi p).1,(hp i acc H2 hi p).2,?_⟩
 by_cases hlt:i<n
 ·refine .inr ⟨hlt,fun x H3 y=>?_⟩
  obtain⟨e1,e2⟩:=y;subst e1 e2;exact hs i acc _ _ hlt p fun y H4 z1 z2=>⟨z1,n - (i+1),by omega,rfl,hlt,z2⟩
 ·have e:i=n:=by omega
  subst e;exact .inl ⟨Nat.le_refl _,hd acc H2 p⟩
def rg(s:Stmt):Scope:=match s with
 | .Assign _ (.ListComp _ _ sc _) _=>sc
 | _=>{ kind:=.function,names:=[],isGenerator:=false,isCoroutine:=false }
end L2
namespace L2
open PySem PySem.Spec PyProof.Rows
theorem mw{X:Cx}{K:W.Frag}(h:X.K=K):IxR X (Ej K):=h▸aQ
theorem kQ{X:Cx}{K:W.Frag}(h:X.K=K):IxR X (Es K):=h▸ah
end L2
namespace L2
open PySem PySem.Spec PyProof.Rows
theorem qI{K:W.Frag}{a:Addr}{xs:List V}{fv:List (Str×Nat)}{te:TE}{σ:St}{H1:Hp}{Qp:Hp->Prop}{l:Addr}(Pv:Nat->List V->Hp->Prop)(h0:Pv 0 [] (upd H1 l (.lst [])))(hp:∀i acc H2,i≤xs.length->Pv i acc H2->SqL K H2 a xs∧H2 l=some (.lst acc)∧acc.length<sizeLine)
  (hs:∀i x acc H2 (Kc:VK),xs[i]? = some x->Pv i acc H2->(∀y H4,H4 l=some (.lst acc)->Pv (i+1) (acc++[y]) (upd H4 l (.lst (acc++[y])))->Kc y H4)->te (some x::fvs fv σ) H2 Kc) (hd:∀acc H2,Pv xs.length acc H2->Qp H2) :
  ∃W:Nat->Nat->List V->Hp->Prop,(∃m,W 0 m [] (upd H1 l (.lst [])))∧∀i m acc H2,W i m acc H2 ->
   H2 l=some (.lst acc)∧acc.length<sizeLine∧(((Itl K a).stop i H2∧Qp H2)∨((Itl K a).go i H2∧∀x H3,(Itl K a).yld i H2 x H3->te (some x::fvs fv σ) H3 fun y H4=>H4 l=some (.lst acc)∧∃m',m'<m∧W (i+1) m' (acc++[y]) (upd H4 l (.lst (acc++[y]))))):=by
 refine⟨fun i m acc H2=>m=xs.length - i∧i≤xs.length∧Pv i acc H2,⟨xs.length,by simp,Nat.zero_le _,h0⟩,?_⟩;rintro i m acc H2 ⟨rfl,hi,p⟩;obtain⟨q1,q2,q3⟩:=hp i acc H2 hi p;refine⟨q2,q3,?_⟩
 by_cases hlt:i<xs.length
 ·refine .inr ⟨⟨xs,xs[i],q1,List.getElem?_eq_getElem hlt⟩,fun x H3 y=>?_⟩
  obtain⟨e1,e2⟩:=y;subst e1;exact hs i x acc _ _ (e2 xs q1) p fun y H4 z1 z2=>⟨z1,xs.length - (i+1),by omega,rfl,hlt,z2⟩
 ·have e:i=xs.length:=by omega
  subst e;exact .inl ⟨⟨xs,q1,Nat.le_refl _⟩,hd acc H2 p⟩
end L2
namespace L2
open PySem PySem.Spec PyProof.Rows
theorem oK{xs:List V}{us:List Value}{j:Nat}(r:aR xs us)(h:j<us.length):∃a,xs[j]? = some a∧aT a us[j]:=by
 have hl:=r.length;have hj:j<xs.length:=by omega
 obtain⟨u,e,q⟩:=r.get (i:=j) (x:=xs[j]) (List.getElem?_eq_getElem hj);rw[List.getElem?_eq_getElem h]at e;cases e;exact⟨xs[j],List.getElem?_eq_getElem hj,q⟩
section
variable {X:Cx} {pins:List (Addr×Obj)} {σ:St} {H:Hp} {s:Shared}
end
end L2
namespace L2
open PySem
theorem yP.units10{k:Nat}{A:Around}(r:yP k A):A.units+10<cLine:=by have:=r.un;omega
end L2
namespace L2
open PySem PySem.Spec PyProof.Rows
end L2
namespace Sp3
open PySem PySem.Spec L2 Mth Sp1 Sp2
end Sp3
namespace Sp3
open PySem PySem.Spec L2 Mth Sp1 Sp2
abbrev Crn:=List (Addr×Int×Int)
end Sp3
namespace PySem
open Sem (wp)
section
variable {prog:Program} {w:World} {A:Around} {E:Value->Shared->Prop} {h:Heap} {g:Array GenState} {d:Drawn} {t:Nat} {os:OsState} {a:Addr} {o:Obj}
 {nm q:Str} {C N:Addr} {bs bm:List Value} {hdct:Bool} {sn:List Str} {sub:List Value} {ab:Bool} {col:Option Bool} {dd:Option Addr} {k0 k1 k2 k3 k5:Option Value} {newId:String}
end
end PySem
namespace L2
open PySem PySem.Spec PyProof.Rows
section
variable {X:Cx}
end
section
variable {X:Cx} {pins:List (Addr×Obj)} {σ:St} {H:Hp} {s:Shared}
theorem yd.track{a:Addr}{o:HO}(I:yd X pins σ H s)(hn:H a=none)(h0:X.s₀.heap.get? a=none)(hl:a≠X.env.locals)(hc:∀x c,X.env.cells.lookup x=some c->c≠a)(hp:∀p∈X.pn++pins,p.1≠a)
  (ho:bH X.prog X.w (upd H a o) s.heap a o):yd X pins σ (upd H a o) s where
 ok:=I.ok
 os:=I.os
 bare:=I.bare
 base:={
  keep:=I.base.keep
  slot:=I.base.slot
  free:=fun b ob e n hx=>by
   rw[aN (fun z=>by subst z;rw[h0]at e;cases e)];exact I.base.free b ob e n hx
  there:=I.base.there
  tups:=fun b xs q=>by
   have z:=I.base.tups b xs q;rw[aN (aE z hn)];exact z
  frzs:=fun b ob u q=>by
   have z:=I.base.frzs b ob u q;rw[aN (aE z hn)];exact z
  tbls:=fun b ps q=>by
   obtain⟨m,z⟩:=I.base.tbls b ps q;exact⟨m,by rw[aN (aE z hn)];exact z⟩ }
 loc:=I.loc
 cell:=I.cell
 free:=by rw[aN (Ne.symm hl)];exact I.free
 freeC:=fun x c e=>by rw[aN (hc x c e)];exact I.freeC x c e
 pin:=fun p m=>by
  obtain⟨p1,p2,p3⟩:=I.pin p m;exact⟨p1,by rw[aN (hp p m)];exact p2,p3⟩
 hok:=fun b u q=>by
  by_cases hb:b=a
  ·subst hb
   rw[upd_same]at q;cases q;exact ho
  ·rw[aN hb]at q
   exact(I.hok b u q).stay (fun _ _ _ r=>r) (fun c r=>by rw[aN (aE r hn)];exact r) fun c xs r=>by rw[aN (aE r hn)];exact r
 len:=I.len
end
section
variable {X:Cx}
end
end L2
namespace Sp8
open PySem PySem.Spec L2 Mth Sp1 Sp2 Sp3
end Sp8
namespace L2
open PySem PySem.Spec PyProof.Rows
theorem SqT.mod{K:W.Frag}{H:Hp}{a:Addr}{oc:Value}{od:Option Addr}{its:Array Value}{n:Nat}{sl:Array (Option Value)}{xs:List V}(hk:K.lookup a=some ⟨oc,od,.seq its n,sl⟩)(hc:oc = .type "tuple")(hz:its.size≤100)(r:aR xs its.toList):SqT K H a xs :=
 .inr ⟨_,its,n,hk,hc,rfl,Nat.le_of_lt (bZ (by omega)),r⟩
end L2
namespace Sp24
open PySem PySem.Spec L2 Mth Sp1 Sp2 Sp3 Sp8
def sg(n:Int):Int:=if n>0 then 1 else if n<0 then -1 else 0
inductive Dm (vs:List V) (H:Hp) (Q:VK) (x_3:XK):Prop
 | mk:∀n:Int,(vs = [.int n])->(Q (.int (sg n)) H)->Dm vs H Q x_3
structure Cn(H:Hp)(p:Addr)(x y:Int):Prop where
 at_:H p=some (.tup [.int x,.int y])
 bx:ao x≤50
 by_:ao y≤50
def lo(x y x' y' a b:Int):Int:=sg (a - ((x' - x)*(x' - x)+(y' - y)*(y' - y))*b)
def sqV(H:Hp):V->Bool
 | .ref p=>match H p with
  | some (.tup [.int a,.int b])=>i7 a b && !decide (a<0)
  | _=>false
 | _=>false
inductive CO (C:Addr) (vs:List V) (H:Hp) (Q:VK) (E:XK):Prop
 | mk:∀x,(vs = [x])->(yT H x)->((sqV H x=false->E (.ref C) none H))->((sqV H x=true->Q .non H))->CO C vs H Q E
theorem tJ{H:Hp}{x:V}(h:gq H x=false):sqV H x=false:=by
 unfold sqV
 split
 ·split
  ·rename_i p _ a b e
   rw[mn e]at h;rw[h,Bool.false_and]
  ·rfl
 ·rfl
theorem oS{H:Hp}{p:Addr}{a b:Int}(e:H p=some (.tup [.int a,.int b])):sqV H (.ref p)=(i7 a b && !decide (a<0)):=by
 simp only[sqV,e]
end Sp24
namespace L2
open PySem PySem.Spec PyProof.Rows
end L2
namespace Sp7
open PySem PySem.Spec L2 Mth Sp1 Sp2 Sp3
def gu:Int:=999999999999
def Sm(x:Int):Prop:=-gu≤x∧x≤gu
structure yi(H:Hp)(l:Addr)(qs:Crn):Prop where
 lst:H l=some (.lst (qs.map fun q=>V.ref q.1))
 crn:∀q∈qs,H q.1=some (.tup [.int q.2.1,.int q.2.2])∧Sm q.2.1∧Sm q.2.2
theorem yi.mono{H H':Hp}{l:Addr}{qs:Crn}(L:yi H l qs)(s:Same H H'):yi H' l qs:=⟨s _ _ L.lst,fun q h=>⟨s _ _ (L.crn q h).1,(L.crn q h).2⟩⟩
theorem eY{x:Int}(h:Sm x):ao x≤50:=by
 obtain⟨a,b⟩:=h;unfold gu at a b;refine fF (n:=50) ?_;show _<1125899906842624;omega
def retScope(s:Stmt):Scope:=match s with
 | .Return (some (.Call _ [.ListComp _ _ sc _] _ _)) _=>sc
 | .Return (some (.ListComp _ _ sc _)) _=>sc
 | _=>{ kind:=.function,names:=[],isGenerator:=false,isCoroutine:=false }
end Sp7
namespace L2
open PySem PySem.Spec PyProof.Rows
theorem bits_add2{i j:Int}{m n:Nat}(hi:ao i≤m)(hj:ao j≤n):ao (i+j)≤max m n+1:=ce (ap hi (Nat.le_max_left _ _)) (ap hj (Nat.le_max_right _ _))
theorem ej{p:Prop}[Decidable p](h:decide p=true):p:=of_decide_eq_true h
theorem dS{p:Prop}[Decidable p](h:decide p=false):¬p:=of_decide_eq_false h
theorem CM.of{i j:Int}{m n:Nat}(hi:ao i≤m)(hj:ao j≤n)(h:m≤1000000∧n≤1000000):CM i j:=CM.b hi hj (by have:(2:Nat)^20=1048576:=(by decide);omega) (by have:(2:Nat)^20=1048576:=(by decide);omega)
end L2
namespace L2
open PySem PySem.Spec PyProof.Rows
def SameT(H H':Hp):Prop:=∀b xs,H b=some (.tup xs)->H' b=some (.tup xs)
theorem Same.t{H H':Hp}(s:Same H H'):SameT H H':=fun b xs e=>s b _ e
theorem SameT.refl{H:Hp}:SameT H H:=fun _ _ e=>e
theorem SameT.trans{H H1 H2:Hp}(a:SameT H H1)(b:SameT H1 H2):SameT H H2:=fun c xs e=>b c xs (a c xs e)
theorem SameT.upd{H:Hp}{l:Addr}{xs ys:List V}(hl:H l=some (.lst xs)):SameT H (upd H l (.lst ys)):=fun b zs e=>by
 rw[aN (rQ e hl (by intro z;cases z))];exact e
theorem Same.upd{H0 H:Hp}{l:Addr}{o:HO}(s:Same H0 H)(hl:H0 l=none):Same H0 (upd H l o):=fun b u e=>by
 rw[aN (aE e hl)];exact s b u e
def oI(J:It)(fv:List (Str×Nat))(te:TE)(σ:St)(H1:Hp)(Q:VK):Prop:=∀p,H1 p=none->∃W:Nat->Nat->List V->Hp->Prop,(∃m,W 0 m [] (upd H1 p (.lst [])))∧∀i m acc H2,W i m acc H2 ->
 H2 p=some (.lst acc)∧acc.length<sizeLine∧((J.stop i H2∧Q (.ref p) H2)∨(J.go i H2∧∀x H3,J.yld i H2 x H3->te (some x::fvs fv σ) H3 fun y H4=>H4 p=some (.lst acc)∧∃m',m'<m∧W (i+1) m' (acc++[y]) (upd H4 p (.lst (acc++[y])))))
def vC(wi:TI)(fv:List (Str×Nat))(te:TE):TE:=fun σ H Q=>wi σ H fun J H1=>oI J fv te σ H1 Q
section
variable {X:Cx} {scope:Scope} {cl:List (Str×Addr)} {x:Str} {fv:List (Str×Nat)} {elt iter:Expr} {px pos:Pos} {te:TE}
theorem gi{wi:TI}(hcalm:X.calm=true)(C:BC X scope cl x fv)(hi:PI X (.Name x px) iter wi)(he:∀(fp:List Addr) (s₀:Shared) (H₀:Hp),PE (X.blk (x::fv.map (·.1)) scope cl fp s₀ H₀) elt te)
  (hs:∀v,foldedSetIterable iter X.env v=pure v:=by intro _;rfl):PE X (.ListComp elt [⟨.Name x px,iter,[],0⟩] scope pos) (vC wi fv te):=tX hcalm C hi he hs
end
theorem oD{K:W.Frag}{a:Addr}{xs:List V}{fv:List (Str×Nat)}{te:TE}{σ:St}{H1:Hp}{Q:VK}(hL:SqL K H1 a xs)(hlen:xs.length<1000)(R:Nat->V->Hp->Prop)(hR:∀i v H H',SameT H H'->R i v H->R i v H')
  (hs:∀i x H2 (Kc:VK),xs[i]? = some x->Same H1 H2->(∀y H4,Same H2 H4->R i y H4->Kc y H4)->te (some x::fvs fv σ) H2 Kc)
  (hd:∀l ys H',H1 l=none->Same H1 H'->H' l=some (.lst ys)->ys.length=xs.length->(∀i y,ys[i]? = some y->R i y H')->Q (.ref l) H') :
  oI (Itl K a) fv te σ H1 Q:=by
 intro l hl;refine qI (K:=K) (a:=a) (xs:=xs) (l:=l) (fv:=fv) (Qp:=fun H2=>Q (.ref l) H2) (fun i acc H2=>acc.length=i∧Same H1 H2∧H2 l=some (.lst acc)∧∀j y,acc[j]? = some y->R j y H2)
  ⟨rfl,Same.new hl,upd_same,fun j y h=>by simp at h⟩ ?_ ?_ ?_
 ·rintro i acc H2 hi ⟨e1,sm,e3,_⟩
  exact⟨sm.seq hL,e3,bZ (by omega)⟩
 ·rintro i x acc H2 Kc hx ⟨e1,sm,e3,hr⟩ kk
  refine hs i x H2 Kc hx sm fun y H4 s4 ry=>kk y H4 (s4 _ _ e3) ⟨by simp[e1],(sm.trans s4).upd hl,upd_same,fun j z hz=>?_⟩;have t4:=SameT.upd (ys:=acc++[y]) (s4 _ _ e3);rcases Nat.lt_trichotomy j acc.length with h|h|h
  ·rw[List.getElem?_append_left h]at hz
   exact hR _ _ _ _ (s4.t.trans t4) (hr j z hz)
  ·subst h
   rw[List.getElem?_append_right (Nat.le_refl _),Nat.sub_self]at hz;cases hz;rw[e1];exact hR _ _ _ _ t4 ry
  ·rw[List.getElem?_eq_none (by simp;omega)]at hz
   cases hz
 ·rintro acc H2 ⟨e1,sm,e3,hr⟩
  exact hd l acc H2 hl sm e3 e1 hr
theorem nice_int:oF "int":=.inl rfl
theorem nice_bool:oF "bool":=.inr (.inl rfl)
theorem nice_tuple:oF "tuple":=.inr (.inr (.inl rfl))
theorem nice_list:oF "list":=.inr (.inr (.inr (.inl rfl)))
theorem nice_str:oF "str":=.inr (.inr (.inr (.inr rfl)))
end L2
namespace L2
open PySem PySem.Spec PyProof.Rows
section
variable {X:Cx} {pos:Pos} {es:List Expr} {ta:TA}
inductive ES (f:List V->HO) (xs:List V) (H1:Hp) (Q:VK):Prop
 | mk (z:xs.length≤sizeLine) (q:∀p H2,Same H1 H2->H2 p=some (f xs)->H1 p=none->Q (.ref p) H2):ES f xs H1 Q
def wN(t:TA):TE:=fun σ H Q=>t σ H fun xs H1=>ES .tup xs H1 Q
def u7(t:TA):TE:=fun σ H Q=>t σ H fun xs H1=>ES .lst xs H1 Q
theorem aG{x1}(h:PA X es ta):PE X (.Tuple es x1 pos) (wN ta):=by
 intro pins s σ H Q I hq;refine wpAny_Tuple_spliced (thn (h pos pins s σ H _ I hq) fun us s1 ⟨xs,H1,I1,r,z,q⟩=>⟨by rw[<- r.length];exact z,?_⟩);have hf:H1 s1.heap.objs.size=none:=I1.hok.fresh (Nat.le_refl _);refine⟨.ref s1.heap.objs.size,upd H1 s1.heap.objs.size (.tup xs),I1.laid (t':=s1.toks) (fun b u e=>Heap.get?_push_of_some _ e) (Nat.le_refl _) ?_,rfl,q _ _ (Same.new hf) upd_same hf⟩;exact⟨z,us,r,⟨_,Heap.get?_push_size _ rfl,rfl,_,rfl⟩⟩
theorem bE(h:PA X es ta):PE X (.List es pos) (u7 ta):=by
 intro pins s σ H Q I hq;refine wpAny_List_spliced (thn (h pos pins s σ H _ I hq) fun us s1 ⟨xs,H1,I1,r,z,q⟩=>⟨by rw[<- r.length];exact z,?_⟩);have hf:H1 s1.heap.objs.size=none:=I1.hok.fresh (Nat.le_refl _);refine⟨.ref s1.heap.objs.size,upd H1 s1.heap.objs.size (.lst xs),I1.laid (t':=s1.toks) (fun b u e=>Heap.get?_push_of_some _ e) (Nat.le_refl _) ?_,rfl,q _ _ (Same.new hf) upd_same hf⟩;exact⟨z,us,0,r,Heap.get?_push_size _ rfl⟩
inductive EA (K:W.Frag) (x:V) (lo:Option Int) (hi:Option Int) (H:Hp) (Q:VK):Prop
 | mk:∀a xs,(x = .ref a)->(SqL K H a xs)->(∀p H2,Same H H2->H2 p=some (.lst (js xs lo hi))->H p=none->Q (.ref p) H2)->EA K x lo hi H Q
theorem iS:SlR X (EA X.K):=fun pins s σ H x v vl vu lo hi sl Q I rx hs pl pu ⟨a,xs,e,hx,q⟩ =>
 tK pins s σ H x v vl vu lo hi sl Q I rx hs pl pu ⟨a,xs,e,hx,fun p hp=>q p _ (Same.new hp) upd_same hp⟩
theorem cL:gG X (.type "list") (fun xs H Q=>∃p ys,xs = [.ref p]∧(SqL X.K H p ys∨SqT X.K H p ys)∧∀l H2,Same H H2->H2 l=some (.lst ys)->H l=none->Q (.ref l) H2):=fun pins s σ H xs us Q I r ⟨p,ys,e,hq,q⟩ =>
 li pins s σ H xs us Q I r ⟨p,ys,e,hq,fun l hl=>q l _ (Same.new hl) upd_same hl⟩
structure Ce(H H':Hp)(l:Addr)(xs ys:List V):Prop where
 was:H l=some (.lst xs)
 now:H' l=some (.lst ys)
 oth:∀b,b≠l->H' b=H b
theorem Ce.mk'{H:Hp}{l:Addr}{xs ys:List V}(h:H l=some (.lst xs)):Ce H (L2.upd H l (.lst ys)) l xs ys:=⟨h,upd_same,fun _ n=>aN n⟩
theorem Ce.t{H H':Hp}{l:Addr}{xs ys:List V}(u:Ce H H' l xs ys):SameT H H':=fun b zs e=>by
 rw[u.oth b (rQ e u.was (by intro z;cases z))];exact e
theorem Ce.same{H0 H H':Hp}{l:Addr}{xs ys:List V}(u:Ce H H' l xs ys)(s:Same H0 H)(h:H0 l=none):Same H0 H':=fun b o e=>by
 rw[u.oth b (aE e h)];exact s b o e
theorem Ce.at{H H':Hp}{l b:Addr}{xs ys:List V}{o:HO}(u:Ce H H' l xs ys)(n:b≠l)(e:H b=some o):H' b=some o:=by
 rw[u.oth b n];exact e
inductive Da (x:V) (vs:List V) (H:Hp) (Q:VK):Prop
 | mk:∀l xs y,(x = .ref l)->(vs = [y])->(H l=some (.lst xs))->(xs.length<sizeLine)->(∀H',Ce H H' l xs (xs++[y])->Q .non H')->Da x vs H Q
theorem cS:MtM X "list.append" Da:=fun pins s σ H x xs v us Q I rx rs ⟨l,ys,y,e1,e2,h,hz,q⟩ =>
 gN pins s σ H x xs v us Q I rx rs ⟨l,ys,y,e1,e2,h,hz,q _ (.mk' h)⟩
inductive Ei (o:V) (i:V) (v:V) (H:Hp) (Q:(Hp->Prop)):Prop
 | mk:∀p xs k j,(o = .ref p)->(i = .int k)->(H p=some (.lst xs))->(ixN xs.length k=some j)->(∀H',Ce H H' p xs (xs.set j v)->Q H')->Ei o i v H Q
theorem pS:wJ X Ei:=fun pins s σ H o i v uo ui uv Q I ro ri rv ⟨p,xs,k,j,e1,e2,h,hj,q⟩ =>
 rf pins s σ H o i v uo ui uv Q I ro ri rv ⟨p,xs,k,j,e1,e2,h,hj,q _ (.mk' h)⟩
inductive CC (x:V) (vs:List V) (H:Hp) (Q:VK):Prop
 | mk:∀l xs,(x = .ref l)->(vs = [])->(H l=some (.lst xs))->(∀H',Ce H H' l xs xs.reverse->Q .non H')->CC x vs H Q
theorem md:MtM X "list.reverse" CC:=fun pins s σ H x xs v us Q I rx rs ⟨l,ys,e1,e2,h,q⟩ =>
 ol pins s σ H x xs v us Q I rx rs ⟨l,ys,e1,e2,h,q _ (.mk' h)⟩
end
end L2
namespace L2
open PySem PySem.Spec PyProof.Rows
theorem xW{K:W.Frag}{H:Hp}{l:Addr}{xs:List V}{i:Int}{Q:VK}(e:H l=some (.lst xs))(h0:0≤i)(h1:i<(xs.length:Int))(h:∀v∈xs,Q v H):Ej K (.ref l) (.int i) H Q:=by
 obtain⟨v,hv,mv⟩:=Sp1.atI_mem h0 h1;exact⟨l,xs,i,v,rfl,rfl,SqL.of e,hv,h v mv⟩
theorem dP{α:Type}{xs:List α}(h:xs.length=3):∃a b c,xs = [a,b,c]:=match xs,h with | [a,b,c],_=>⟨a,b,c,rfl⟩
theorem cI{α:Type}{xs:List α}(h:xs.length=2):∃a b,xs = [a,b]:=match xs,h with | [a,b],_=>⟨a,b,rfl⟩
theorem kO{α:Type}{xs:List α}(h:xs.length=4):∃a b c d,xs = [a,b,c,d]:=match xs,h with | [a,b,c,d],_=>⟨a,b,c,d,rfl⟩
theorem xh{α:Type}{xs:List α}(h:xs.length=5):∃a b c d e,xs = [a,b,c,d,e]:=match xs,h with | [a,b,c,d,e],_=>⟨a,b,c,d,e,rfl⟩
theorem len6{α:Type}{xs:List α}(h:xs.length=6):∃a b c d e f,xs = [a,b,c,d,e,f]:=match xs,h with | [a,b,c,d,e,f],_=>⟨a,b,c,d,e,f,rfl⟩
end L2
namespace L2
open PySem PySem.Spec PyProof.Rows
section
variable {X:Cx} {pins:List (Addr×Obj)} {σ:St} {H:Hp} {s:Shared}
theorem yd.turnedL{h':Heap}{t':Nat}{ch:List Addr}(I:yd X pins σ H s)(k:∀b o,b∉ch->s.heap.get? b=some o->h'.get? b=some o)(hf:∀b∈ch,eC X pins H b):yd X pins σ H { s with heap:=h',toks:=t' }:=by
 have nit:∀b u,H b=some u->b∉ch:=fun b u e z=>by
  have n:=(hf b z).1;rw[n]at e;cases e
 refine I.step (g':=s.gens) (d':=s.drawn) (ch:=ch) (fun b hb=>?_) (fun b o _ _ hc e _=>k b o hc e) (fun b o _ _ hc e _=>⟨o.slots,k b o hc e⟩) (fun _ _ _ _ n=>n)
  (fun b o hc e=>⟨o,k b o hc e⟩) (fun _ _ e=>e) (fun _ _ _ e=>e) (fun b ps e=>⟨#[],by rw[e];simp⟩) (fun m hm=>?_) (fun b u e=>?_) I.bare
 ·obtain⟨f0,f1,f2,f3,f4,f5⟩:=hf b hb
  exact⟨f3,f1,f4,f5⟩
 ·obtain⟨o,es,ep,ho,r⟩:=hm
  exact⟨o,es,ep,k _ o (fun z=>(hf _ z).2.1 rfl) ho,r⟩
 ·refine(I.hok b u e).stay (fun c v hc q=>k c v ?_ q) (fun _ q=>q) fun _ _ q=>q
  rcases hc with z|z
  ·rw[z];exact nit b u e
  ·exact nit c _ z
theorem jT{E:Value->Shared->Prop}{elts:List Expr}{kt:Nat}{pos:Pos}{i n:Nat}{z:Addr}{fpw wr:List Addr}{Pt:Nat->Array Value->Prop}{Stt:Nat->Heap->Prop}{Mid:Nat->Addr->Heap->Prop}{R:Value->Shared->Prop}
  (W:WalksT X.prog X.w X.A z fpw wr n Pt Stt Mid) (I:yd X pins σ H s) (hwr:∀b∈wr,eC X pins H b) (hi:i<n) (st:Stt i s.heap)
  (k:∀T vals s2,Pt i vals->s.heap.objs.size≤T->s2.heap.IsTuple T vals->Stt (i+1) s2.heap->yd X pins σ H s2->(∀b o,b∉wr->s.heap.get? b=some o->s2.heap.get? b=some o)->R (.ref T) s2) :
  wpAny (model X.prog X.w) X.A (pyNext (.ref z)) (fun r s1=>∃u,r=some u∧wpAny (model X.prog X.w) X.A (letOwnedTupleGo (.Tuple elts kt pos) (.ref z) u) (fun _ s2=>R u s2) E s1) E s:=by
 refine W.item i s _ E hi st fun T vals h' tk hp hT tup mid kk=>⟨.ref T,rfl,?_⟩;refine W.go elts kt pos i T _ _ E mid fun h2 st2 k2=>?_;have kall:∀b o,b∉wr->s.heap.get? b=some o->h2.get? b=some o:=fun b o hb e=>k2 b o hb (kk b o hb e);obtain⟨o,eo,ro⟩:=tup;exact k T vals _ hp hT ⟨o,k2 T o (W.apart i T _ mid) eo,ro⟩ st2 (I.turnedL (t':=tk) kall hwr) kall
theorem jU{T:Addr}{s2:Shared}{xs:List V}{us:List Value}(I:yd X pins σ H s)(J:yd X pins σ H s2)(hT:s.heap.objs.size≤T)(ht:s2.heap.IsTuple T us.toArray)(r:aR xs us)(hz:xs.length≤sizeLine):yd X pins σ (upd H T (.tup xs)) s2∧H T=none:=by
 have hn:H T=none:=I.hok.fresh hT;obtain⟨f0,f1,f2,f3,f4,f5⟩:=I.fpOk hT hn;refine⟨J.track hn ?_ f1 f4 f5 ⟨hz,us,r,ht⟩,hn⟩;cases e:X.s₀.heap.get? T with
 | none=>rfl
 | some o =>
  have h1:=Heap.lt_size e;have h2:=I.sz;exact absurd (Nat.lt_of_lt_of_le h1 (Nat.le_trans h2 hT)) (Nat.lt_irrefl _)
end
def Itz(K:W.Frag)(l1 l2:Addr):It :=
  ⟨fun i H=>∃xs ys x y,SqL K H l1 xs∧SqL K H l2 ys∧xs[i]? = some x∧ys[i]? = some y,
   fun i H v H'=>∃p x y,v = .ref p∧H p=none∧H'=upd H p (.tup [x,y])∧∀xs ys,SqL K H l1 xs->SqL K H l2 ys->xs[i]? = some x∧ys[i]? = some y,
   fun i H=>∃xs ys,SqL K H l1 xs∧SqL K H l2 ys∧i=min xs.length ys.length⟩
def Ite(K:W.Frag)(l:Addr):It :=
  ⟨fun i H=>∃xs x,SqL K H l xs∧xs[i]? = some x,
   fun i H v H'=>∃p x,v = .ref p∧H p=none∧H'=upd H p (.tup [.int (i:Int),x])∧∀xs,SqL K H l xs->xs[i]? = some x,
   fun i H=>∃xs,SqL K H l xs∧i=xs.length⟩
theorem qS{P:Program}{w:World}{K:W.Frag}{elts:List Expr}{kt:Nat}{pos:Pos}(z TI TO i1 i2 l1 l2:Addr)(D:ZipApart z TI TO i1 i2 l1 l2) :
  CU P w K (.Tuple elts kt pos) (Itz K l1 l2) [z,TI,TO,i1,i2] z (fun i h=>IsZip h z TI TO .none∧IsPair h TI (.ref i1) (.ref i2)∧(∃a b,IsPair h TO a b)∧h.IsListIter i1 l1 i∧h.IsListIter i2 l2 i) where
 mem:=by simp
 obj:=fun i h st b hb=>by
  obtain⟨hz,hTI,⟨a,c,hTO⟩,⟨o1,e1,c1,d1⟩,⟨o2,e2,c2,d2⟩⟩:=st;simp only[List.mem_cons,List.not_mem_nil,or_false]at hb;rcases hb with rfl|rfl|rfl|rfl|rfl
  ·exact⟨_,hz,fun v y=>by cases y⟩
  ·exact⟨_,hTI,fun v y=>by cases y⟩
  ·exact⟨_,hTO,fun v y=>by cases y⟩
  ·exact⟨o1,e1,fun v y=>by rw[d1]at y;cases y⟩
  ·exact⟨o2,e2,fun v y=>by rw[d2]at y;cases y⟩
 keep:=fun i h h' st k=>by
  obtain⟨hz,hTI,⟨a,c,hTO⟩,h1,h2⟩:=st;exact⟨k z (by simp) _ hz,k TI (by simp) _ hTI,⟨a,c,k TO (by simp) _ hTO⟩,h1.at fun o e=>k i1 (by simp) o e,h2.at fun o e=>k i2 (by simp) o e⟩
 item:=by
  intro X hP hw hK hc i pins s σ H E I hf st hg;subst hP hw hK;obtain⟨xs,ys,x,y,q1,q2,hx,hy⟩:=hg;obtain⟨its,r1,p1,_⟩:=I.list q1;obtain⟨jts,r2,p2,_⟩:=I.list q2;obtain⟨u1,hu1,ru1⟩:=r1.get hx;obtain⟨u2,hu2,ru2⟩:=r2.get hy;have W:=WalksT.zip2 (prog:=X.prog) (w:=X.w) (I.ok.hd hc) z TI TO i1 i2 l1 l2 D its.toArray jts.toArray;have hn:i<min its.toArray.size jts.toArray.size:=by
   have g1:=(List.getElem?_eq_some_iff.mp hu1).1;have g2:=(List.getElem?_eq_some_iff.mp hu2).1;simp only[List.size_toArray];omega
  obtain⟨hz,hTI,hTO,h1,h2⟩:=st;refine jT W I (fun b hb=>hf b (by simp at hb ⊢;rcases hb with h|h|h|h <;> simp[h])) hn ⟨hz,hTI,hTO,h1,h2,p1.isList,p2.isList⟩ fun T vals s2 hp hT tup st2 J2 kall=>?_;obtain⟨v1,v2,e1,e2,rfl⟩:=hp;have e1':its[i]? = some v1:=by simpa using e1
  have e2':jts[i]? = some v2:=by simpa using e2
  rw[hu1]at e1';rw[hu2]at e2';cases e1';cases e2';obtain⟨J3,nT⟩:=jU (xs:=[x,y]) (us:=[u1,u2]) I J2 hT tup (.cons ru1 (.cons ru2 .nil)) (Sp1.sz (by simp));obtain⟨hz2,hTI2,hTO2,h12,h22,_,_⟩:=st2;refine⟨.ref T,upd H T (.tup [x,y]),J3,rfl,⟨T,x,y,rfl,nT,rfl,fun as bs qa qb=>?_⟩,⟨hz2,hTI2,hTO2,h12,h22⟩,fun b hb=>?_⟩
  ·rw[I.list_inj qa q1,I.list_inj qb q2]
   exact⟨hx,hy⟩
  ·have hb':∃o,s.heap.get? b=some o:=by
    obtain⟨a,c,hTO⟩:=hTO;obtain⟨o1,e1,_⟩:=h1;obtain⟨o2,e2,_⟩:=h2;simp only[List.mem_cons,List.not_mem_nil,or_false]at hb;rcases hb with rfl|rfl|rfl|rfl|rfl
    ·exact⟨_,hz⟩
    ·exact⟨_,hTI⟩
    ·exact⟨_,hTO⟩
    ·exact⟨_,e1⟩
    ·exact⟨_,e2⟩
   obtain⟨o,eo⟩:=hb';rw[aN (Nat.ne_of_lt (Nat.lt_of_lt_of_le (Heap.lt_size eo) hT))];exact(hf b hb).1
 done:=by
  intro X hP hw hK hc i pins s σ H E I hf st hg;subst hP hw hK;obtain⟨xs,ys,q1,q2,rfl⟩:=hg;obtain⟨its,r1,p1,_⟩:=I.list q1;obtain⟨jts,r2,p2,_⟩:=I.list q2;have W:=WalksT.zip2 (prog:=X.prog) (w:=X.w) (I.ok.hd hc) z TI TO i1 i2 l1 l2 D its.toArray jts.toArray;obtain⟨hz,hTI,hTO,h1,h2⟩:=st;have el:min its.toArray.size jts.toArray.size=min xs.length ys.length:=by
   rw[List.size_toArray,List.size_toArray,r1.length,r2.length]
  refine W.done s _ E ?_ fun h' tk kk=>⟨rfl,I.turnedL (t':=tk) kk fun b hb=>hf b (by simp at hb ⊢;rcases hb with h|h|h|h <;> simp[h])⟩;rw[el];exact⟨hz,hTI,hTO,h1,h2,p1.isList,p2.isList⟩
 self:=fun _ _ _ _ _ st h=>wpAny_pyIter_zip st.1 h
theorem pP{P:Program}{w:World}{K:W.Frag}{elts:List Expr}{kt:Nat}{pos:Pos}(e it l:Addr)(hei:e≠it)(hle:l≠e)(hli:l≠it) :
  CU P w K (.Tuple elts kt pos) (Ite K l) [e,it] e (fun i h=>(∃old,IsEnum h e it i old)∧h.IsListIter it l i) where
 mem:=by simp
 obj:=fun i h st b hb=>by
  obtain⟨⟨old,he⟩,⟨o1,e1,c1,d1⟩⟩:=st;simp only[List.mem_cons,List.not_mem_nil,or_false]at hb;rcases hb with rfl|rfl
  ·exact⟨_,he,fun v y=>by cases y⟩
  ·exact⟨o1,e1,fun v y=>by rw[d1]at y;cases y⟩
 keep:=fun i h h' st k=>by
  obtain⟨⟨old,he⟩,h1⟩:=st;exact⟨⟨old,k e (by simp) _ he⟩,h1.at fun o x=>k it (by simp) o x⟩
 item:=by
  intro X hP hw hK hc i pins s σ H E I hf st hg;subst hP hw hK;obtain⟨xs,x,q1,hx⟩:=hg;obtain⟨its,r1,p1,_⟩:=I.list q1;obtain⟨u1,hu1,ru1⟩:=r1.get hx;have W:=WalksT.enumerate (prog:=X.prog) (w:=X.w) (I.ok.hd hc) e it l hei hle hli its.toArray;have hn:i<its.toArray.size:=by
   have g1:=(List.getElem?_eq_some_iff.mp hu1).1;simp only[List.size_toArray];omega
  obtain⟨he,h1⟩:=st;refine jT W I (fun b hb=>hf b (by simpa using hb)) hn ⟨he,h1,p1.isList⟩ fun T vals s2 hp hT tup st2 J2 kall=>?_;obtain⟨tk,v1,e1,rfl⟩:=hp;have e1':its[i]? = some v1:=by simpa using e1
  rw[hu1]at e1';cases e1';obtain⟨J3,nT⟩:=jU (xs:=[.int (i:Int),x]) (us:=[.int i tk,u1]) I J2 hT tup (.cons ⟨_,rfl⟩ (.cons ru1 .nil)) (Sp1.sz (by simp));obtain⟨he2,h12,_⟩:=st2;refine⟨.ref T,upd H T (.tup [.int (i:Int),x]),J3,rfl,⟨T,x,rfl,nT,rfl,fun as qa=>?_⟩,⟨he2,h12⟩,fun b hb=>?_⟩
  ·rw[I.list_inj qa q1]
   exact hx
  ·have hb':∃o,s.heap.get? b=some o:=by
    obtain⟨old,he⟩:=he;obtain⟨o1,e1,_⟩:=h1;simp only[List.mem_cons,List.not_mem_nil,or_false]at hb;rcases hb with rfl|rfl
    ·exact⟨_,he⟩
    ·exact⟨_,e1⟩
   obtain⟨o,eo⟩:=hb';rw[aN (Nat.ne_of_lt (Nat.lt_of_lt_of_le (Heap.lt_size eo) hT))];exact(hf b hb).1
 done:=by
  intro X hP hw hK hc i pins s σ H E I hf st hg;subst hP hw hK;obtain⟨xs,q1,rfl⟩:=hg;obtain⟨its,r1,p1,_⟩:=I.list q1;have W:=WalksT.enumerate (prog:=X.prog) (w:=X.w) (I.ok.hd hc) e it l hei hle hli its.toArray;obtain⟨he,h1⟩:=st;refine W.done s _ E ?_ fun h' tk kk=>⟨rfl,I.turnedL (t':=tk) kk fun b hb=>hf b (by simpa using hb)⟩;rw[List.size_toArray,<- r1.length];exact⟨he,h1,p1.isList⟩
 self:=fun _ _ _ _ _ st h=>by
  obtain⟨⟨old,he⟩,_⟩:=st;exact wpAny_pyIter_enum he h
section
variable {X:Cx} {elts:List Expr} {kt:Nat} {tpos:Pos}
def xY(K:W.Frag)(ta:TA):TI:=fun σ H R=>ta σ H fun vs H1=>∃a b,vs = [.ref a,.ref b]∧(∃xs,SqL K H1 a xs)∧(∃ys,SqL K H1 b ys)∧R (Itz K a b) H1
def xl(K:W.Frag)(ta:TA):TI:=fun σ H R=>ta σ H fun vs H1=>∃a,vs = [.ref a]∧(∃xs,SqL K H1 a xs)∧R (Ite K a) H1
theorem wB:bootBuiltins "zip" = some (.type "zip"):=by decide +kernel
theorem lj:bootBuiltins "enumerate" = some (.type "enumerate"):=by decide +kernel
theorem vW{a b:Expr}{ta:TA}{p pos:Pos}(hg:Gl X "zip")(hm:X.mg "zip" = none)(ha:PA X [a,b] ta)(hs:starEach [a,b] X.env = [(false,eval a X.env),(false,eval b X.env)]:=by rfl)(hs2:starEach [b] X.env = [(false,eval b X.env)]:=by rfl) :
  PI X (.Tuple elts kt tpos) (.Call (.Name "zip" p) [a,b] [] pos) (xY X.K ta):=by
 intro pins s σ H R I h;refine Call_ (eT I hg hm wB (PyProof.Rows.callWith_type1 (thn (ha pos pins s σ H _ I h) fun us s1 ⟨vs,H1,I1,r1,q1⟩=>?_) (by rw[hs,hs2]) (by rw[hs2];rfl)));obtain⟨l1,l2,e,⟨xs,hx⟩,⟨ys,hy⟩,q⟩:=q1;subst e;cases r1 with
 | cons r rr =>
  cases rr with
  | cons r' rr =>
   cases rr;cases r;cases r';obtain⟨its,_,p1,_⟩:=I1.list hx;obtain⟨jts,_,p2,_⟩:=I1.list hy;refine call_zip_2 p1.isList p2.isList fun h' hz hTI hTO hi1 hi2 hsz hk=>?_;refine wpAny_pyIter_zip hz ?_;have a1:l1<s1.heap.objs.size:=by obtain⟨_,e,_⟩:=p1.isList;exact Heap.lt_size e
   have a2:l2<s1.heap.objs.size:=by obtain⟨_,e,_⟩:=p2.isList;exact Heap.lt_size e
   refine⟨s1.heap.objs.size+4,[s1.heap.objs.size+4,s1.heap.objs.size+2,s1.heap.objs.size+3,s1.heap.objs.size,s1.heap.objs.size+1],_,_,H1,rfl,I1.kept (t':=s1.toks) hk,qS _ _ _ _ _ l1 l2 (zipApart_new a1 a2),⟨hz,hTI,⟨_,_,hTO⟩,hi1,hi2⟩,fun b hb=>?_,q⟩;have hb':s1.heap.objs.size≤b:=by
    simp only[List.mem_cons,List.not_mem_nil,or_false]at hb;rcases hb with rfl|rfl|rfl|rfl|rfl <;> omega
   exact I1.fpOk hb' (I1.hok.fresh hb')
theorem kG{a:Expr}{ta:TA}{p pos:Pos}(hg:Gl X "enumerate")(hm:X.mg "enumerate" = none)(ha:PA X [a] ta)(hs:starEach [a] X.env = [(false,eval a X.env)]:=by rfl) :
  PI X (.Tuple elts kt tpos) (.Call (.Name "enumerate" p) [a] [] pos) (xl X.K ta):=by
 intro pins s σ H R I h;refine Call_ (eT I hg hm lj (PyProof.Rows.callWith_type1 (thn (ha pos pins s σ H _ I h) fun us s1 ⟨vs,H1,I1,r1,q1⟩=>?_) hs rfl));obtain⟨l,e,⟨xs,hx⟩,q⟩:=q1;subst e;cases r1 with
 | cons r rr =>
  cases rr;cases r;obtain⟨its,_,p1,_⟩:=I1.list hx;refine call_enumerate_list p1.isList fun h' he hi hsz hk=>?_;refine wpAny_pyIter_enum he ?_;have a1:l<s1.heap.objs.size:=by obtain⟨_,e,_⟩:=p1.isList;exact Heap.lt_size e
  refine⟨s1.heap.objs.size+1,[s1.heap.objs.size+1,s1.heap.objs.size],_,_,H1,rfl,I1.kept (t':=s1.toks) hk,pP _ _ l (Nat.succ_ne_self _) (Nat.ne_of_lt (Nat.lt_succ_of_lt a1)) (Nat.ne_of_lt a1),⟨⟨_,he⟩,hi⟩,fun b hb=>?_,q⟩;have hb':s1.heap.objs.size≤b:=by
   simp only[List.mem_cons,List.not_mem_nil,or_false]at hb;rcases hb with rfl|rfl <;> omega
  exact I1.fpOk hb' (I1.hok.fresh hb')
end
theorem je{K:W.Frag}{a:Addr}{xs:List V}{g:TG}{tb:TS}{D:Cz}{σ:St}{H:Hp}(Pv:Nat->St->Hp->Prop)(h0:Pv 0 σ H)(hl:∀i σ H,i≤xs.length->Pv i σ H->SqL K H a xs)
  (hs:∀i x p σ H H1,xs[i]? = some x->Pv i σ H->Same H H1->H1 p=some (.tup [.int (i:Int),x])->g (.ref p) σ H1 fun σ2 H2=>tb { D with nx:=Pv (i+1),ct:=Pv (i+1),bk:=D.nx } σ2 H2) (hd:∀σ H,Pv xs.length σ H->D.nx σ H) :
  ∃W:Nat->Nat->St->Hp->Prop,(∃m,W 0 m σ H)∧∀i m σ H,W i m σ H ->
   ((Ite K a).stop i H∧D.nx σ H)∨((Ite K a).go i H∧∃N:St->Hp->Prop,(∀σ' H',N σ' H'->∃m',m'<m∧W (i+1) m' σ' H')∧∀x H',(Ite K a).yld i H x H'->g x σ H' fun σ2 H2=>tb { D with nx:=N,ct:=N,bk:=D.nx } σ2 H2):=by
 refine⟨fun i m σ H=>m=xs.length - i∧i≤xs.length∧Pv i σ H,⟨_,rfl,Nat.zero_le _,h0⟩,?_⟩;rintro i m σ H ⟨rfl,hi,p⟩;have q1:=hl i σ H hi p
 by_cases hlt:i<xs.length
 ·refine .inr ⟨⟨xs,xs[i],q1,by simp[hlt]⟩,Pv (i+1),fun σ' H' p'=>⟨_,by omega,rfl,hlt,p'⟩,fun v H' y=>?_⟩
  obtain⟨t,x,rfl,nt,rfl,e⟩:=y;exact hs i x t σ H _ (e xs q1) p (Same.new nt) upd_same
 ·have e:i=xs.length:=by omega
  subst e;exact .inl ⟨⟨xs,q1,rfl⟩,hd σ H p⟩
end L2
namespace L2
open PySem PySem.Spec PyProof.Rows
inductive D where
 | non|bl (b:Bool)|int (i:Int)|str (x:Str)|tup (ds:List D)|lst (ds:List D)
inductive Rp (H:Hp):Nat->V->D->Prop where
 | non {n:Nat}:Rp H n .non .non
 | bl {n:Nat} {b:Bool}:Rp H n (.bl b) (.bl b)
 | int {n:Nat} {i:Int}:Rp H n (.int i) (.int i)
 | str {n:Nat} {x:Str}:Rp H n (.str x) (.str x)
 | tup {n:Nat} {p:Addr} {xs:List V} {ds:List D} (e:H p=some (.tup xs)) (hl:xs.length=ds.length) (h:∀(j:Nat) x d,xs[j]? = some x->ds[j]? = some d->Rp H n x d):Rp H (n+1) (.ref p) (.tup ds)
 | lst {n:Nat} {p:Addr} {xs:List V} {ds:List D} (e:H p=some (.lst xs)) (hl:xs.length=ds.length) (h:∀(j:Nat) x d,xs[j]? = some x->ds[j]? = some d->Rp H n x d):Rp H (n+1) (.ref p) (.lst ds)
theorem Rp.deep{H:Hp}{n m:Nat}{v:V}{d:D}(r:Rp H n v d)(hm:n≤m):Rp H m v d:=by
 induction r generalizing m with
 | non=>exact .non
 | bl=>exact .bl
 | int=>exact .int
 | str=>exact .str
 | tup e hl h ih =>
  obtain⟨k,rfl⟩:∃k,m=k+1:=⟨m - 1,by omega⟩;exact .tup e hl fun j x d a b=>ih j x d a b (by omega)
 | lst e hl h ih =>
  obtain⟨k,rfl⟩:∃k,m=k+1:=⟨m - 1,by omega⟩;exact .lst e hl fun j x d a b=>ih j x d a b (by omega)
mutual
def deq:D->D->Bool
 | .non,.non=>true
 | .bl a,.bl b=>a == b
 | .bl a,.int b=>(if a then 1 else 0) == b
 | .int a,.bl b=>a == (if b then 1 else 0)
 | .int a,.int b=>a == b
 | .str a,.str b=>a == b
 | .tup xs,.tup ys=>fL xs ys
 | .lst xs,.lst ys=>fL xs ys
 | _,_=>false
def fL:List D->List D->Bool
 | [],[]=>true
 | x::xs,y::ys=>deq x y && fL xs ys
 | _,_=>false
end
theorem dR:∀(ds es:List D),((List.range (min ds.length es.length)).all (fun j=>deq (ds.getD j .non) (es.getD j .non)) && ds.length == es.length)=fL ds es
 | [],[]=>by simp[fL]
 | [],e::es=>by simp[fL]
 | d::ds,[]=>by simp[fL]
 | d::ds,e::es=>by
  have ih:=dR ds es;have hm:min (d::ds).length (e::es).length=min ds.length es.length+1:=by simp only[List.length_cons];omega
  rw[hm,List.range_succ_eq_map,List.all_cons,List.all_map];simp only[fL,List.getD_cons_zero,List.length_cons];rw[<- ih,Bool.and_assoc]
  congr 1
  simp[Function.comp_def]
theorem jq{ds es:List D}(h:ds.length≠es.length):fL ds es=false:=by
 rw[<- dR];simp[h]
theorem fB{ds es:List D}(h:ds.length=es.length):(List.range ds.length).all (fun j=>deq (ds.getD j .non) (es.getD j .non))=fL ds es:=by
 rw[<- dR,h];simp
theorem pF{ds es:List D}(hl:ds.length=es.length)(h:∀(j:Nat) d e,ds[j]? = some d->es[j]? = some e->deq d e=true):fL ds es=true:=by
 rw[<- fB hl,List.all_eq_true];intro j hj;have hj':j<ds.length:=List.mem_range.mp hj;have hj2:j<es.length:=by omega
 have e1:ds[j]? = some ds[j]:=List.getElem?_eq_getElem hj';have e2:es[j]? = some es[j]:=List.getElem?_eq_getElem hj2;rw[List.getD_eq_getElem?_getD,List.getD_eq_getElem?_getD,e1,e2];exact h j _ _ e1 e2
theorem jc{α β:Type}{xs:List α}{ds:List β}{j:Nat}{d:β}(hl:xs.length=ds.length)(h:ds[j]? = some d):∃x,xs[j]? = some x:=by
 have:=(List.getElem?_eq_some_iff.mp h).1;exact⟨xs[j],List.getElem?_eq_getElem (by omega)⟩
theorem Rp.self{H:Hp}{n m:Nat}{v:V}{d e:D}(r:Rp H n v d)(q:Rp H m v e):deq d e=true:=by
 induction r generalizing m e with
 | non=>cases q;rfl
 | bl=>cases q;simp[deq]
 | int=>cases q;simp[deq]
 | str=>cases q;simp[deq]
 | tup e1 hl h ih =>
  cases q with
  | tup e2 hl2 h2 =>
   rw[e1]at e2;cases e2;refine pF (by omega) fun j a b ea eb=>?_;obtain⟨x,hx⟩:=jc hl ea;exact ih j x a hx ea (h2 j x b hx eb)
  | lst e2 hl2 h2=>rw[e1]at e2;cases e2
 | lst e1 hl h ih =>
  cases q with
  | tup e2 hl2 h2=>rw[e1]at e2;cases e2
  | lst e2 hl2 h2 =>
   rw[e1]at e2;cases e2;refine pF (by omega) fun j a b ea eb=>?_;obtain⟨x,hx⟩:=jc hl ea;exact ih j x a hx ea (h2 j x b hx eb)
section
variable {X:Cx} {pins:List (Addr×Obj)} {σ:St} {H:Hp} {s:Shared}
theorem fu{A:Around}{xs ys:List V}{us ws:List Value}{ds es:List D}(r:aR xs us)(r':aR ys ws)(hl:xs.length=ds.length)(hl':ys.length=es.length)
  (h:∀(j:Nat) x y d e u w,xs[j]? = some x->ys[j]? = some y->ds[j]? = some d->es[j]? = some e->aT x u->aT y w->SeqAt.EqAt A s u w (deq d e))
  (j:Nat) (h1:j<us.toArray.size) (h2:j<ws.toArray.size):SeqAt.EqAt A s us.toArray[j] ws.toArray[j] (deq (ds.getD j .non) (es.getD j .non)):=by
 rw[List.size_toArray]at h1 h2;obtain⟨a,ea,ra⟩:=oK r h1;obtain⟨c,ec,rc⟩:=oK r' h2;have g1:=(List.getElem?_eq_some_iff.mp ea).1;have g2:=(List.getElem?_eq_some_iff.mp ec).1;have e1:ds[j]? = some ds[j]:=List.getElem?_eq_getElem (by omega);have e2:es[j]? = some es[j]:=List.getElem?_eq_getElem (by omega);rw[List.getD_eq_getElem?_getD,List.getD_eq_getElem?_getD,e1,e2];exact h j a c _ _ _ _ ea ec e1 e2 ra rc
theorem Rp.eqAt{n:Nat}{x:V}{d:D}(r:Rp H n x d):∀{m:Nat} {y:V} {e:D} {A:Around} {u v:Value},Rp H m y e->yd X pins σ H s->aT x u->aT y v->A.units+n<cLine->SeqAt.EqAt A s u v (deq d e):=by
 induction r with
 | non =>
  intro m y e A u v q I ru rv hu;cases ru;cases q with
  | non=>cases rv;exact SeqAt.EqAt.same _
  | bl=>cases rv;exact SeqAt.EqAt.none_bool _
  | int=>obtain⟨_,rfl⟩:=rv;exact SeqAt.EqAt.none_int _ _
  | str=>obtain⟨_,rfl⟩:=rv;exact SeqAt.EqAt.none_str _ _
  | tup e1 hl h=>cases rv;obtain⟨its,_,pl,_⟩:=I.tuple (SqT.of e1);exact SeqAt.EqAt.none_tuple pl (by omega)
  | lst e1 hl h=>cases rv;obtain⟨its,_,pl,_⟩:=I.list (SqL.of e1);exact SeqAt.EqAt.none_list pl.isList (by omega)
 | bl =>
  intro m y e A u v q I ru rv hu;cases ru;cases q with
  | non=>cases rv;exact SeqAt.EqAt.bool_none _
  | bl=>cases rv;exact SeqAt.EqAt.bool_bool _ _
  | int=>obtain⟨_,rfl⟩:=rv;exact SeqAt.EqAt.bool_int _ _ _
  | str=>obtain⟨_,rfl⟩:=rv;exact SeqAt.EqAt.bool_str _ _ _
  | tup e1 hl h=>cases rv;obtain⟨its,_,pl,_⟩:=I.tuple (SqT.of e1);exact SeqAt.EqAt.bool_tuple _ pl (by omega)
  | lst e1 hl h=>cases rv;obtain⟨its,_,pl,_⟩:=I.list (SqL.of e1);exact SeqAt.EqAt.bool_list _ pl.isList (by omega)
 | int =>
  intro m y e A u v q I ru rv hu;obtain⟨_,rfl⟩:=ru;cases q with
  | non=>cases rv;exact SeqAt.EqAt.int_none _ _
  | bl=>cases rv;exact SeqAt.EqAt.int_bool _ _ _
  | int=>obtain⟨_,rfl⟩:=rv;exact SeqAt.EqAt.int_int _ _ _ _
  | str=>obtain⟨_,rfl⟩:=rv;exact SeqAt.EqAt.int_str _ _ _ _
  | tup e1 hl h=>cases rv;obtain⟨its,_,pl,_⟩:=I.tuple (SqT.of e1);exact SeqAt.EqAt.int_tuple _ _ pl (by omega)
  | lst e1 hl h=>cases rv;obtain⟨its,_,pl,_⟩:=I.list (SqL.of e1);exact SeqAt.EqAt.int_list _ _ pl.isList (by omega)
 | str =>
  intro m y e A u v q I ru rv hu;obtain⟨_,rfl⟩:=ru;cases q with
  | non=>cases rv;exact SeqAt.EqAt.str_none _ _
  | bl=>cases rv;exact SeqAt.EqAt.str_bool _ _ _
  | int=>obtain⟨_,rfl⟩:=rv;exact SeqAt.EqAt.str_int _ _ _ _
  | str=>obtain⟨_,rfl⟩:=rv;exact SeqAt.EqAt.str_str _ _ _ _
  | tup e1 hl h=>cases rv;obtain⟨its,_,pl,_⟩:=I.tuple (SqT.of e1);exact SeqAt.EqAt.str_tuple _ _ pl (by omega)
  | lst e1 hl h=>cases rv;obtain⟨its,_,pl,_⟩:=I.list (SqL.of e1);exact SeqAt.EqAt.str_list _ _ pl.isList (by omega)
 | @tup n p xs ds e0 hl h ih =>
  intro m y e A u v q I ru rv hu;cases ru;obtain⟨its,r1,pl,_⟩:=I.tuple (SqT.of e0);cases q with
  | non=>cases rv;exact SeqAt.EqAt.tuple_none pl (by omega)
  | bl=>cases rv;exact SeqAt.EqAt.tuple_bool _ pl (by omega)
  | int=>obtain⟨_,rfl⟩:=rv;exact SeqAt.EqAt.tuple_int _ _ pl (by omega)
  | str=>obtain⟨_,rfl⟩:=rv;exact SeqAt.EqAt.tuple_str _ _ pl (by omega)
  | lst e1 hl1 h1=>cases rv;obtain⟨jts,_,pl',_⟩:=I.list (SqL.of e1);exact SeqAt.EqAt.tuple_list pl pl'.isList (by omega)
  | @tup m p' ys es e1 hl1 h1 =>
   cases rv
   by_cases hne:p=p'
   ·subst hne
    have z:deq (.tup ds) (.tup es)=true:=Rp.self (Rp.tup e0 hl h) (Rp.tup e1 hl1 h1);rw[z];exact SeqAt.EqAt.same _
   ·obtain⟨jts,r2,pl',_⟩:=I.tuple (SqT.of e1)
    have y:=SeqAt.RcAt.tuples (A:=A) (e:=fun j=>deq (ds.getD j .non) (es.getD j .non)) pl pl' (by omega) (fu r1 r2 hl hl1 fun j x y d e u w a b c k ra rb=>ih j x d a c (h1 j y e b k) I ra rb (by show A.units+1+n<cLine;omega));rw[List.size_toArray,List.size_toArray,<- r1.length,<- r2.length,hl,hl1,dR]at y;exact SeqAt.EqAt.of_refs hne y
 | @lst n p xs ds e0 hl h ih =>
  intro m y e A u v q I ru rv hu;cases ru;obtain⟨its,r1,pl,_⟩:=I.list (SqL.of e0);cases q with
  | non=>cases rv;exact SeqAt.EqAt.list_none pl.isList (by omega)
  | bl=>cases rv;exact SeqAt.EqAt.list_bool _ pl.isList (by omega)
  | int=>obtain⟨_,rfl⟩:=rv;exact SeqAt.EqAt.list_int _ _ pl.isList (by omega)
  | str=>obtain⟨_,rfl⟩:=rv;exact SeqAt.EqAt.list_str _ _ pl.isList (by omega)
  | tup e1 hl1 h1=>cases rv;obtain⟨jts,_,pl',_⟩:=I.tuple (SqT.of e1);exact SeqAt.EqAt.list_tuple pl.isList pl' (by omega)
  | @lst m p' ys es e1 hl1 h1 =>
   cases rv
   by_cases hne:p=p'
   ·subst hne
    have z:deq (.lst ds) (.lst es)=true:=Rp.self (Rp.lst e0 hl h) (Rp.lst e1 hl1 h1);rw[z];exact SeqAt.EqAt.same _
   ·obtain⟨jts,r2,pl',_⟩:=I.list (SqL.of e1)
    have g1:=r1.length;have g2:=r2.length
    by_cases hz:ds.length=es.length
    ·have y:=SeqAt.RcAt.lists (A:=A) (e:=fun j=>deq (ds.getD j .non) (es.getD j .non)) pl.isList pl'.isList (by rw[List.size_toArray,List.size_toArray];omega) (by omega) (fu r1 r2 hl hl1 fun j x y d e u w a b c k ra rb=>ih j x d a c (h1 j y e b k) I ra rb (by show A.units+1+n<cLine;omega))
     rw[List.size_toArray,<- r1.length,hl,fB hz]at y;exact SeqAt.EqAt.of_refs hne y
    ·rw[show deq (.lst ds) (.lst es)=false from jq hz]
     exact SeqAt.EqAt.of_refs hne (SeqAt.RcAt.lists_lengths pl.isList pl'.isList (by rw[List.size_toArray,List.size_toArray];simp;omega) (by omega))
end
end L2
namespace L2
open PySem PySem.Spec PyProof.Rows
section
variable {X:Cx} {pins:List (Addr×Obj)} {σ:St} {H:Hp} {s:Shared}
theorem Rp.rcAt{A:Around}{n m:Nat}{x y:V}{d e:D}{u v:Value}(r:Rp H n x d)(q:Rp H m y e)(I:yd X pins σ H s)(ru:aT x u)(rv:aT y v)(hu:A.units+n+1<cLine):SeqAt.RcAt A s u v (deq d e):=by
 cases r with
 | non =>
  cases q with
  | non =>
   cases ru;cases rv;exact SeqAt.RcAt.none_none
  | bl =>
   cases ru;cases rv;exact SeqAt.RcAt.none_bool _
  | int =>
   cases ru;obtain⟨_,rfl⟩:=rv;exact SeqAt.RcAt.none_int _ _
  | str =>
   cases ru;obtain⟨_,rfl⟩:=rv;exact SeqAt.RcAt.none_str _ _
  | @tup m p' ys es e1 hl1 h1 =>
   cases ru;cases rv;obtain⟨jts,r2,pl',_⟩:=I.tuple (SqT.of e1);exact SeqAt.RcAt.none_tuple pl' (by omega)
  | @lst m p' ys es e1 hl1 h1 =>
   cases ru;cases rv;obtain⟨jts,r2,pl',_⟩:=I.list (SqL.of e1);exact SeqAt.RcAt.none_list pl'.isList (by omega)
 | bl =>
  cases q with
  | non =>
   cases ru;cases rv;exact SeqAt.RcAt.bool_none _
  | bl =>
   cases ru;cases rv;exact SeqAt.RcAt.bool_bool _ _
  | int =>
   cases ru;obtain⟨_,rfl⟩:=rv;exact SeqAt.RcAt.bool_int _ _ _
  | str =>
   cases ru;obtain⟨_,rfl⟩:=rv;exact SeqAt.RcAt.bool_str _ _ _
  | @tup m p' ys es e1 hl1 h1 =>
   cases ru;cases rv;obtain⟨jts,r2,pl',_⟩:=I.tuple (SqT.of e1);exact SeqAt.RcAt.bool_tuple _ pl' (by omega)
  | @lst m p' ys es e1 hl1 h1 =>
   cases ru;cases rv;obtain⟨jts,r2,pl',_⟩:=I.list (SqL.of e1);exact SeqAt.RcAt.bool_list _ pl'.isList (by omega)
 | int =>
  cases q with
  | non =>
   obtain⟨_,rfl⟩:=ru;cases rv;exact SeqAt.RcAt.int_none _ _
  | bl =>
   obtain⟨_,rfl⟩:=ru;cases rv;exact SeqAt.RcAt.int_bool _ _ _
  | int =>
   obtain⟨_,rfl⟩:=ru;obtain⟨_,rfl⟩:=rv;exact SeqAt.RcAt.int_int _ _ _ _
  | str =>
   obtain⟨_,rfl⟩:=ru;obtain⟨_,rfl⟩:=rv;exact SeqAt.RcAt.int_str _ _ _ _
  | @tup m p' ys es e1 hl1 h1 =>
   obtain⟨_,rfl⟩:=ru;cases rv;obtain⟨jts,r2,pl',_⟩:=I.tuple (SqT.of e1);exact SeqAt.RcAt.int_tuple _ _ pl' (by omega)
  | @lst m p' ys es e1 hl1 h1 =>
   obtain⟨_,rfl⟩:=ru;cases rv;obtain⟨jts,r2,pl',_⟩:=I.list (SqL.of e1);exact SeqAt.RcAt.int_list _ _ pl'.isList (by omega)
 | str =>
  cases q with
  | non =>
   obtain⟨_,rfl⟩:=ru;cases rv;exact SeqAt.RcAt.str_none _ _
  | bl =>
   obtain⟨_,rfl⟩:=ru;cases rv;exact SeqAt.RcAt.str_bool _ _ _
  | int =>
   obtain⟨_,rfl⟩:=ru;obtain⟨_,rfl⟩:=rv;exact SeqAt.RcAt.str_int _ _ _ _
  | str =>
   obtain⟨_,rfl⟩:=ru;obtain⟨_,rfl⟩:=rv;exact SeqAt.RcAt.str_str _ _ _ _
  | @tup m p' ys es e1 hl1 h1 =>
   obtain⟨_,rfl⟩:=ru;cases rv;obtain⟨jts,r2,pl',_⟩:=I.tuple (SqT.of e1);exact SeqAt.RcAt.str_tuple _ _ pl' (by omega)
  | @lst m p' ys es e1 hl1 h1 =>
   obtain⟨_,rfl⟩:=ru;cases rv;obtain⟨jts,r2,pl',_⟩:=I.list (SqL.of e1);exact SeqAt.RcAt.str_list _ _ pl'.isList (by omega)
 | @tup n p xs ds e0 hl h =>
  cases q with
  | non =>
   cases ru;cases rv;obtain⟨its,r1,pl,_⟩:=I.tuple (SqT.of e0);exact SeqAt.RcAt.tuple_none pl (by omega)
  | bl =>
   cases ru;cases rv;obtain⟨its,r1,pl,_⟩:=I.tuple (SqT.of e0);exact SeqAt.RcAt.tuple_bool _ pl (by omega)
  | int =>
   cases ru;obtain⟨_,rfl⟩:=rv;obtain⟨its,r1,pl,_⟩:=I.tuple (SqT.of e0);exact SeqAt.RcAt.tuple_int _ _ pl (by omega)
  | str =>
   cases ru;obtain⟨_,rfl⟩:=rv;obtain⟨its,r1,pl,_⟩:=I.tuple (SqT.of e0);exact SeqAt.RcAt.tuple_str _ _ pl (by omega)
  | @tup m p' ys es e1 hl1 h1 =>
   cases ru;cases rv;obtain⟨its,r1,pl,_⟩:=I.tuple (SqT.of e0);obtain⟨jts,r2,pl',_⟩:=I.tuple (SqT.of e1);have y:=SeqAt.RcAt.tuples (A:=A) (e:=fun j=>deq (ds.getD j .non) (es.getD j .non)) pl pl' (by omega) (fu r1 r2 hl hl1 fun j x y d e u w a b c k ra rb=>(h j x d a c).eqAt (h1 j y e b k) I ra rb (by show A.units+1+_<cLine;omega));rw[List.size_toArray,List.size_toArray,<- r1.length,<- r2.length,hl,hl1,dR]at y;exact y
  | @lst m p' ys es e1 hl1 h1 =>
   cases ru;cases rv;obtain⟨its,r1,pl,_⟩:=I.tuple (SqT.of e0);obtain⟨jts,r2,pl',_⟩:=I.list (SqL.of e1);exact SeqAt.RcAt.tuple_list pl pl'.isList (by omega)
 | @lst n p xs ds e0 hl h =>
  cases q with
  | non =>
   cases ru;cases rv;obtain⟨its,r1,pl,_⟩:=I.list (SqL.of e0);exact SeqAt.RcAt.list_none pl.isList (by omega)
  | bl =>
   cases ru;cases rv;obtain⟨its,r1,pl,_⟩:=I.list (SqL.of e0);exact SeqAt.RcAt.list_bool _ pl.isList (by omega)
  | int =>
   cases ru;obtain⟨_,rfl⟩:=rv;obtain⟨its,r1,pl,_⟩:=I.list (SqL.of e0);exact SeqAt.RcAt.list_int _ _ pl.isList (by omega)
  | str =>
   cases ru;obtain⟨_,rfl⟩:=rv;obtain⟨its,r1,pl,_⟩:=I.list (SqL.of e0);exact SeqAt.RcAt.list_str _ _ pl.isList (by omega)
  | @tup m p' ys es e1 hl1 h1 =>
   cases ru;cases rv;obtain⟨its,r1,pl,_⟩:=I.list (SqL.of e0);obtain⟨jts,r2,pl',_⟩:=I.tuple (SqT.of e1);exact SeqAt.RcAt.list_tuple pl.isList pl' (by omega)
  | @lst m p' ys es e1 hl1 h1 =>
   cases ru;cases rv;obtain⟨its,r1,pl,_⟩:=I.list (SqL.of e0);obtain⟨jts,r2,pl',_⟩:=I.list (SqL.of e1);have g1:=r1.length;have g2:=r2.length
   by_cases hz:ds.length=es.length
   ·have y:=SeqAt.RcAt.lists (A:=A) (e:=fun j=>deq (ds.getD j .non) (es.getD j .non)) pl.isList pl'.isList (by rw[List.size_toArray,List.size_toArray];omega) (by omega) (fu r1 r2 hl hl1 fun j x y d e u w a b c k ra rb=>(h j x d a c).eqAt (h1 j y e b k) I ra rb (by show A.units+1+_<cLine;omega))
    rw[List.size_toArray,<- r1.length,hl,fB hz]at y;exact y
   ·rw[show deq (.lst ds) (.lst es)=false from jq hz]
    exact SeqAt.RcAt.lists_lengths pl.isList pl'.isList (by rw[List.size_toArray,List.size_toArray];simp;omega) (by omega)
theorem Rp.rcNeAt{A:Around}{n m:Nat}{x y:V}{d e:D}{u v:Value}(r:Rp H n x d)(q:Rp H m y e)(I:yd X pins σ H s)(ru:aT x u)(rv:aT y v)(hu:A.units+n+1<cLine):SeqAt.RcNeAt A s u v (!(deq d e)):=by
 cases r with
 | non =>
  cases q with
  | non =>
   cases ru;cases rv;exact SeqAt.RcNeAt.none_none
  | bl =>
   cases ru;cases rv;exact SeqAt.RcNeAt.none_bool _
  | int =>
   cases ru;obtain⟨_,rfl⟩:=rv;exact SeqAt.RcNeAt.none_int _ _
  | str =>
   cases ru;obtain⟨_,rfl⟩:=rv;exact SeqAt.RcNeAt.none_str _ _
  | @tup m p' ys es e1 hl1 h1 =>
   cases ru;cases rv;obtain⟨jts,r2,pl',_⟩:=I.tuple (SqT.of e1);exact SeqAt.RcNeAt.none_tuple pl' (by omega)
  | @lst m p' ys es e1 hl1 h1 =>
   cases ru;cases rv;obtain⟨jts,r2,pl',_⟩:=I.list (SqL.of e1);exact SeqAt.RcNeAt.none_list pl'.isList (by omega)
 | bl =>
  cases q with
  | non =>
   cases ru;cases rv;exact SeqAt.RcNeAt.bool_none _
  | bl =>
   cases ru;cases rv;exact SeqAt.RcNeAt.bool_bool _ _
  | int =>
   cases ru;obtain⟨_,rfl⟩:=rv;exact SeqAt.RcNeAt.bool_int _ _ _
  | str =>
   cases ru;obtain⟨_,rfl⟩:=rv;exact SeqAt.RcNeAt.bool_str _ _ _
  | @tup m p' ys es e1 hl1 h1 =>
   cases ru;cases rv;obtain⟨jts,r2,pl',_⟩:=I.tuple (SqT.of e1);exact SeqAt.RcNeAt.bool_tuple _ pl' (by omega)
  | @lst m p' ys es e1 hl1 h1 =>
   cases ru;cases rv;obtain⟨jts,r2,pl',_⟩:=I.list (SqL.of e1);exact SeqAt.RcNeAt.bool_list _ pl'.isList (by omega)
 | int =>
  cases q with
  | non =>
   obtain⟨_,rfl⟩:=ru;cases rv;exact SeqAt.RcNeAt.int_none _ _
  | bl =>
   obtain⟨_,rfl⟩:=ru;cases rv;exact SeqAt.RcNeAt.int_bool _ _ _
  | int =>
   obtain⟨_,rfl⟩:=ru;obtain⟨_,rfl⟩:=rv;exact SeqAt.RcNeAt.int_int _ _ _ _
  | str =>
   obtain⟨_,rfl⟩:=ru;obtain⟨_,rfl⟩:=rv;exact SeqAt.RcNeAt.int_str _ _ _ _
  | @tup m p' ys es e1 hl1 h1 =>
   obtain⟨_,rfl⟩:=ru;cases rv;obtain⟨jts,r2,pl',_⟩:=I.tuple (SqT.of e1);exact SeqAt.RcNeAt.int_tuple _ _ pl' (by omega)
  | @lst m p' ys es e1 hl1 h1 =>
   obtain⟨_,rfl⟩:=ru;cases rv;obtain⟨jts,r2,pl',_⟩:=I.list (SqL.of e1);exact SeqAt.RcNeAt.int_list _ _ pl'.isList (by omega)
 | str =>
  cases q with
  | non =>
   obtain⟨_,rfl⟩:=ru;cases rv;exact SeqAt.RcNeAt.str_none _ _
  | bl =>
   obtain⟨_,rfl⟩:=ru;cases rv;exact SeqAt.RcNeAt.str_bool _ _ _
  | int =>
   obtain⟨_,rfl⟩:=ru;obtain⟨_,rfl⟩:=rv;exact SeqAt.RcNeAt.str_int _ _ _ _
  | str =>
   obtain⟨_,rfl⟩:=ru;obtain⟨_,rfl⟩:=rv;exact SeqAt.RcNeAt.str_str _ _ _ _
  | @tup m p' ys es e1 hl1 h1 =>
   obtain⟨_,rfl⟩:=ru;cases rv;obtain⟨jts,r2,pl',_⟩:=I.tuple (SqT.of e1);exact SeqAt.RcNeAt.str_tuple _ _ pl' (by omega)
  | @lst m p' ys es e1 hl1 h1 =>
   obtain⟨_,rfl⟩:=ru;cases rv;obtain⟨jts,r2,pl',_⟩:=I.list (SqL.of e1);exact SeqAt.RcNeAt.str_list _ _ pl'.isList (by omega)
 | @tup n p xs ds e0 hl h =>
  cases q with
  | non =>
   cases ru;cases rv;obtain⟨its,r1,pl,_⟩:=I.tuple (SqT.of e0);exact SeqAt.RcNeAt.tuple_none pl (by omega)
  | bl =>
   cases ru;cases rv;obtain⟨its,r1,pl,_⟩:=I.tuple (SqT.of e0);exact SeqAt.RcNeAt.tuple_bool _ pl (by omega)
  | int =>
   cases ru;obtain⟨_,rfl⟩:=rv;obtain⟨its,r1,pl,_⟩:=I.tuple (SqT.of e0);exact SeqAt.RcNeAt.tuple_int _ _ pl (by omega)
  | str =>
   cases ru;obtain⟨_,rfl⟩:=rv;obtain⟨its,r1,pl,_⟩:=I.tuple (SqT.of e0);exact SeqAt.RcNeAt.tuple_str _ _ pl (by omega)
  | @tup m p' ys es e1 hl1 h1 =>
   cases ru;cases rv;obtain⟨its,r1,pl,_⟩:=I.tuple (SqT.of e0);obtain⟨jts,r2,pl',_⟩:=I.tuple (SqT.of e1);have y:=SeqAt.RcNeAt.tuples (A:=A) (e:=fun j=>deq (ds.getD j .non) (es.getD j .non)) pl pl' (by omega) (fu r1 r2 hl hl1 fun j x y d e u w a b c k ra rb=>(h j x d a c).eqAt (h1 j y e b k) I ra rb (by show A.units+1+_<cLine;omega));rw[List.size_toArray,List.size_toArray,<- r1.length,<- r2.length,hl,hl1,dR]at y;exact y
  | @lst m p' ys es e1 hl1 h1 =>
   cases ru;cases rv;obtain⟨its,r1,pl,_⟩:=I.tuple (SqT.of e0);obtain⟨jts,r2,pl',_⟩:=I.list (SqL.of e1);exact SeqAt.RcNeAt.tuple_list pl pl'.isList (by omega)
 | @lst n p xs ds e0 hl h =>
  cases q with
  | non =>
   cases ru;cases rv;obtain⟨its,r1,pl,_⟩:=I.list (SqL.of e0);exact SeqAt.RcNeAt.list_none pl.isList (by omega)
  | bl =>
   cases ru;cases rv;obtain⟨its,r1,pl,_⟩:=I.list (SqL.of e0);exact SeqAt.RcNeAt.list_bool _ pl.isList (by omega)
  | int =>
   cases ru;obtain⟨_,rfl⟩:=rv;obtain⟨its,r1,pl,_⟩:=I.list (SqL.of e0);exact SeqAt.RcNeAt.list_int _ _ pl.isList (by omega)
  | str =>
   cases ru;obtain⟨_,rfl⟩:=rv;obtain⟨its,r1,pl,_⟩:=I.list (SqL.of e0);exact SeqAt.RcNeAt.list_str _ _ pl.isList (by omega)
  | @tup m p' ys es e1 hl1 h1 =>
   cases ru;cases rv;obtain⟨its,r1,pl,_⟩:=I.list (SqL.of e0);obtain⟨jts,r2,pl',_⟩:=I.tuple (SqT.of e1);exact SeqAt.RcNeAt.list_tuple pl.isList pl' (by omega)
  | @lst m p' ys es e1 hl1 h1 =>
   cases ru;cases rv;obtain⟨its,r1,pl,_⟩:=I.list (SqL.of e0);obtain⟨jts,r2,pl',_⟩:=I.list (SqL.of e1);have g1:=r1.length;have g2:=r2.length
   by_cases hz:ds.length=es.length
   ·have y:=SeqAt.RcNeAt.lists (A:=A) (e:=fun j=>deq (ds.getD j .non) (es.getD j .non)) pl.isList pl'.isList (by rw[List.size_toArray,List.size_toArray];omega) (by omega) (fu r1 r2 hl hl1 fun j x y d e u w a b c k ra rb=>(h j x d a c).eqAt (h1 j y e b k) I ra rb (by show A.units+1+_<cLine;omega))
    rw[List.size_toArray,<- r1.length,hl,fB hz]at y;exact y
   ·rw[show deq (.lst ds) (.lst es)=false from jq hz]
    exact SeqAt.RcNeAt.lists_lengths pl.isList pl'.isList (by rw[List.size_toArray,List.size_toArray];simp;omega) (by omega)
end
section
variable {X:Cx}
inductive EQ (neg:Bool) (x:V) (y:V) (H:Hp) (Q:VK):Prop
 | mk:∀d e,(Rp H 9 x d)->(Rp H 9 y e)->(Q (.bl (if neg then !(deq d e) else deq d e)) H)->EQ neg x y H Q
theorem v4(hu:X.A.units+10<cLine):OpR X (compareOp .Eq) (EQ false):=by
 intro pins s σ H x y v u Q I rx ry h;obtain⟨d,e,rd,re,k⟩:=h;exact rd.rcAt re I rx ry (by omega) _ _ _ _ ⟨.bl _,H,I,rfl,k⟩
theorem og(hu:X.A.units+10<cLine):OpR X (compareOp .NotEq) (EQ true):=by
 intro pins s σ H x y v u Q I rx ry h;obtain⟨d,e,rd,re,k⟩:=h;exact rd.rcNeAt re I rx ry (by omega) _ _ _ _ ⟨.bl _,H,I,rfl,k⟩
end
section
variable {H:Hp} {n:Nat} {p:Addr} {x y z w:V} {a b c d:D}
theorem Rp.t2(e:H p=some (.tup [x,y]))(ha:Rp H n x a)(hb:Rp H n y b):Rp H (n+1) (.ref p) (.tup [a,b]):=.tup e rfl fun j x d h k=>by
 match j with
 | 0=>cases h;cases k;exact ha
 | 1=>cases h;cases k;exact hb
 | j+2=>simp at h
theorem Rp.t3(e:H p=some (.tup [x,y,z]))(ha:Rp H n x a)(hb:Rp H n y b)(hc:Rp H n z c):Rp H (n+1) (.ref p) (.tup [a,b,c]):=.tup e rfl fun j x d h k=>by
 match j with
 | 0=>cases h;cases k;exact ha
 | 1=>cases h;cases k;exact hb
 | 2=>cases h;cases k;exact hc
 | j+3=>simp at h
mutual
theorem dB:∀d:D,deq d d=true
 | .non=>rfl
 | .bl b=>by simp[deq]
 | .int i=>by simp[deq]
 | .str x=>by simp[deq]
 | .tup ds=>by simp only[deq];exact gX ds
 | .lst ds=>by simp only[deq];exact gX ds
theorem gX:∀ds:List D,fL ds ds=true
 | []=>by simp[fL]
 | d::ds=>by simp only[fL,Bool.and_eq_true];exact⟨dB d,gX ds⟩
end
end
end L2
namespace L2
open PySem PySem.Spec PyProof.Rows
section
variable {κ:Type} [DecidableEq κ]
def eG(kvs:List (κ×V))(k:κ):Option V:=(kvs.find? fun kv=>decide (kv.1=k)).map (·.2)
def fJ(kvs:List (κ×V))(k:κ)(v:V):List (κ×V) :=
 if (kvs.any fun kv=>decide (kv.1=k))=true then kvs.map (fun kv=>if kv.1=k then (kv.1,v) else kv) else kvs++[(k,v)]
theorem eF{p:κ×V}{r:List (κ×V)}{k:κ}(e:p.1=k):eG (p::r) k=some p.2:=by simp[eG,List.find?_cons,e]
theorem dI{p:κ×V}{r:List (κ×V)}{k:κ}(e:¬p.1=k):eG (p::r) k=eG r k:=by simp[eG,List.find?_cons,e]
theorem iO(k:κ):∀kvs:List (κ×V),(kvs.any fun kv=>decide (kv.1=k))=(eG kvs k).isSome
 | []=>rfl
 | p::r=>by
  rw[List.any_cons]
  by_cases e:p.1=k
  ·simp only[eF e,decide_eq_true e,Bool.true_or,Option.isSome_some]
  ·rw[dI e,decide_eq_false e,Bool.false_or];exact iO k r
theorem hV(kvs:List (κ×V))(k:κ)(v:V):(fJ kvs k v).length≤kvs.length+1:=by
 unfold fJ
 split
 ·rw[List.length_map];omega
 ·rw[List.length_append,List.length_cons,List.length_nil];omega
theorem lS{kvs:List (κ×V)}{k:κ}(v:V)(h:eG kvs k=none):fJ kvs k v=kvs++[(k,v)]:=by
 unfold fJ;rw[iO,h];exact if_neg (by decide)
theorem jB.isSome_eq{o:Option V}{u:Option Value}(r:jB o u):o.isSome=u.isSome:=by
 cases o with
 | none=>cases u with
  | none=>rfl
  | some _=>exact(show False from r).elim
 | some _=>cases u with
  | none=>exact(show False from r).elim
  | some _=>rfl
theorem KV.val{kvs:List (κ×V)}{vs:List (κ×Value)}(r:KV kvs vs)(k:κ):jB (eG kvs k) (valueAt vs k):=by
 unfold KV at r
 induction r with
 | nil=>exact True.intro
 | @cons p q ps qs h t ih =>
  obtain⟨h1,h2⟩:=h
  by_cases e:p.1=k
  ·have e':q.1=k:=h1.symm.trans e
   have b:valueAt (q::qs) k=some q.2:=by simp[valueAt,List.find?_cons,e']
   rw[eF e,b];exact h2
  ·have e':¬q.1=k:=fun z=>e (h1.trans z)
   have b:valueAt (q::qs) k=valueAt qs k:=by simp[valueAt,List.find?_cons,e']
   rw[dI e,b];exact ih
theorem KV.any{kvs:List (κ×V)}{vs:List (κ×Value)}(r:KV kvs vs)(k:κ):(kvs.any fun kv=>decide (kv.1=k))=vs.any fun kv=>decide (kv.1=k):=by
 unfold KV at r
 induction r with
 | nil=>rfl
 | cons h t ih=>rw[List.any_cons,List.any_cons,ih,h.1]
theorem KV.repl{kvs:List (κ×V)}{vs:List (κ×Value)}(r:KV kvs vs)(k:κ){y:V}{u:Value}(ry:aT y u) :
  KV (kvs.map fun kv=>if kv.1=k then (kv.1,y) else kv) (vs.map fun kv=>if kv.1=k then (kv.1,u) else kv):=by
 unfold KV at r ⊢
 induction r with
 | nil=>exact .nil
 | @cons p q ps qs h t ih =>
  rw[List.map_cons,List.map_cons];refine .cons ?_ ih;obtain⟨h1,h2⟩:=h
  by_cases e:p.1=k
  ·rw[if_pos e,if_pos (h1.symm.trans e)];exact⟨h1,ry⟩
  ·rw[if_neg e,if_neg (fun z=>e (h1.trans z))];exact⟨h1,h2⟩
theorem KV.put{kvs:List (κ×V)}{vs:List (κ×Value)}(r:KV kvs vs)(k:κ){y:V}{u:Value}(ry:aT y u):KV (fJ kvs k y) (stored vs k u):=by
 unfold fJ stored;rw[r.any k]
 by_cases e:(vs.any fun kv=>decide (kv.1=k))=true
 ·rw[if_pos e,if_pos e];exact r.repl k ry
 ·rw[if_neg e,if_neg e];exact Paired.snoc r ⟨rfl,ry⟩
theorem KV.length{kvs:List (κ×V)}{vs:List (κ×Value)}(r:KV kvs vs):kvs.length=vs.length:=Paired.length r
end
theorem mt{P:Program}{w:World}{k:Key}{u:Value}(r:aT (kV k) u):(cg P w).is k u=true:=by
 cases k with
 | inl i=>obtain⟨t,e⟩:=(show ∃t,u=Value.int i t from r);subst e;exact mh P w i t
 | inr x=>obtain⟨t,e⟩:=(show ∃t,u=Value.str x t from r);subst e;exact me P w x t
theorem j7{P:Program}{w:World}:∀{ks:List Key} {us:List Value},aR (ks.map kV) us->ItemsAre (cg P w) ks us
 | [],_,r=>by rw[List.map_nil]at r;cases r;exact .nil
 | k::ks,_,r=>by
  rw[List.map_cons]at r;cases r with
  | cons h t=>exact .cons (mt h) (j7 t)
abbrev KT(H:Hp):List (List Key×V)->List (List Key×Addr×Value)->Prop:=Paired fun p q=>p.1=q.1∧H q.2.1=some (.tup (p.1.map kV))∧aT p.2 q.2.2
theorem KT.val{H:Hp}{kvs:List (List Key×V)}{xs:List (List Key×Addr×Value)}(r:KT H kvs xs)(k:List Key):jB (eG kvs k) ((atKey xs k).map (·.2)):=by
 induction r with
 | nil=>exact True.intro
 | @cons p q ps qs h t ih =>
  obtain⟨h1,_,h2⟩:=h
  by_cases e:p.1=k
  ·have e':q.1=k:=h1.symm.trans e
   have b:atKey (q::qs) k=some q.2:=by simp[atKey,List.find?_cons,e']
   rw[eF e,b];exact h2
  ·have e':¬q.1=k:=fun z=>e (h1.trans z)
   have b:atKey (q::qs) k=atKey qs k:=by simp[atKey,List.find?_cons,e']
   rw[dI e,b];exact ih
theorem KT.repl{H:Hp}{kvs:List (List Key×V)}{xs:List (List Key×Addr×Value)}(r:KT H kvs xs)(k:List Key){y:V}{u:Value}(ry:aT y u) :
  KT H (kvs.map fun kv=>if kv.1=k then (kv.1,y) else kv) (xs.map (putAt k u)):=by
 induction r with
 | nil=>exact .nil
 | @cons p q ps qs h t ih =>
  rw[List.map_cons,List.map_cons];refine .cons ?_ ih;obtain⟨h1,h2,h3⟩:=h;unfold putAt
  by_cases e:p.1=k
  ·rw[if_pos e,if_pos (h1.symm.trans e)];exact⟨h1,h2,ry⟩
  ·rw[if_neg e,if_neg (fun z=>e (h1.trans z))];exact⟨h1,h2,h3⟩
theorem KT.put{H:Hp}{kvs:List (List Key×V)}{xs:List (List Key×Addr×Value)}(r:KT H kvs xs)(k:List Key){b:Addr}{y:V}{u:Value}(hb:H b=some (.tup (k.map kV)))(ry:aT y u) :
  KT H (fJ kvs k y) (storedH xs k b u):=by
 have e:(kvs.any fun kv=>decide (kv.1=k))=(atKey xs k).isSome:=by
  rw[iO,(r.val k).isSome_eq,Option.isSome_map]
 unfold fJ storedH;rw[e]
 by_cases q:(atKey xs k).isSome=true
 ·rw[if_pos q,if_pos q];exact r.repl k ry
 ·rw[if_neg q,if_neg q];exact Paired.snoc r ⟨rfl,hb,ry⟩
theorem KT.keeps{H H':Hp}{kvs:List (List Key×V)}{xs:List (List Key×Addr×Value)}(r:KT H kvs xs)(ht:∀b ys,H b=some (.tup ys)->H' b=some (.tup ys)):KT H' kvs xs :=
 Paired.mapP r fun _ _ z=>⟨z.1,ht _ _ z.2.1,z.2.2⟩
section
variable {P:Program} {w:World} {H:Hp} {h:Heap} {a:Addr}
theorem ve{u:HO}(ok:HOk P w H h)(e:Rd H a u):bH P w H h a u:=e.ok ok
theorem m6{kvs:List (Key×V)}(ok:HOk P w H h)(e:Rd H a (.dK kvs)):kvs.length≤sizeLine∧(a == sysModules)=false∧∃vs,KV kvs vs∧h.DictOf (cg P w) a vs :=
 show bH P w H h a (.dK kvs) from ve ok e
theorem xB{kvs:List (Key×V)}(ok:HOk P w H h)(e:H a=some (.dK kvs)):kvs.length≤sizeLine∧(a == sysModules)=false∧∃vs,KV kvs vs∧h.DictOf (cg P w) a vs:=m6 ok (.inl e)
theorem ja{ks:List Key}(ok:HOk P w H h)(e:H a=some (.tup (ks.map kV))):(tupleKind (cg P w)).is h ks a:=by
 obtain⟨_,its,r,o,h1,h2,n,h3⟩:=(show bH P w H h a (.tup (ks.map kV)) from ok a _ e);exact⟨o,its.toArray,n,h1,h2,h3,by simpa using j7 r⟩
theorem m4{kvs:List (List Key×V)}(ok:HOk P w H h)(e:Rd H a (.dT kvs)):kvs.length≤sizeLine∧(a == sysModules)=false ∧
  ∃xs,KT H kvs xs∧h.DictOfH (tupleKind (cg P w)) a xs:=by
 obtain⟨z,y,xs,r,o,es,ep,h1,h2,h3,h4,h5⟩:=(show bH P w H h a (.dT kvs) from ve ok e);refine⟨z,y,xs,r,o,es,ep,h1,h2,h3,h4,fun x hx=>?_,h5⟩;have all:∀{l:List (List Key×V)} {m:List (List Key×Addr×Value)},KT H l m->∀x∈m,(tupleKind (cg P w)).is h x.1 x.2.1:=by
  intro l m q
  induction q with
  | nil=>intro x hx;exact nomatch hx
  | @cons p q ps qs hq t ih =>
   intro x hx;rcases List.mem_cons.mp hx with e|hx
   ·subst e
    exact ja ok (by rw[<- hq.1];exact hq.2.1)
   ·exact ih x hx
 exact all r x hx
theorem xA{kvs:List (List Key×V)}(ok:HOk P w H h)(e:H a=some (.dT kvs)):kvs.length≤sizeLine∧(a == sysModules)=false ∧
  ∃xs,KT H kvs xs∧h.DictOfH (tupleKind (cg P w)) a xs:=m4 ok (.inl e)
end
def g9(H:Hp)(a:Addr)(y:V)(r:Option V):Prop :=
 (∃kvs k,Rd H a (.dK kvs)∧y=kV k∧r=eG kvs k)∨∃kvs k b,Rd H a (.dT kvs)∧y = .ref b∧H b=some (.tup (k.map kV))∧r=eG kvs k
def oH(H:Hp)(a:Addr)(y v:V)(H':Hp):Prop :=
 (∃kvs k,H a=some (.dK kvs)∧y=kV k∧kvs.length<sizeLine∧H'=upd H a (.dK (fJ kvs k v))) ∨
 ∃kvs k b,H a=some (.dT kvs)∧y = .ref b∧H b=some (.tup (k.map kV))∧kvs.length<sizeLine∧H'=upd H a (.dT (fJ kvs k v))
theorem g9.t{H:Hp}{a b:Addr}{kvs:List (List Key×V)}{k:List Key}(e:H a=some (.dT kvs))(eb:H b=some (.tup (k.map kV))):g9 H a (.ref b) (eG kvs k):=.inr ⟨kvs,k,b,.inl e,rfl,eb,rfl⟩
theorem oH.t{H:Hp}{a b:Addr}{kvs:List (List Key×V)}{k:List Key}{v:V}(e:H a=some (.dT kvs))(eb:H b=some (.tup (k.map kV)))(hl:kvs.length<sizeLine) :
  oH H a (.ref b) v (upd H a (.dT (fJ kvs k v))):=.inr ⟨kvs,k,b,e,rfl,eb,hl,rfl⟩
section
variable {X:Cx} {pins:List (Addr×Obj)} {σ:St} {H:Hp} {s:Shared} {a:Addr} {y v:V} {u r:Value} {o:Option V} {A:Around} {E:Value->Shared->Prop}
theorem yd.big(I:yd X pins σ H s):sysModules<s.heap.objs.size:=by
 have h:mainGlobals<s.heap.objs.size:=(I.mod.glob.keeps I.bk).lt;exact Nat.lt_trans (by decide) h
theorem qE{Q:Value->Shared->Prop}(hu:A.units+1<cLine)(I:yd X pins σ H s)(g:g9 H a y (some v))(ry:aT y u)(h:∀w' s',yd X pins σ H s'->aT v w'->Q w' s') :
  wpAny (model X.prog X.w) A (getItem (.ref a) u) Q E s:=by
 rcases g with⟨kvs,k,e,ey,l⟩|⟨kvs,k,b,e,ey,eb,l⟩
 ·subst ey
  obtain⟨z,hd,vs,rel,dd⟩:=m6 I.hok e;obtain⟨w',hw,rw'⟩:=jB.some_of (v:=v) (o:=valueAt vs k) (by rw[l];exact rel.val k);exact wpAny_getItem_of (mt ry) dd.mapOf hw (h w' _ (I.tok _) rw')
 ·subst ey
  cases (show u=Value.ref b from ry);obtain⟨z,hd,xs,rel,dd⟩:=m4 I.hok e;obtain⟨w',hw,rw'⟩:=jB.some_of (v:=v) (o:=(atKey xs k).map (·.2)) (by rw[l];exact rel.val k);obtain⟨p,hp,hp2⟩:=Option.map_eq_some_iff.mp hw;refine wpAny_getItem_heap (tupleKind_room_in1 hu) (ja I.hok eb) dd hp ?_;rw[hp2];exact h w' _ (I.tok _) rw'
theorem x6{Q:Value->Shared->Prop}(hu:A.units+1<cLine)(I:yd X pins σ H s)(g:g9 H a y o)(ry:aT y u)(h:∀s',yd X pins σ H s'->Q (.bool o.isSome) s') :
  wpAny (model X.prog X.w) A (compareOp .In u (.ref a)) Q E s:=by
 rcases g with⟨kvs,k,e,ey,l⟩|⟨kvs,k,b,e,ey,eb,l⟩
 ·subst ey
  obtain⟨z,hd,vs,rel,dd⟩:=m6 I.hok e;refine wpAny_in_of (mt ry) hd dd.mapOf ?_;rw[<- (rel.val k).isSome_eq,<- l];exact h _ (I.tok _)
 ·subst ey
  cases (show u=Value.ref b from ry);obtain⟨z,hd,xs,rel,dd⟩:=m4 I.hok e;refine wpAny_in_heap (tupleKind_room_in1 hu) (ja I.hok eb) hd dd ?_;have q:=(rel.val k).isSome_eq;rw[Option.isSome_map]at q;rw[<- q,<- l];exact h _ (I.tok _)
theorem uM{Q:Value->Shared->Prop}(hu:A.units+1<cLine)(I:yd X pins σ H s)(g:g9 H a y o)(ry:aT y u)(h:∀s',yd X pins σ H s'->Q (.bool (!o.isSome)) s') :
  wpAny (model X.prog X.w) A (compareOp .NotIn u (.ref a)) Q E s:=by
 rcases g with⟨kvs,k,e,ey,l⟩|⟨kvs,k,b,e,ey,eb,l⟩
 ·subst ey
  obtain⟨z,hd,vs,rel,dd⟩:=m6 I.hok e;refine wpAny_notIn_of (mt ry) hd dd.mapOf ?_;rw[<- (rel.val k).isSome_eq,<- l];exact h _ (I.tok _)
 ·subst ey
  cases (show u=Value.ref b from ry);obtain⟨z,hd,xs,rel,dd⟩:=m4 I.hok e;refine wpAny_notIn_heap (tupleKind_room_in1 hu) (ja I.hok eb) hd dd ?_;have q:=(rel.val k).isSome_eq;rw[Option.isSome_map]at q;rw[<- q,<- l];exact h _ (I.tok _)
theorem pK{h':Heap}{t':Nat}{ob:HO}(I:yd X pins σ H s)(mu:Mut (H a))(hs:Heap.SameBut a s.heap h')(he:∃q,h'.get? a=some q)(new:bH X.prog X.w (upd H a ob) h' a ob) :
  yd X pins σ (upd H a ob) { s with heap:=h',toks:=t' } :=
 I.write (x:=a) (e:=a) mu (.inl rfl) (fun b q hb z=>(hs.2 b hb).trans z) he new
theorem wu{P:Program}{w:World}{H':Hp}{h':Heap}{kvs:List (Key×V)}{vs:List (Key×Value)}(z:kvs.length≤sizeLine)(hd:(a == sysModules)=false)(rel:KV kvs vs)(dd:h'.DictOf (cg P w) a vs) :
  bH P w H' h' a (.dK kvs):=⟨z,hd,vs,rel,dd⟩
theorem qD{H':Hp}{Q:Unit->Shared->Prop}(hu:A.units+1<cLine)(I:yd X pins σ H s)(g:oH H a y v H')(ry:aT y u)(rv:aT v r)(h:∀s',yd X pins σ H' s'->Q () s') :
  wpAny (model X.prog X.w) A (setItem (.ref a) u r) Q E s:=by
 rcases g with⟨kvs,k,e,ey,l,eH⟩|⟨kvs,k,b,e,ey,eb,l,eH⟩
 ·subst ey eH
  obtain⟨z,hd,vs,rel,dd⟩:=xB I.hok e;have hz:vs.length≤sizeLine:=by rw[<- rel.length];exact z
  have hl:(fJ kvs k v).length≤sizeLine:=by have:=hV kvs k v;omega
  refine wpAny_setItem_pairs (hsz:=hz) (mt ry) dd fun h' dd' hs=>h _ ?_;have he:∃q,h'.get? a=some q:=let ⟨q,_,_,hq,_⟩:=dd';⟨q,hq⟩;exact pK I (by rw[e];exact True.intro) hs he (wu hl hd (rel.put k rv) dd')
 ·subst ey eH
  cases (show u=Value.ref b from ry);obtain⟨z,hd,xs,rel,dd⟩:=xA I.hok e;have hz:xs.length≤sizeLine:=by rw[<- Paired.length rel];exact z
  have hl:(fJ kvs k v).length≤sizeLine:=by have:=hV kvs k v;omega
  refine wpAny_setItem_heap (hsz:=hz) (tupleKind_room_in1 hu) (ja I.hok eb) dd fun h' dd' hs=>h _ ?_;obtain⟨q,es,ep,hq,h2,h3,h4,_,h5⟩:=dd';refine pK I (by rw[e];exact True.intro) hs ⟨q,hq⟩ ⟨hl,hd,_,(rel.put k eb rv).keeps fun c ys ec=>?_,q,es,ep,hq,h2,h3,h4,h5⟩;rw[aN (rQ ec e (fun z=>nomatch z))]
  exact ec
end
section
variable {X:Cx} {pins:List (Addr×Obj)} {σ:St} {H:Hp} {s:Shared} {a:Addr} {kvs:List (Key×V)} {k:Key} {u:Value} {A:Around} {E:Value->Shared->Prop}
end
def xE(i:Expr):Prop:=∀ov iv,subscripted i false ov iv=operate [ov,iv] (getItem ov iv)
theorem tH{prog:Program}{w:World}{A:Around}{E:Value->Shared->Prop}{s:Shared}{env:Env}{value slice:Expr}{pos:Pos}{T id:String}{Q:Value->Shared->Prop}
  (hl:typeLookup (.type T) "__getitem__" = pure (some (.builtin id))) (hs:xE slice)
  (h:wpAny (model prog w) A (eval value env) (fun o s₁=>wpAny (model prog w) A (eval slice env) (fun i s₂=>s₂.TypeIs o T∧wpAny (model prog w) A (getItem o i) Q E s₂) E s₁) E s) :
  wpAny (model prog w) A (eval (.Subscript value slice pos) env) Q E s:=by
 refine Subscript_ (wpAny_mono h (fun o s₁ h₁=>wpAny_mono h₁ (fun i s₂ h₂=>?_) fun _ _ x=>x) fun _ _ x=>x);obtain⟨hT,h₂⟩:=h₂;unfold subscriptTail;refine wpAny_bind ?_;rw[getitemInPython_of_ne hT.not_modules];refine wpAny_bind (wpAny_specialOf hT hl ?_);have fin:wpAny (model prog w) A (subscripted slice false o i) (fun r s₃=>wpAny (model prog w) A (letTemporaryGo value o r >>= fun _=>pure r) Q E s₃) E s₂:=by
  rw[hs o i];exact wpAny_operating (wpAny_mono h₂ (fun r s₃ h₃=>wpAny_bind (wpAny_letTemporaryGo (wpAny_pure h₃))) fun _ _ x=>x)
 first
  | exact wpAny_pure (wpAny_bind fin)
  | exact wpAny_bind (wpAny_pure (wpAny_bind fin))
  | exact wpAny_bind fin
theorem m7{X:Cx}{pins:List (Addr×Obj)}{σ:St}{H:Hp}{s:Shared}{a:Addr}{y:V}{o:Option V}(I:yd X pins σ H s)(g:g9 H a y o):s.TypeIs (.ref a) "dict":=by
 rcases g with⟨kvs,k,e,_,_⟩|⟨kvs,k,b,e,_,_,_⟩
 ·obtain⟨_,_,vs,_,dd⟩:=m6 I.hok e
  exact dd.typeIs
 ·obtain⟨_,_,xs,_,dd⟩:=m4 I.hok e
  exact dd.typeIs
def wU(td ty:TE):TE:=fun σ H Q=>td σ H fun x H1=>ty σ H1 fun y H2=>∃a v,x = .ref a∧g9 H2 a y (some v)∧Q v H2
def xO(ty td:TE):TE:=fun σ H Q=>ty σ H fun y H1=>td σ H1 fun x H2=>∃a o,x = .ref a∧g9 H2 a y o∧Q (.bl o.isSome) H2
def tG(ty td:TE):TE:=fun σ H Q=>ty σ H fun y H1=>td σ H1 fun x H2=>∃a o,x = .ref a∧g9 H2 a y o∧Q (.bl (!o.isSome)) H2
def wZ(td ty tv:TE):TS:=fun D σ H=>tv σ H fun v H1=>td σ H1 fun x H2=>ty σ H2 fun y H3=>∃a H4,x = .ref a∧oH H3 a y v H4∧D.nx σ H4
section
variable {X:Cx} {o i e value:Expr} {pos pos' tpos:Pos} {td ty tv:TE}
theorem tW(hu:X.A.units+1<cLine)(ho:PE X o td)(hi:PE X i ty)(hs:xE i):PE X (.Subscript o i pos) (wU td ty):=by
 intro pins s σ H Q I h;refine tH PySem.F.slot_dict_getitem.lookup hs (thn (ho pins s σ H _ I h) fun u s1 ⟨x,H1,I1,rx,q1⟩=>thn (hi pins s1 σ H1 _ I1 q1) fun iv s2 ⟨y,H2,I2,ry,a,v,ex,g,q2⟩=>?_);subst ex;obtain rfl:u=Value.ref a:=rx;exact⟨m7 I2 g,qE hu I2 g ry fun w' s3 I3 rw'=>⟨v,H2,I3,rw',q2⟩⟩
theorem vZ(hu:X.A.units+1<cLine)(hi:PE X i ty)(ho:PE X o td):PC X .In i o (xO ty td):=by
 intro pins s σ H Q I h;refine thn (hi pins s σ H _ I h) fun iv s1 ⟨y,H1,I1,ry,q1⟩=>thn (ho pins s1 σ H1 _ I1 q1) fun u s2 ⟨x,H2,I2,rx,a,ov,ex,g,q2⟩=>?_;subst ex;obtain rfl:u=Value.ref a:=rx;exact x6 hu I2 g ry fun s3 I3=>⟨.bl ov.isSome,H2,I3,rfl,q2⟩
theorem jZ(hu:X.A.units+1<cLine)(hi:PE X i ty)(ho:PE X o td):PC X .NotIn i o (tG ty td):=by
 intro pins s σ H Q I h;refine thn (hi pins s σ H _ I h) fun iv s1 ⟨y,H1,I1,ry,q1⟩=>thn (ho pins s1 σ H1 _ I1 q1) fun u s2 ⟨x,H2,I2,rx,a,ov,ex,g,q2⟩=>?_;subst ex;obtain rfl:u=Value.ref a:=rx;exact uM hu I2 g ry fun s3 I3=>⟨.bl (!ov.isSome),H2,I3,rfl,q2⟩
theorem kE(hu:X.A.units+1<cLine)(ho:PE X o td)(hi:PE X i ty)(hv:PE X value tv)(hs:swapsWith value (some (.Subscript o i pos')) pos.line X.env=pure false) :
  PS X (.Assign [.Subscript o i pos'] value pos) (wZ td ty tv):=by
 intro pins s σ H D I h;refine wpAny_Assign_Subscript (thn (hv pins s σ H _ I h) fun r s1 ⟨v,H1,I1,rv,q1⟩=>thn (ho pins s1 σ H1 _ I1 q1) fun u s2 ⟨x,H2,I2,rx,q2⟩=>thn (hi pins s2 σ H2 _ I2 q2) fun iv s3 ⟨y,H3,I3,ry,a,H4,ex,g,q3⟩=>?_) hs;subst ex;obtain rfl:u=Value.ref a:=rx;exact qD hu I3 g ry rv fun s4 I4=>⟨σ,H4,I4,q3⟩
end
theorem sU{P:Program}{w:World}{H:Hp}(h:Heap)(hb:sysModules<h.objs.size):bH P w H (h.push { cls:=.type "dict",data:=.dict #[] }) h.objs.size (.dT []) :=
 ⟨Nat.zero_le _,beq_eq_false_iff_ne.mpr (Ne.symm (Nat.ne_of_lt hb)),[],.nil,_,#[],0,Heap.get?_push_size _ rfl,⟨rfl,rfl,rfl⟩,rfl,rfl,List.nodup_nil⟩
def vB:TE:=fun _ H Q=>∀p,H p=none->Q (.ref p) (upd H p (.dT []))
section
variable {X:Cx} {pos:Pos}
theorem lW:PE X (.Dict [] [] pos) vB:=fun pins s σ H Q I h =>
 wpAny_Dict_empty ⟨.ref s.heap.objs.size,_,I.laid (a:=s.heap.objs.size) (o:=.dT []) (t':=s.toks) (fun _ _ q=>Heap.get?_push_of_some _ q) (Nat.le_refl _) (sU s.heap I.big),rfl,h _ (I.hok.fresh (Nat.le_refl _))⟩
end
section
variable {X:Cx} {pins:List (Addr×Obj)} {σ:St} {H:Hp} {s:Shared} {a:Addr} {y d:V} {u r:Value} {o:Option V} {A:Around} {E:Value->Shared->Prop}
end
section
variable {X:Cx} {o e f:Expr} {apos cpos:Pos} {td ty tx:TE}
end
section
variable {X:Cx} {pins:List (Addr×Obj)} {σ:St} {H:Hp} {s:Shared} {a:Addr} {kvs:List (Key×V)} {A:Around} {E:Value->Shared->Prop}
end
section
variable {X:Cx} {pins:List (Addr×Obj)} {σ:St} {H:Hp} {s:Shared} {a:Addr} {y:V} {u:Value} {A:Around} {E:Value->Shared->Prop}
end
end L2
namespace L2
open PySem PySem.Spec PyProof.Rows
section
variable {prog:Program} {w:World} {A:Around} {E:Value->Shared->Prop} {s:Shared} {it d:Addr} {i ep:Nat} {es:Array DictEntry} {od:Obj}
theorem rn{Q:Value->Shared->Prop}(hd:(d == sysModules)=false)(ho:s.heap.get? d=some od)(hc:od.cls = .type "dict")(hdat:od.data = .dict es ep)
  (hQ:Q (.ref s.heap.objs.size) { s with heap:=s.heap.push { cls:=.type "dict_keyiterator",data:=.fields #[.ref d,.int 0 0,.int es.size 0,.int ep 0] } }):wpAny (model prog w) A (pyIter (.ref d)) Q E s:=by
 have hT:s.TypeIs (.ref d) "dict":=⟨od,ho,hc⟩;refine wpAny_pyIter_slot hT F.slot_dict_iter (wpAny_call_entry F.slot_dict_iter hT F.entry_dict_iter ?_ (F.args_dict_iter_1 _));unfold Builtin.«dict.__iter__»;refine wpAny_bind ?_;unfold Builtin.Dict.dictSlotNone;refine wpAny_bind (wpAny_notOrdered_dict hT ?_);show wpAny _ _ (pure (Value.ref d)) _ _ s;refine wpAny_pure ?_;show wpAny _ _ (Builtin.Dict.showsAll d >>= _) _ _ s;unfold Builtin.Dict.showsAll;rw[if_neg (by rw[hd];exact Bool.false_ne_true)];refine wpAny_bind (wpAny_pure (wpAny_bind (wpAny_dictEntries ho hdat (wpAny_bind (wpAny_dictEpoch ho hdat ?_)))));exact wpAny_bind (wpAny_newObj_type (wpAny_pure ⟨_,rfl,"dict_keyiterator",_,⟨_,Heap.get?_push_size _ rfl,rfl⟩,F.slot_dict_keyiterator_next.lookup,hQ⟩))
theorem rz{Q:Option Value->Shared->Prop}(hit:s.heap.IsKeyIter it d i es.size ep)(hod:s.heap.get? d=some od)(hdd:od.data = .dict es ep)(hi:i<es.size)
  (hQ:∀h',h'.IsKeyIter it d (i+1) es.size ep->Heap.SameBut it s.heap h'->Q (some es[i].key) { s with heap:=h' }):wpAny (model prog w) A (pyNext (.ref it)) Q E s:=by
 obtain⟨o,ho,hc,hd⟩:=id hit;unfold pyNext;refine wpAny_bind (wpAny_attempt (wpAny_callSpecial?_slot (name:=Str.ofString "__next__") hit.typeIs F.slot_dict_keyiterator_next (wpAny_call_entry F.slot_dict_keyiterator_next hit.typeIs F.entry_dict_keyiterator_next ?_ (F.args_dict_keyiterator_next_1 _))));refine wpAny_bind (wpAny_pure (wpAny_bind (wpAny_bind ?_)))
 first|refine wpAny_bind (wpAny_typeNameOfWhole_keyiter hit.typeIs (wpAny_pure (wpAny_bind (wpAny_fieldsOf ho hd ?_))))|refine wpAny_bind (wpAny_typeNameOf_keyiter hit.typeIs (wpAny_pure (wpAny_bind (wpAny_fieldsOf ho hd ?_))))
 simp only[show Builtin.Dict_items.ownsTuple "dict_keyiterator" = false by decide,Bool.false_eq_true,if_false];show wpAny _ _ (if (Value.ref d == Value.none)=true then _ else _) _ _ s
 rw[if_neg (show ¬((Value.ref d == Value.none)=true) from Bool.false_ne_true)];refine wpAny_bind (wpAny_pure (wpAny_bind (wpAny_dictEntries hod hdd ?_)));rw[if_neg (by simp)];refine wpAny_bind (wpAny_pure (wpAny_bind (wpAny_dictEpoch hod hdd ?_)));rw[if_neg (by simp)];refine wpAny_pure ?_;simp only[show ¬((i:Int)<0) from by omega,if_false,Int.toNat_natCast,Array.getElem?_eq_getElem hi];refine wpAny_bind ?_
 first|refine wpAny_bind (wpAny_typeNameOfWhole_keyiter hit.typeIs (wpAny_pure (wpAny_bind (wpAny_isOneOf_keyiter hit.typeIs ?_))))|refine wpAny_bind (wpAny_typeNameOf_keyiter hit.typeIs (wpAny_pure (wpAny_bind (wpAny_isOneOf_keyiter hit.typeIs ?_))))
 show wpAny _ _ (setField (.ref it) 1 (rawInt ((i:Int)+1)) >>= _) _ _ s;refine wpAny_bind (wpAny_setField ho hd (by simp) ?_);have hit':(s.heap.update it (Obj.mapFields (·.setIfInBounds 1 (rawInt ((i:Int)+1))))).IsKeyIter it d (i+1) es.size ep:=⟨_,Heap.get?_update_self _ ho (Obj.isFreed_of_fields (Obj.data_mapFields hd _)),(Obj.cls_mapFields ..).trans hc,by rw[Obj.data_mapFields hd];simp[rawInt]⟩;refine wpAny_bind (wpAny_holding (wpAny_bind (wpAny_isOneOf_keyiter (s:={ s with heap:=s.heap.update it (Obj.mapFields (·.setIfInBounds 1 (rawInt ((i:Int)+1)))) }) hit'.typeIs ?_)));show wpAny _ _ (pure es[i].key) _ _ _;exact wpAny_pure (wpAny_pure ⟨_,rfl,wpAny_pure (hQ _ hit' (Heap.SameBut.update ..))⟩)
theorem tO{Q:Option Value->Shared->Prop}(hh:A.handled=none)(hit:s.heap.IsKeyIter it d i es.size ep)(hod:s.heap.get? d=some od)(hdd:od.data = .dict es ep)(hge:es.size≤i)
  (hQ:∀h',Heap.ExtBut it s.heap h'->Q none { s with heap:=h' }):wpAny (model prog w) A (pyNext (.ref it)) Q E s:=by
 obtain⟨o,ho,hc,hd⟩:=id hit;unfold pyNext;refine wpAny_bind (wpAny_attempt (wpAny_callSpecial?_slot (name:=Str.ofString "__next__") hit.typeIs F.slot_dict_keyiterator_next (wpAny_call_entry F.slot_dict_keyiterator_next hit.typeIs F.entry_dict_keyiterator_next ?_ (F.args_dict_keyiterator_next_1 _))));refine wpAny_bind (wpAny_pure (wpAny_bind (wpAny_bind ?_)))
 first|refine wpAny_bind (wpAny_typeNameOfWhole_keyiter hit.typeIs (wpAny_pure (wpAny_bind (wpAny_fieldsOf ho hd ?_))))|refine wpAny_bind (wpAny_typeNameOf_keyiter hit.typeIs (wpAny_pure (wpAny_bind (wpAny_fieldsOf ho hd ?_))))
 simp only[show Builtin.Dict_items.ownsTuple "dict_keyiterator" = false by decide,Bool.false_eq_true,if_false];show wpAny _ _ (if (Value.ref d == Value.none)=true then _ else _) _ _ s
 rw[if_neg (show ¬((Value.ref d == Value.none)=true) from Bool.false_ne_true)];refine wpAny_bind (wpAny_pure (wpAny_bind (wpAny_dictEntries hod hdd ?_)));rw[if_neg (by simp)];refine wpAny_bind (wpAny_pure (wpAny_bind (wpAny_dictEpoch hod hdd ?_)));rw[if_neg (by simp)];refine wpAny_pure ?_;simp only[show ¬((i:Int)<0) from by omega,if_false,Int.toNat_natCast,Array.getElem?_eq_none hge];refine wpAny_bind ?_
 first|refine wpAny_bind (wpAny_typeNameOfWhole_keyiter hit.typeIs (wpAny_pure ?_));show wpAny _ _ (setField (.ref it) 0 .none >>= _) _ _ s|refine wpAny_bind (wpAny_typeNameOf_keyiter hit.typeIs (wpAny_pure ?_));show wpAny _ _ (setField (.ref it) 0 .none >>= _) _ _ s
 refine wpAny_bind (wpAny_setField ho hd (by simp) ?_);show wpAny _ _ (newExc (.type "StopIteration") [] >>= _) _ _ _;refine wpAny_bind ?_;simp only[newExc,newTuple];refine wpAny_bind (wpAny_newObj_type ?_ (by size_fits));refine wpAny_bind (m:=firstArgMember _ _) (wpAny_of_eq (a:=Value.none) (by first|rfl|(simp only[firstArgMember];rfl)) ?_)
 refine wpAny_newObj_type ?_ (by size_fits);simp only[raiseNew];refine wpAny_bind (wpAny_handled ?_);rw[show A.in1.handled=none from hh];refine wpAny_bind (wpAny_pure (wpAny_throw ?_));exact wpAny_bind (wpAny_isInstance (T:="StopIteration") (b:=true) ⟨_,Heap.get?_push_size _ rfl,rfl⟩ isSubtype_stop (wpAny_pure (hQ _ (((Heap.SameBut.update ..).extBut.push _).push _))))
end
def Itd(a:Addr)(o:Obj)(kvs:List (List Key×V)):It :=
 ⟨fun i H=>H a=some (.frz o (.dT kvs))∧i<kvs.length,fun i H x H'=>H'=H∧∃k v b,kvs[i]? = some (k,v)∧x = .ref b∧H b=some (.tup (k.map kV)),fun i H=>H a=some (.frz o (.dT kvs))∧kvs.length≤i⟩
theorem jd{P:Program}{w:World}{H:Hp}{h:Heap}{a:Addr}{o:Obj}{kvs:List (List Key×V)}{es:Array DictEntry}{ep:Nat}(k:HOk P w H h)(e:H a=some (.frz o (.dT kvs)))(d:o.data = .dict es ep) :
  h.get? a=some o∧o.cls = .type "dict"∧(a == sysModules)=false∧es.size=kvs.length∧∀(i:Nat) (hi:i<es.size),∃q v b,kvs[i]? = some (q,v)∧es[i].key = .ref b∧H b=some (.tup (q.map kV)):=by
 obtain⟨g,_,sm,xs,pr,o',es',ep',g',ex,d',el,_⟩:=(show h.get? a=some o∧bH P w H h a (.dT kvs) from k a _ e);rw[g]at g';cases g';rw[d]at d';cases d';have len:es.size=kvs.length:=by
  have:=congrArg List.length el;rw[List.length_map]at this;rw[<- Array.length_toList,this];exact(Paired.length pr).symm
 refine⟨g,ex.1,sm,len,fun i hi=>?_⟩;have hx:i<xs.length:=by rw[<- Paired.length pr,<- len];exact hi
 have get:∀{kvs:List (List Key×V)} {xs:List (List Key×Addr×Value)},Paired (fun (p:List Key×V) (q:List Key×Addr×Value)=>p.1=q.1∧H q.2.1=some (.tup (p.1.map kV))∧aT p.2 q.2.2) kvs xs->∀(i:Nat) (q:List Key×Addr×Value),xs[i]? = some q->∃v,kvs[i]? = some (q.1,v)∧H q.2.1=some (.tup (q.1.map kV)):=by
  intro kvs xs pr
  induction pr with
  | nil=>intro i q e;simp at e
  | cons a r ih =>
   intro i q e;cases i with
   | zero =>
    simp at e;subst e;exact⟨_,by rw[<- a.1];rfl,by rw[<- a.1];exact a.2.1⟩
   | succ j=>exact ih j q (by simpa using e)
 obtain⟨q,hq⟩:∃q,xs[i]? = some q:=⟨xs[i],by simp[hx]⟩;obtain⟨v,e1,e2⟩:=get pr i q hq;have e3:es.toList[i]? = some (entryOfKey (tupleKind (cg P w)) q):=by rw[el,List.getElem?_map,hq];rfl
 have e4:es[i]=entryOfKey (tupleKind (cg P w)) q:=by
  have:es.toList[i]? = some es[i]:=by simp[hi]
  rw[this]at e3;exact Option.some.inj e3
 exact⟨q.1,v,q.2.1,e1,by rw[e4];rfl,e2⟩
theorem pQ{P:Program}{w:World}{K:W.Frag}{tg:Expr}{kvs:List (List Key×V)}{es:Array DictEntry}{ep:Nat}{o:Obj}(a it:Addr)(hd:o.data = .dict es ep):CU P w K tg (Itd a o kvs) [it] it (fun i h=>h.IsKeyIter it a i es.size ep) where
 mem:=by simp
 obj:=fun i h st b hb=>by
  have e:b=it:=by simpa using hb
  subst e;obtain⟨o,e,c,d⟩:=st;exact⟨o,e,fun v z=>by rw[d]at z;cases z⟩
 keep:=fun i h h' st k=>st.at fun o e=>k it (by simp) o e
 item:=by
  intro X hP hw hK hc i pins s σ H E I hf st hg;subst hP hw hK;obtain⟨e,hi⟩:=hg;obtain⟨g,gc,_,len,at'⟩:=jd I.hok e hd;obtain⟨q,v,b,e1,e2,e3⟩:=at' i (by omega);obtain⟨f0,f1,f2,f3,f4,f5⟩:=hf it (by simp);refine rz st g hd (by omega) fun h' st' sb=>?_;have I1:yd X pins σ H { s with heap:=h' }:=I.turned (t':=s.toks) (fun b o hb e=>(sb.2 b hb).trans e) f0 f1 f3 f4 f5;obtain⟨oi,ei,ci,di⟩:=id st';exact⟨_,rfl,pi (s:={ s with heap:=h' }) ei ci di (by decide) ⟨.ref b,H,I1,e2,⟨rfl,q,v,b,e1,rfl,e3⟩,st',fun b hb=>(hf b hb).1⟩⟩
 done:=by
  intro X hP hw hK hc i pins s σ H E I hf st hg;subst hP hw hK;obtain⟨e,hi⟩:=hg;obtain⟨g,gc,_,len,_⟩:=jd I.hok e hd;obtain⟨f0,f1,f2,f3,f4,f5⟩:=hf it (by simp);exact tO (I.ok.hd hc) st g hd (by omega) fun h' eb=>⟨rfl,I.turned (t':=s.toks) (fun b o hb e=>eb b o hb e) f0 f1 f3 f4 f5⟩
 self:=fun _ _ _ _ _ st h=>wpAny_pyIter_keyiter st h
section
variable {X:Cx} {tg:Expr}
def xm(tl:TE):TI:=fun σ H R=>tl σ H fun x H1=>∃a o kvs,x = .ref a∧H1 a=some (.frz o (.dT kvs))∧R (Itd a o kvs) H1
theorem oY{l:Expr}{tl:TE}(hl:PE X l tl):PI X tg l (xm tl):=by
 intro pins s σ H R I h;refine thn (hl pins s σ H _ I h) fun v s1 ⟨x,H1,I1,r1,q1⟩=>?_;obtain⟨a,o,kvs,rfl,e,q⟩:=q1;obtain rfl:v=Value.ref a:=r1;obtain⟨es,ep,d⟩:∃es ep,o.data = .dict es ep:=by
  obtain⟨g,_,_,xs,pr,o',es',ep',g',ex,d',_⟩:=(show s1.heap.get? a=some o∧bH X.prog X.w H1 s1.heap a (.dT kvs) from I1.hok a _ e);rw[g]at g';cases g';exact⟨_,_,d'⟩
 obtain⟨g,gc,sm,len,_⟩:=jd I1.hok e d;refine rn sm g gc d ?_;refine⟨s1.heap.objs.size,[s1.heap.objs.size],_,_,H1,rfl,I1.kept (t':=s1.toks) fun b o e=>Heap.get?_push_of_some _ e,pQ a _ d,⟨_,Heap.get?_push_size _ rfl,rfl,rfl⟩,fun b hb=>?_,q⟩;have e:b=s1.heap.objs.size:=by simpa using hb
 subst e;exact I1.fpOk (Nat.le_refl _) (I1.hok.fresh (Nat.le_refl _))
def xM(te:TE):TE:=fun σ H Q=>te σ H fun x H1=>∃a kvs,x = .ref a∧H1 a=some (.dT kvs)∧∀o,Q (.ref a) (upd H1 a (.frz o (.dT kvs)))
theorem vY{e:Expr}{te:TE}(h:PE X e te):PE X e (xM te):=by
 intro pins s σ H Q I hq;refine thn (h pins s σ H _ I hq) fun v s1 ⟨x,H1,I1,r1,a,kvs,ex,ea,k⟩=>?_;subst ex;have ok:=I1.hok a _ ea;obtain⟨_,_,_,_,o,_,_,g,_⟩:=(show bH X.prog X.w H1 s1.heap a (.dT kvs) from ok);have tup:∀b xs,H1 b=some (.tup xs)->upd H1 a (.frz o (.dT kvs)) b=some (.tup xs):=fun b xs q=>by
  rw[aN (fun z=>by rw[z,ea]at q;cases q)];exact q
 have J:yd X pins σ (upd H1 a (.frz o (.dT kvs))) { s1 with heap:=s1.heap,toks:=s1.toks }:=I1.write (x:=a) (e:=a) (by rw[ea];trivial) (.inl rfl) (fun _ _ _ q=>q) ⟨o,g⟩
  ⟨g,ok.stay (fun _ _ _ q=>q) (fun b q=>by rw[aN (fun z=>by rw[z,ea]at q;cases q)];exact q) tup⟩
 exact⟨.ref a,_,J,r1,k o⟩
end
end L2
namespace PySem
namespace F
end F
section
variable {prog:Program} {w:World} {A:Around} {E:Value->Shared->Prop}
end
end PySem
namespace L2
open PySem PySem.Spec PyProof.Rows
inductive C9 (x:V) (vs:List V) (H:Hp) (Q:VK):Prop
 | mk:∀l b xs zs,(x = .ref l)->(vs = [.ref b])->(H l=some (.lst xs))->(H b=some (.lst zs))->(xs.length+zs.length≤sizeLine)->(∀H',Ce H H' l xs (xs++zs)->Q .non H')->C9 x vs H Q
theorem d7{X:Cx}:MtM X "list.extend" C9:=fun pins s σ H x xs v us Q I rx rs ⟨l,b,ys,zs,e1,e2,h,h2,hz,q⟩ =>
 qi pins s σ H x xs v us Q I rx rs ⟨l,b,ys,zs,e1,e2,h,h2,hz,q _ (.mk' h)⟩
inductive DR (x:V) (vs:List V) (H:Hp) (Q:VK):Prop
 | mk:∀l xs,(x = .ref l)->(vs = [])->(H l=some (.lst xs))->(∀H',Ce H H' l xs []->Q .non H')->DR x vs H Q
theorem qj{X:Cx}:MtM X "list.clear" DR:=fun pins s σ H x xs v us Q I rx rs ⟨l,ys,e1,e2,h,q⟩ =>
 rR pins s σ H x xs v us Q I rx rs ⟨l,ys,e1,e2,h,q _ (.mk' h)⟩
theorem lF{P:Program}{w:World}{K:W.Frag}{tg:Expr}(it:Addr)(lo c:Int)(n:Nat):CU P w K tg ⟨fun i _=>i<n,fun i H x H'=>H'=H∧x = .int (lo+i*c),fun i _=>n≤i⟩ [it] it (fun i h=>IsRangeIter h it (lo+(i:Nat)*c) ((n:Int) - (i:Nat)) c) where
 mem:=by simp
 obj:=fun i h st b hb=>by
  have e:b=it:=by simpa using hb
  subst e;exact⟨_,st,fun v z=>by have z':Data.fields _=Data.cell v:=z;cases z'⟩
 keep:=fun i h h' st k=>k it (by simp) _ st
 item:=by
  intro X hP hw hK hc i pins s σ H E I hf st hg;subst hP hw hK;obtain⟨f0,f1,f2,f3,f4,f5⟩:=hf it (by simp);have W:=Walks.range (prog:=X.prog) (w:=X.w) (I.ok.hd hc) it lo c n;refine W.item i s _ _ hg st fun v h' tk hv st' kk=>?_;obtain⟨t,rfl⟩:=hv;have I1:yd X pins σ H { s with heap:=h',toks:=tk }:=I.turned (fun b o hb e=>kk b o (by simpa using hb) e) f0 f1 f3 f4 f5;exact⟨_,rfl,pi (s:={ s with heap:=h',toks:=tk }) (n:="range_iterator") st' rfl rfl (by decide) ⟨.int (lo+i*c),H,I1,⟨t,rfl⟩,⟨rfl,rfl⟩,st',fun b hb=>(hf b hb).1⟩⟩
 done:=by
  intro X hP hw hK hc i pins s σ H E I hf st hg;subst hP hw hK;obtain⟨f0,f1,f2,f3,f4,f5⟩:=hf it (by simp);exact wpAny_pyNext_range_end (I.ok.hd hc) st (by have:n≤i:=hg;omega) fun h' eb=>⟨rfl,I.turned (t':=s.toks) (fun b o hb e=>eb b o hb e) f0 f1 f3 f4 f5⟩
 self:=fun _ _ _ _ _ st h=>wpAny_pyIter_rangeiter st h
def uW(n:Nat):It:=⟨fun i _=>i<n,fun i H x H'=>H'=H∧x = .int (0+i*3),fun i _=>n≤i⟩
def wj(ta:TA):TI:=fun σ H R=>ta σ H fun vs H1=>∃j:Int,vs = [.int 0,.int j,.int 3]∧0≤j∧j≤1000∧R (uW ((j+2) / 3).toNat) H1
theorem nZ{X:Cx}{tg:Expr}{a b c:Expr}{ta:TA}{p pos:Pos}(hg:Gl X "range")(hm:X.mg "range" = none)(ha:PA X [a,b,c] ta)(hs:starEach [a,b,c] X.env = [(false,eval a X.env),(false,eval b X.env),(false,eval c X.env)]:=by rfl)(hs2:starEach [b,c] X.env = [(false,eval b X.env),(false,eval c X.env)]:=by rfl) :
  PI X tg (.Call (.Name "range" p) [a,b,c] [] pos) (wj ta):=by
 intro pins s σ H R I h;refine Call_ (eT I hg hm boot_range (PyProof.Rows.callWith_type1 (thn (ha pos pins s σ H _ I h) fun us s1 ⟨vs,H1,I1,r1,q1⟩=>?_) (by rw[hs,hs2]) (by rw[hs2];rfl)));obtain⟨j,e,q1,q2,q⟩:=q1;subst e;obtain⟨u1,us,rfl,⟨t1,rfl⟩,r2⟩:∃u1 us',us=u1::us'∧aT (.int 0) u1∧aR [.int j,.int 3] us':=by
  cases r1 with
  | cons a b=>exact⟨_,_,rfl,a,b⟩
 obtain⟨u2,u3,rfl,⟨t2,rfl⟩,⟨t3,rfl⟩⟩:=lE r2;have hsz:Builtin.Range.rangeSize 0 j 3=(((j+2) / 3).toNat:Int):=by
  unfold Builtin.Range.rangeSize;simp only[show(3:Int)>0 by decide,if_true]
  split <;> omega
 have hsm:Builtin.Range.small 0 j 3=true:=by
  unfold Builtin.Range.small;rw[hsz];simp only[Builtin.Range.rangeFitsLong,Bool.and_eq_true,Bool.or_eq_true,decide_eq_true_eq,beq_iff_eq,show(3:Int)>0 by decide,if_true];omega
 refine callType_new F.called_range (by decide) (F.typeCall_range_3 _ _ _) (F.newCall_range_3 _ _ _) (fun obj=>F.initArgs_range_3 obj _ _ _) F.entry_range_new (AutoRange.range___new___type_int_int_int_1 0 j 3 t1 t2 t3 F.called_range.sub (by decide)) ⟨by unfold Builtin.divisionGoesByPylong;rfl,⟨_,Heap.get?_push_size _ rfl,rfl⟩,?_⟩;refine wpAny_pyIter_range (IsRange.new ..) hsm ?_;rw[hsz];have I2:yd X pins σ H1 { s1 with heap:=s1.heap.push { cls:=.type "range",data:=.fields #[.int 0 t1,.int j t2,.int 3 t3] } }:=I1.kept (t':=s1.toks) fun b o e=>Heap.get?_push_of_some _ e;refine⟨_,[(s1.heap.push { cls:=.type "range",data:=.fields #[.int 0 t1,.int j t2,.int 3 t3] }).objs.size],_,_,H1,rfl,I2.kept (t':=s1.toks) fun b o e=>Heap.get?_push_of_some _ e,lF _ 0 3 ((j+2) / 3).toNat,?_,fun b hb=>?_,q⟩
 ·show IsRangeIter _ _ (0+((0:Nat):Int)*3) ((((j+2) / 3).toNat:Int) - ((0:Nat):Int)) 3
  rw[show(0:Int)+((0:Nat):Int)*3=0 from rfl,show((((j+2) / 3).toNat:Int) - ((0:Nat):Int))=(((j+2) / 3).toNat:Int) by omega];exact Heap.get?_push_size _ rfl
 ·have e:b=(s1.heap.push { cls:=.type "range",data:=.fields #[.int 0 t1,.int j t2,.int 3 t3] }).objs.size:=by simpa using hb
  subst e;exact I2.fpOk (Nat.le_refl _) (I2.hok.fresh (Nat.le_refl _))
theorem oq{n:Nat}{g:TG}{tb:TS}{D:Cz}{σ:St}{H:Hp}(Pv:Nat->St->Hp->Prop)(h0:Pv 0 σ H)
  (hs:∀i σ H,i<n->Pv i σ H->g (.int (0+i*3)) σ H fun σ2 H2=>tb { D with nx:=Pv (i+1),ct:=Pv (i+1),bk:=D.nx } σ2 H2) (hd:∀σ H,Pv n σ H->D.nx σ H) :
  ∃W:Nat->Nat->St->Hp->Prop,(∃m,W 0 m σ H)∧∀i m σ H,W i m σ H ->
   ((uW n).stop i H∧D.nx σ H)∨((uW n).go i H∧∃N:St->Hp->Prop,(∀σ' H',N σ' H'->∃m',m'<m∧W (i+1) m' σ' H')∧∀x H',(uW n).yld i H x H'->g x σ H' fun σ2 H2=>tb { D with nx:=N,ct:=N,bk:=D.nx } σ2 H2):=by
 refine⟨fun i m σ H=>m=n - i∧i≤n∧Pv i σ H,⟨n,by simp,Nat.zero_le _,h0⟩,?_⟩;rintro i m σ H ⟨rfl,hi,p⟩
 by_cases hlt:i<n
 ·refine .inr ⟨hlt,Pv (i+1),fun σ' H' p'=>⟨n - (i+1),by omega,rfl,hlt,p'⟩,fun x H' ⟨e,y⟩=>?_⟩
  subst e y;exact hs i σ _ hlt p
 ·have e:i=n:=by omega
  subst e;exact .inl ⟨Nat.le_refl _,hd σ H p⟩
end L2
namespace L2
open PySem PySem.Spec PyProof.Rows PySem.W
abbrev KnO(o:Obj):HO:=.frz o (.ext fun _=>True)
theorem mr{P:Program}{w:World}{H:Hp}{h:Heap}{a:Addr}{o:Obj}(e:h.get? a=some o):bH P w H h a (KnO o):=⟨e,trivial,⟨o,e⟩,fun _ _ _ _=>trivial⟩
theorem fV{P:Program}{w:World}{H:Hp}{h:Heap}{a:Addr}{o:Obj}(k:HOk P w H h)(e:H a=some (KnO o)):h.get? a=some o:=(show h.get? a=some o∧_ from k a _ e).1
def bO(H:Hp)(c:Addr)(v:V):Prop:=∃o u,H c=some (KnO o)∧o.data = .cell (some u)∧aT v u
def eB(H:Hp)(c:Addr)(q:Str):Prop:=∃o vs t,H c=some (KnO o)∧o.data = .fields vs∧vs[1]? = some (.str q t)
theorem eB.rec_{P:Program}{w:World}{H:Hp}{h:Heap}{c:Addr}{q:Str}(x:eB H c q)(k:HOk P w H h):h.CodeRec (.ref c) q:=by
 obtain⟨o,vs,t,e,d,g⟩:=x;exact⟨c,o,vs,t,rfl,fV k e,d,g⟩
def bY(p:Addr)(H H':Hp):Prop:=∀b o,b≠p->H b=some o->H' b=some o
def gF(K:Frag)(c p:Addr):Prop :=
 ∃o vs file tf flags tg inF text tt,K.lookup c=some o∧o.cls = .type "code"∧o.data = .fields vs∧vs[11]? = some (.ref p)∧vs.getD 11 .none = .ref p∧vs.getD 18 .none = .str file tf ∧
  vs.getD 7 .none = .int flags tg∧vs.getD 9 .none = .bool inF∧vs.getD 10 .none = .int text tt∧c≠p
theorem gF.hd{K:Frag}{c p:Addr}{h:Heap}(x:gF K c p)(X:K.In h):CodeHd h c p:=by
 obtain⟨o,vs,file,tf,flags,tg,inF,text,tt,e,r⟩:=x;exact⟨o,vs,file,tf,flags,tg,inF,text,tt,X _ _ e,r⟩
def oJ(K:Frag)(mg:Str->Option Value):Prop :=
 ∃bm o,mg "__builtins__" = some (.ref bm)∧bm≠builtinsNs∧bm≠mainGlobals∧K.lookup bm=some o∧o.cls = .type "module"∧o.dict=some builtinsNs∧o.data = .plain
def Tab(H:Hp)(p:Addr)(ls:List (Pos×Str)):Prop :=
 ∃ps,H p=some (.tbl ps)∧TriplesOk ps.toList∧∀l∈ls,codeAmong l.1 ps.toList=none∨∃c,codeAmong l.1 ps.toList=some (.ref c)∧eB H c l.2
theorem Tab.same{H H':Hp}{p:Addr}{ls:List (Pos×Str)}(t:Tab H p ls)(s:Same H H'):Tab H' p ls:=by
 obtain⟨ps,e,k,a⟩:=t;refine⟨ps,s _ _ e,k,fun l hl=>(a l hl).imp_right ?_⟩;rintro⟨c,e2,o,vs,t,e3,r⟩;exact⟨c,e2,o,vs,t,s _ _ e3,r⟩
theorem Tab.other{H H':Hp}{p q:Addr}{ls:List (Pos×Str)}{ps:Array Value}(t:Tab H p ls)(hq:H q=some (.tbl ps))(ne:p≠q)(s:bY q H H'):Tab H' p ls:=by
 obtain⟨ps',e,k,a⟩:=t;refine⟨ps',s _ _ ne e,k,fun l hl=>(a l hl).imp_right ?_⟩;rintro⟨c,e2,o,vs,t,e3,r⟩;refine⟨c,e2,o,vs,t,s _ _ (fun z=>?_) e3,r⟩;rw[z,hq]at e3;cases e3
def kq(H:Hp)(f:Addr)(q:Str)(params:Arguments)(body:Expr)(scope:Scope)(clos:List (Str×Addr)):Prop :=
 ∃pm c ctv,H f=some (KnO (kla_obj "<lambda>" q params body scope clos pm c ctv))∧eB H c q
theorem kq.same{H H':Hp}{f:Addr}{q:Str}{params:Arguments}{body:Expr}{scope:Scope}{clos:List (Str×Addr)}(t:kq H f q params body scope clos)(s:∀b o,H b=some (KnO o)->H' b=some (KnO o)):kq H' f q params body scope clos:=by
 obtain⟨pm,c,ctv,e,o,vs,t,e3,r⟩:=t;exact⟨pm,c,ctv,s _ _ e,o,vs,t,s _ _ e3,r⟩
theorem jQ{pos pos':Pos}{c:Value}(l:List Value)(h:TriplesOk l)(ne:¬(pos'.line=pos.line∧pos'.col=pos.col)):codeAmong pos' (l++[rawInt pos.line,rawInt pos.col,c])=codeAmong pos' l:=by
 fun_induction TriplesOk l with
 | case1 =>
  show codeAmong pos' [rawInt pos.line,rawInt pos.col,c]=codeAmong pos' [];simp only[rawInt,codeAmong];rw[if_neg];intro z;rw[Bool.and_eq_true]at z;have z1:=eq_of_beq z.1;have z2:=eq_of_beq z.2;exact ne ⟨by omega,by omega⟩
 | case2 a ta b tb c' rest ih =>
  show codeAmong pos' (.int a ta::.int b tb::c'::(rest++[rawInt pos.line,rawInt pos.col,c]))=codeAmong pos' (.int a ta::.int b tb::c'::rest);unfold codeAmong;rw[ih h]
 | case3 l h1 h2=>exact h.elim
def xK(p:Addr)(ls:List (Pos×Str))(q:Str)(params:Arguments)(body:Expr)(scope:Scope)(clos:List (Str×Addr)):TE:=fun _ H Q =>
 Tab H p ls∧∀f H',bY p H H'->Tab H' p ls->kq H' f q params body scope clos->H f=none->Q (.ref f) H'
section
variable {X:Cx} {params:Arguments} {body:Expr} {scope:Scope} {pos:Pos} {clos:List (Str×Addr)} {c p:Addr} {ls:List (Pos×Str)} {q:Str}
theorem gM(hcl:closureFor scope X.env=pure clos)(hcode:X.env.code = .ref c)(C:gF X.K c p)(B:oJ X.K X.mg)(hdef:defaultsOf params X.env=([],[]))(hq:q=X.env.qual++"<lambda>")(hm:(pos,q)∈ls)
  (hd:∀l∈ls,l≠(pos,q)->¬(l.1.line=pos.line∧l.1.col=pos.col)):PE X (.Lambda params body scope pos) (xK p ls q params body scope clos):=by
 intro pins s σ H Q I h;obtain⟨⟨ps,hp,tk,ok⟩,k⟩:=h;subst hq;have hP:s.heap.get? p=some (tabObj ps):=I.hok p _ hp;have hg:s.heap.Ns mainGlobals X.mg:=I.mod.glob.keeps I.bk;have hgP:mainGlobals≠p:=fun z=>by
  obtain⟨o,es,ep,e,d,_⟩:=hg;rw[z,hP]at e;cases e;cases d
 obtain⟨bm,ob,b1,b2,b3,b4,b5,b6,b7⟩:=B;have hbm:=I.kIn _ _ b4;have hbP:bm≠p:=fun z=>by
  rw[z,hP]at hbm;cases hbm;cases b7
 have BA:s.heap.BuiltinsAt X.mg p:=⟨bm,ob,b1,b2,b3,hbP,hbm,b5,b6,b7⟩;have CH:=C.hd I.kIn;refine kla_eval hdef ?_;rcases ok _ hm with hn|⟨c',hc',ck⟩
 ·refine kla_makeFunction (mg:=X.mg) hcl I.ok.glob hg hcode CH hP tk hn hgP BA fun c' ctv h' t' hx hge hlt hrec htb=>?_
  obtain⟨c₂,oc,vs,t,e2,hoc,hd2,hv⟩:=hrec;cases e2;have hfo:h'.objs.size≠c':=Nat.ne_of_gt hlt;have hpo:p<s.heap.objs.size:=Heap.lt_size hP;have pc:p≠c':=Nat.ne_of_lt (Nat.lt_of_lt_of_le hpo hge);have pf:p≠h'.objs.size:=Nat.ne_of_lt (Nat.lt_trans (Nat.lt_of_lt_of_le hpo hge) hlt);have nc:H c'=none:=I.hok.fresh hge;have nf:H h'.objs.size=none:=I.hok.fresh (Nat.le_of_lt (Nat.lt_of_le_of_lt hge hlt));generalize hps:ps++#[rawInt pos.line,rawInt pos.col,.ref c']=ps' at htb;generalize hfob:kla_obj "<lambda>" (X.env.qual++"<lambda>") params body scope clos ((X.mg "__name__").getD .none) c' ctv=fo at *;have nfr:fo.isFreed=false:=by rw[<- hfob];rfl
  have ext:∀b o,b≠p->s.heap.get? b=some o->(h'.push fo).get? b=some o:=fun b o ne e=>Heap.get?_push_of_some _ (hx b o ne e)
  let H':Hp:=upd (upd (upd H p (.tbl ps')) c' (KnO oc)) h'.objs.size (KnO fo)
  have Hf:H' h'.objs.size=some (KnO fo):=upd_same;have Hc:H' c'=some (KnO oc):=(aN hfo.symm).trans upd_same;have Hp':H' p=some (.tbl ps'):=(aN pf).trans ((aN pc).trans upd_same);have Hb:∀b,b≠p->b≠c'->b≠h'.objs.size->H' b=H b:=fun b z1 z2 z3=>(aN z3).trans ((aN z2).trans (aN z1));have Hs:bY p H H':=fun b o ne e=>by
   rw[Hb b ne (fun z=>by rw[z,nc]at e;cases e) (fun z=>by rw[z,nf]at e;cases e)];exact e
  have old:∀b o,s.heap.get? b=some o->b≠c'∧b≠h'.objs.size:=fun b o e=>⟨Nat.ne_of_lt (Nat.lt_of_lt_of_le (Heap.lt_size e) hge),Nat.ne_of_lt (Nat.lt_trans (Nat.lt_of_lt_of_le (Heap.lt_size e) hge) hlt)⟩;have npn:∀b,H b=none->b≠p:=fun b n z=>by rw[z,hp]at n;cases n
  have un:Un X.fs [] H H' s.heap (h'.push fo):=by
   refine⟨fun b o e n _ _=>ext b o (npn b n) e,fun b o e n _ _=>⟨o.slots,ext b o (npn b n) e⟩,fun b o e n _=>?_,fun b o e _=>?_,fun b xs e=>Hs b _ (fun z=>by rw[z,hp]at e;cases e) e,fun b o u e=>Hs b _ (fun z=>by rw[z,hp]at e;cases e) e,fun b ps2 e=>?_⟩
   ·rw[Hb b (npn b n) (old b o e).1 (old b o e).2];exact n
   ·by_cases z:b=p
    ·subst z;exact⟨_,Heap.get?_push_of_some _ htb⟩
    ·exact⟨o,ext b o z e⟩
   ·by_cases z:b=p
    ·subst z
     rw[hp]at e;cases e;exact⟨_,by rw[Hp',<- hps]⟩
    ·exact⟨#[],by rw[Hs b _ z e];simp⟩
  have hok:HOk X.prog X.w H' (h'.push fo):=fun b u e=>by
   by_cases z3:b=h'.objs.size
   ·subst z3
    rw[Hf]at e;cases e;exact mr (Heap.get?_push_size _ nfr)
   ·by_cases z2:b=c'
    ·subst z2
     rw[Hc]at e;cases e;exact mr (Heap.get?_push_of_some _ hoc)
    ·by_cases z1:b=p
     ·subst z1
      rw[Hp']at e;cases e;exact Heap.get?_push_of_some _ htb
     ·rw[Hb b z1 z2 z3]at e
      refine(I.hok b u e).stay (fun d v hd' q=>ext d v ?_ q) (fun d q=>Hs d _ (fun z=>by rw[z,hp]at q;cases q) q) fun d xs q=>Hs d _ (fun z=>by rw[z,hp]at q;cases q) q;rcases hd' with rfl|hd'
      ·exact z1
      ·intro z
       rw[z,hp]at hd';cases hd'
  have CK:eB H' c' (X.env.qual++"<lambda>"):=⟨oc,vs,t,Hc,hd2,hv⟩;have e0:ps'.toList=ps.toList++[rawInt pos.line,rawInt pos.col,.ref c']:=by rw[<- hps];simp
  refine⟨.ref h'.objs.size,H',I.un (t':=t') un hok,rfl,k _ H' Hs ⟨ps',Hp',?_,fun l hl=>?_⟩ ⟨_,c',ctv,by rw[Hf,<- hfob],CK⟩ nf⟩
  ·rw[e0]
   exact TriplesOk_snoc _ _ _ _ tk
  ·by_cases z:l=(pos,X.env.qual++"<lambda>")
   ·subst z
    refine .inr ⟨c',?_,CK⟩;rw[e0];exact codeAmong_snoc _ tk hn
   ·rw[e0,jQ _ tk (hd l hl z)]
    refine(ok l hl).imp_right ?_;rintro⟨c3,e3,o3,vs3,t3,e4,r4⟩;exact⟨c3,e3,o3,vs3,t3,Hs _ _ (fun z=>by rw[z,hp]at e4;cases e4) e4,r4⟩
 ·refine kla_makeFunctionHit (mg:=X.mg) hcl I.ok.glob hg hcode CH hP tk hc' BA fun ctv h' t' hx hsz=>?_
  have nf:H h'.objs.size=none:=I.hok.fresh hsz;have J:=I.laid (a:=h'.objs.size) (o:=KnO (kla_obj "<lambda>" (X.env.qual++"<lambda>") params body scope clos ((X.mg "__name__").getD .none) c' ctv)) (t':=t') (h':=h'.push (kla_obj "<lambda>" (X.env.qual++"<lambda>") params body scope clos ((X.mg "__name__").getD .none) c' ctv))
   (fun b o e=>Heap.get?_push_of_some _ (hx b o e)) hsz (mr (Heap.get?_push_size _ rfl))
  have S:Same H (upd H h'.objs.size (KnO (kla_obj "<lambda>" (X.env.qual++"<lambda>") params body scope clos ((X.mg "__name__").getD .none) c' ctv))):=fun b o e=>by
   rw[aN (fun z=>by rw[z,nf]at e;cases e)];exact e
  obtain⟨o,vs,t,e3,r⟩:=ck;exact⟨.ref h'.objs.size,_,J,rfl,k _ _ (fun b o _ e=>S b o e) (Tab.same ⟨ps,hp,tk,ok⟩ S) ⟨_,c',ctv,upd_same,o,vs,t,S _ _ e3,r⟩ nf⟩
end
abbrev cut(C:List Addr)(H:Hp):Hp:=fun b=>if b∈C then none else H b
abbrev kC(C:List Addr)(H H1:Hp):Hp:=fun b=>if b∈C then H b else H1 b
theorem jr{C:List Addr}{H:Hp}{b:Addr}(h:b∈C):cut C H b=none:=if_pos h
theorem bS{C:List Addr}{H:Hp}{b:Addr}(h:b∉C):cut C H b=H b:=if_neg h
theorem iz{C:List Addr}{H H1:Hp}{b:Addr}(h:b∈C):kC C H H1 b=H b:=if_pos h
theorem cH{C:List Addr}{H H1:Hp}{b:Addr}(h:b∉C):kC C H H1 b=H1 b:=if_neg h
theorem dJ{C:List Addr}{H H1:Hp}(s:Same (cut C H) H1):Same H (kC C H H1):=fun b o e=>by
 by_cases h:b∈C
 ·rw[iz h];exact e
 ·rw[cH h];exact s b o ((bS h).trans e)
theorem wz{P:Program}{w:World}{H:Hp}{h:Heap}{C:List Addr}(hok:HOk P w H h)(hC:∀c∈C,∃o,H c=some (KnO o)):HOk P w (cut C H) h:=fun b u e=>by
 have hb:b∉C:=fun z=>by rw[jr z]at e;cases e
 rw[bS hb]at e;have ne:∀d o,H d=some o->(∀z,o≠KnO z)->d∉C:=fun d o e n z=>by
  obtain⟨o',e'⟩:=hC d z;rw[e]at e';exact n o' (Option.some.inj e')
 refine(hok b u e).stay (fun _ _ _ q=>q) (fun d q=>?_) fun d xs q=>?_
 ·rw[bS (ne d _ q fun z q=>by cases q)];exact q
 ·rw[bS (ne d _ q fun z q=>by cases q)];exact q
def sW(P:Program)(w:World)(K:W.Frag)(mg:Str->Option Value)(base:Heap)(N:List Str)(qual:Str)(scope:Scope)(f:Addr)(cd:Value)(cl:List (Str×Addr))(A:Around)(outer:List Env)(s:Shared)(H:Hp):Cx where
 prog:=P
 w:=w
 K:=K
 mg:=mg
 base:=base
 A:=A.deeper (envX qual scope s.heap.objs.size f cd cl)
 N:=N
 s₀:=s
 H₀:=H
 env:=envX qual scope s.heap.objs.size f cd cl
 outer:=outer
 stack:=envX qual scope s.heap.objs.size f cd cl::outer
 ex:=[]
 calm:=true
 fn:=fun _=>false
 pn:=[]
 xe:=fun _ _=>False
structure Di(x:Str)(scope:Scope)(cl:List (Str×Addr)):Prop where
 kind:scope.kind = .function
 co:scope.isCoroutine=false
 gen:scope.isGenerator=false
 cell:∀y∈scope.names,y.2≠.cell
 own:scope.names.lookup x=some .local
 has:(scope.names.all fun q=>!(q.2 == .free) || (cl.lookup q.1).isSome)=true
 nd:(x::cl.map (·.1)).Nodup
 fr:∀p∈cl,scope.names.lookup p.1=some .free
 inj:∀p∈cl,∀q∈cl,p.2=q.2->p.1=q.1
theorem qJ{cl:List (Str×Addr)}:∀(_:(cl.map (·.1)).Nodup) {j:Nat} {y:Str} {c:Addr},cl[j]? = some (y,c)->cl.lookup y=some c:=by
 induction cl with
 | nil=>intro _ j y c e;simp at e
 | cons a r ih =>
  intro nd j y c e;rw[List.map_cons,List.nodup_cons]at nd;rw[List.lookup_cons];cases j with
  | zero =>
   simp at e;subst e;simp
  | succ j =>
   have e':r[j]? = some (y,c):=by simpa using e
   have:y≠a.1:=fun z=>nd.1 (List.mem_map.mpr ⟨(y,c),List.mem_of_getElem? e',z⟩);rw[beq_eq_false_iff_ne.mpr this];exact ih nd.2 e'
section
variable {P:Program} {w:World} {K:W.Frag} {mg:Str->Option Value} {base:Heap}
theorem uj{x q:Str}{scope:Scope}{cl:List (Str×Addr)}{f c:Addr}{A:Around}{outer:List Env}{s:Shared}{h₁:Heap}{tk:Nat}{H:Hp}{v:V}{u:Value}{ws:List V}(L:Di x scope cl)(hd:A.handled=none)(e0:DX P w K mg base A outer s H)
  (cs:Paired (fun (p:Str×Addr) z=>bO H p.2 z) cl ws) (rv:aT v u) (hns:h₁.Ns s.heap.objs.size (fun y=>[(x,u)].reverse.lookup y)) (hk:∀b o,s.heap.get? b=some o->h₁.get? b=some o) :
  yd (sW P w K mg base (x::cl.map (·.1)) q scope f (.ref c) cl A outer s (cut (cl.map (·.2)) H)) [] (some v::ws.map some) (cut (cl.map (·.2)) H) { s with heap:=h₁,toks:=tk }:=by
 have get:∀{j:Nat} {p:Str×Addr},cl[j]? = some p->∃z,ws[j]? = some z∧bO H p.2 z:=by
  clear L hns
  induction cs with
  | nil=>intro j p e;simp at e
  | cons a r ih =>
   intro j p e;cases j with
   | zero=>simp at e;subst e;exact⟨_,rfl,a⟩
   | succ j=>exact ih (by simpa using e)
 have len:cl.length=ws.length:=Paired.length cs;have hC:∀d∈cl.map (·.2),∃o,H d=some (KnO o):=fun d hd'=>by
  obtain⟨p,hp,rfl⟩:=List.mem_map.mp hd';obtain⟨j,hj⟩:=List.getElem?_of_mem hp;obtain⟨z,_,o,_,e,_⟩:=get hj;exact⟨o,e⟩
 have isC:∀y d,cl.lookup y=some d->d∈cl.map (·.2)∧∃z,s.heap.IsCell d z:=fun y d e=>by
  have hm:=PySem.mem_of_lookup e;obtain⟨j,hj⟩:=List.getElem?_of_mem hm;obtain⟨z,_,o,u',e',d',_⟩:=get hj;exact⟨List.mem_map.mpr ⟨_,hm,rfl⟩,some u',o,fV e0.hok e',d'⟩
 have noA:∀b:Addr,b∉(sW P w K mg base (x::cl.map (·.1)) q scope f (.ref c) cl A outer s (cut (cl.map (·.2)) H)).ex:=fun b z=>absurd (show b∈([]:List Addr) from z) (by simp);have hcut:=wz (C:=cl.map (·.2)) e0.hok hC;have cn:∀b,H b=none->cut (cl.map (·.2)) H b=none:=fun b n=>by
  by_cases z:b∈cl.map (·.2)
  ·exact jr z
  ·rw[bS z];exact n
 have inv:∀h':Heap,(∀b o,s.heap.get? b=some o->h'.get? b=some o)->Un (frs outer) [] (cut (cl.map (·.2)) H) (cut (cl.map (·.2)) H) s.heap h':=fun h' k=>Un.kept k;refine⟨⟨e0.mod,L.kind,rfl,rfl,Nat.le_refl _,fun y z d h1 h2=>?_,fun y hy=>?_,fun y d z=>(by cases z),fun _=>hd,Around.frames_deeper e0.frames,.inr ⟨rfl,rfl⟩,fun b z=>absurd z (noA b),fun b o e=>⟨(e0.bs b o e).1,cn b (e0.bs b o e).2⟩,e0.bsz,fun b _ _=>noA b,fun b z=>absurd z (noA b),e0.funs,fun b hb=>cn b (e0.frf b hb)⟩,
  rfl,e0.bare,inv h₁ hk,⟨_,hns,fun i y v' h1 h2 h3=>?_⟩,fun y d h=>?_,?_,fun y d h=>?_,fun p hp=>absurd (show p∈([]:List (Addr×Obj)) from hp) (by simp),hcut.kept hk,?_⟩
 ·exact L.inj _ (PySem.mem_of_lookup h1) _ (PySem.mem_of_lookup h2) rfl
 ·have hy:scope.names.lookup y=some .cell∨scope.names.lookup y=some .free:=hy
  rcases hy with hy|hy
  ·exact absurd rfl (L.cell _ (PySem.mem_of_lookup hy))
  ·have q:=List.all_eq_true.mp L.has _ (PySem.mem_of_lookup hy)
   have q:(cl.lookup y).isSome=true:=by simpa only[beq_self_eq_true,Bool.not_true,Bool.false_or]using q
   exact Option.isSome_iff_exists.mp q
 ·have h1:(x::cl.map (·.1))[i]? = some y:=h1
  cases i with
  | zero =>
   have e1:x=y:=by simpa using h1
   have e2:v=v':=by simpa using h2
   subst e1 e2;exact⟨u,rv,.inl ⟨L.own,by simp⟩⟩
  | succ j =>
   have e1:(cl.map (·.1))[j]? = some y:=by simpa using h1
   rw[List.getElem?_map]at e1;cases hj:cl[j]? with
   | none=>rw[hj]at e1;cases e1
   | some p =>
    rw[hj]at e1;have e1:p.1=y:=by simpa using e1
    obtain⟨z,hz,o,u',e',d',r'⟩:=get hj;have e2:z=v':=by
     have:(ws.map some)[j]? = some (some v'):=by simpa using h2
     rw[List.getElem?_map,hz]at this;simpa using this
    subst e1 e2;refine⟨u',r',.inr ⟨.inr (L.fr p (List.mem_of_getElem? hj)),p.2,qJ (List.nodup_cons.mp L.nd).2 (c:=p.2) (y:=p.1) hj,o,hk _ _ (fV e0.hok e'),d'⟩⟩
 ·obtain⟨z,o,e,d'⟩:=(isC y d h).2
  exact⟨z,o,hk _ _ e,d'⟩
 ·exact cn _ (e0.hok.fresh (Nat.le_refl _))
 ·exact jr (isC y d h).1
 ·show(some v::ws.map some).length=(x::cl.map (·.1)).length
  simp[len]
def wX(f:Addr)(q:Str)(params:Arguments)(body:Expr)(scope:Scope)(cl:List (Str×Addr))(pm:Value)(c:Addr)(ctv:Value)(te:TE):Sp:=fun vs H Q _ =>
 ∃v ws,vs = [v]∧H f=some (KnO (kla_obj "<lambda>" q params body scope cl pm c ctv))∧eB H c q∧Paired (fun (p:Str×Addr) z=>bO H p.2 z) cl ws ∧
  te (some v::ws.map some) (cut (cl.map (·.2)) H) fun r H1=>(∀c∈cl.map (·.2),H1 c=none)->Q r (kC (cl.map (·.2)) H H1)
theorem gO{x q:Str}{params:Arguments}{body:Expr}{scope:Scope}{cl:List (Str×Addr)}{pm ctv:Value}{f c:Addr}{te:TE}{k:Nat}(L:Di x scope cl)
  (hbody:∀(A:Around) (outer:List Env) (s:Shared) (H:Hp),yP k (A.deeper (envX q scope s.heap.objs.size f (.ref c) cl))->PE (sW P w K mg base (x::cl.map (·.1)) q scope f (.ref c) cl A outer s H) body te) :
  An P w K mg base CX0 (k+1) f (kla_fn "<lambda>" q params body scope cl pm (.ref c) ctv) [x] (wX f q params body scope cl pm c ctv te):=by
 refine⟨fun vs H Q E h=>?_,fun A outer s H args us vs Q E hr e0 hb r hsp=>?_⟩
 ·obtain⟨v,ws,rfl,_⟩:=h
  rfl
 ·obtain⟨v,ws,rfl,ef,ck,cs,h⟩:=hsp
  cases r with
  | cons rv r =>
   cases r;rename_i u;have lim:s.heap.NoLimit:=e0.mod.nolimit.keeps fun b o e=>(e0.bs b o e).1;refine kla_callFunE hr.depth (fV e0.hok ef) rfl L.co L.gen rfl (ck.rec_ e0.hok) (hb _ _ _ _ ?_);refine wpAny_newFunctionEnv L.cell (fun y hy=>?_) (fun h₁ hns hsb=>⟨lim.fresh _ hsb,?_⟩) L.kind
   ·obtain rfl:y=(x,u):=by simpa using hy
    exact L.own
   ·show codeAny _ _ (.expr body (envX q scope s.heap.objs.size f (.ref c) cl)) _ _
    have hk₁:∀b o,s.heap.get? b=some o->h₁.get? b=some o:=fun b o e=>hsb.extBut b o (Nat.ne_of_lt (Heap.lt_size e)) (Heap.get?_push_of_some _ e);have I:=uj (q:=q) (f:=f) (c:=c) (tk:=s.toks+([x].zip [u]).length) L hr.hd e0 cs rv hns hk₁;refine kla_codeExpr (wpAny_mono (hbody A outer s _ (hr.deeper _) _ _ _ _ _ I h) (fun u' s' hq=>?_) fun _ _ z=>False.elim z);obtain⟨v',H1,J,r',q'⟩:=hq;have hC:∀d∈cl.map (·.2),∃o,H d=some (KnO o)∧s.heap.get? d=some o:=fun d hd'=>by
     obtain⟨p,hp,rfl⟩:=List.mem_map.mp hd';have:∀{l:List (Str×Addr)} {ws:List V},Paired (fun (p:Str×Addr) z=>bO H p.2 z) l ws->p∈l->∃z,bO H p.2 z:=by
      intro l ws cs
      induction cs with
      | nil=>intro z;cases z
      | cons a r ih =>
       intro z;rcases List.mem_cons.mp z with rfl|z
       ·exact⟨_,a⟩
       ·exact ih z
     obtain⟨z,o,_,e,_⟩:=this cs hp;exact⟨o,e,fV e0.hok e⟩
    have B:Un (frs outer) [] (cut (cl.map (·.2)) H) H1 s.heap s'.heap:=J.base;have nin:∀b,(∀o,H b≠some (KnO o))->b∉cl.map (·.2):=fun b n z=>by
     obtain⟨o,e,_⟩:=hC b z;exact n o e
    have out:∀b,H b=none->b∉cl.map (·.2):=fun b n=>nin b fun o e=>by rw[n]at e;cases e
    have h1n:∀d∈cl.map (·.2),H1 d=none:=fun d hd'=>by
     obtain⟨o,_,e⟩:=hC d hd';exact B.free d o e (jr hd') (by simp)
    have sC:∀d∈cl.map (·.2),∀o,s.heap.get? d=some o->s'.heap.get? d=some o:=fun d hd' o e=>by
     refine B.keep d o e (jr hd') (fun z=>?_) (by simp);obtain⟨o',e',_⟩:=hC d hd';rw[e0.frf d z]at e';cases e'
    refine⟨v',kC (cl.map (·.2)) H H1,J.os,J.bare,⟨fun b o e n hb hx=>?_,fun b o e n hb hx=>?_,fun b o e n hx=>?_,fun b o e hx=>B.there b o e hx,fun b xs e=>?_,fun b o u e=>?_,fun b ps e=>?_⟩,fun b u e=>?_,r',q' h1n⟩
    ·exact B.keep b o e ((bS (out b n)).trans n) hb hx
    ·exact B.slot b o e ((bS (out b n)).trans n) hb hx
    ·rw[cH (out b n)]
     exact B.free b o e ((bS (out b n)).trans n) hx
    ·have z:b∉cl.map (·.2):=nin b fun o' e'=>by rw[e]at e';cases e'
     rw[cH z];exact B.tups b xs ((bS z).trans e)
    ·by_cases z:b∈cl.map (·.2)
     ·rw[iz z];exact e
     ·rw[cH z]
      exact B.frzs b o u ((bS z).trans e)
    ·have z:b∉cl.map (·.2):=nin b fun o' e'=>by rw[e]at e';cases e'
     obtain⟨more,q⟩:=B.tbls b ps ((bS z).trans e);exact⟨more,by rw[cH z];exact q⟩
    ·by_cases z:b∈cl.map (·.2)
     ·rw[iz z]at e
      obtain⟨o,e',g⟩:=hC b z;rw[e]at e';cases e';exact mr (sC b z o g)
     ·rw[cH z]at e
      refine(J.hok b u e).stay (fun _ _ _ q=>q) (fun d q=>?_) fun d xs q=>?_
      ·rw[cH fun z=>by rw[h1n d z]at q;cases q];exact q
      ·rw[cH fun z=>by rw[h1n d z]at q;cases q];exact q
end
def vF(cs:List (Addr×Nat))(sp:Sp)(t:TA):TE:=fun σ H Q=>t σ H fun vs H1=>∀H2,Same H1 H2->(∀p∈cs,∀v,σ[p.2]? = some (some v)->bO H2 p.1 v) ->
 sp vs H2 (fun r H3=>∀H4,(∀b o,H3 b=some o->(∀z,o=KnO z->∀u,z.data≠.cell u)->H4 b=some o)->(∀b o,H1 b=some o->H3 b=some o->H4 b=some o)->Q r H4) E0
section
variable {X:Cx} {x:Str} {ps:List Str} {k:Nat} {sp:Sp} {p pos:Pos} {e:Expr} {es:List Expr} {t:TA} {cs:List (Addr×Nat)}
open Classical in
theorem tL{pins:List (Addr×Obj)}{σ:St}{H:Hp}{s:Shared}{Q:VK}{us:List Value}{vs:List V}{f:Addr}{fd:FuncData}(F:An X.prog X.w X.K X.mg X.base CX0 k f fd ps sp)(hr:yP k X.A)(hb:gH X.K fd ps [])(hfn:∀x,X.fn x=true)
  (hcs:∀p∈cs,∃y,X.env.cells.lookup y=some p.1∧X.N[p.2]? = some y∧X.env.kindOf y=some .cell∧Vis X.env.scope y) (I:yd X pins σ H s) (r:aR vs us)
  (h:∀H2,Same H H2->(∀p∈cs,∀v,σ[p.2]? = some (some v)->bO H2 p.1 v) ->
   sp vs H2 (fun r H3=>∀H4,(∀b o,H3 b=some o->(∀z,o=KnO z->∀u,z.data≠.cell u)->H4 b=some o)->(∀b o,H b=some o->H3 b=some o->H4 b=some o)->Q r H4) E0) :
  wpAny (model X.prog X.w) X.A (call (.ref f) us) (EP X pins σ Q) X.xe s:=by
 let isC:Addr->Prop:=fun b=>∃y,X.env.cells.lookup y=some b
 let H2:Hp:=fun b=>if isC b then (s.heap.get? b).map KnO else H b
 have in2:∀b,isC b->H2 b=(s.heap.get? b).map KnO:=fun b z=>if_pos z;have out2:∀b,¬isC b->H2 b=H b:=fun b z=>if_neg z;have cN:∀b,isC b->H b=none:=fun b ⟨y,e⟩=>I.freeC y b e;have cG:∀b,isC b->∃o z,s.heap.get? b=some o∧o.data = .cell z:=fun b ⟨y,e⟩=>by
  obtain⟨z,o,e1,e2⟩:=I.cell y b e;exact⟨o,z,e1,e2⟩
 have cK:∀b o,isC b->s.heap.get? b=some o->H2 b=some (KnO o):=fun b o z e=>by rw[in2 b z,e];rfl
 have cA:∀b,isC b->X.s₀.heap.objs.size≤b:=fun b ⟨y,e⟩=>I.ok.cab y b (hfn y) e;have same:Same H H2:=fun b o e=>by
  rw[out2 b fun z=>by rw[cN b z]at e;cases e];exact e
 have frn:∀b∈frs X.stack,¬isC b:=fun b hb ⟨y,e⟩=>by
  rcases List.mem_cons.mp (I.stkSub b hb) with z|z
  ·exact I.cne y b e z
  ·obtain⟨_,o,ho,_⟩:=I.ok.funs.mem z
   exact absurd (Nat.lt_of_lt_of_le (Heap.lt_size ho) (cA b ⟨y,e⟩)) (Nat.lt_irrefl _)
 have hok2:HOk X.prog X.w H2 s.heap:=fun b u e=>by
  by_cases z:isC b
  ·obtain⟨o,z',e1,_⟩:=cG b z
   rw[cK b o z e1]at e;cases e;exact mr e1
  ·rw[out2 b z]at e
   exact(I.hok b u e).stay (fun _ _ _ q=>q) (fun d q=>same d _ q) fun d xs q=>same d _ q
 have e0:=I.env0;have e2:DX X.prog X.w X.K X.mg X.base X.A X.stack s H2:=by
  refine⟨e0.frames,e0.mod,fun b o e=>⟨(e0.bs b o e).1,?_⟩,e0.bsz,e0.funs,fun b hb=>?_,hok2,e0.bare⟩
  ·rw[out2 b fun z=>absurd (Nat.lt_of_lt_of_le (Heap.lt_size e) (Nat.le_trans I.ok.bsz (cA b z))) (Nat.lt_irrefl _)]
   exact(e0.bs b o e).2
  ·rw[out2 b (frn b hb)]
   exact e0.frf b hb
 have cells:∀p∈cs,∀v,σ[p.2]? = some (some v)->bO H2 p.1 v:=fun p hp v hv=>by
  obtain⟨y,h1,h2,h3,h4⟩:=hcs p hp;obtain⟨m,hn,hl⟩:=I.loc;obtain⟨u,ru,l⟩:=hl p.2 y v h2 hv h4;rcases l with⟨kk,_⟩|⟨_,c,hc,o,ho,hd⟩
  ·rw[h3]at kk;cases kk
  ·rw[h1]at hc
   cases hc;exact⟨o,u,cK _ o ⟨y,h1⟩ ho,hd,ru⟩
 have hq:=h H2 same cells;have hl:(us++[]).length=ps.length:=by rw[List.append_nil,<- r.length];exact F.len _ _ _ _ hq
 have hbb:=hb s us I.kIn hl;rw[List.append_nil]at hbb;refine wpAny_call (codeAny_mono (F.run X.A X.stack s H2 ⟨us,[]⟩ us vs _ E0 hr e2 hbb r hq) fun r s' hq=>?_);cases r with
 | error e=>exact False.elim hq
 | ok fl =>
  cases fl with
  | next=>exact False.elim hq
  | brk=>exact False.elim hq
  | cont=>exact False.elim hq
  | ret u =>
   obtain⟨v,H3,os,bare,un,hok,rv,q⟩:=hq
   let H4:Hp:=fun b=>if isC b then none else H3 b
   have in4:∀b,isC b->H4 b=none:=fun b z=>if_pos z;have out4:∀b,¬isC b->H4 b=H3 b:=fun b z=>if_neg z;have c3:∀b,isC b->∃o,H3 b=some (KnO o)∧s.heap.get? b=some o∧s'.heap.get? b=some o:=fun b z=>by
    obtain⟨o,z',e1,_⟩:=cG b z;have e3:=un.frzs b o _ (cK b o z e1);exact⟨o,e3,e1,fV hok e3⟩
   refine I.after ⟨v,H4,os,bare,⟨fun b o e n hb hx=>?_,fun b o e n hb hx=>?_,fun b o e n hx=>?_,fun b o e hx=>un.there b o e hx,fun b xs e=>?_,fun b o u e=>?_,fun b ps e=>?_⟩,fun b u e=>?_,rv,q H4 (fun b o e n=>?_) fun b o e e3=>?_⟩
   ·by_cases z:isC b
    ·obtain⟨o',_,e1,e2⟩:=c3 b z
     rw[e]at e1;cases e1;exact e2
    ·exact un.keep b o e ((out2 b z).trans n) hb hx
   ·exact un.slot b o e ((out2 b (frn b hb)).trans n) hb hx
   ·by_cases z:isC b
    ·exact in4 b z
    ·rw[out4 b z]
     exact un.free b o e ((out2 b z).trans n) hx
   ·have z:¬isC b:=fun z=>by rw[cN b z]at e;cases e
    rw[out4 b z];exact un.tups b xs ((out2 b z).trans e)
   ·have z:¬isC b:=fun z=>by rw[cN b z]at e;cases e
    rw[out4 b z];exact un.frzs b o u ((out2 b z).trans e)
   ·have z:¬isC b:=fun z=>by rw[cN b z]at e;cases e
    rw[out4 b z];exact un.tbls b ps ((out2 b z).trans e)
   ·have z:¬isC b:=fun z=>by rw[in4 b z]at e;cases e
    rw[out4 b z]at e;refine(hok b u e).stay (fun _ _ _ q=>q) (fun d q=>?_) fun d xs q=>?_
    ·rw[out4 d fun z=>by obtain⟨o,e3,_⟩:=c3 d z;rw[e3]at q;cases q];exact q
    ·rw[out4 d fun z=>by obtain⟨o,e3,_⟩:=c3 d z;rw[e3]at q;cases q];exact q
   ·rw[out4 b fun z=>by
     obtain⟨o',e3,e1,_⟩:=c3 b z;obtain⟨o2,z',e4,d⟩:=cG b z;rw[e1]at e4;cases e4;rw[e3]at e;exact n o' (Option.some.inj e).symm _ d]
    exact e
   ·rw[out4 b fun z=>by rw[cN b z]at e;cases e]
    exact e3
theorem o8{H H1:Hp}(h:∀b o,H b=some o->(∀z,o=KnO z->∀u,z.data≠.cell u)->H1 b=some o):∀b o,H b=some o->(∀z,o≠KnO z)->H1 b=some o:=fun b o e n=>h b o e fun z q=>absurd q (n z)
theorem kH(F:Fn X.prog X.w X.K X.mg X.base x ps k sp)(hr:yP k X.A)(hg:Gl X x)(hfn:∀x,X.fn x=true)(hcs:∀p∈cs,∃y,X.env.cells.lookup y=some p.1∧X.N[p.2]? = some y∧X.env.kindOf y=some .cell∧Vis X.env.scope y)(ha:PA X (e::es) t)
  (hdb:(x == ("__debug__" : Str))=false:=by decide) (he:starEach (e::es) X.env=(false,eval e X.env)::starEach es X.env:=by rfl) (hpl:(backTo pos (starEach es X.env)).any (·.1)=false:=by rfl) :
  PE X (.Call (.Name x p) (e::es) [] pos) (vF cs sp t):=by
 obtain⟨f,fd,o,hm,hk,hb,_,G⟩:=F.ex;intro pins s σ H Q I h;refine wpAny_Call_Name_kw (iC I hg hm ?_ hdb);refine W.callWith_K (h₀:=X.base) I.ok.mod.kin hk (thn (ha pos pins s σ H _ I h) fun us s1 ⟨vs,H1,I1,r,q⟩=>⟨I1.kIn,?_⟩) he hpl;exact tL G hr (.all hb) hfn hcs I1 r q
def uX(P:Program)(w:World)(K:W.Frag)(mg:Str->Option Value)(base:Heap)(k:Nat)(f:Addr)(sp:Sp):Prop:=∃(fd:FuncData) (ps:List Str),An P w K mg base CX0 k f fd ps sp∧gH K fd ps []
def nJ(H:Hp)(f:Addr):Prop:=∃o fd,H f=some (KnO o)∧o.data = .func fd
def vE(P:Program)(w:World)(K:W.Frag)(mg:Str->Option Value)(base:Heap)(k i:Nat)(t:TA):TE:=fun σ H Q =>
 ∃f sp,σ[i]? = some (some (.ref f))∧uX P w K mg base k f sp∧nJ H f∧t σ H fun vs H1=>nJ H1 f∧sp vs H1 Q E0
theorem i3{i:Nat}(hr:yP k X.A)(hN:X.N[i]? = some x)(hv:Vis X.env.scope x)(ha:PA X (e::es) t)
  (hdb:(x == ("__debug__" : Str))=false:=by decide) (hcd:(x == ("__classdict__" : Str))=false:=by decide) (he:starEach (e::es) X.env=(false,eval e X.env)::starEach es X.env:=by rfl) (hpl:(backTo pos (starEach es X.env)).any (·.1)=false:=by rfl) :
  PE X (.Call (.Name x p) (e::es) [] pos) (vE X.prog X.w X.K X.mg X.base k i t):=by
 intro pins s σ H Q I h;obtain⟨f,sp,hs,⟨fd',ps',G',hb⟩,⟨o,fd,eo,ed⟩,h⟩:=h;refine wpAny_Call_Name_kw (thn (rG (i:=i) hN hv hdb hcd pins s σ H (fun v H'=>v = .ref f∧H'=H) I ⟨_,hs,rfl,rfl⟩) fun u s1 ⟨v,H1,I1,rv,ev,eH⟩=>?_);subst ev eH;obtain rfl:u=Value.ref f:=rv;have at':∀{s:Shared} {H:Hp} {o:Obj} {fd:FuncData},HOk X.prog X.w H s.heap->H f=some (KnO o)->o.data = .func fd->FnAt f s.heap:=fun {s H o fd} k e d=>by
  have g:=fV k e;obtain⟨oc,od,dt,sl⟩:=o;cases d;exact⟨oc,od,fd,sl,g⟩
 refine callWith_F (at' I1.hok eo ed) (thn (ha pos pins s1 σ H1 _ I1 h) fun us s2 ⟨vs,H2,I2,r,⟨o2,fd2,eo2,ed2⟩,q⟩=>⟨at' I2.hok eo2 ed2,?_⟩) he hpl;exact rj (ds:=[]) (dvs:=[]) G' hr hb .nil vk I2 r (by rw[List.append_nil];exact q)
theorem kq.obj{H:Hp}{f:Addr}{q:Str}{params:Arguments}{body:Expr}{scope:Scope}{clos:List (Str×Addr)}(t:kq H f q params body scope clos):nJ H f:=by
 obtain⟨pm,c,ctv,e,_⟩:=t;exact⟨_,_,e,rfl⟩
end
structure Ez(K:W.Frag)(mg:Str->Option Value)(x:Str)(st:Stmt)(p:Addr):Prop where
 ex:∃(f:Addr) (oc:Value) (od:Option Addr) (kV doc pm:Value) (an:Option Addr) (c:Addr) (ct:Value) (osl:Array (Option Value)),
  mg x=some (.ref f)∧K.lookup f=some ⟨oc,od,.func (W.fnOf x x (aU st) (aH st) (af st) .none kV doc pm an (.ref c) ct),osl⟩∧W.codeIn K (.ref c) x=true∧W.keepIn K (.ref f)=true∧gF K c p
theorem Ez.fn{P:Program}{w:World}{K:W.Frag}{mg:Str->Option Value}{base:Heap}{x:Str}{st:Stmt}{p:Addr}{N ps:List Str}{k:Nat}{sp:Sp}(D:Ez K mg x st p)(S:yc N ps (af st))
  (hbind:∀(kV doc pm:Value) (an:Option Addr) (cdv ct:Value) (us:List Value),us.length=ps.length->bindArgs (W.fnOf x x (aU st) (aH st) (af st) .none kV doc pm an cdv ct) ⟨us,[]⟩=pure (ps.zip us))
  (len:∀vs H Q E,sp vs H Q E->vs.length=ps.length)
  (hbody:∀(f:Addr) (cdv:Value) (A:Around) (outer:List Env) (s:Shared) (H:Hp) (vs:List V) (Q:VK) (E:XK),(∃c,cdv = .ref c∧gF K c p)->yP k (A.deeper (envOfC x (af st) s.heap.objs.size f cdv))->sp vs H Q E ->
   ∃t,PSs (aZ CX0 P w K mg base N x (af st) f cdv A outer s H E).nox (aH st) t∧t { nx:=fun _ H'=>Q .non H',rt:=Q } (d9 N vs) H):Fn P w K mg base x ps (k+1) sp:=by
 obtain⟨f,oc,od,kV,doc,pm,an,c,ct,osl,hm,lk,hcd,hk,hc⟩:=D.ex;refine⟨⟨f,_,_,hm,hk,hbind kV doc pm an (.ref c) ct,⟨lk,rfl⟩,mE lk hcd S len fun A outer s H vs Q E hr hsp=>?_⟩⟩;obtain⟨t,h,q⟩:=hbody f (.ref c) A outer s H vs Q E ⟨c,rfl,hc⟩ hr hsp;exact⟨t,h.nox,q⟩
structure Em(K:W.Frag)(mg:Str->Option Value)(x:Str)(st:Stmt)(ds:List V)(p:Addr):Prop where
 ex:∃(f T:Addr) (oT:Obj) (n:Nat) (its:List Value) (oc:Value) (od:Option Addr) (kV doc pm:Value) (an:Option Addr) (c:Addr) (ct:Value) (osl:Array (Option Value)),
  mg x=some (.ref f)∧K.lookup f=some ⟨oc,od,.func (W.fnOf x x (aU st) (aH st) (af st) (.ref T) kV doc pm an (.ref c) ct),osl⟩∧W.codeIn K (.ref c) x=true∧W.keepIn K (.ref f)=true∧K.lookup T=some oT∧oT.data = .seq its.toArray n∧aR ds its∧gF K c p
theorem Em.fx{P:Program}{w:World}{K:W.Frag}{mg:Str->Option Value}{base:Heap}{x:Str}{st:Stmt}{ds:List V}{p:Addr}{N ps:List Str}{k:Nat}{sp:Sp}(D:Em K mg x st ds p)(S:yc N ps (af st))
  (hb:∀(T:Addr) (kV doc pm:Value) (an:Option Addr) (cdv ct:Value) (us its:List Value) (oT:Obj) (n:Nat) (s:Shared),aR ds its->us.length=ps.length->s.heap.get? T=some oT->oT.data = .seq its.toArray n ->
   BindsTo s (W.fnOf x x (aU st) (aH st) (af st) (.ref T) kV doc pm an cdv ct) ⟨us,[]⟩ (ps.zip us))
  (hd:∀(T:Addr) (kV doc pm:Value) (an:Option Addr) (cdv ct:Value) (us its:List Value) (oT:Obj) (n:Nat) (s:Shared),aR ds its->(us++its).length=ps.length->s.heap.get? T=some oT->oT.data = .seq its.toArray n ->
   BindsTo s (W.fnOf x x (aU st) (aH st) (af st) (.ref T) kV doc pm an cdv ct) ⟨us,[]⟩ (ps.zip (us++its)))
  (len:∀vs H Q E,sp vs H Q E->vs.length=ps.length)
  (hbody:∀(f:Addr) (cdv:Value) (A:Around) (outer:List Env) (s:Shared) (H:Hp) (vs:List V) (Q:VK) (E:XK),(∃c,cdv = .ref c∧gF K c p)->yP k (A.deeper (envOfC x (af st) s.heap.objs.size f cdv))->sp vs H Q E ->
   ∃t,PSs (aZ (CXE P w) P w K mg base N x (af st) f cdv A outer s H E) (aH st) t∧t { nx:=fun _ H'=>Q .non H',rt:=Q } (d9 N vs) H):Fx P w K mg base x ps (k+1) ds sp:=by
 obtain⟨f,T,oT,n,its,oc,od,kV,doc,pm,an,c,ct,osl,hm,lk,hcd,hk,hT,hs,hv,hc⟩:=D.ex;refine⟨⟨f,_,its,hm,hk,fun s us KX hl=>?_,fun s us KX hl=>hd T kV doc pm an (.ref c) ct us its oT n s hv hl (KX _ _ hT) hs,hv,mE lk hcd S len fun A outer s H vs Q E hr hsp=>hbody f (.ref c) A outer s H vs Q E ⟨c,rfl,hc⟩ hr hsp⟩⟩;rw[List.append_nil]at hl ⊢;exact hb T kV doc pm an (.ref c) ct us its oT n s hv hl (KX _ _ hT) hs
def fC(s:Stmt)(i:Nat):Expr:=match s with
 | .Assign _ (.Call _ as _ _) _=>as.getD i (.Name "" ⟨0,0,0,0⟩)
 | _=>.Name "" ⟨0,0,0,0⟩
def bn(e:Expr):Scope:=match e with
 | .Lambda _ _ sc _=>sc
 | _=>{ kind:=.function,names:=[],isGenerator:=false,isCoroutine:=false }
def fi(e:Expr):Arguments:=match e with
 | .Lambda a _ _ _=>a
 | _=>{ posonlyargs:=[],args:=[],vararg:=none,kwonlyargs:=[],kw_defaults:=[],kwarg:=none,defaults:=[] }
def fh(e:Expr):Expr:=match e with
 | .Lambda _ b _ _=>b
 | _=>.Name "" ⟨0,0,0,0⟩
def a9(e:Expr):Pos:=match e with
 | .Lambda _ _ _ p=>p
 | _=>⟨0,0,0,0⟩
theorem bV{C:List Addr}{H:Hp}{b:Addr}{o:HO}(hC:∀c∈C,∃o,H c=some (KnO o))(e:H b=some o)(n:∀z,o≠KnO z):cut C H b=some o:=by
 rw[bS fun z=>?_]
 ·exact e
 ·obtain⟨o',e'⟩:=hC b z
  rw[e]at e';exact n o' (Option.some.inj e')
theorem eM{C:List Addr}{H H1:Hp}{b:Addr}{o:HO}(hC:∀c∈C,H1 c=none)(e:H1 b=some o):kC C H H1 b=some o:=by
 rw[cH fun z=>by rw[hC b z]at e;cases e];exact e
theorem bY.keep{p:Addr}{H H':Hp}{b:Addr}{o:HO}{ls:List (Pos×Str)}(s:bY p H H')(t:Tab H p ls)(e:H b=some o)(n:∀ps,o≠.tbl ps):H' b=some o:=by
 obtain⟨ps,e1,_⟩:=t;refine s b o (fun z=>?_) e;rw[z,e1]at e;exact n ps (Option.some.inj e).symm
theorem bY.trans{p:Addr}{H H1 H2:Hp}(a:bY p H H1)(b:bY p H1 H2):bY p H H2:=fun c o n e=>b c o n (a c o n e)
theorem Same.p{p:Addr}{H H':Hp}(s:Same H H'):bY p H H':=fun b o _ e=>s b o e
theorem dU{H:Hp}{cl:List (Str×Addr)}{ws:List V}(cs:Paired (fun (p:Str×Addr) z=>bO H p.2 z) cl ws):∀c∈cl.map (·.2),∃o,H c=some (KnO o):=by
 induction cs with
 | nil=>intro c h;cases h
 | cons a r ih =>
  intro c h;rcases List.mem_cons.mp h with rfl|h
  ·obtain⟨o,u,e,_⟩:=a
   exact⟨o,e⟩
  ·exact ih c h
theorem bO.mono{H H':Hp}{c:Addr}{v:V}(x:bO H c v)(s:Same H H'):bO H' c v:=let ⟨o,u,e,r⟩:=x;⟨o,u,s _ _ e,r⟩
end L2
namespace L2
open PySem PySem.Spec PyProof.Rows
structure B2(X:Cx)(scope:Scope)(cl:List (Str×Addr))(xs:List Str)(fv:List (Str×Nat)):Prop where
 clos:closureFor scope X.env=pure cl
 kind:scope.kind = .function
 cell:∀y∈scope.names,y.2≠.cell
 names:∀y∈scope.names,y.2 = .local->scope.names.lookup y.1=some .local
 own:∀x∈xs,scope.names.lookup x=some .local
 cells:∀p∈cl,X.env.cells.lookup p.1=some p.2
 has:((relabel scope X.env).names.all fun q=>!(q.2 == .cell || q.2 == .free) || (cl.lookup q.1).isSome)=true
 nd:(xs++fv.map (·.1)).Nodup
 slot:∀p∈fv,X.N[p.2]? = some p.1∧X.env.kindOf p.1=some .cell∧Vis X.env.scope p.1∧(cl.lookup p.1).isSome=true∧((relabel scope X.env).names.lookup p.1=some .cell)
 stk:X.stack=X.env::X.outer∧X.env.frame=some X.env.locals
 noex:X.ex = []
def PTs(X:Cx)(ifs:List Expr)(tc:TT):Prop :=
 ∀(pins:List (Addr×Obj)) (s:Shared) (σ:St) (H:Hp) (Q:Bool->Hp->Prop),yd X pins σ H s->tc σ H Q ->
  wpAny (model X.prog X.w) X.A (forIn ifs true fun c r=>if r=true then do let ok <- isTrue c X.env (eval c X.env);pure (ForInStep.yield ok) else pure (ForInStep.yield r)) (fun b s'=>∃H',yd X pins σ H' s'∧Q b H') X.xe s
def wM:TT:=fun _ H Q=>Q true H
theorem tR{X:Cx}:PTs X [] wM:=fun pins s σ H Q I h=>wpAny_tests_nil ⟨H,I,h⟩
theorem oV{X:Cx}{c:Expr}{tc:TT}(h:PT X c tc):PTs X [c] tc:=fun pins s σ H Q I q=>wpAny_tests_one (h pins s σ H Q I q)
theorem nB{prog:Program}{w:World}{A:Around}{R:Result->Shared->Prop}{s:Shared}{elt target iter:Expr}{ifs:List Expr}{scope:Scope}{pos:Pos}{it acc:Value}{env:Env}(I:Nat->Shared->Prop)
  (turn:∀n s,I n s->wpAny (model prog w) A (pyNext it) (fun r s₁=>match r with
   | none=>R (.ok .next) s₁
   | some v=>wpAny (model prog w) A (letOwnedTupleGo target it v) (fun _ s₀=>wpAny (model prog w) A (assign target env v) (fun _ s₂ =>
     wpAny (model prog w) A (forIn ifs true fun c r=>if r=true then do let ok <- isTrue c env (eval c env);pure (ForInStep.yield ok) else pure (ForInStep.yield r)) (fun ok s₃ =>
      if ok=true then wpAny (model prog w) A (eval elt env) (fun x s₄ =>
       wpAny (model prog w) A (call (.builtin "list.append") [acc,x]) (fun _ s₅=>∃m,m<n∧I m s₅) (notedBy (model prog w) A env fun e s'=>R (.error e) s') s₄) (notedBy (model prog w) A env fun e s'=>R (.error e) s') s₃
      else ∃m,m<n∧I m s₃) (notedBy (model prog w) A env fun e s'=>R (.error e) s') s₂) (notedBy (model prog w) A env fun e s'=>R (.error e) s') s₀) (notedBy (model prog w) A env fun e s'=>R (.error e) s') s₁) (notedBy (model prog w) A env fun e s'=>R (.error e) s') s)
  (n:Nat) (h:I n s):codeAny (model prog w) A (.compLoop (.ListComp elt [⟨target,iter,ifs,0⟩] scope pos) 0 it acc env) R s:=by
 refine codeAny_loop rfl I (fun n s hI=>?_) n h;show wpAny _ A ((compTurn (.ListComp elt [⟨target,iter,ifs,0⟩] scope pos) 0 it acc env).onRaise (fun x=>do noteFrame x env;theTreesLotGoes x)) _ _ s
 refine wpAny_noted ?_;rw[compTurn_list];refine wpAny_bind (wpAny_standAt (wpAny_bind (wpAny_mono (turn n s hI) (fun r s₁ h₁=>?_) fun _ _ h'=>h')));cases r with
 | none=>exact wpAny_pure h₁
 | some v =>
  refine wpAny_bind (wpAny_mono h₁ (fun _ s₀ h₀=>?_) fun _ _ h'=>h');refine wpAny_bind (wpAny_mono h₀ (fun _ s₂ h₂=>wpAny_bind (wpAny_mono h₂ (fun ok s₃ h₃=>?_) fun _ _ h'=>h')) fun _ _ h'=>h');cases ok with
  | false=>exact wpAny_pure ⟨rfl,h₃⟩
  | true=>exact wpAny_bind (wpAny_bind (wpAny_mono h₃ (fun x s₄ h₄=>wpAny_bind (wpAny_mono h₄ (fun _ s₅ h₅=>wpAny_pure (wpAny_pure ⟨rfl,h₅⟩)) fun _ _ h'=>h')) fun _ _ h'=>h'))
def iN(J:It)(n:Nat)(fv:List (Str×Nat))(g:TG)(tc:TT)(te:TE)(σ:St)(H1:Hp)(Q:VK):Prop:=∀p,H1 p=none->∃W:Nat->Nat->List V->Hp->Prop,(∃m,W 0 m [] (upd H1 p (.lst [])))∧∀i m acc H2,W i m acc H2 ->
 H2 p=some (.lst acc)∧acc.length<sizeLine∧((J.stop i H2∧Q (.ref p) H2)∨(J.go i H2∧∀x H3,J.yld i H2 x H3->∀τ:St,τ.length=n->g x (τ++fvs fv σ) H3 fun σ2 H4=>(∃τ':St,τ'.length=n∧σ2=τ'++fvs fv σ) ∧
  tc σ2 H4 fun b H5=>if b=true then te σ2 H5 (fun y H6=>H6 p=some (.lst acc)∧∃m',m'<m∧W (i+1) m' (acc++[y]) (upd H6 p (.lst (acc++[y])))) else ∃m',m'<m∧W (i+1) m' acc H5))
def qX(wi:TI)(n:Nat)(fv:List (Str×Nat))(g:TG)(tc:TT)(te:TE):TE:=fun σ H Q=>wi σ H fun J H1=>iN J n fv g tc te σ H1 Q
section
variable {X:Cx} {scope:Scope} {cl:List (Str×Addr)} {xs:List Str} {fv:List (Str×Nat)} {elt iter tg:Expr} {ifs:List Expr} {pos:Pos} {te:TE} {tc:TT} {g:TG}
theorem uQ{pins:List (Addr×Obj)}{σ:St}{H:Hp}{s:Shared}{fp:List Addr}(C:B2 X scope cl xs fv)(I:yd X pins σ H s)(hf:∀b∈fp,eC X pins H b)(ho:∀b∈fp,b<s.heap.objs.size):(X.blk (xs++fv.map (·.1)) scope cl fp s H).Ok:=by
 have hcl:∀y c,cl.lookup y=some c->X.env.cells.lookup y=some c:=fun y c h=>C.cells _ (cw h);have old:∀b∈fp,X.s₀.heap.objs.size≤b:=fun b hb=>by
  rcases(hf b hb).2.2.2.1 with z|z
  ·rw[C.noex]at z
   cases z
  ·exact z
 refine⟨I.ok.mod,by show(relabel scope X.env).kind=_;exact C.kind,I.ok.glob,I.ok.blt,Nat.le_refl _,fun y z c h1 h2=>I.ok.inj y z c (hcl y c h1) (hcl z c h2),fun y hy=>?_,(fun y c h=>by cases h),I.ok.hd,I.ok.frames,.inl rfl,fun b hb=>?_,fun b o e=>I.bs b o e,Nat.le_trans I.ok.bsz I.sz,fun b o e hb=>?_,fun b hb hm=>?_,I.stack,I.stkFree⟩
 ·have q:=C.has
  rw[List.all_eq_true]at q;have hm:∃k,(y,k)∈(relabel scope X.env).names∧(k = .cell∨k = .free):=by
   rcases hy with hy|hy
   ·exact⟨_,cw hy,.inl rfl⟩
   ·exact⟨_,cw hy,.inr rfl⟩
  obtain⟨k,hk,hk2⟩:=hm;have q2:=q _ hk;have q3:(cl.lookup y).isSome=true:=by
   rcases hk2 with rfl|rfl
   ·simpa using q2
   ·simpa using q2
  exact Option.isSome_iff_exists.mp q3
 ·obtain⟨f0,f1,f2,f3,f4,f5⟩:=hf b hb
  refine⟨?_,fun y c h=>f4 y c (hcl y c h)⟩;exact Nat.ne_of_lt (ho b hb)
 ·have z:=Heap.lt_size e
  have z2:=old b hb;exact absurd (Nat.lt_of_lt_of_le z (Nat.le_trans I.ok.bsz z2)) (Nat.lt_irrefl _)
 ·obtain⟨f0,f1,f2,f3,f4,f5⟩:=hf b hb
  rcases List.mem_cons.mp (I.stkSub b hm) with z|z
  ·exact f1 z
  ·exact f2 z
theorem sZ{pins:List (Addr×Obj)}{σ:St}{H:Hp}{s s4:Shared}{fp:List Addr}(C:B2 X scope cl xs fv)(I:yd X pins σ H s)(hf:∀b∈fp,eC X pins H b)(ho:∀b∈fp,b<s.heap.objs.size)
  (hs:s4.os=s.os∧s4.gens=s.gens) (ns:s4.heap.Ns s.heap.objs.size fun _=>none) (kp:∀b o,s.heap.get? b=some o->s4.heap.get? b=some o) :
  yd (X.blk (xs++fv.map (·.1)) scope cl fp s H) [] (List.replicate xs.length none++fvs fv σ) H s4:=by
 have hcl:∀y c,cl.lookup y=some c->X.env.cells.lookup y=some c:=fun y c h=>C.cells _ (cw h);refine⟨uQ C I hf ho,hs.1,by rw[hs.2];exact I.bare,Un.kept kp,⟨_,ns,fun i y v e1 e2 e3=>?_⟩,fun y c h=>?_,I.hok.fresh (Nat.le_refl _),fun y c h=>I.freeC y c (hcl y c h),fun p hp=>by simp at hp,I.hok.kept kp,by simp[fvs]⟩
 ·by_cases hi:i<xs.length
  ·rw[List.getElem?_append_left (by rw[List.length_replicate];exact hi),List.getElem?_replicate]at e2
   simp[hi]at e2
  ·obtain⟨j,rfl⟩:∃j,i=xs.length+j:=⟨i - xs.length,by omega⟩
   have e1':(fv.map (·.1))[j]? = some y:=by
    have z:(xs++fv.map (·.1))[xs.length+j]? = some y:=e1;rw[List.getElem?_append_right (by omega)]at z;simpa using z
   have e2':(fvs fv σ)[j]? = some (some v):=by
    rw[List.getElem?_append_right (by rw[List.length_replicate];omega),List.length_replicate]at e2;simpa using e2
   rw[List.getElem?_map]at e1';unfold fvs at e2';rw[List.getElem?_map]at e2';cases hq:fv[j]? with
   | none =>
    rw[hq]at e1';cases e1'
   | some q =>
    rw[hq]at e1' e2';have ey:q.1=y:=Option.some.inj e1';have ev:(σ[q.2]?).join=some v:=Option.some.inj e2';have hm:q∈fv:=List.mem_of_getElem? hq;obtain⟨s1,s2,s3,s4',s5⟩:=C.slot q hm;have ev2:σ[q.2]? = some (some v):=by
     cases hz:σ[q.2]? with
     | none =>
      rw[hz]at ev;cases ev
     | some z =>
      rw[hz]at ev;have ev':z=some v:=ev;rw[ev']
    obtain⟨m,hn,hl⟩:=I.loc;obtain⟨u,r,lk⟩:=hl q.2 q.1 v s1 ev2 s3;obtain⟨c,hc⟩:=Option.isSome_iff_exists.mp s4';refine⟨u,r,.inr ⟨.inl (by rw[<- ey];exact s5),c,by rw[<- ey];exact hc,?_⟩⟩;rcases lk with⟨k,_⟩|⟨_,c',hc',z⟩
    ·rw[s2]at k
     cases k
    ·rw[hcl _ _ hc]at hc'
     cases hc';obtain⟨o,ho',hd⟩:=z;exact⟨o,kp _ _ ho',hd⟩
 ·obtain⟨v,o,ho',hd⟩:=I.cell y c (hcl y c h)
  exact⟨v,o,kp _ _ ho',hd⟩
theorem nF{pins:List (Addr×Obj)}{σ:St}{H2:Hp}{s2:Shared}{it:Addr}{fp:List Addr}{tn:Nat->Heap->Prop}{J:It}{RR:Value->Addr->Result->Shared->Prop}{E:Value->Shared->Prop}{Qf:V->Hp->Prop}
  (hcalm:X.calm=true) (C:B2 X scope cl xs fv) (I2:yd X pins σ H2 s2) (T:CU X.prog X.w X.K tg J fp it tn) (st:tn 0 s2.heap) (f2:∀b∈fp,eC X pins H2 b)
  (rd:iN J xs.length fv g tc te σ H2 Qf)
  (hg:∀(s₀:Shared) (H₀:Hp),PG (X.blk (xs++fv.map (·.1)) scope cl fp s₀ H₀) tg g) (ht:∀(s₀:Shared) (H₀:Hp),PTs (X.blk (xs++fv.map (·.1)) scope cl fp s₀ H₀) ifs tc)
  (he:∀(s₀:Shared) (H₀:Hp),PE (X.blk (xs++fv.map (·.1)) scope cl fp s₀ H₀) elt te)
  (hRR:∀(p C:Addr) (H':Hp) (s':Shared),(∃m,s'.heap.Ns C m)->C≠X.env.locals->H' C=none->X.s₀.heap.objs.size≤C->(∀y c,X.env.cells.lookup y=some c->c≠C)->(∀q∈X.pn++pins,q.1≠C)->yd X pins σ H' s'->Qf (.ref p) H'->RR (.ref p) C (.ok .next) s') :
  wpAny (model X.prog X.w) X.A (newList []) (fun acc s₃=>wpAny (model X.prog X.w) X.A (newFunctionEnv scope X.env.globals cl [] X.env.qual none .none (some X.env)) (fun cenv s₄ =>
   codeAny (model X.prog X.w) X.A (.compStart (.ListComp elt [⟨tg,iter,ifs,0⟩] scope pos) 0 (.ref it) acc { cenv with scope:=relabel scope X.env }) (RR acc cenv.locals) s₄) E s₃) E s2:=by
 refine wpAny_newObj_type ?_;have hfresh:=I2.fresh;have I3:yd X pins σ (upd H2 s2.heap.objs.size (.lst [])) { s2 with heap:=s2.heap.push { cls:=.type "list",data:=.seq ([]:List Value).toArray } } :=
  I2.laid (t':=s2.toks) (fun b u q=>Heap.get?_push_of_some _ q) (Nat.le_refl _) ⟨Nat.zero_le _,[],0,.nil,Heap.get?_push_size _ rfl⟩
 generalize hs3:({ s2 with heap:=s2.heap.push { cls:=.type "list",data:=.seq ([]:List Value).toArray } }:Shared)=s3 at I3 ⊢;have hp3:s2.heap.objs.size<s3.heap.objs.size:=by rw[<- hs3];exact Nat.lt_of_lt_of_le (Nat.lt_succ_self _) (Nat.le_of_eq (Heap.size_push _ _).symm)
 have k23:∀b o,s2.heap.get? b=some o->s3.heap.get? b=some o:=fun b o e=>by rw[<- hs3];exact Heap.get?_push_of_some _ e
 have fpo:∀b∈fp,b<s2.heap.objs.size:=fun b hb=>by
  obtain⟨o,e,_⟩:=T.obj 0 _ st b hb;exact Heap.lt_size e
 have f3:∀b∈fp,eC X pins (upd H2 s2.heap.objs.size (.lst [])) b:=fun b hb=>⟨by rw[aN (Nat.ne_of_lt (fpo b hb))];exact(f2 b hb).1,(f2 b hb).2⟩;refine wpAny_newFunctionEnv C.cell (by intro y hy;simp at hy) (fun h1 hns1 hsb1=>?_) C.kind;have kp:∀b o,s3.heap.get? b=some o->h1.get? b=some o:=fun b o e=>(hsb1.2 b (Nat.ne_of_lt (Heap.lt_size e))).trans (Heap.get?_push_of_some _ e);have I4:=sZ (s4:={ s3 with heap:=h1,toks:=s3.toks+([]:List (Str×Value)).length }) C I3 f3 (fun b hb=>Nat.lt_trans (fpo b hb) hp3) ⟨rfl,rfl⟩ hns1 kp;have st4:tn 0 h1:=T.keep 0 _ _ st fun b _ o e=>kp b o (k23 b o e);obtain⟨W,⟨m0,w0⟩,step⟩:=rd _ hfresh;have loop:codeAny (model X.prog X.w) X.A (.compLoop (.ListComp elt [⟨tg,iter,ifs,0⟩] scope pos) 0 (.ref it) (.ref s2.heap.objs.size) (compEnvC scope cl s3.heap.objs.size X.env)) (RR (.ref s2.heap.objs.size) s3.heap.objs.size)
   { s3 with heap:=h1,toks:=s3.toks+([]:List (Str×Value)).length }:=by
  refine nB (fun n s=>∃i acc τ H',τ.length=xs.length∧yd (X.blk (xs++fv.map (·.1)) scope cl fp s3 (upd H2 s2.heap.objs.size (.lst []))) [] (τ++fvs fv σ) H' s∧tn i s.heap∧(∀b∈fp,H' b=none)∧W i n acc H') ?_ m0 ⟨0,[],List.replicate xs.length none,_,List.length_replicate,I4,st4,fun b hb=>(f3 b hb).1,w0⟩;rintro n s ⟨i,acc,τ,H',hτ,I',st',fr',w'⟩;obtain⟨hp,hlen,alt⟩:=step i n acc H' w';have fpk:∀{H5:Hp},(∀b∈fp,H5 b=none)->∀b∈fp,eC (X.blk (xs++fv.map (·.1)) scope cl fp s3 (upd H2 s2.heap.objs.size (.lst []))) [] H5 b:=fun h5 b hb =>
   ⟨h5 b hb,(I'.ok.exf b hb).1,I'.ok.exfs b hb,.inl hb,fun y c e=>(I'.ok.exf b hb).2 y c e,fun q hq=>by simp at hq⟩
  rcases alt with⟨stop,qf⟩|⟨go,turn⟩
  ·refine wpAny_mono (T.done (X.blk (xs++fv.map (·.1)) scope cl fp s3 (upd H2 s2.heap.objs.size (.lst []))) rfl rfl rfl hcalm i [] s _ H' (fun _ _=>False) I' (fpk fr') st' stop) (fun r s5 ⟨hr,I5⟩=>?_) fun _ _ z=>False.elim z
   subst hr;refine hRR _ _ H' s5 (let ⟨m,hn,_⟩:=I5.loc;⟨m,hn⟩) (Nat.ne_of_gt I3.lt) I5.free I3.sz (fun y c e=>?_) (fun q hq=>?_) ?_ qf
   ·obtain⟨v,z⟩:=I3.cell y c e
    exact Nat.ne_of_lt z.lt
   ·exact Nat.ne_of_lt (Heap.lt_size (I3.pin q hq).1)
   ·exact I3.call' (s':=s5) (ch:=fp) I5.os I5.base I5.hok I5.bare fun b hb=>⟨(f2 b hb).2.2.2.1,(f2 b hb).2.1,(f2 b hb).2.2.2.2.1,(f2 b hb).2.2.2.2.2⟩
  ·refine wpAny_mono (T.item (X.blk (xs++fv.map (·.1)) scope cl fp s3 (upd H2 s2.heap.objs.size (.lst []))) rfl rfl rfl hcalm i [] s _ H' (fun _ _=>False) I' (fpk fr') st' go) (fun r s5 ⟨u,hr,h5⟩=>?_) fun _ _ z=>False.elim z
   subst hr;refine wpAny_mono h5 (fun _ s6 ⟨y,H6,I6,r6,y6,st6,fr6⟩=>?_) fun _ _ z=>False.elim z;have I6':=I6.pinned (fpk fr6) (T.obj _ _ st6);have rt:=turn y _ y6 τ hτ;refine wpAny_mono (hg s3 _ _ s6 _ H6 y u _ I6' r6 rt) (fun _ s7 ⟨σ7,H7,I7,⟨τ',hτ',e7⟩,q7⟩=>?_) fun _ _ z=>False.elim z;subst e7;refine wpAny_mono (ht s3 _ _ s7 _ _ _ I7 q7) (fun b s7b ⟨H7b,I7b,q7b⟩=>?_) fun _ _ z=>False.elim z;have kp6:∀{σ9:St} {H9:Hp} {s9:Shared},yd (X.blk (xs++fv.map (·.1)) scope cl fp s3 (upd H2 s2.heap.objs.size (.lst []))) ([]++iX fp s6.heap) σ9 H9 s9->tn (i+1) s9.heap∧∀b∈fp,H9 b=none:=fun {σ9 H9 s9} I9=>by
    refine⟨T.keep _ _ _ st6 fun b hb o e=>(I9.pin (b,o) (List.mem_append_right _ (List.mem_append_right _ (da hb e)))).1,fun b hb=>?_⟩;obtain⟨o,e,d⟩:=T.obj _ _ st6 b hb;exact(I9.pin (b,o) (List.mem_append_right _ (List.mem_append_right _ (da hb e)))).2.1
   cases b with
   | false =>
    obtain⟨m',hm',w8⟩:=q7b;exact⟨m',hm',i+1,acc,τ',_,hτ',I7b.unpinned,(kp6 I7b).1,(kp6 I7b).2,w8⟩
   | true =>
    refine wpAny_mono (he s3 _ _ s7b _ _ _ I7b q7b) (fun v8 s8 ⟨y8,H8,I8,r8,q8,m',hm',w8⟩=>?_) fun _ _ z=>False.elim z;refine wpAny_mono (gN (X:=X.blk (xs++fv.map (·.1)) scope cl fp s3 (upd H2 s2.heap.objs.size (.lst []))) _ s8 _ H8 (.ref s2.heap.objs.size) [y8] (.ref s2.heap.objs.size) [v8] (fun _ H9=>H9=upd H8 s2.heap.objs.size (.lst (acc++[y8]))) I8 rfl (.cons r8 .nil) ⟨_,acc,y8,rfl,rfl,q8,hlen,rfl⟩) (fun _ s9 ⟨_,H9,I9,_,e9⟩=>?_) fun _ _ z=>False.elim z;subst e9;exact⟨m',hm',i+1,acc++[y8],τ',_,hτ',I9.unpinned,(kp6 I9).1,(kp6 I9).2,w8⟩
 exact codeAny_compStart_list loop (T.self _ 0 _ _ _ st4 loop)
theorem lX{wi:TI}(hcalm:X.calm=true)(C:B2 X scope cl xs fv)(hi:PI X tg iter wi)(hg:∀(fp:List Addr) (s₀:Shared) (H₀:Hp),PG (X.blk (xs++fv.map (·.1)) scope cl fp s₀ H₀) tg g)(ht:∀(fp:List Addr) (s₀:Shared) (H₀:Hp),PTs (X.blk (xs++fv.map (·.1)) scope cl fp s₀ H₀) ifs tc)(he:∀(fp:List Addr) (s₀:Shared) (H₀:Hp),PE (X.blk (xs++fv.map (·.1)) scope cl fp s₀ H₀) elt te)
  (hs:∀v,foldedSetIterable iter X.env v=pure v:=by intro _;rfl):PE X (.ListComp elt [⟨tg,iter,ifs,0⟩] scope pos) (qX wi xs.length fv g tc te):=by
 intro pins s σ H Q I h;rw[eval_ListComp];refine wpAny_comprehension_free (use:=none) rfl hs C.clos C.kind C.names (wpAny_mono (hi pins s σ H _ I h) (fun v s1 h1=>wpAny_mono h1 (fun itv s2 h2=>?_) fun _ _ z=>z) fun _ _ z=>z);obtain⟨it,fp,tn,J,H2,rfl,I2,T,st2,f2,rd⟩:=h2;refine nF (Qf:=Q) hcalm C I2 T st2 f2 rd (hg fp) (ht fp) (he fp) fun p D H' s' ns nL nH n0 nC nP I8 q=>?_;obtain⟨m,hn⟩:=ns;exact⟨m,hn,fun h'' sb=>⟨.ref p,H',I8.turned (t':=s'.toks) (fun b o hb e=>(sb.2 b hb).trans e) nH nL (.inr n0) nC nP,rfl,q⟩⟩
theorem lU{wi:TI}{y:Str}{j:Nat}{py spos:Pos}(hcalm:X.calm=true)(C:B2 X scope cl xs fv)(hN:X.N.Nodup)(hj:X.N[j]? = some y)(hy:X.env.scope.names.lookup y=some .local)(hi:PI X tg iter wi)(hg:∀(fp:List Addr) (s₀:Shared) (H₀:Hp),PG (X.blk (xs++fv.map (·.1)) scope cl fp s₀ H₀) tg g)(ht:∀(fp:List Addr) (s₀:Shared) (H₀:Hp),PTs (X.blk (xs++fv.map (·.1)) scope cl fp s₀ H₀) ifs tc)(he:∀(fp:List Addr) (s₀:Shared) (H₀:Hp),PE (X.blk (xs++fv.map (·.1)) scope cl fp s₀ H₀) elt te)
  (hsw:swapsWith (.ListComp elt [⟨tg,iter,ifs,0⟩] scope pos) (some (.Name y py)) spos.line X.env=pure true:=by rfl)
  (hs:∀v,foldedSetIterable iter X.env v=pure v:=by intro _;rfl):PS X (.Assign [.Name y py] (.ListComp elt [⟨tg,iter,ifs,0⟩] scope pos) spos) (vG (qX wi xs.length fv g tc te) (pz j)):=by
 intro pins s σ H D I h;rw[exec_Assign_Name_used _ _ _ _ hsw];refine wpAny_bind (wpAny_standAt (wpAny_bind ?_));show wpAny _ _ (do let _ <- comprehension (.ListComp elt [⟨tg,iter,ifs,0⟩] scope pos) scope X.env _ (newList []) false (eval iter X.env) (some (assign (.Name y py) X.env))) _ _ s
 refine wpAny_bind (wpAny_mono (wpAny_comprehension_free (use:=some (assign (.Name y py) X.env)) (Q:=fun _ s'=>SP X pins D .next s') rfl hs C.clos C.kind C.names
  (wpAny_mono (hi pins s σ H _ I h) (fun v s1 h1=>wpAny_mono h1 (fun itv s2 h2=>?_) fun _ _ z=>z) fun _ _ z=>z)) (fun _ s' hq=>wpAny_pure (wpAny_pure hq)) fun _ _ z=>z)
 obtain⟨it,fp,tn,J,H2,rfl,I2,T,st2,f2,rd⟩:=h2;refine nF (Qf:=fun v H'=>pz j v σ H' D.nx) hcalm C I2 T st2 f2 rd (hg fp) (ht fp) (he fp) fun p D' H' s' ns nL nH n0 nC nP I8 q=>?_;obtain⟨m,hn⟩:=ns;show wpAny _ _ (assign (.Name y py) X.env (.ref p)) _ _ _;refine wpAny_assign_Name (jV I8 hN hj (.inl hy) (v:=.ref p) rfl (fun s9 I9 ⟨a,sb,ha⟩=>?_) (.inr hy));have aD:D'≠a:=by
  rintro rfl;rcases ha with z|z
  ·exact nL z
  ·exact nC y _ z rfl
 exact⟨m,hn.sameBut sb aD,fun h'' sb2=>⟨_,H',I9.turned (t':=s9.toks) (fun b o hb e=>(sb2.2 b hb).trans e) nH nL (.inr n0) nC nP,q⟩⟩
end
def lQ(e:Expr):Scope:=match e with
 | .ListComp _ _ sc _=>sc
 | .Call _ [.ListComp _ _ sc _] _ _=>sc
 | _=>{ kind:=.function,names:=[],isGenerator:=false,isCoroutine:=false }
end L2
namespace L2
open PySem PySem.Spec PyProof.Rows
end L2
namespace L2
open PySem PySem.Spec PyProof.Rows
theorem jt{a:Addr}{o:Obj}{kvs:List (List Key×V)}{fv:List (Str×Nat)}{g:TG}{tc:TT}{te:TE}{σ:St}{H1:Hp}{Q:VK}{k:Nat}(hD:H1 a=some (.frz o (.dT kvs)))(hlen:kvs.length<1000)(sel:List Key×V->Bool)(R:List Key×V->V->Hp->Prop)(hR:∀e v H H',SameT H H'->R e v H->R e v H')
  (hs:∀(i:Nat) e b H2 (τ:St) (Kc:VK) (Kn:Hp->Prop),kvs[i]? = some e->H2 b=some (.tup (e.1.map kV))->Same H1 H2->τ.length=k->(sel e=true->∀y H4,Same H2 H4->R e y H4->Kc y H4)->(sel e=false->∀H4,Same H2 H4->Kn H4) ->
   g (.ref b) (τ++fvs fv σ) H2 fun σ2 H4=>(∃τ':St,τ'.length=k∧σ2=τ'++fvs fv σ)∧tc σ2 H4 fun b H5=>if b=true then te σ2 H5 Kc else Kn H5)
  (hd:∀l ys H',H1 l=none->Same H1 H'->H' l=some (.lst ys)->Paired (fun e y=>R e y H') (kvs.filter sel) ys->Q (.ref l) H'):iN (Itd a o kvs) k fv g tc te σ H1 Q:=by
 intro l hl;refine⟨fun i m acc H2=>m=kvs.length - i∧i≤kvs.length∧acc.length≤i∧Same H1 H2∧H2 l=some (.lst acc)∧Paired (fun e y=>R e y H2) ((kvs.take i).filter sel) acc,⟨_,rfl,Nat.zero_le _,Nat.le_refl _,Same.new hl,upd_same,.nil⟩,?_⟩;rintro i m acc H2 ⟨rfl,hi,e1,sm,e3,hr⟩;refine⟨e3,bZ (by omega),?_⟩
 by_cases hlt:i<kvs.length
 ·refine .inr ⟨⟨sm _ _ hD,hlt⟩,fun x H3 y τ hτ=>?_⟩
  obtain⟨rfl,q,v,b,hq,rfl,hb⟩:=y;have tk:kvs.take (i+1)=kvs.take i++[(q,v)]:=by rw[List.take_add_one,hq];rfl
  refine hs i (q,v) b H3 τ _ _ hq hb sm hτ (fun hsel y H4 s4 ry=>⟨s4 _ _ e3,kvs.length - (i+1),by omega,rfl,hlt,by simp;exact e1,(sm.trans s4).upd hl,upd_same,?_⟩) fun hsel H4 s4=>⟨kvs.length - (i+1),by omega,rfl,hlt,by omega,sm.trans s4,s4 _ _ e3,?_⟩
  ·have t4:=SameT.upd (ys:=acc++[y]) (s4 _ _ e3)
   rw[tk,List.filter_append];have:[(q,v)].filter sel = [(q,v)]:=by simp[hsel]
   rw[this];exact Paired.snoc (Paired.mapP hr fun e z r=>hR _ _ _ _ (s4.t.trans t4) r) (hR _ _ _ _ t4 ry)
  ·rw[tk,List.filter_append]
   have:[(q,v)].filter sel = []:=by simp[hsel]
   rw[this,List.append_nil];exact Paired.mapP hr fun e z r=>hR _ _ _ _ s4.t r
 ·have e:i=kvs.length:=by omega
  subst e;rw[List.take_length]at hr;exact .inl ⟨⟨sm _ _ hD,Nat.le_refl _⟩,hd l acc H2 hl sm e3 hr⟩
end L2
namespace Sk
open PySem PySem.Spec L2
abbrev aI:=List Key
def bD(H:Hp)(v:V)(k:aI):Prop:=∃p,v = .ref p∧H p=some (.tup (k.map kV))
theorem bD.mono{H H':Hp}{v:V}{k:aI}(x:bD H v k)(s:SameT H H'):bD H' v k:=let ⟨p,e,h⟩:=x;⟨p,e,s _ _ h⟩
abbrev En:=aI×Option Nat×V
def Ent(H:Hp)(es:List En)(e:En)(kv:aI×V):Prop:=kv.1=e.1∧∃t pv,kv.2 = .ref t∧H t=some (.tup [pv,e.2.2])∧(e.2.1=none->pv = .non)∧∀j,e.2.1=some j->∃e',es[j]? = some e'∧bD H pv e'.1
structure E6(es:List En):Prop where
 nd:(es.map (·.1)).Nodup
 up:∀(i:Nat) (e:En) (j:Nat),es[i]? = some e->e.2.1=some j->j<i
def hO(H:Hp)(d:Addr)(es:List En):Prop:=∃kvs,H d=some (.dT kvs)∧Paired (Ent H es) es kvs
theorem Ent.mono{H H':Hp}{es es':List En}{e:En}{kv:aI×V}(x:Ent H es e kv)(s:SameT H H')(h:∀(j:Nat) e,es[j]? = some e->es'[j]? = some e):Ent H' es' e kv:=by
 obtain⟨a,t,pv,b,c,d,f⟩:=x;refine⟨a,t,pv,b,s _ _ c,d,fun j hj=>?_⟩;obtain⟨e',h1,h2⟩:=f j hj;exact⟨e',h j e' h1,h2.mono s⟩
theorem cR{α β:Type}{F:α->β->Prop}:∀{l:List α} {m:List β},Paired F l m->∀(i:Nat) (a:α),l[i]? = some a->∃b,m[i]? = some b∧F a b:=by
 intro l m p
 induction p with
 | nil=>intro i a e;simp at e
 | cons h r ih =>
  intro i a e;cases i with
  | zero=>simp at e;subst e;exact⟨_,rfl,h⟩
  | succ j=>exact ih j a (by simpa using e)
theorem a7{α β:Type}{F:α->β->Prop}:∀{l:List α} {m:List β},Paired F l m->∀(i:Nat) (b:β),m[i]? = some b->∃a,l[i]? = some a∧F a b:=by
 intro l m p
 induction p with
 | nil=>intro i a e;simp at e
 | cons h r ih =>
  intro i a e;cases i with
  | zero=>simp at e;subst e;exact⟨_,rfl,h⟩
  | succ j=>exact ih j a (by simpa using e)
theorem qh{α:Type}{l:List α}(nd:l.Nodup){i j:Nat}{a:α}(hi:l[i]? = some a)(hj:l[j]? = some a):i=j:=by
 obtain⟨h1,e1⟩:=List.getElem?_eq_some_iff.mp hi;obtain⟨h2,e2⟩:=List.getElem?_eq_some_iff.mp hj;have pw:=List.pairwise_iff_getElem.mp nd;rcases Nat.lt_trichotomy i j with z|z|z
 ·exact absurd (e1.trans e2.symm) (pw i j h1 h2 z)
 ·exact z
 ·exact absurd (e2.trans e1.symm) (pw j i h2 h1 z)
theorem oe{α β:Type}{F:α->β->Prop}:∀{l:List α} {m:List β},Paired F l m->Paired F l.reverse m.reverse:=by
 intro l m p
 induction p with
 | nil=>exact .nil
 | cons h r ih =>
  rw[List.reverse_cons,List.reverse_cons];exact Paired.snoc ih h
theorem kP{H:Hp}{es':List En}:∀{es:List En} {kvs:List (aI×V)},Paired (Ent H es') es kvs->kvs.map (·.1)=es.map (·.1):=by
 intro es kvs p
 induction p with
 | nil=>rfl
 | cons h r ih=>rw[List.map_cons,List.map_cons,ih,h.1]
theorem tE:∀{kvs:List (aI×V)} {i:Nat} {kv:aI×V},(kvs.map (·.1)).Nodup->kvs[i]? = some kv->eG kvs kv.1=some kv.2:=by
 intro kvs
 induction kvs with
 | nil=>intro i kv _ e;simp at e
 | cons a r ih =>
  intro i kv nd e;rw[List.map_cons,List.nodup_cons]at nd;cases i with
  | zero=>simp at e;subst e;exact eF rfl
  | succ j =>
   have e:r[j]? = some kv:=by simpa using e
   rw[dI (fun z=>nd.1 (by rw[z];exact List.mem_map.mpr ⟨kv,List.mem_of_getElem? e,rfl⟩))];exact ih nd.2 e
theorem gf:∀{kvs:List (aI×V)} {k:aI},k∉kvs.map (·.1)->eG kvs k=none:=by
 intro kvs
 induction kvs with
 | nil=>intro k _;rfl
 | cons a r ih =>
  intro k h;rw[List.map_cons,List.mem_cons,not_or]at h;rw[dI (fun z=>h.1 z.symm)];exact ih h.2
theorem oM{kvs:List (aI×V)}{k:aI}(h:k∈kvs.map (·.1)):(eG kvs k).isSome=true:=by
 induction kvs with
 | nil=>simp at h
 | cons a r ih =>
  by_cases z:a.1=k
  ·rw[eF z];rfl
  ·rw[dI z]
   rw[List.map_cons,List.mem_cons]at h;exact ih (h.resolve_left fun q=>z q.symm)
theorem hO.mono{H H':Hp}{d:Addr}{es:List En}(c:hO H d es)(s:Same H H'):hO H' d es:=by
 obtain⟨kvs,e1,e2⟩:=c;exact⟨kvs,s _ _ e1,Paired.mapP e2 fun a b x=>x.mono s.t fun _ _ h=>h⟩
theorem hO.look{H:Hp}{d:Addr}{es:List En}(c:hO H d es){s:aI}{b:Addr}(hb:H b=some (.tup (s.map kV))):∃o,g9 H d (.ref b) o∧(o.isSome=true↔s∈es.map (·.1)):=by
 obtain⟨kvs,e1,e2⟩:=c;refine⟨_,g9.t e1 hb,?_⟩;rw[<- kP e2];constructor
 ·intro h
  by_cases z:s∈kvs.map (·.1)
  ·exact z
  ·rw[gf z]at h;cases h
 ·exact oM
theorem hO.add{H:Hp}{d:Addr}{es:List En}(c:hO H d es){s:aI}{b t:Addr}{pv h:V}{pj:Option Nat}(hb:H b=some (.tup (s.map kV)))(ht:H t=some (.tup [pv,h]))(hs:s∉es.map (·.1))(h0:pj=none->pv = .non)(h1:∀j,pj=some j->∃e',es[j]? = some e'∧bD H pv e'.1)(hl:es.length<1000) :
  ∃H',oH H d (.ref b) (.ref t) H'∧hO H' d (es++[(s,pj,h)])∧SameT H H'∧∀x,x≠d->H' x=H x:=by
 obtain⟨kvs,e1,e2⟩:=c;have len:=Paired.length e2;have new:fJ kvs s (.ref t)=kvs++[(s,.ref t)]:=lS _ (gf (by rw[kP e2];exact hs));have st:SameT H (upd H d (.dT (fJ kvs s (.ref t)))):=fun x xs e=>by
  rw[aN (fun z=>by rw[z,e1]at e;cases e)];exact e
 refine⟨_,oH.t (k:=s) (v:=.ref t) e1 hb (by have:=bZ (n:=kvs.length) (by omega);exact this),⟨_,upd_same,?_⟩,st,fun x hx=>aN hx⟩;have keep:∀(j:Nat) (e:En),es[j]? = some e->(es++[(s,pj,h)])[j]? = some e:=fun j e he=>by
  rw[List.getElem?_append_left (List.getElem?_eq_some_iff.mp he).1];exact he
 have last:Ent (upd H d (.dT (fJ kvs s (.ref t)))) (es++[(s,pj,h)]) (s,pj,h) (s,.ref t):=⟨rfl,t,pv,rfl,st _ _ ht,h0,fun j hj=>by
  obtain⟨e',g1,g2⟩:=h1 j hj;exact⟨e',keep _ _ g1,g2.mono st⟩⟩
 have all:=Paired.snoc (Paired.mapP e2 fun a b x=>x.mono st keep) last;rw[<- new]at all;exact all
inductive Cp (es:List En):Nat->List (aI×V)->Prop
 | root {i:Nat} {s:aI} {h:V}:es[i]? = some (s,none,h)->Cp es i [(s,h)]
 | step {i j:Nat} {s:aI} {h:V} {l:List (aI×V)}:es[i]? = some (s,some j,h)->Cp es j l->Cp es i (l++[(s,h)])
def fZ(H:Hp)(r:Addr)(l:List (aI×V)):Prop:=∃vs,H r=some (.lst vs)∧Paired (fun (e:aI×V) v=>∃t sv,v = .ref t∧H t=some (.tup [sv,e.2])∧bD H sv e.1) l vs
def lA(H:Hp)(r:Addr)(l:List (aI×V)):Prop:=fZ H r l
def oG(es:List En)(cur:Option Nat)(i:Nat)(done:List (aI×V)):Prop:=∀l,(match cur with|some j=>Cp es j l|none=>l = [])->Cp es i (l++done.reverse)
theorem oG.begin{es:List En}{i:Nat}:oG es (some i) i []:=fun l h=>by simpa using h
theorem oG.up{es:List En}{i j:Nat}{done:List (aI×V)}{s:aI}{pj:Option Nat}{h:V}(x:oG es (some j) i done)(e:es[j]? = some (s,pj,h)):oG es pj i (done++[(s,h)]):=by
 intro l hl;rw[List.reverse_append];show Cp es i (l++([(s,h)]++done.reverse));rw[<- List.append_assoc];refine x _ ?_;cases pj with
 | none =>
  have:l = []:=hl;subst this;exact .root e
 | some j'=>exact .step e hl
inductive CJ (vs:List V) (H:Hp) (Q:VK) (x_3:XK):Prop
 | mk:∀(d:Addr) (sv:V) (es:List En) (i:Nat) (e:En),(vs = [.ref d,sv])->(hO H d es)->(E6 es)->(es[i]? = some e)->(bD H sv e.1)->(es.length<1000)->(∀r H' l,Same H H'->Cp es i l->l.length≤es.length->fZ H' r l->Q (.ref r) H')->CJ vs H Q x_3
def uU(bs:List aI)(stp:aI->List (aI×V))(fin:aI->Bool)(l:List (aI×V)):Prop :=
 (∃s r,l=(s,.non)::r∧s∈bs)∧(∀(n:Nat) a b,l[n]? = some a->l[n+1]? = some b->b∈stp a.1)∧∃a,l.getLast? = some a∧fin a.1=true
def uT(bs:List aI)(stp:aI->List (aI×V))(fin:aI->Bool):Prop:=∃R:List aI,(∀s∈bs,s∈R)∧(∀s∈R,∀e∈stp s,e.1∈R)∧∀s∈R,fin s=false
structure EF(bs:List aI)(stp:aI->List (aI×V))(es:List En):Prop where
 root:∀(i:Nat) e,es[i]? = some e->e.2.1=none->e.1∈bs∧e.2.2 = .non
 step:∀(i j:Nat) e,es[i]? = some e->e.2.1=some j->∃e',es[j]? = some e'∧(e.1,e.2.2)∈stp e'.1
theorem tM{bs:List aI}{stp:aI->List (aI×V)}{fin:aI->Bool}{es:List En}(g:EF bs stp es){i:Nat}{l:List (aI×V)}(p:Cp es i l) :
  (∃s r,l=(s,.non)::r∧s∈bs)∧(∀(n:Nat) a b,l[n]? = some a->l[n+1]? = some b->b∈stp a.1)∧∃e,es[i]? = some e∧l.getLast? = some (e.1,e.2.2):=by
 induction p with
 | root e =>
  obtain⟨h1,h2⟩:=g.root _ _ e rfl;dsimp only at h1 h2;subst h2;exact⟨⟨_,[],rfl,h1⟩,fun n a b _ h=>by simp at h,_,e,rfl⟩
 | step e p ih =>
  obtain⟨⟨s,r,rfl,hs⟩,st,e',h1,h2⟩:=ih;refine⟨⟨s,r++_,rfl,hs⟩,fun n a b ha hb=>?_,_,e,List.getLast?_concat⟩;rcases Nat.lt_trichotomy (n+1) ((s,V.non)::r).length with z|z|z
  ·rw[List.getElem?_append_left (by omega)]at ha
   rw[List.getElem?_append_left z]at hb;exact st n a b ha hb
  ·rw[List.getElem?_append_left (by omega)]at ha
   rw[List.getElem?_append_right (by omega),z,Nat.sub_self]at hb;simp only[List.getElem?_cons_zero,Option.some.injEq]at hb;rw[List.getLast?_eq_getElem?]at h2;have ea:((s,V.non)::r).length - 1=n:=by omega
   rw[ea,ha]at h2;cases h2;obtain⟨e2,g1,g2⟩:=g.step _ _ _ e rfl;rw[h1]at g1;cases g1;rw[<- hb];exact g2
  ·rw[List.getElem?_eq_none (by simp at z ⊢;omega)]at hb
   cases hb
structure Fa(P:Program)(w:World)(K:W.Frag)(mg:Str->Option Value)(base:Heap)(k:Nat)(H:Hp)(f1 f2:Addr)(U:List aI)(stp:aI->List (aI×V))(fin:aI->Bool):Prop where
 o1:nJ H f1
 o2:nJ H f2
 c1:∃sp,uX P w K mg base k f1 sp∧∀H' v s (Q:VK),Same H H'->bD H' v s->s∈U->(∀r H'',Same H' H''->H' r=none->lA H'' r (stp s)->Q (.ref r) H'')->sp [v] H' Q E0
 c2:∃sp,uX P w K mg base k f2 sp∧∀H' v s (Q:VK),Same H H'->bD H' v s->s∈U->(∀H'',Same H' H''->Q (.bl (fin s)) H'')->sp [v] H' Q E0
 shut:∀s∈U,∀e∈stp s,e.1∈U
 few:∀s∈U,(stp s).length<1000
noncomputable def oB(n:Nat)(es:List En)(x:aI×V):List En:=@ite _ (x.1∈es.map (·.1)) (Classical.propDecidable _) es (es++[(x.1,some n,x.2)])
noncomputable def bQ(bs:List aI)(stp:aI->List (aI×V)):Nat->List En
 | 0=>bs.map fun s=>(s,none,.non)
 | n+1=>match (bQ bs stp n)[n]? with
  | some e=>(stp e.1).foldl (oB n) (bQ bs stp n)
  | none=>bQ bs stp n
theorem qC{n i:Nat}{es:List En}{x:aI×V}{e:En}(h:es[i]? = some e):(oB n es x)[i]? = some e:=by
 unfold oB
 split
 ·exact h
 ·rw[List.getElem?_append_left (List.getElem?_eq_some_iff.mp h).1]
  exact h
theorem qz{n i:Nat}{e:En}:∀{xs:List (aI×V)} {es:List En},es[i]? = some e->(xs.foldl (oB n) es)[i]? = some e:=by
 intro xs
 induction xs with
 | nil=>exact fun h=>h
 | cons a r ih=>exact fun h=>ih (qC h)
theorem iQ{bs:List aI}{stp:aI->List (aI×V)}{n i:Nat}{e:En}(h:(bQ bs stp n)[i]? = some e):∀k,(bQ bs stp (n+k))[i]? = some e
 | 0=>h
 | k+1=>by
  have ih:=iQ h k;show(match (bQ bs stp (n+k))[n+k]? with
   | some e=>(stp e.1).foldl (oB (n+k)) (bQ bs stp (n+k))
   | none=>bQ bs stp (n+k))[i]? = some e
  split
  ·exact qz ih
  ·exact ih
def ib(bs:List aI)(stp:aI->List (aI×V))(fin:aI->Bool)(l:List (aI×V)):Prop :=
 ∃n e,(bQ bs stp n)[n]? = some e∧fin e.1=true∧(∀i,i<n->∃e',(bQ bs stp n)[i]? = some e'∧fin e'.1=false)∧Cp (bQ bs stp n) n l
theorem pY{es:List En}{i:Nat}{l l':List (aI×V)}(p:Cp es i l)(p':Cp es i l'):l=l':=by
 induction p generalizing l' with
 | root e =>
  cases p' with
  | root e'=>rw[e]at e';cases e';rfl
  | step e' _=>rw[e]at e';cases e'
 | step e _ ih =>
  cases p' with
  | root e'=>rw[e]at e';cases e'
  | step e' q=>rw[e]at e';cases e';rw[ih q]
theorem ib.uniq{bs:List aI}{stp:aI->List (aI×V)}{fin:aI->Bool}{l l':List (aI×V)}(f:ib bs stp fin l)(f':ib bs stp fin l'):l=l':=by
 have one:∀{n n':Nat} {e:En},(bQ bs stp n)[n]? = some e->fin e.1=true->(∀i,i<n'->∃e',(bQ bs stp n')[i]? = some e'∧fin e'.1=false)->¬n<n':=fun {n n' e} h hf sn lt=>by
  obtain⟨e',h1,h2⟩:=sn n lt;have:=iQ h (n' - n);rw[show n+(n' - n)=n' by omega,h1]at this;cases this;rw[h2]at hf;cases hf
 obtain⟨n,e,h1,h2,h3,h4⟩:=f;obtain⟨n',e',h1',h2',h3',h4'⟩:=f';have a:=one h1 h2 h3';have b:=one h1' h2' h3;have:n=n':=by omega
 subst this;exact pY h4 h4'
def nO(P:Program)(w:World)(K:W.Frag)(mg:Str->Option Value)(base:Heap)(k:Nat):Sp:=fun vs H Q _ =>
 ∃(b f1 f2:Addr) (bvs:List V) (bs U:List aI) (stp:aI->List (aI×V)) (fin:aI->Bool),vs = [.ref b,.ref f1,.ref f2]∧H b=some (.lst bvs)∧Paired (fun s v=>bD H v s) bs bvs∧bs.Nodup∧(∀s∈bs,s∈U)∧U.length<900 ∧
  Fa P w K mg base k H f1 f2 U stp fin∧(∀H',Same H H'->uT bs stp fin->Q .non H')∧∀r H' l,Same H H'->uU bs stp fin l->ib bs stp fin l->l.length≤U.length->fZ H' r l->Q (.ref r) H'
theorem oh{α:Type}[DecidableEq α]{l U:List α}(nd:l.Nodup)(h:∀s∈l,s∈U):l.length≤U.length:=by
 induction l generalizing U with
 | nil=>exact Nat.zero_le _
 | cons a r ih =>
  rw[List.nodup_cons]at nd;have ha:=h a List.mem_cons_self;have:=ih (U:=U.erase a) nd.2 fun s hs=>by
   refine(List.mem_erase_of_ne ?_).mpr (h s (List.mem_cons_of_mem _ hs));rintro rfl;exact nd.1 hs
  rw[List.length_erase_of_mem ha]at this;have hp:0<U.length:=List.length_pos_of_mem ha;rw[List.length_cons];omega
theorem j3{l U:List aI}(nd:l.Nodup)(h:∀s∈l,s∈U):l.length≤U.length:=by
 classical exact oh nd h
structure zt(bs U:List aI)(stp:aI->List (aI×V))(fin:aI->Bool)(es:List En)(n:Nat):Prop where
 tree:E6 es
 grown:EF bs stp es
 inU:∀e∈es,e.1∈U
 base:∀s∈bs,s∈es.map (·.1)
 le:n≤es.length
 seen:∀(i:Nat) e,i<n->es[i]? = some e->fin e.1=false∧∀x∈stp e.1,x.1∈es.map (·.1)
theorem zt.len{bs U:List aI}{stp:aI->List (aI×V)}{fin:aI->Bool}{es:List En}{n:Nat}(g:zt bs U stp fin es n):es.length≤U.length:=by
 have:=j3 g.tree.nd (U:=U) fun s hs=>by
  obtain⟨e,he,rfl⟩:=List.mem_map.mp hs;exact g.inU e he
 rw[List.length_map]at this;exact this
theorem zt.shut{bs U:List aI}{stp:aI->List (aI×V)}{fin:aI->Bool}{es:List En}{n:Nat}(g:zt bs U stp fin es n)(h:es.length≤n):uT bs stp fin:=by
 refine⟨es.map (·.1),g.base,fun s hs x hx=>?_,fun s hs=>?_⟩
 ·obtain⟨e,he,rfl⟩:=List.mem_map.mp hs
  obtain⟨i,hi⟩:=List.getElem?_of_mem he;exact(g.seen i e (Nat.lt_of_lt_of_le (List.getElem?_eq_some_iff.mp hi).1 h) hi).2 x hx
 ·obtain⟨e,he,rfl⟩:=List.mem_map.mp hs
  obtain⟨i,hi⟩:=List.getElem?_of_mem he;exact(g.seen i e (Nat.lt_of_lt_of_le (List.getElem?_eq_some_iff.mp hi).1 h) hi).1
theorem zt.add{bs U:List aI}{stp:aI->List (aI×V)}{fin:aI->Bool}{es:List En}{n j:Nat}(g:zt bs U stp fin es n){e0:En}{s:aI}{h:V}(hj:es[j]? = some e0)(hs:(s,h)∈stp e0.1)(hU:s∈U)(hn:s∉es.map (·.1)) :
  zt bs U stp fin (es++[(s,some j,h)]) n:=by
 have old:∀(i:Nat) e,(es++[(s,some j,h)])[i]? = some e->es[i]? = some e∨(i=es.length∧e=(s,some j,h)):=fun i e he=>by
  rcases Nat.lt_trichotomy i es.length with z|z|z
  ·rw[List.getElem?_append_left z]at he;exact .inl he
  ·rw[List.getElem?_append_right (by omega),z,Nat.sub_self]at he
   simp only[List.getElem?_cons_zero,Option.some.injEq]at he;exact .inr ⟨z,he.symm⟩
  ·rw[List.getElem?_eq_none (by simp;omega)]at he;cases he
 have keep:∀(i:Nat) e,es[i]? = some e->(es++[(s,some j,h)])[i]? = some e:=fun i e he=>by
  rw[List.getElem?_append_left (List.getElem?_eq_some_iff.mp he).1];exact he
 have jl:=(List.getElem?_eq_some_iff.mp hj).1;refine⟨⟨?_,fun i e k he hk=>?_⟩,⟨fun i e he hk=>?_,fun i k e he hk=>?_⟩,fun e he=>?_,fun t ht=>?_,?_,fun i e hi he=>?_⟩
 ·rw[List.map_append,List.nodup_append]
  refine⟨g.tree.nd,by simp,fun a ha b hb=>?_⟩;have hb:b=s:=by simpa using hb
  rw[hb];rintro rfl;exact hn ha
 ·rcases old i e he with z|⟨z1,z2⟩
  ·exact g.tree.up i e k z hk
  ·subst z2
   cases hk;omega
 ·rcases old i e he with z|⟨z1,z2⟩
  ·exact g.grown.root i e z hk
  ·subst z2
   cases hk
 ·rcases old i e he with z|⟨z1,z2⟩
  ·obtain⟨e',h1,h2⟩:=g.grown.step i k e z hk
   exact⟨e',keep _ _ h1,h2⟩
  ·subst z2
   cases hk;exact⟨e0,keep _ _ hj,hs⟩
 ·rcases List.mem_append.mp he with z|z
  ·exact g.inU e z
  ·rw[List.mem_singleton.mp z];exact hU
 ·rw[List.map_append]
  exact List.mem_append_left _ (g.base t ht)
 ·rw[List.length_append]
  exact Nat.le_trans g.le (Nat.le_add_right _ _)
 ·rcases old i e he with z|⟨z1,z2⟩
  ·obtain⟨h1,h2⟩:=g.seen i e hi z
   refine⟨h1,fun x hx=>?_⟩;rw[List.map_append];exact List.mem_append_left _ (h2 x hx)
  ·have:=g.le
   omega
theorem zt.first{bs U:List aI}{stp:aI->List (aI×V)}{fin:aI->Bool}(nd:bs.Nodup)(hU:∀s∈bs,s∈U):zt bs U stp fin (bs.map fun s=>(s,none,.non)) 0:=by
 have at':∀(i:Nat) e,(bs.map fun s=>((s,none,.non):En))[i]? = some e->∃s,bs[i]? = some s∧e=(s,none,.non):=fun i e he=>by
  rw[List.getElem?_map]at he;cases h:bs[i]? with
  | none=>rw[h]at he;cases he
  | some s=>rw[h]at he;cases he;exact⟨s,rfl,rfl⟩
 have mp:(bs.map fun s=>((s,none,.non):En)).map (·.1)=bs:=by rw[List.map_map];exact List.map_id bs
 refine⟨⟨by rw[mp];exact nd,fun i e j he hj=>?_⟩,⟨fun i e he _=>?_,fun i j e he hj=>?_⟩,fun e he=>?_,fun s hs=>by rw[mp];exact hs,Nat.zero_le _,fun i e hi=>absurd hi (Nat.not_lt_zero _)⟩
 ·obtain⟨s,_,rfl⟩:=at' i e he
  cases hj
 ·obtain⟨s,hs,rfl⟩:=at' i e he
  exact⟨List.mem_of_getElem? hs,rfl⟩
 ·obtain⟨s,_,rfl⟩:=at' i e he
  cases hj
 ·obtain⟨s,hs,rfl⟩:=List.mem_map.mp he
  exact hU s hs
theorem zt.next{bs U:List aI}{stp:aI->List (aI×V)}{fin:aI->Bool}{es:List En}{n:Nat}(g:zt bs U stp fin es n){e:En}(he:es[n]? = some e)(hf:fin e.1=false)(hs:∀x∈stp e.1,x.1∈es.map (·.1)):zt bs U stp fin es (n+1):=by
 refine⟨g.tree,g.grown,g.inU,g.base,(List.getElem?_eq_some_iff.mp he).1,fun i e' hi he'=>?_⟩
 by_cases z:i=n
 ·subst z
  rw[he]at he';cases he';exact⟨hf,hs⟩
 ·exact g.seen i e' (by omega) he'
def vx(u v:Nat×Nat):Prop:=(v.1≤u.1∧u.2≤v.2+1)∨(v.1≤u.1+1∧u.2≤v.2)
inductive Ch (far:Nat->Nat->Prop) (I J:Nat):Nat×Nat->Nat×Nat->Prop
 | one {u:Nat×Nat}:far u.1 u.2->u.1≤I->u.2≤J->Ch far I J u u
 | step {u v x:Nat×Nat}:Ch far I J u v->vx v x->far x.1 x.2->x.1≤I->x.2≤J->Ch far I J u x
theorem Ch.wide{far:Nat->Nat->Prop}{I J I' J':Nat}{u v:Nat×Nat}(c:Ch far I J u v)(hi:I≤I')(hj:J≤J'):Ch far I' J' u v:=by
 induction c with
 | one h a b=>exact .one h (by omega) (by omega)
 | step c s h a b ih=>exact .step ih s h (by omega) (by omega)
theorem Ch.first{far:Nat->Nat->Prop}{I J:Nat}{u v:Nat×Nat}(c:Ch far I J u v):far u.1 u.2∧u.1≤I∧u.2≤J:=by
 induction c with
 | one h a b=>exact⟨h,a,b⟩
 | step c s h a b ih=>exact ih
theorem Ch.last{far:Nat->Nat->Prop}{I J:Nat}{u v:Nat×Nat}(c:Ch far I J u v):far v.1 v.2∧v.1≤I∧v.2≤J:=by
 cases c with
 | one h a b=>exact⟨h,a,b⟩
 | step c s h a b=>exact⟨h,a,b⟩
theorem Ch.join{far:Nat->Nat->Prop}{I J:Nat}{u v x y:Nat×Nat}(c:Ch far I J u v)(s:vx v x)(d:Ch far I J x y):Ch far I J u y:=by
 induction d with
 | one h a b=>exact .step c s h a b
 | step d s' h a b ih=>exact .step ih s' h a b
theorem mW{far:Nat->Nat->Prop}{S:Nat->Nat->Prop}(h0:¬far 0 0->S 0 0)(hs:∀i j,¬far i j->(0<i∧S (i - 1) j)∨(0<j∧S i (j - 1))∨(0<i∧0<j∧S (i - 1) (j - 1))->S i j) :
  ∀(n i j:Nat),i+j=n->¬S i j->∃u v,Ch far i j u v∧(u.1=0∨u.2=j)∧(v.2=0∨v.1=i):=by
 intro n
 induction n using Nat.strongRecOn with
 | ind n ih =>
  intro i j hn hS
  by_cases hf:far i j
  ·exact⟨(i,j),(i,j),.one hf (Nat.le_refl _) (Nat.le_refl _),.inr rfl,.inr rfl⟩
  ·have no:¬((0<i∧S (i - 1) j)∨(0<j∧S i (j - 1))∨(0<i∧0<j∧S (i - 1) (j - 1))):=fun z=>hS (hs i j hf z)
   rw[not_or,not_or]at no;obtain⟨n1,n2,n3⟩:=no;rcases Nat.eq_zero_or_pos i with zi|zi
   ·subst zi
    rcases Nat.eq_zero_or_pos j with zj|zj
    ·subst zj
     exact absurd (h0 hf) hS
    ·obtain⟨u,v,c,b,e⟩:=ih (0+(j - 1)) (by omega) 0 (j - 1) rfl fun z=>n2 ⟨zj,z⟩
     have:=c.first
     exact⟨u,v,c.wide (Nat.le_refl _) (by omega),.inl (by omega),e⟩
   ·rcases Nat.eq_zero_or_pos j with zj|zj
    ·subst zj
     obtain⟨u,v,c,b,e⟩:=ih (i - 1+0) (by omega) (i - 1) 0 rfl fun z=>n1 ⟨zi,z⟩;have:=c.last;exact⟨u,v,c.wide (by omega) (Nat.le_refl _),by omega,.inl (by omega)⟩
    ·obtain⟨ua,va,ca,ba,ea⟩:=ih (i - 1+j) (by omega) (i - 1) j rfl fun z=>n1 ⟨zi,z⟩
     obtain⟨ub,vb,cb,bb,eb⟩:=ih (i+(j - 1)) (by omega) i (j - 1) rfl fun z=>n2 ⟨zj,z⟩;obtain⟨uc,vc,cc,bc,ec⟩:=ih (i - 1+(j - 1)) (by omega) (i - 1) (j - 1) rfl fun z=>n3 ⟨zi,zj,z⟩;have la:=ca.last;have fb:=cb.first
     have fc:=cc.first
     have lc:=cc.last;have ca':=ca.wide (I':=i) (J':=j) (by omega) (by omega);have cb':=cb.wide (I':=i) (J':=j) (by omega) (by omega);have cc':=cc.wide (I':=i) (J':=j) (by omega) (by omega)
     by_cases a0:va.2=0
     ·exact⟨ua,va,ca',ba,.inl a0⟩
     ·by_cases b0:ub.1=0
      ·exact⟨ub,vb,cb',.inl b0,eb⟩
      ·by_cases both:va.2=j∧ub.1=i
       ·by_cases c0:uc.1=0
        ·by_cases c1:vc.2=0
         ·exact⟨uc,vc,cc',.inl c0,.inl c1⟩
         ·exact⟨uc,vb,cc'.join (.inr (by omega)) cb',.inl c0,eb⟩
        ·have cj:=ca'.join (x:=uc) (.inl (by omega)) cc'
         by_cases c1:vc.2=0
         ·exact⟨ua,vc,cj,ba,.inl c1⟩
         ·exact⟨ua,vb,cj.join (.inr (by omega)) cb',ba,eb⟩
       ·refine⟨ua,vb,ca'.join (x:=ub) ?_ cb',ba,eb⟩
        by_cases q:va.2=j
        ·exact .inl (by omega)
        ·exact .inr (by omega)
end Sk
namespace Dr
open PySem PySem.Spec L2 Mth Sp1 Sp2 Sp3 Sp7
def But(p:Addr)(H H':Hp):Prop:=∀b o,b≠p->H b=some o->H' b=some o
theorem But.refl{p:Addr}{H:Hp}:But p H H:=fun _ _ _ e=>e
theorem But.trans{p:Addr}{H H1 H2:Hp}(a:But p H H1)(b:But p H1 H2):But p H H2:=fun c o n e=>b c o n (a c o n e)
theorem But.of{p:Addr}{H H':Hp}(s:Same H H'):But p H H':=fun c o _ e=>s c o e
theorem But.same{p:Addr}{H0 H H':Hp}(b:But p H H')(s:Same H0 H)(h:H0 p=none):Same H0 H':=fun c o e=>b c o (aE e h) (s c o e)
theorem But.none{p l:Addr}{H H':Hp}(b:But p H H')(n:l≠p)(h:H' l=none):H l=none:=by
 cases e:H l with
 | none=>rfl
 | some o =>
  rw[b l o n e]at h;cases h
end Dr
namespace Dr
open PySem PySem.Spec L2 Mth Sp1 Sp2 Sp3 Sp7
theorem vn{K:W.Frag}{H:Hp}{l:Addr}{xs:List V}{i:Int}{Q:VK}(C:Int->Prop)(e:H l=some (.lst xs))(h0:0≤i)(h1:i<(xs.length:Int))(hC:∀v∈xs,∃m,v = .int m∧C m)(h:∀m,C m->Q (.int m) H):Ej K (.ref l) (.int i) H Q :=
 xW e h0 h1 fun v hv=>by
  obtain⟨m,rfl,hc⟩:=hC v hv;exact h m hc
theorem tj{qs:Crn}{k:Int}(h0:0≤k)(h1:k<(qs.length:Int)):∃q,qs[k.toNat]? = some q∧atI (qs.map fun (q:Addr×Int×Int)=>V.ref q.1) k=some (.ref q.1):=by
 have hk:k.toNat<qs.length:=by omega
 refine⟨qs[k.toNat],List.getElem?_eq_getElem hk,?_⟩;have:=dh (xs:=qs.map fun (q:Addr×Int×Int)=>V.ref q.1) (j:=k.toNat) (v:=.ref qs[k.toNat].1) (by rw[List.getElem?_map,List.getElem?_eq_getElem hk];rfl);rw[show((k.toNat:Nat):Int)=k by omega]at this;exact this
end Dr
namespace Dr
open PySem
end Dr
namespace PySem
namespace F
end F
section
variable {prog:Program} {w:World} {A:Around} {E:Value->Shared->Prop} {s:Shared}
end
end PySem
namespace L2
open PySem PySem.Spec PyProof.Rows
section
variable {X:Cx} {e:Expr} {te:TE} {p1 p2 q1 q2:Pos}
end
section
variable {X:Cx}
inductive EC (x:V) (vs:List V) (H:Hp) (Q:VK):Prop
 | mk:∀(l:Addr) (xs:List V) (i:Int) (y:V),(x = .ref l)->(vs = [.int i,y])->(H l=some (.lst xs))->((0≤i∧i≤(xs.length:Int)))->(xs.length<1000)->(∀H',Ce H H' l xs (xs.take i.toNat++[y]++xs.drop i.toNat)->Q .non H')->EC x vs H Q
theorem wg{its:List Value}{u2:Value}{i:Int}(h0:0≤i)(h1:i≤(its.length:Int)):(fun xs:Array Value=>have k:=if i<0 then (i+(xs.size:Int)).toNat else min i.toNat xs.size;(xs.extract 0 k).push u2++xs.extract k) its.toArray=(its.take i.toNat++[u2]++its.drop i.toNat).toArray:=by
 have hmin:min i.toNat its.toArray.size=i.toNat:=by rw[List.size_toArray];omega
 dsimp only;rw[if_neg (by omega),hmin];simp;exact List.take_of_length_le (by rw[List.length_drop];exact Nat.le_refl _)
theorem ue:MtM X "list.insert" EC:=by
 intro pins s σ H x vs v us Q I rx rv h;obtain⟨l,xs,i,y,rfl,rfl,hH,⟨h0,h1⟩,hz,q⟩:=h;cases rx;obtain⟨u1,u2,rfl,r1,r2⟩:=lE rv;obtain⟨t,rfl⟩:=r1;obtain⟨z,its,n,r,hl,e⟩:=I.lstM hH;have hsz:its.toArray.size≤sizeLine:=by rw[List.size_toArray];exact Sp1.sz (by omega)
 have e63:(2:Int)^63=9223372036854775808:=by decide
 have b1:-(2^63)≤i:=by rw[e63];omega
 have b2:i<2^63:=by rw[e63];omega
 have hfit:¬(!Builtin.List.listFitsIndex i)=true:=by
  rw[fitsIndex_both b1 b2];exact Bool.false_ne_true
 have hf:=wg (its:=its) (u2:=u2) h0 (by omega);clear b1 b2 e63;refine call_meets F.slot_list_insert ⟨_,e,rfl⟩ F.entry_list_insert (F.args_list_insert_3 _ _ _) (AutoSeq1.list_insert_list_int_val_1 l its.toArray n i t u2 hfit hsz) ⟨e,?_⟩;refine⟨.non,_,I.lset (its':=its.take i.toNat++[u2]++its.drop i.toNat) (ys:=xs.take i.toNat++[y]++xs.drop i.toNat) hH e hf (((r.take i.toNat).append (.cons r2 .nil)).append (r.drop i.toNat)) ?_,rfl,q _ (.mk' hH)⟩;refine Sp1.sz ?_;simp only[List.length_append,List.length_take,List.length_drop,List.length_cons,List.length_nil];omega
end
end L2
namespace L2
open PySem PySem.Spec PyProof.Rows
theorem iR(n:Nat):sliceRange ((n:Int) - 1) (-1) (-1)=(List.range n).map fun k=>n - 1 - k:=by
 unfold sliceRange;have e:(if ((-1:Int)>0) then (if (n:Int) - 1 < -1 then (-1 - ((n:Int) - 1) + -1 - 1) / -1 else 0) else (if (n:Int) - 1 > -1 then ((n:Int) - 1 - -1 - -1 - 1) / - -1 else 0)).toNat=n:=by
  rw[if_neg (by decide)]
  split
  ·rw[show - (-1:Int)=1 from rfl,Int.ediv_one]
   omega
  ·omega
 show List.map (fun k:Nat=>((n:Int) - 1 + -1*(k:Int)).toNat) (List.range (if ((-1:Int)>0) then (if (n:Int) - 1 < -1 then (-1 - ((n:Int) - 1) + -1 - 1) / -1 else 0) else (if (n:Int) - 1 > -1 then ((n:Int) - 1 - -1 - -1 - 1) / - -1 else 0)).toNat)=_
 rw[e];refine List.map_congr_left fun k _=>?_;omega
theorem jE(its:List Value):slicePick its.toArray none none (some (-1))=its.reverse.toArray:=by
 unfold slicePick;have b:sliceBounds none none (some (-1)) its.toArray.size=((its.length:Int) - 1,-1,-1):=by
  unfold sliceBounds;simp
 rw[b];show(List.filterMap (fun x=>its.toArray[x]?) (sliceRange ((its.length:Int) - 1) (-1) (-1))).toArray=_;rw[iR]
 congr 1
 have key:∀(l:List Value),List.filterMap (fun x=>l[x]?) ((List.range l.length).map fun k=>l.length - 1 - k)=l.reverse:=by
  intro l;have e2:(List.range l.length).map (fun k=>l.length - 1 - k)=(List.range l.length).reverse:=by
   refine List.ext_getElem? fun i=>?_
   by_cases hi:i<l.length
   ·rw[List.getElem?_map,List.getElem?_range hi,List.getElem?_reverse (by simpa using hi),List.length_range,List.getElem?_range (by omega)]
    rfl
   ·rw[List.getElem?_eq_none (by simp;omega),List.getElem?_eq_none (by simp;omega)]
  rw[e2,List.filterMap_reverse]
  congr 1
  have this:∀(l:List Value),List.filterMap (fun x=>l[x]?) (List.range l.length)=l:=by
   intro l;have h:∀n,n≤l.length->List.filterMap (fun x=>l[x]?) (List.range n)=l.take n:=by
    intro n
    induction n with
    | zero=>intro _;rfl
    | succ n ih =>
     intro hn;rw[List.range_succ,List.filterMap_append,ih (by omega),List.take_succ]
     congr 1
   rw[h _ (Nat.le_refl _),List.take_length]
  exact this l
 have k2:=key its;simpa using k2
section
variable {X:Cx} {e:Expr} {te:TE} {st:Expr} {ts:TO} {pos p2:Pos}
def wP(K:W.Frag)(te:TE)(ts:TO):TE:=fun σ H Q=>te σ H fun x H1=>ts σ H1 fun o H2=>o=some (-1)∧∃a xs,x = .ref a∧SqL K H2 a xs∧∀p H3,Same H2 H3->H3 p=some (.lst xs.reverse)->H2 p=none->Q (.ref p) H3
theorem pX(he:PE X e te)(hs:PO X (some st) ts):PE X (.Subscript e (.Slice none none (some st) p2) pos) (wP X.K te ts):=by
 intro pins s σ H Q I h;refine Subscript_ (thn (he pins s σ H _ I h) fun v s1 ⟨x,H1,I1,r1,q1⟩=>?_);refine wpAny_Slice ?_;rw[evalPart_none];refine wpAny_pure ?_;refine wpAny_pure ?_;refine thn (hs pins s1 σ H1 _ I1 q1) fun vs s3 ⟨o,H3,I3,ps,q3⟩=>?_;obtain⟨rfl,a,xs,rfl,hx,q⟩:=q3;have I4:yd X pins σ H3 { s3 with heap:=s3.heap.push { cls:=.type "slice",data:=.fields #[.none,.none,vs] } }:=I3.kept (t':=s3.toks) fun b ob q=>Heap.get?_push_of_some _ q;cases r1;obtain⟨its,r,ht,hz⟩:=I4.list hx;show wpAny (model X.prog X.w) X.A (subscriptTail e (.Slice none none (some st) p2) (.ref a) (.ref s3.heap.objs.size)) (EP X pins σ Q) X.xe { s3 with heap:=s3.heap.push { cls:=.type "slice",data:=.fields #[.none,.none,vs] } }
 refine tail_any (ops:=[.ref a,.ref s3.heap.objs.size]) ht.isList.typeIs slot_list_getitem.lookup ?_ (by with_unfolding_all rfl);have hlen:=r.length;refine wpAny_getItem_list_slice ht.isList (Heap.IsSliceOf.new ..) .none .none ps (by decide) ?_ (by rw[List.size_toArray] <;> omega);rw[jE];have hf:=I4.hok.fresh (Nat.le_refl _);refine⟨.ref _,upd H3 _ (.lst xs.reverse),I4.laid (fun b ob q=>Heap.get?_push_of_some _ q) (Nat.le_refl _) ?_,rfl,q _ _ (Same.new hf) upd_same hf⟩;exact⟨by rw[List.length_reverse];exact hz,_,0,r.reverse,Heap.get?_push_size _ rfl⟩
end
end L2
namespace Wk
open PySem PySem.Spec L2 Mth Sp1 Sp2 Sp3 Sp7 Dr
structure Pr where
 p:Addr
 x:Addr
 y:Addr
 a:Int
 b:Int
 c:Int
 d:Int
structure Am(H:Hp)(q:Pr):Prop where
 p_:H q.p=some (.tup [.ref q.x,.ref q.y])
 x_:H q.x=some (.tup [.int q.a,.int q.b])
 y_:H q.y=some (.tup [.int q.c,.int q.d])
 lx:AI q.a q.b
 ly:AI q.c q.d
 nx:0≤q.a
 ny:0≤q.c
 ba:ao q.a≤200
 bb:ao q.b≤60
 bc:ao q.c≤200
 bd:ao q.d≤60
theorem Am.t{H H':Hp}{q:Pr}(h:Am H q)(s:SameT H H'):Am H' q:=⟨s _ _ h.p_,s _ _ h.x_,s _ _ h.y_,h.lx,h.ly,h.nx,h.ny,h.ba,h.bb,h.bc,h.bd⟩
def prs(ps:List Pr):List V:=ps.map fun q=>V.ref q.p
structure yh(H:Hp)(l:Addr)(ps:List Pr):Prop where
 lst:H l=some (.lst (prs ps))
 pr:∀q∈ps,Am H q
theorem yh.mono{H H':Hp}{l:Addr}{ps:List Pr}(h:yh H l ps)(s:Same H H'):yh H' l ps:=⟨s _ _ h.lst,fun q hq=>(h.pr q hq).t s.t⟩
theorem cP(ps:List Pr):(prs ps).length=ps.length:=List.length_map _
theorem oW{ps:List Pr}{i:Nat}{v:V}(h:(prs ps)[i]? = some v):∃q,ps[i]? = some q∧v = .ref q.p:=by
 unfold prs at h;rw[List.getElem?_map]at h;obtain⟨q,hq,rfl⟩:=Option.map_eq_some_iff.mp h;exact⟨q,hq,rfl⟩
def lC:Str:="hops"
def lD:Str:="free"
def lB:Str:="part"
def wOn:Str:="on"
def si(w:Str):Prop:=w=wOn∨w=lB∨w=lD∨w=lC
instance (w:Str):Decidable (si w):=inferInstanceAs (Decidable (_∨_))
inductive CG (C:Addr) (vs:List V) (H:Hp) (Q:VK) (E:XK):Prop
 | mk:∀(x:V) (t:String),(vs = [x])->(Kn H x t)->(((∃w,x = .str w∧si w∧Q .non H)∨((∀w,x = .str w->¬si w)∧E (.ref C) none H)))->CG C vs H Q E
end Wk
namespace L2
open PySem PySem.Spec PyProof.Rows
theorem tU{X:Cx}{K:W.Frag}{pos:Pos}{es:List Expr}{k:Nat}{t:TGs}{n:Nat}(hK:X.K=K)(hc:X.calm=true)(h:PGs X es t)
  (hn:(assignEach es X.env).length=n:=by rfl) (hst:(assignEach es X.env).findIdx? (·.1)=none:=by rfl):PG X (.Tuple es k pos) (ET K n t):=by
 subst hK;exact dX hc h hn hst
end L2
namespace Fnc
open PySem PySem.Spec L2 Mth Sp1 Sp2 Sp3 Sp7 Dr Wk
def jz(u v:Pr):Bool:=(decide (v.a - u.a≤0) && decide (u.c - v.c≤1)) || (decide (v.a - u.a≤1) && decide (u.c - v.c≤0))
inductive D0 (g:Pr->Pr->Bool) (vs:List V) (H:Hp) (Q:VK) (x_3:XK):Prop
 | mk:∀u v:Pr,(vs = [.ref u.p,.ref v.p])->(Am H u)->(Am H v)->(∀H',Same H H'->Q (.bl (g u v)) H')->D0 g vs H Q x_3
theorem di(i j:Int):decide (V.int i=V.int j)=decide (i=j):=by
 rw[Bool.eq_iff_iff];simp
end Fnc
namespace Fnc
open PySem PySem.Spec L2 Mth Sp1 Sp2 Sp3 Sp7 Dr Wk
end Fnc
namespace Fnc
open PySem PySem.Spec L2 Mth Sp1 Sp2 Sp3 Sp7 Dr Wk
end Fnc
namespace Sp11
open PySem PySem.Spec L2 Mth Sp1 Sp2
inductive zh (C:Addr) (vs:List V) (H:Hp) (Q:VK) (E:XK):Prop
 | mk:∀(a b:Int) (n:Nat),(vs = [.int a,.int b])->((ao a≤n∧ao b≤n∧n≤4500))->((b=0->E (.ref C) none H))->((b≠0->∀(p:Addr) (t u:Int),ye a b t u->ao t≤n->ao u≤n->H p=none->Q (.ref p) (upd H p (.tup [.int t,.int u]))))->zh C vs H Q E
structure BN(H:Hp)(p:Addr)(a b:Int)(n:Nat):Prop where
 at_:H p=some (.tup [.int a,.int b])
 low:AI a b
 ba:ao a≤n
 bb:ao b≤n
theorem BN.mono{H H':Hp}{p:Addr}{a b:Int}{n:Nat}(f:BN H p a b n)(s:Same H H'):BN H' p a b n:=⟨s _ _ f.at_,f.low,f.ba,f.bb⟩
theorem BN.wide{H:Hp}{p:Addr}{a b:Int}{m n:Nat}(f:BN H p a b m)(h:m≤n):BN H p a b n:=⟨f.at_,f.low,ap f.ba h,ap f.bb h⟩
inductive AG (num den:Int->Int->Int->Int->Int) (vs:List V) (H:Hp) (Q:VK) (x_3:XK):Prop
 | mk:∀(p q:Addr) (a b c d:Int) (n:Nat),(vs = [.ref p,.ref q])->(BN H p a b n)->(BN H q c d n)->(n≤2200)->(den a b c d≠0)->(∀(r:Addr) (t u:Int) (H':Hp),ye (num a b c d) (den a b c d) t u->BN H' r t u (2*n+1)->Same H H'->Q (.ref r) H')->AG num den vs H Q x_3
def numAt(x y t b:Int):Int:=x*b+(y - x)*(t % b)
inductive CL (vs:List V) (H:Hp) (Q:VK) (x_3:XK):Prop
 | mk:∀(x y:Int) (p:Addr) (t b:Int),(vs = [.int x,.int y,.ref p])->(BN H p t b 200)->(ao x≤60)->(ao y≤60)->(∀(r:Addr) (u v:Int) (H':Hp),ye (numAt x y t b) b u v->BN H' r u v 262->Same H H'->Q (.ref r) H')->CL vs H Q x_3
def iT(qs:List (Addr×Int×Int))(t b:Int):Int×Int:=(qs.getD (t / b).toNat (0,0,0)).2
def jW(qs:List (Addr×Int×Int))(t b:Int):Int×Int:=(qs.getD (min ((t / b).toNat+1) (qs.length - 1)) (0,0,0)).2
def ptX(qs:List (Addr×Int×Int))(t b:Int):Int:=numAt (iT qs t b).1 (jW qs t b).1 t b
def ptY(qs:List (Addr×Int×Int))(t b:Int):Int:=numAt (iT qs t b).2 (jW qs t b).2 t b
structure Co(H:Hp)(r:Addr)(X Y b:Int)(n:Nat):Prop where
 ex:∃(rx ry:Addr) (u v c d:Int),H r=some (.tup [.ref rx,.ref ry])∧BN H rx u v n∧BN H ry c d n∧ye X b u v∧ye Y b c d
theorem Co.mono{H H':Hp}{r:Addr}{X Y b:Int}{n:Nat}(p:Co H r X Y b n)(s:Same H H'):Co H' r X Y b n:=by
 obtain⟨rx,ry,u,v,c,d,e,f,g,h,k⟩:=p.ex;exact⟨⟨rx,ry,u,v,c,d,s _ _ e,f.mono s,g.mono s,h,k⟩⟩
inductive B7 (C:Addr) (vs:List V) (H:Hp) (Q:VK) (E:XK):Prop
 | mk:∀(l:Addr) (qs:List (Addr×Int×Int)) (x:V),(vs = [.ref l,x])->(LineAt H l qs)->(1≤qs.length)->(qs.length≤20)->(yT H x)->((bf ((qs.length:Int) - 1) H x=false->E (.ref C) none H))->((∀(p:Addr) (t b:Int),x = .ref p->H p=some (.tup [.int t,.int b])->AI t b->0≤t->t≤((qs.length:Int) - 1)*b->ao t≤200∧ao b≤200 ∧
  ∀(r:Addr) (H':Hp),Co H' r (ptX qs t b) (ptY qs t b) b 262->Same H H'->Q (.ref r) H'))->B7 C vs H Q E
end Sp11
namespace Sp11
open PySem PySem.Spec L2 Mth Sp1 Sp2
structure DY(H:Hp)(r:Addr)(u v c d:Int)(n:Nat):Prop where
 ex:∃rx ry:Addr,H r=some (.tup [.ref rx,.ref ry])∧BN H rx u v n∧BN H ry c d n
theorem DY.mono{H H':Hp}{r:Addr}{u v c d:Int}{n:Nat}(p:DY H r u v c d n)(s:Same H H'):DY H' r u v c d n:=by
 obtain⟨rx,ry,e,f,g⟩:=p.ex;exact⟨⟨rx,ry,s _ _ e,f.mono s,g.mono s⟩⟩
inductive CI (vs:List V) (H:Hp) (Q:VK) (x_3:XK):Prop
 | mk:∀(p q:Addr) (u v c d u' v' c' d':Int),(vs = [.ref p,.ref q])->(DY H p u v c d 262)->(DY H q u' v' c' d' 262)->(∀(r:Addr) (a b e f:Int) (H':Hp),ye (u'*v - u*v') (v'*v) a b->ye (c'*d - c*d') (d'*d) e f->DY H' r a b e f 525->Same H H'->Q (.ref r) H')->CI vs H Q x_3
inductive B8 (vs:List V) (H:Hp) (Q:VK) (x_3:XK):Prop
 | mk:∀(p q:Addr) (a b e f a' b' e' f':Int),(vs = [.ref p,.ref q])->(DY H p a b e f 525)->(DY H q a' b' e' f' 525)->(∀(r:Addr) (m n m' n' s w:Int) (H':Hp),ye (a*a') (b*b') m n->ye (e*e') (f*f') m' n'->ye (m*n'+m'*n) (n*n') s w->BN H' r s w 2103->Same H H'->Q (.ref r) H')->B8 vs H Q x_3
def sqN(X Y b X' Y' b':Int):Int:=(X'*b - X*b')*(X'*b - X*b')+(Y'*b - Y*b')*(Y'*b - Y*b')
def sqD(b b':Int):Int:=(b*b')*(b*b')
inductive DK (vs:List V) (H:Hp) (Q:VK) (x_3:XK):Prop
 | mk:∀(p q:Addr) (X Y b X' Y' b':Int),(vs = [.ref p,.ref q])->(Co H p X Y b 262)->(Co H q X' Y' b' 262)->(0<b)->(0<b')->(∀(r:Addr) (s w:Int) (H':Hp),ye (sqN X Y b X' Y' b') (sqD b b') s w->BN H' r s w 2103->Same H H'->Q (.ref r) H')->DK vs H Q x_3
theorem pE{X b X' b' u v u' v' a e:Int}(hv:v≠0)(hv':v'≠0)(h1:X*v=u*b)(h2:X'*v'=u'*b')(h3:(u'*v - u*v')*e=a*(v'*v)):(X'*b - X*b')*e=a*(b*b'):=by
 have z:(v*v')*((X'*b - X*b')*e)=(v*v')*(a*(b*b')):=by
  have z1:(v*v')*((X'*b - X*b')*e)=(X'*v'*(b*v) - X*v*(b'*v'))*e:=by grind
  rw[z1,h1,h2];have z2:(u'*b'*(b*v) - u*b*(b'*v'))*e=b*b'*((u'*v - u*v')*e):=by grind
  rw[z2,h3]
  grind
 exact Int.eq_of_mul_eq_mul_left (Int.mul_ne_zero hv hv') z
theorem vd{D B a e m n:Int}(he:e≠0)(h1:D*e=a*B)(h2:a*a*n=m*(e*e)):D*D*n=m*(B*B):=by
 have z:(e*e)*(D*D*n)=(e*e)*(m*(B*B)):=by
  have z1:(e*e)*(D*D*n)=(D*e)*(D*e)*n:=by grind
  rw[z1,h1];have z2:a*B*(a*B)*n=B*B*(a*a*n):=by grind
  rw[z2,h2]
  grind
 exact Int.eq_of_mul_eq_mul_left (Int.mul_ne_zero he he) z
theorem vH{S T G m n m' n' s w:Int}(hn:n≠0)(hn':n'≠0)(h1:S*n=m*G)(h2:T*n'=m'*G)(h3:(m*n'+m'*n)*w=s*(n*n')):(S+T)*w=s*G:=by
 have z:(n*n')*((S+T)*w)=(n*n')*(s*G):=by
  have z1:(n*n')*((S+T)*w)=(S*n*n'+T*n'*n)*w:=by grind
  rw[z1,h1,h2];have z2:(m*G*n'+m'*G*n)*w=G*((m*n'+m'*n)*w):=by grind
  rw[z2,h3]
  grind
 exact Int.eq_of_mul_eq_mul_left (Int.mul_ne_zero hn hn') z
theorem oR{X Y b X' Y' b' u v c d u' v' c' d' a e a' e' m n m' n' s w:Int}(f1:ye X b u v)(f2:ye Y b c d)(f3:ye X' b' u' v')(f4:ye Y' b' c' d')(g1:ye (u'*v - u*v') (v'*v) a e)(g2:ye (c'*d - c*d') (d'*d) a' e')
  (k1:ye (a*a) (e*e) m n) (k2:ye (a'*a') (e'*e') m' n') (k3:ye (m*n'+m'*n) (n*n') s w):ye (sqN X Y b X' Y' b') (sqD b b') s w:=by
 refine⟨k3.low,?_⟩;have p1:=f1.low.pos;have p2:=f2.low.pos;have p3:=f3.low.pos;have p4:=f4.low.pos;have p5:=g1.low.pos;have p6:=g2.low.pos;have p7:=k1.low.pos;have p8:=k2.low.pos;have q1:=pE (by omega) (by omega) f1.eq f3.eq g1.eq;have q2:=pE (by omega) (by omega) f2.eq f4.eq g2.eq;have q3:=vd (by omega) q1 k1.eq;have q4:=vd (by omega) q2 k2.eq;exact vH (by omega) (by omega) q3 q4 k3.eq
structure Bz(H:Hp)(p:Addr)(t b n:Int):Prop where
 at_:H p=some (.tup [.int t,.int b])
 low:AI t b
 lo:0≤t
 hi:t≤n*b
 bt:ao t≤200
 bb:ao b≤200
theorem Bz.mono{H H':Hp}{p:Addr}{t b n:Int}(f:Bz H p t b n)(s:Same H H'):Bz H' p t b n:=⟨s _ _ f.at_,f.low,f.lo,f.hi,f.bt,f.bb⟩
theorem Bz.th{H:Hp}{p:Addr}{t b n:Int}(f:Bz H p t b n):yT H (.ref p):=th_tup f.at_ fun v hv=>by
 simp only[List.mem_cons,List.not_mem_nil,or_false]at hv;rcases hv with rfl|rfl <;> exact⟨_,.int _⟩
theorem Bz.place{H:Hp}{p:Addr}{t b n:Int}(f:Bz H p t b n):bf n H (.ref p)=true:=fe f.at_ f.low f.lo f.hi
theorem eQ{n:Int}{H H':Hp}{x:V}{k:String}(kn:Kn H x k)(s:Same H H'):bf n H' x=bf n H x:=by
 cases kn with
 | non=>rfl
 | bl b=>rfl
 | int i=>rfl
 | str x=>rfl
 | lst e=>simp only[bf,e,s _ _ e]
 | tup e=>simp only[bf,e,s _ _ e]
 | dict e=>simp only[bf,e,s _ _ e]
theorem yT.mono{H H':Hp}{x:V}(h:yT H x)(s:Same H H'):yT H' x:=by
 obtain⟨⟨t,k⟩,pt⟩:=h;refine⟨⟨t,k.mono s⟩,fun p xs e1 e2 y hy=>?_⟩;subst e1;have e3:H p=some (.tup xs):=by
  cases k with
  | lst e=>rw[s _ _ e]at e2;cases e2
  | tup e=>rw[s _ _ e]at e2;cases e2;exact e
  | dict e=>rw[s _ _ e]at e2;cases e2
 obtain⟨t',k'⟩:=pt p xs rfl e3 y hy;exact⟨t',k'.mono s⟩
abbrev Crn:=List (Addr×Int×Int)
def sqF(qs:Crn)(t b:Int)(qs':Crn)(t' b':Int):Int:=sqN (ptX qs t b) (ptY qs t b) b (ptX qs' t' b') (ptY qs' t' b') b'
def cD(qs:Crn):Int:=(qs.length:Int) - 1
inductive Bs (C:Addr) (vs:List V) (H:Hp) (Q:VK) (E:XK):Prop
  | mk:∀(l l':Addr) (qs qs':Crn) (x y:V),(vs = [.ref l,x,.ref l',y])->(LineAt H l qs)->(LineAt H l' qs')->((1≤qs.length∧qs.length≤20))->((1≤qs'.length∧qs'.length≤20))->(yT H x)->(yT H y)->(((bf (cD qs) H x=false∧E (.ref C) none H) ∨
   (∃(p:Addr) (t b:Int),x = .ref p∧Bz H p t b (cD qs) ∧
     ((bf (cD qs') H y=false∧∀H',Same H H'->E (.ref C) none H') ∨
      (∃(q:Addr) (t' b':Int),y = .ref q∧Bz H q t' b' (cD qs') ∧
        ∀(r:Addr) (s w:Int) (H':Hp),ye (sqF qs t b qs' t' b') (sqD b b') s w->BN H' r s w 2103->Same H H'->Q (.ref r) H')))))->Bs C vs H Q E
theorem bW{H:Hp}{l:Addr}{qs:Crn}(L:LineAt H l qs)(j:Nat):ao (qs.getD j (0,0,0)).2.1≤50∧ao (qs.getD j (0,0,0)).2.2≤50:=by
 rw[List.getD_eq_getElem?_getD]
 by_cases h:j<qs.length
 ·rw[List.getElem?_eq_getElem h]
  exact(L.crn _ (List.getElem_mem h)).2
 ·rw[List.getElem?_eq_none (by omega)]
  exact⟨by decide,by decide⟩
theorem l7{x y t b:Int}(hb:0<b)(bx:ao x≤50)(by':ao y≤50)(bb:ao b≤200):ao (numAt x y t b)≤262:=by
 have br:ao (t % b)≤200:=dC (Int.emod_nonneg _ (by omega)) (Int.le_of_lt (Int.emod_lt_of_pos _ hb)) bb;exact ap (ce (n:=251) (ap (bits_mul bx bb) (by decide)) (bits_mul (aO by' bx) br)) (by decide)
theorem kD{H:Hp}{l:Addr}{qs:Crn}{t b:Int}(L:LineAt H l qs)(hb:0<b)(bb:ao b≤200):ao (ptX qs t b)≤262∧ao (ptY qs t b)≤262 :=
 ⟨l7 hb (bW L _).1 (bW L _).1 bb,l7 hb (bW L _).2 (bW L _).2 bb⟩
end Sp11
namespace Sp11
open PySem PySem.Spec L2 Mth Sp1 Sp2
def cr(c:Int×Int->Int)(qs:Crn)(j:Nat):Int:=c (qs.getD j (0,0,0)).2
def ptC(c:Int×Int->Int)(qs:Crn)(t b:Int):Int:=numAt (c (iT qs t b)) (c (jW qs t b)) t b
theorem vg{c:Int×Int->Int}{qs:Crn}{t b:Int}{k:Nat}(hb:0<b)(hk:k+1<qs.length)(h1:(k:Int)*b≤t)(h2:t≤((k:Int)+1)*b) :
  ptC c qs t b=cr c qs k*b+(cr c qs (k+1) - cr c qs k)*(t - (k:Int)*b):=by
 have e0:=Int.emod_add_mul_ediv t b;rw[Int.mul_comm]at e0;have r0:=Int.emod_nonneg t (show b≠0 by omega);have r1:=Int.emod_lt_of_pos t hb;unfold ptC Sp11.numAt iT jW
 by_cases hlt:t<((k:Int)+1)*b
 ·have ek:t / b=(k:Int):=by
   refine Int.le_antisymm ?_ (xy hb h1);have h3:t / b<(k:Int)+1:=Int.ediv_lt_of_lt_mul hb hlt;omega
  have er:t % b=t - (k:Int)*b:=by rw[ek]at e0;omega
  rw[ek,er,Int.toNat_natCast,Nat.min_eq_left (by omega)];rfl
 ·have et:t=((k:Int)+1)*b:=by omega
  have ek:t / b=(k:Int)+1:=by rw[et];exact Int.mul_ediv_cancel _ (by omega)
  have er:t % b=0:=by rw[et];exact Int.mul_emod_left _ _
  rw[ek,er,show((k:Int)+1).toNat=k+1 by omega,Int.mul_zero,Int.add_zero];have e2:t - (k:Int)*b=b:=by rw[et,Int.add_mul,Int.one_mul];omega
  rw[e2];show cr c qs (k+1)*b=_;generalize cr c qs (k+1)=x;generalize cr c qs k=y;rw[Int.sub_mul];omega
def rq(a b:Int):Rat:=(a:Rat) / (b:Rat)
theorem cz{a:Int}(h:a≠0):(a:Rat)≠0:=fun z=>h (Rat.intCast_eq_zero_iff.mp z)
theorem ee{m n u v:Int}(f:ye m n u v)(hn:n≠0):rq u v=rq m n:=by
 have h1:(m:Rat)*(v:Rat)=(u:Rat)*(n:Rat):=by rw[<- Rat.intCast_mul,<- Rat.intCast_mul,f.eq]
 have h2:=cz hn;have h3:=cz (show v≠0 by have:=f.low.pos;omega);unfold rq
 grind
theorem lO{u v m n:Int}(hv:v≠0)(hn:n≠0)(h:rq u v=rq m n):u*n=m*v:=by
 have h2:=cz hn;have h3:=cz hv;unfold rq at h;have h1:(u:Rat)*(n:Rat)=(m:Rat)*(v:Rat):=by grind
 rw[<- Rat.intCast_mul,<- Rat.intCast_mul]at h1;exact Rat.intCast_inj.mp h1
theorem vL{a b c d:Int}(hb:b≠0)(hd:d≠0):rq (a*d - c*b) (b*d)=rq a b - rq c d:=by
 have:=cz hb;have:=cz hd;unfold rq;rw[Rat.intCast_sub,Rat.intCast_mul,Rat.intCast_mul,Rat.intCast_mul]
 grind
theorem vO{a b c d:Int}(hb:b≠0)(hd:d≠0):rq (a*d+c*b) (b*d)=rq a b+rq c d:=by
 have:=cz hb;have:=cz hd;unfold rq;rw[Rat.intCast_add,Rat.intCast_mul,Rat.intCast_mul,Rat.intCast_mul]
 grind
theorem vM{a b c d:Int}:rq (a*c) (b*d)=rq a b*rq c d:=by
 unfold rq;rw[Rat.intCast_mul,Rat.intCast_mul]
 grind
theorem vN{a b c d:Int}:rq (a*d) (b*c)=rq a b / rq c d:=by
 unfold rq;rw[Rat.intCast_mul,Rat.intCast_mul]
 grind
theorem mX{a b c d s w:Int}(hb:b≠0)(hd:d≠0)(f:ye (a*d - c*b) (b*d) s w):rq s w=rq a b - rq c d:=by
 rw[ee f (Int.mul_ne_zero hb hd),vL hb hd]
theorem sL{a b c d s w:Int}(hb:b≠0)(hd:d≠0)(f:ye (a*d+c*b) (b*d) s w):rq s w=rq a b+rq c d:=by
 rw[ee f (Int.mul_ne_zero hb hd),vO hb hd]
theorem mY{a b c d s w:Int}(hb:b≠0)(hd:d≠0)(f:ye (a*c) (b*d) s w):rq s w=rq a b*rq c d:=by
 rw[ee f (Int.mul_ne_zero hb hd),vM]
theorem xz{a b c d s w:Int}(hb:b≠0)(hc:c≠0)(f:ye (a*d) (b*c) s w):rq s w=rq a b / rq c d:=by
 rw[ee f (Int.mul_ne_zero hb hc),vN]
theorem nzl{a b:Int}(h:AI a b):b≠0:=by have:=h.pos;omega
theorem fj{m n u v:Int}{i j:Nat}(hn:0<n)(f:ye m n u v)(hm:ao m≤i)(hj:ao n≤j):ao u≤i∧ao v≤j:=by
 have hg:=iJ (a:=m) (b:=n) (by omega);obtain⟨e1,e2⟩:=dD (by omega) f (gw hn);subst e1 e2;exact⟨kh hg hm,kh hg hj⟩
def nM(X Y b X1 Y1 b1 X2 Y2 b2:Int):Int:=((X2*b1 - X1*b2)*(X*b1 - X1*b)+(Y2*b1 - Y1*b2)*(Y*b1 - Y1*b))*b2
def nN(b X1 Y1 b1 X2 Y2 b2:Int):Int:=b*((X2*b1 - X1*b2)*(X2*b1 - X1*b2)+(Y2*b1 - Y1*b2)*(Y2*b1 - Y1*b2))
theorem rA{x y z X1 Y1 z1 X2 Y2 z2:Rat}(hz:z≠0)(h1:z1≠0)(h2:z2≠0)(hN:z*((X2*z1 - X1*z2)*(X2*z1 - X1*z2)+(Y2*z1 - Y1*z2)*(Y2*z1 - Y1*z2))≠0) :
  ((x / z - X1 / z1)*(X2 / z2 - X1 / z1)+(y / z - Y1 / z1)*(Y2 / z2 - Y1 / z1)) / ((X2 / z2 - X1 / z1)*(X2 / z2 - X1 / z1)+(Y2 / z2 - Y1 / z1)*(Y2 / z2 - Y1 / z1)) =
   (((X2*z1 - X1*z2)*(x*z1 - X1*z)+(Y2*z1 - Y1*z2)*(y*z1 - Y1*z))*z2) / (z*((X2*z1 - X1*z2)*(X2*z1 - X1*z2)+(Y2*z1 - Y1*z2)*(Y2*z1 - Y1*z2))):=by
 have k1:x=x / z*z:=by grind
 have k2:y=y / z*z:=by grind
 have k3:X1=X1 / z1*z1:=by grind
 have k4:Y1=Y1 / z1*z1:=by grind
 have k5:X2=X2 / z2*z2:=by grind
 have k6:Y2=Y2 / z2*z2:=by grind
 generalize x / z=p at *;generalize y / z=q at *;generalize X1 / z1=a at *;generalize Y1 / z1=a' at *;generalize X2 / z2=c at *;generalize Y2 / z2=c' at *;subst k1 k2 k3 k4 k5 k6;have m0:∀{u v:Rat},u≠0->v≠0->u*v≠0:=fun hu hv z=>by
  rcases Rat.mul_eq_zero.mp z with z|z
  ·exact hu z
  ·exact hv z
 have hK:z*(z1*z1)*(z2*z2)≠0:=m0 (m0 hz (m0 h1 h1)) (m0 h2 h2);have e1:((c*z2*z1 - a*z1*z2)*(p*z*z1 - a*z1*z)+(c'*z2*z1 - a'*z1*z2)*(q*z*z1 - a'*z1*z))*z2=(z*(z1*z1)*(z2*z2))*((p - a)*(c - a)+(q - a')*(c' - a')):=by grind
 have e2:z*((c*z2*z1 - a*z1*z2)*(c*z2*z1 - a*z1*z2)+(c'*z2*z1 - a'*z1*z2)*(c'*z2*z1 - a'*z1*z2))=(z*(z1*z1)*(z2*z2))*((c - a)*(c - a)+(c' - a')*(c' - a')):=by grind
 rw[e2]at hN;rw[e1,e2];generalize (p - a)*(c - a)+(q - a')*(c' - a')=T at *;generalize (c - a)*(c - a)+(c' - a')*(c' - a')=S at *;generalize z*(z1*z1)*(z2*z2)=k at *;have hS:S≠0:=fun z=>hN (by rw[z,Rat.mul_zero])
 grind
theorem ud{X Y b X1 Y1 b1 X2 Y2 b2 u v c d u1 v1 c1 d1 u2 v2 c2 d2 a e a' e' g h g' h' m n m' n' i j m2 n2 m2' n2' i2 j2 s w:Int}(hb:b≠0)(hb1:b1≠0)(hb2:b2≠0)
  (f1:ye X b u v) (f2:ye Y b c d) (f3:ye X1 b1 u1 v1) (f4:ye Y1 b1 c1 d1) (f5:ye X2 b2 u2 v2) (f6:ye Y2 b2 c2 d2)
  (g1:ye (u2*v1 - u1*v2) (v2*v1) a e) (g2:ye (c2*d1 - c1*d2) (d2*d1) a' e') (g3:ye (u*v1 - u1*v) (v*v1) g h) (g4:ye (c*d1 - c1*d) (d*d1) g' h')
  (k1:ye (g*a) (h*e) m n) (k2:ye (g'*a') (h'*e') m' n') (k3:ye (m*n'+m'*n) (n*n') i j) (l1:ye (a*a) (e*e) m2 n2) (l2:ye (a'*a') (e'*e') m2' n2') (l3:ye (m2*n2'+m2'*n2) (n2*n2') i2 j2)
  (hi:i2≠0) (fin:ye (i*j2) (j*i2) s w) (hN:nN b X1 Y1 b1 X2 Y2 b2≠0):s*nN b X1 Y1 b1 X2 Y2 b2=nM X Y b X1 Y1 b1 X2 Y2 b2*w:=by
 refine lO (nzl fin.low) hN ?_;have q1:=ee f1 hb;have q2:=ee f2 hb;have q3:=ee f3 hb1;have q4:=ee f4 hb1;have q5:=ee f5 hb2;have q6:=ee f6 hb2;have r1:=mX (nzl f5.low) (nzl f3.low) g1;have r2:=mX (nzl f6.low) (nzl f4.low) g2;have r3:=mX (nzl f1.low) (nzl f3.low) g3;have r4:=mX (nzl f2.low) (nzl f4.low) g4;have s1:=mY (nzl g3.low) (nzl g1.low) k1;have s2:=mY (nzl g4.low) (nzl g2.low) k2;have s3:=sL (nzl k1.low) (nzl k2.low) k3;have t1:=mY (nzl g1.low) (nzl g1.low) l1;have t2:=mY (nzl g2.low) (nzl g2.low) l2;have t3:=sL (nzl l1.low) (nzl l2.low) l3;have w1:=xz (nzl k3.low) hi fin;rw[w1,s3,t3,s1,s2,t1,t2,r1,r2,r3,r4,q1,q2,q3,q4,q5,q6];have hN':=cz hN;unfold nN at hN';unfold rq nM nN;simp only[Rat.intCast_mul,Rat.intCast_add,Rat.intCast_sub]at hN' ⊢;exact rA (cz hb) (cz hb1) (cz hb2) hN'
theorem rP{X1 Y1 b1 X2 Y2 b2 u1 v1 c1 d1 u2 v2 c2 d2 a e a' e' m2 n2 m2' n2' i2 j2:Int}(hb1:0<b1)(hb2:0<b2)(f3:ye X1 b1 u1 v1)(f4:ye Y1 b1 c1 d1)(f5:ye X2 b2 u2 v2)(f6:ye Y2 b2 c2 d2)
  (g1:ye (u2*v1 - u1*v2) (v2*v1) a e) (g2:ye (c2*d1 - c1*d2) (d2*d1) a' e') (l1:ye (a*a) (e*e) m2 n2) (l2:ye (a'*a') (e'*e') m2' n2') (l3:ye (m2*n2'+m2'*n2) (n2*n2') i2 j2)
  (hS:0<(X2*b1 - X1*b2)*(X2*b1 - X1*b2)+(Y2*b1 - Y1*b2)*(Y2*b1 - Y1*b2)):0<i2:=by
 have f:=oR f3 f4 f5 f6 g1 g2 l1 l2 l3;have e:=f.eq;unfold sqN at e;have hj:=f.low.pos;have hd:0<sqD b1 b2:=Int.mul_pos (Int.mul_pos hb1 hb2) (Int.mul_pos hb1 hb2);have h:0<i2*sqD b1 b2:=by rw[<- e];exact Int.mul_pos hS (by omega)
 exact Int.pos_of_mul_pos_left h hd
def cX(qs:Crn)(k:Nat):Int:=(qs.getD k (0,0,0)).2.1
def cY(qs:Crn)(k:Nat):Int:=(qs.getD k (0,0,0)).2.2
def dL(dx dy:Int):Int:=dx*dx+dy*dy
def dA(X Y b bx by_ dx dy:Int):Int:=(X - bx*b)*dx+(Y - by_*b)*dy
structure EU(n k:Nat)(l1 l2 h1 h2:Int):Prop where
 kn:k+1<n
 lo:(k:Int)*l2≤l1
 lt:l1*h2<h1*l2
 hi:h1≤((k:Int)+1)*h2
def Cl(L al b lu l2 hu h2 Tu B:Int):Prop:=(Tu=lu∧B=l2∧(L=0∨al*l2<lu*(L*b)))∨(Tu=hu∧B=h2∧L≠0∧¬al*l2<lu*(L*b)∧hu*(L*b)<al*h2) ∨
 (L≠0∧¬al*l2<lu*(L*b)∧¬hu*(L*b)<al*h2∧Tu*(L*b)=al*B)
def kL(qs:Crn)(k:Nat):Int:=dL (cX qs (k+1) - cX qs k) (cY qs (k+1) - cY qs k)
def kA(X Y b:Int)(qs:Crn)(k:Nat):Int:=dA X Y b (cX qs k) (cY qs k) (cX qs (k+1) - cX qs k) (cY qs (k+1) - cY qs k)
def LPc(X Y b:Int)(qs:Crn)(l1 l2 h1 h2 T B:Int):Prop:=(l1=h1∧l2=h2∧T=l1∧B=l2) ∨
 ∃k:Nat,EU qs.length k l1 l2 h1 h2∧Cl (kL qs k) (kA X Y b qs k) b (l1 - (k:Int)*l2) l2 (h1 - (k:Int)*h2) h2 (T - (k:Int)*B) B
def InS(n:Nat)(l1 l2 h1 h2:Int):Prop:=(l1=h1∧l2=h2)∨∃k:Nat,EU n k l1 l2 h1 h2
theorem nV{qs:Crn}{t b:Int}{k:Nat}(hb:0<b)(hk:k+1<qs.length)(h1:(k:Int)*b≤t)(h2:t≤((k:Int)+1)*b):ptX qs t b=cX qs k*b+(cX qs (k+1) - cX qs k)*(t - (k:Int)*b):=vg (c:=fun z=>z.1) hb hk h1 h2
theorem nU{qs:Crn}{t b:Int}{k:Nat}(hb:0<b)(hk:k+1<qs.length)(h1:(k:Int)*b≤t)(h2:t≤((k:Int)+1)*b):ptY qs t b=cY qs k*b+(cY qs (k+1) - cY qs k)*(t - (k:Int)*b):=vg (c:=fun z=>z.2) hb hk h1 h2
theorem xg{X Y b bx by_ dx dy lu l2 hu h2:Int}:nM X Y b (bx*l2+dx*lu) (by_*l2+dy*lu) l2 (bx*h2+dx*hu) (by_*h2+dy*hu) h2=(hu*l2 - lu*h2)*h2*(l2*dA X Y b bx by_ dx dy - lu*(dL dx dy*b)):=by
 unfold nM dA dL
 grind
theorem xf{b bx by_ dx dy lu l2 hu h2:Int}:nN b (bx*l2+dx*lu) (by_*l2+dy*lu) l2 (bx*h2+dx*hu) (by_*h2+dy*hu) h2=b*((hu*l2 - lu*h2)*(hu*l2 - lu*h2)*dL dx dy):=by
 unfold nN dL
 grind
theorem rE{l1 l2 h1 h2 s w a e m n T B:Int}(hl:l2≠0)(hh:h2≠0)(hw:w≠0)(f1:ye (h1*l2 - l1*h2) (h2*l2) a e)(f2:ye (s*a) (w*e) m n)(f3:ye (l1*n+m*l2) (l2*n) T B):rq T B=rq l1 l2+rq s w*(rq h1 h2 - rq l1 l2):=by
 rw[sL hl (nzl f2.low) f3,mY hw (nzl f1.low) f2,mX hh hl f1]
theorem xT:rq 0 1=0:=by decide +kernel
theorem xS:rq 1 1=1:=by decide +kernel
theorem vi{l1 l2 h1 h2 a e m n T B:Int}(Ll:AI l1 l2)(hh:h2≠0)(f1:ye (h1*l2 - l1*h2) (h2*l2) a e)(f2:ye (0*a) (1*e) m n)(f3:ye (l1*n+m*l2) (l2*n) T B):T=l1∧B=l2:=by
 have e:=rE (nzl Ll) hh (by decide) f1 f2 f3;rw[xT,Rat.zero_mul,Rat.add_zero]at e;exact d8 f3.low Ll (lO (nzl f3.low) (nzl Ll) e)
theorem xb{l1 l2 h1 h2 a e m n T B:Int}(hl:l2≠0)(Lh:AI h1 h2)(f1:ye (h1*l2 - l1*h2) (h2*l2) a e)(f2:ye (1*a) (1*e) m n)(f3:ye (l1*n+m*l2) (l2*n) T B):T=h1∧B=h2:=by
 have e:=rE hl (nzl Lh) (by decide) f1 f2 f3;rw[xS,Rat.one_mul,show rq l1 l2+(rq h1 h2 - rq l1 l2)=rq h1 h2 by grind]at e;exact d8 f3.low Lh (lO (nzl f3.low) (nzl Lh) e)
theorem vV{l1 l2 h1 h2 s w a e m n T B k L al b:Int}(hl:0<l2)(hh:0<h2)(hw:w≠0)(hL:0<L)(hb:0<b)(hd:0<h1*l2 - l1*h2)(f1:ye (h1*l2 - l1*h2) (h2*l2) a e)(f2:ye (s*a) (w*e) m n)(f3:ye (l1*n+m*l2) (l2*n) T B)
  (hs:s*(b*((h1*l2 - l1*h2)*(h1*l2 - l1*h2)*L))=(h1*l2 - l1*h2)*h2*(l2*al - (l1 - k*l2)*(L*b))*w):(T - k*B)*(L*b)=al*B:=by
 have e:=rE (by omega) (by omega) hw f1 f2 f3;have hB:=nzl f3.low;have hBq:=cz hB;have q1:=cz (show l2≠0 by omega);have q2:=cz (show h2≠0 by omega);have q3:=cz hw;have q4:=cz (show L≠0 by omega);have q5:=cz (show b≠0 by omega);have q6:=cz (show h1*l2 - l1*h2≠0 by omega);have e2:rq h1 h2 - rq l1 l2=((h1*l2 - l1*h2:Int):Rat)*((h2:Rat)⁻¹*(l2:Rat)⁻¹):=by
  unfold rq;rw[Rat.intCast_sub,Rat.intCast_mul,Rat.intCast_mul]
  grind
 rw[e2]at e;generalize h1*l2 - l1*h2=D at *;have hs':(s:Rat)*(b*(D*D*L))=D*h2*(l2*al - (l1 - k*l2)*(L*b))*w:=by
  have:=congrArg (fun z:Int=>(z:Rat)) hs;simpa only[Rat.intCast_mul,Rat.intCast_sub]using this
 have e3:rq s w*D=h2*(l2*al - (l1 - k*l2)*(L*b))*((L:Rat)⁻¹*(b:Rat)⁻¹):=by
  unfold rq
  grind
 have e4:rq T B=k+al*((L:Rat)⁻¹*(b:Rat)⁻¹):=by
  rw[e,show rq s w*(D*((h2:Rat)⁻¹*(l2:Rat)⁻¹))=(rq s w*D)*((h2:Rat)⁻¹*(l2:Rat)⁻¹) by grind,e3];unfold rq
  grind
 have e5:(T - k*B)*((L:Rat)*b)=al*(B:Rat):=by
  unfold rq at e4
  grind
 have e6:(((T - k*B)*(L*b):Int):Rat)=((al*B:Int):Rat):=by
  simp only[Rat.intCast_mul,Rat.intCast_sub];exact e5
 exact Rat.intCast_inj.mp e6
theorem fg{D E:Int}(h:(0≤D∧0≤E)∨(D≤0∧E≤0)):0≤D*E:=by
 rcases h with⟨h1,h2⟩|⟨h1,h2⟩
 ·exact Int.mul_nonneg h1 h2
 ·have:=Int.mul_nonneg (show 0≤-D by omega) (show 0≤-E by omega)
  rwa [Int.neg_mul_neg]at this
theorem vt(qs:Crn)(k:Nat):0≤kL qs k:=by
 unfold kL dL;have h1:∀x:Int,0≤x*x:=fun x=>fg (by omega);have:=h1 (cX qs (k+1) - cX qs k);have:=h1 (cY qs (k+1) - cY qs k);omega
theorem tI{x y:Int}(h:x*x+y*y=0):x=0∧y=0:=by
 have h1:∀x:Int,0≤x*x:=fun x=>fg (by omega);have a:=h1 x;have b:=h1 y;constructor
 ·have:x*x=0:=by omega
  rcases Int.mul_eq_zero.mp this with z|z <;> exact z
 ·have:y*y=0:=by omega
  rcases Int.mul_eq_zero.mp this with z|z <;> exact z
def NP(X Y b X1 Y1 b1 X2 Y2 b2 s w:Int):Prop:=((X1*b2=X2*b1∧Y1*b2=Y2*b1)∧s=0∧w=1) ∨
 (0<nN b X1 Y1 b1 X2 Y2 b2∧((nM X Y b X1 Y1 b1 X2 Y2 b2<0∧s=0∧w=1)∨(nN b X1 Y1 b1 X2 Y2 b2<nM X Y b X1 Y1 b1 X2 Y2 b2∧s=1∧w=1) ∨
  (0≤nM X Y b X1 Y1 b1 X2 Y2 b2∧nM X Y b X1 Y1 b1 X2 Y2 b2≤nN b X1 Y1 b1 X2 Y2 b2∧0<w∧s*nN b X1 Y1 b1 X2 Y2 b2=nM X Y b X1 Y1 b1 X2 Y2 b2*w)))
theorem vm{s w M N:Int}(hw:0<w)(hN:0<N)(e:s*N=M*w):(s<0↔M<0)∧(w<s↔N<M):=by
 have sg:∀{a c:Int},0<c->(a<0↔a*c<0):=fun {a c} hc=>⟨fun h=>Int.mul_neg_of_neg_of_pos h hc,fun h=>by
  by_cases z:a<0
  ·exact z
  ·exact absurd h (by have:=Int.mul_nonneg (show 0≤a by omega) (show 0≤c by omega);omega)⟩
 constructor
 ·rw[sg hN,e,<- sg hw]
 ·have h1:w<s↔(w - s)*N<0:=by rw[<- sg hN];omega
  have h2:N<M↔(N - M)*w<0:=by rw[<- sg hw];omega
  rw[h1,h2,Int.sub_mul,Int.sub_mul,e,Int.mul_comm w N]
theorem sd{X Y b:Int}{qs:Crn}{l1 l2 h1 h2 s w a e m n T B:Int}(hb:0<b)(Ll:AI l1 l2)(Lh:AI h1 h2)(ins:InS qs.length l1 l2 h1 h2)(np:NP X Y b (ptX qs l1 l2) (ptY qs l1 l2) l2 (ptX qs h1 h2) (ptY qs h1 h2) h2 s w)
  (f1:ye (h1*l2 - l1*h2) (h2*l2) a e) (f2:ye (s*a) (w*e) m n) (f3:ye (l1*n+m*l2) (l2*n) T B):LPc X Y b qs l1 l2 h1 h2 T B∧l1*B≤T*l2∧T*h2≤h1*B:=by
 have hl:=Ll.pos;have hh:=Lh.pos;rcases ins with⟨rfl,rfl⟩|⟨k,st⟩
 ·rcases np with⟨_,rfl,rfl⟩|⟨h,_⟩
  ·obtain⟨rfl,rfl⟩:=vi Ll (nzl Ll) f1 f2 f3
   exact⟨.inl ⟨rfl,rfl,rfl,rfl⟩,Int.le_refl _,Int.le_refl _⟩
  ·unfold nN at h
   simp at h
 have hlt:=st.lt;have up:l1≤((k:Int)+1)*l2:=by
  have a:l1*h2≤((k:Int)+1)*l2*h2:=by
   have:=Int.mul_le_mul_of_nonneg_right st.hi (show 0≤l2 by omega)
   grind
  exact Int.le_of_mul_le_mul_right a (by omega)
 have lo:(k:Int)*h2≤h1:=by
  have a:(k:Int)*h2*l2≤h1*l2:=by
   have:=Int.mul_le_mul_of_nonneg_right st.lo (show 0≤h2 by omega)
   grind
  exact Int.le_of_mul_le_mul_right a (by omega)
 unfold NP at np;rw[nV (by omega) st.kn st.lo up,nU (by omega) st.kn st.lo up,nV (by omega) st.kn lo st.hi,nU (by omega) st.kn lo st.hi,xf,xg]at np;have eD:(h1 - (k:Int)*h2)*l2 - (l1 - (k:Int)*l2)*h2=h1*l2 - l1*h2:=by grind
 rw[eD]at np;have hD:0<h1*l2 - l1*h2:=by omega
 have lowC:(kL qs k=0∨kA X Y b qs k*l2<(l1 - (k:Int)*l2)*(kL qs k*b))->s=0->w=1->LPc X Y b qs l1 l2 h1 h2 T B∧l1*B≤T*l2∧T*h2≤h1*B:=fun c es ew=>by
  subst es ew;obtain⟨rfl,rfl⟩:=vi Ll (nzl Lh) f1 f2 f3;exact⟨.inr ⟨k,st,.inl ⟨rfl,rfl,c⟩⟩,Int.le_refl _,by omega⟩
 rcases np with⟨⟨e1,e2⟩,es,ew⟩|⟨hN,np⟩
 ·refine lowC (.inl ?_) es ew
  have g:∀{x d:Int},(x*l2+d*(l1 - (k:Int)*l2))*h2=(x*h2+d*(h1 - (k:Int)*h2))*l2->d=0:=fun {x d} h=>by
   have:d*(h1*l2 - l1*h2)=0:=by grind
   rcases Int.mul_eq_zero.mp this with z|z
   ·exact z
   ·omega
  unfold kL dL;rw[g e1,g e2];rfl
 have hL:0<kL qs k:=by
  have h:=vt qs k
  by_cases z:kL qs k=0
  ·unfold kL at z
   rw[z]at hN;simp at hN
  ·omega
 have hal:kA X Y b qs k=dA X Y b (cX qs k) (cY qs k) (cX qs (k+1) - cX qs k) (cY qs (k+1) - cY qs k):=rfl;have hkl:kL qs k=dL (cX qs (k+1) - cX qs k) (cY qs (k+1) - cY qs k):=rfl;rw[<- hal,<- hkl]at np;have sgn:∀{D x:Int},0<D->(D*x<0↔x<0):=fun {D x} hd=>⟨fun h=>by
  by_cases z:x<0
  ·exact z
  ·exact absurd h (by have:=Int.mul_nonneg (show 0≤D by omega) (show 0≤x by omega);omega),fun h=>Int.mul_neg_of_pos_of_neg hd h⟩
 have hDh:0<(h1*l2 - l1*h2)*h2:=Int.mul_pos hD (by omega);have hDl:0<(h1*l2 - l1*h2)*l2:=Int.mul_pos hD (by omega);have cM:(h1*l2 - l1*h2)*h2*(l2*kA X Y b qs k - (l1 - (k:Int)*l2)*(kL qs k*b))<0↔kA X Y b qs k*l2<(l1 - (k:Int)*l2)*(kL qs k*b):=by
  rw[sgn hDh,Int.mul_comm l2];omega
 have cN:b*((h1*l2 - l1*h2)*(h1*l2 - l1*h2)*kL qs k)<(h1*l2 - l1*h2)*h2*(l2*kA X Y b qs k - (l1 - (k:Int)*l2)*(kL qs k*b))↔(h1 - (k:Int)*h2)*(kL qs k*b)<kA X Y b qs k*h2:=by
  have z:b*((h1*l2 - l1*h2)*(h1*l2 - l1*h2)*kL qs k) - (h1*l2 - l1*h2)*h2*(l2*kA X Y b qs k - (l1 - (k:Int)*l2)*(kL qs k*b))=(h1*l2 - l1*h2)*l2*((h1 - (k:Int)*h2)*(kL qs k*b) - kA X Y b qs k*h2):=by grind
  have y:=sgn (x:=(h1 - (k:Int)*h2)*(kL qs k*b) - kA X Y b qs k*h2) hDl;rw[<- z]at y;omega
 have nneg:∀{x:Int},0≤x->¬x<0:=fun h=>by omega
 rcases np with⟨h,es,ew⟩|⟨h,es,ew⟩|⟨h,h',hw,es⟩
 ·exact lowC (.inr (cM.mp h)) es ew
 ·subst es ew
  obtain⟨rfl,rfl⟩:=xb (nzl Ll) Lh f1 f2 f3;refine⟨.inr ⟨k,st,.inr (.inl ⟨rfl,rfl,by omega,fun c=>?_,cN.mp h⟩)⟩,by omega,Int.le_refl _⟩;have:=cM.mpr c;have hN':0<b*((T*l2 - l1*B)*(T*l2 - l1*B)*kL qs k):=hN;omega
 ·have c1:¬kA X Y b qs k*l2<(l1 - (k:Int)*l2)*(kL qs k*b):=fun c=>nneg h (cM.mpr c)
  have c2:¬(h1 - (k:Int)*h2)*(kL qs k*b)<kA X Y b qs k*h2:=fun c=>by have:=cN.mpr c;omega
  have e:=vV (k:=(k:Int)) (L:=kL qs k) (al:=kA X Y b qs k) (b:=b) (by omega) (by omega) (by omega) hL hb hD f1 f2 f3 es;have hB:=f3.low.pos;have hLb:0<kL qs k*b:=Int.mul_pos hL hb;refine⟨.inr ⟨k,st,.inr (.inr ⟨by omega,c1,c2,e⟩)⟩,?_,?_⟩
  ·have z:=Int.mul_le_mul_of_nonneg_right (Int.not_lt.mp c1) (show 0≤B by omega)
   have r1:(T - (k:Int)*B)*l2*(kL qs k*b)=kA X Y b qs k*l2*B:=by rw[Int.mul_right_comm,e,Int.mul_right_comm]
   have r2:(l1 - (k:Int)*l2)*B*(kL qs k*b)=(l1 - (k:Int)*l2)*(kL qs k*b)*B:=Int.mul_right_comm _ _ _;have z2:(l1 - (k:Int)*l2)*B*(kL qs k*b)≤(T - (k:Int)*B)*l2*(kL qs k*b):=by omega
   have:=Int.le_of_mul_le_mul_right z2 hLb
   grind
  ·have z:=Int.mul_le_mul_of_nonneg_right (Int.not_lt.mp c2) (show 0≤B by omega)
   have r1:(T - (k:Int)*B)*h2*(kL qs k*b)=kA X Y b qs k*h2*B:=by rw[Int.mul_right_comm,e,Int.mul_right_comm]
   have r2:(h1 - (k:Int)*h2)*B*(kL qs k*b)=(h1 - (k:Int)*h2)*(kL qs k*b)*B:=Int.mul_right_comm _ _ _;have z2:(T - (k:Int)*B)*h2*(kL qs k*b)≤(h1 - (k:Int)*h2)*B*(kL qs k*b):=by omega
   have:=Int.le_of_mul_le_mul_right z2 hLb
   grind
theorem ul{H:Hp}{l:Addr}{qs:Crn}(L:LineAt H l qs)(k:Nat):ao (kL qs k)≤103:=by
 have h1:=bW L k;have h2:=bW L (k+1);have a:=aO h2.1 h1.1;have b:=aO h2.2 h1.2;exact ap (ce (bits_mul a a) (bits_mul b b)) (by decide)
theorem uf{H:Hp}{l:Addr}{qs:Crn}{X Y b l1 l2 h1 h2 T B:Int}(L:LineAt H l qs)(h20:qs.length≤20)(hb:0<b)(bb:ao b≤60)(lw:AI T B)(h:LPc X Y b qs l1 l2 h1 h2 T B)(b2:ao l2≤60)(b4:ao h2≤60)(t0:0≤T)(t1:T≤cD qs*B):ao T≤200∧ao B≤163:=by
 have hB:=lw.pos;have b3:ao B≤163:=by
  rcases h with⟨_,_,rfl,rfl⟩|⟨k,st,⟨_,rfl,_⟩|⟨_,rfl,_⟩|⟨h0,_,_,e⟩⟩
  ·exact ap b2 (by decide)
  ·exact ap b2 (by decide)
  ·exact ap b4 (by decide)
  ·have hL:=vt qs k
   have hLb:0<kL qs k*b:=Int.mul_pos (by omega) hb;have f:ye (kA X Y b qs k+(k:Int)*(kL qs k*b)) (kL qs k*b) T B:=⟨lw,by grind⟩;exact(fj hLb f (Nat.le_refl _) (bits_mul (ul L k) bb)).2
 refine⟨?_,b3⟩;have:cD qs*B≤20*B:=Int.mul_le_mul_of_nonneg_right (by unfold cD;omega) (by omega);exact ap (dC t0 (Int.le_trans t1 this) (bits_mul (show ao 20≤5 by decide) b3)) (by decide)
theorem qc{H:Hp}{l:Addr}{qs:Crn}{X Y b l1 l2 h1 h2 s w:Int}{k:Nat}(L:LineAt H l qs)(hb:0<b)(hl:0<l2)(hh:0<h2)(bb:ao b≤60)(b2:ao l2≤60)(b4:ao h2≤60)(st:EU qs.length k l1 l2 h1 h2)(bX:ao X≤262∧ao Y≤262)(lw:AI s w)
  (hN:0<nN b (ptX qs l1 l2) (ptY qs l1 l2) l2 (ptX qs h1 h2) (ptY qs h1 h2) h2) (e:s*nN b (ptX qs l1 l2) (ptY qs l1 l2) l2 (ptX qs h1 h2) (ptY qs h1 h2) h2=nM X Y b (ptX qs l1 l2) (ptY qs l1 l2) l2 (ptX qs h1 h2) (ptY qs h1 h2) h2*w):ao s≤900∧ao w≤900:=by
 have hlt:=st.lt;have p1:=kD (t:=l1) L hl (ap b2 (by decide));have p2:=kD (t:=h1) L hh (ap b4 (by decide));have q:∀{x:Int} {z:Int},0<z->ao z≤60->∀{x:Int},ao x≤262->ao (x*z)≤322:=fun _ hz _ hx=>bits_mul hx hz;have u1:=aO (bits_mul p2.1 b2) (bits_mul p1.1 b4);have u2:=aO (bits_mul p2.2 b2) (bits_mul p1.2 b4);have v1:=aO (bits_mul bX.1 b2) (bits_mul p1.1 bb);have v2:=aO (bits_mul bX.2 b2) (bits_mul p1.2 bb);have bM:ao (nM X Y b (ptX qs l1 l2) (ptY qs l1 l2) l2 (ptX qs h1 h2) (ptY qs h1 h2) h2)≤900:=ap (bits_mul (ce (bits_mul u1 v1) (bits_mul u2 v2)) b4) (by decide);have bN:ao (nN b (ptX qs l1 l2) (ptY qs l1 l2) l2 (ptX qs h1 h2) (ptY qs h1 h2) h2)≤900:=ap (bits_mul bb (ce (bits_mul u1 u1) (bits_mul u2 u2))) (by decide);exact fj hN ⟨lw,e.symm⟩ bM bN
end Sp11
namespace Sk
open PySem PySem.Spec L2 Sp24 Wk
def ck(i j:Int):aI:=[.inl i,.inl j]
theorem gY{i j x y:Int}(h:ck i j=ck x y):i=x∧j=y:=by
 unfold ck at h;simp only[List.cons.injEq,Sum.inl.injEq,and_true]at h;exact h
def fI(F:Int->Int->Bool)(i k:Nat):List (Int×Int):=((List.range k).filter fun (j:Nat)=>F (i:Int) (j:Int)).map fun (j:Nat)=>((i:Int),(j:Int))
def fY(F:Int->Int->Bool)(n i:Nat):List (Int×Int):=(List.range i).flatMap fun i'=>fI F i' n
def dG(m n:Nat)(F:Int->Int->Bool):List (Int×Int):=fY F (n+1) (m+1)
theorem gn{F:Int->Int->Bool}{i k:Nat}{p:Int×Int}:p∈fI F i k↔p.1=i∧0≤p.2∧p.2<k∧F p.1 p.2=true:=by
 unfold fI;simp only[List.mem_map,List.mem_filter,List.mem_range];constructor
 ·rintro⟨j,⟨h1,h2⟩,rfl⟩
  exact⟨rfl,by simp,by simpa using h1,h2⟩
 ·rintro⟨h1,h2,h3,h4⟩
  obtain⟨x,y⟩:=p;dsimp only at h1 h2 h3 h4;subst h1;refine⟨y.toNat,⟨by omega,?_⟩,?_⟩
  ·rw[show((y.toNat:Nat):Int)=y by omega];exact h4
  ·rw[show((y.toNat:Nat):Int)=y by omega]
theorem i4{F:Int->Int->Bool}{n i:Nat}{p:Int×Int}:p∈fY F n i↔0≤p.1∧p.1<i∧0≤p.2∧p.2<n∧F p.1 p.2=true:=by
 unfold fY;simp only[List.mem_flatMap,List.mem_range,gn];constructor
 ·rintro⟨i',h1,h2,h3,h4,h5⟩
  exact⟨by omega,by omega,h3,h4,h5⟩
 ·rintro⟨h1,h2,h3,h4,h5⟩
  exact⟨p.1.toNat,by omega,by omega,h3,h4,h5⟩
theorem b9{m n:Nat}{F:Int->Int->Bool}{x y:Int}:(x,y)∈dG m n F↔0≤x∧x≤m∧0≤y∧y≤n∧F x y=true:=by
 unfold dG;rw[i4];constructor
 ·rintro⟨h1,h2,h3,h4,h5⟩
  exact⟨h1,by simp at h2;omega,h3,by simp at h4;omega,h5⟩
 ·rintro⟨h1,h2,h3,h4,h5⟩
  exact⟨h1,by simp;omega,h3,by simp;omega,h5⟩
theorem gJ{F:Int->Int->Bool}{i k:Nat}:fI F i (k+1)=fI F i k++(if F i k=true then [((i:Int),(k:Int))] else []):=by
 unfold fI;rw[List.range_succ,List.filter_append,List.map_append]
 congr 1
 by_cases h:F i k=true
 ·simp[h]
 ·simp[h]
theorem gW{F:Int->Int->Bool}{n i:Nat}:fY F n (i+1)=fY F n i++fI F i n:=by
 unfold fY;rw[List.range_succ,List.flatMap_append];simp
theorem lP{F:Int->Int->Bool}{i k:Nat}:(fI F i k).length≤k:=by
 unfold fI;rw[List.length_map];exact Nat.le_trans (List.length_filter_le _ _) (by simp)
theorem jo{F:Int->Int->Bool}{n:Nat}:∀{i:Nat},(fY F n i).length≤i*n
 | 0=>by simp[fY]
 | i+1=>by
  rw[gW,List.length_append];have:=jo (F:=F) (n:=n) (i:=i);have:=lP (F:=F) (i:=i) (k:=n);rw[Nat.succ_mul];omega
theorem nR{F:Int->Int->Bool}{i k:Nat}:(fI F i k).Nodup:=by
 induction k with
 | zero=>simp[fI]
 | succ k ih =>
  rw[gJ,List.nodup_append];refine⟨ih,by split <;> simp,fun a ha b hb=>?_⟩
  split at hb
  ·have hb:b=((i:Int),(k:Int)):=by simpa using hb
   rintro rfl;rw[hb]at ha;have:=(gn.mp ha).2.2.1;simp at this
  ·simp at hb
theorem oA{F:Int->Int->Bool}{n i:Nat}:(fY F n i).Nodup:=by
 induction i with
 | zero=>simp[fY]
 | succ i ih =>
  rw[gW,List.nodup_append];refine⟨ih,nR,fun a ha b hb=>?_⟩;rintro rfl;have h1:=(i4.mp ha).2.1;have h2:=(gn.mp hb).1;omega
def kvF(l:List (Int×Int)):List (aI×V):=l.map fun p=>(ck p.1 p.2,.bl true)
theorem mo{l:List (Int×Int)}{x y:Int}:ck x y∈(kvF l).map (·.1)↔(x,y)∈l:=by
 unfold kvF;rw[List.map_map];constructor
 ·intro h
  obtain⟨p,hp,e⟩:=List.mem_map.mp h;obtain⟨h1,h2⟩:=gY e;rw[<- h1,<- h2];exact hp
 ·intro h
  exact List.mem_map.mpr ⟨(x,y),h,rfl⟩
theorem uk{l:List (Int×Int)}{x y:Int}:(eG (kvF l) (ck x y)).isSome=true↔(x,y)∈l:=by
 rw[<- mo];constructor
 ·intro h
  by_cases z:ck x y∈(kvF l).map (·.1)
  ·exact z
  ·rw[gf z]at h;cases h
 ·exact oM
def g8(H:Hp)(d:Addr)(m n:Nat)(F:Int->Int->Bool):Prop:=∃o,H d=some (.frz o (.dT (kvF (dG m n F))))
theorem g8.mono{H H':Hp}{d:Addr}{m n:Nat}{F:Int->Int->Bool}(h:g8 H d m n F)(s:Same H H'):g8 H' d m n F:=let ⟨o,e⟩:=h;⟨o,s _ _ e⟩
theorem g8.get{H:Hp}{d b:Addr}{m n:Nat}{F:Int->Int->Bool}(h:g8 H d m n F){x y:Int}(hb:H b=some (.tup [.int x,.int y])):∃o,g9 H d (.ref b) o∧o.isSome=decide ((x,y)∈dG m n F):=by
 obtain⟨o,e⟩:=h;refine⟨_,.inr ⟨_,ck x y,b,.inr ⟨o,e⟩,rfl,hb,rfl⟩,?_⟩;rw[Bool.eq_iff_iff,uk,decide_eq_true_iff]
def U(m n:Nat):List aI:=(List.range (m+1)).flatMap fun i=>(List.range (n+1)).map fun j=>ck (i:Nat) (j:Nat)
theorem cE{m n:Nat}{s:aI}:s∈U m n↔∃x y:Int,s=ck x y∧0≤x∧x≤m∧0≤y∧y≤n:=by
 unfold U;simp only[List.mem_flatMap,List.mem_range,List.mem_map];constructor
 ·rintro⟨i,hi,j,hj,rfl⟩
  exact⟨_,_,rfl,by omega,by omega,by omega,by omega⟩
 ·rintro⟨x,y,rfl,h1,h2,h3,h4⟩
  refine⟨x.toNat,by omega,y.toNat,by omega,?_⟩;rw[show((x.toNat:Nat):Int)=x by omega,show((y.toNat:Nat):Int)=y by omega]
theorem xD{m n:Nat}:(U m n).length=(m+1)*(n+1):=by
 unfold U
 induction (m+1) with
 | zero=>simp
 | succ k ih =>
  rw[List.range_succ (n:=k),List.flatMap_append,List.length_append,ih,Nat.succ_mul];simp
theorem iM{m n:Nat}(hm:m≤20)(hn:n≤20):(U m n).length<900:=by
 rw[xD];have:=Nat.mul_le_mul (show m+1≤21 by omega) (show n+1≤21 by omega);omega
def dz(m n:Nat)(F:Int->Int->Bool)(i j:Int):List (Int×Int):=[(i+1,j+1),(i+1,j),(i,j+1)].filter fun p=>decide (p.1≤m) && (decide (p.2≤n) && !decide (p∈dG m n F))
def onS(m n:Nat)(F:Int->Int->Bool):aI->List (aI×V)
 | [.inl i,.inl j]=>(dz m n F i j).map fun p=>(ck p.1 p.2,.non)
 | _=>[]
def db(u v:Int×Int):Bool:=(decide (v.1 - u.1≤0) && decide (u.2 - v.2≤1)) || (decide (v.1 - u.1≤1) && decide (u.2 - v.2≤0))
def asL(m n:Nat)(F:Int->Int->Bool)(i j:Int):List (Int×Int):=(dG m n F).filter fun p=>db (i,j) p
def asS(m n:Nat)(F:Int->Int->Bool):aI->List (aI×V)
 | [.inl i,.inl j]=>(asL m n F i j).map fun p=>(ck p.1 p.2,.non)
 | _=>[]
def gS(m n:Nat):aI->Bool
 | [.inl i,.inl j]=>decide (i=m) && decide (j=n)
 | _=>false
def mU(m:Nat):aI->Bool
 | [.inl i,.inl j]=>decide (j=0) || decide (i=m)
 | _=>false
def jy(m n:Nat)(F:Int->Int->Bool):List (Int×Int):=(dG m n F).filter fun p=>decide (p.2=n) || decide (p.1=0)
def fN(m n:Nat)(F:Int->Int->Bool):Prop:=F 0 0=true∨uT [ck 0 0] (onS m n F) (gS m n)
theorem iB{m n:Nat}{F:Int->Int->Bool}:∀s∈U m n,∀e∈onS m n F s,e.1∈U m n:=by
 intro s hs e he;obtain⟨x,y,rfl,h1,h2,h3,h4⟩:=cE.mp hs;obtain⟨p,hp,rfl⟩:=List.mem_map.mp (show e∈(dz m n F x y).map _ from he);unfold dz at hp;rw[List.mem_filter]at hp;obtain⟨g1,g2⟩:=hp;simp only[Bool.and_eq_true,decide_eq_true_iff]at g2;refine cE.mpr ⟨_,_,rfl,?_⟩;simp only[List.mem_cons,List.not_mem_nil,or_false]at g1;rcases g1 with rfl|rfl|rfl <;> (dsimp only at g2 ⊢;omega)
theorem ll{m n:Nat}{F:Int->Int->Bool}:∀s∈U m n,∀e∈asS m n F s,e.1∈U m n:=by
 intro s hs e he;obtain⟨x,y,rfl,h1,h2,h3,h4⟩:=cE.mp hs;obtain⟨p,hp,rfl⟩:=List.mem_map.mp (show e∈(asL m n F x y).map _ from he);unfold asL at hp;obtain⟨g1,g2,g3,g4,g5⟩:=b9.mp (List.mem_filter.mp hp).1;exact cE.mpr ⟨_,_,rfl,g1,g2,g3,g4⟩
theorem v5{m n:Nat}{F:Int->Int->Bool}:∀s∈U m n,(onS m n F s).length<1000:=by
 intro s hs;obtain⟨x,y,rfl,_⟩:=cE.mp hs;show((dz m n F x y).map _).length<1000;rw[List.length_map];unfold dz;exact Nat.lt_of_le_of_lt (List.length_filter_le _ _) (by simp)
theorem jp{m n:Nat}{F:Int->Int->Bool}(hm:m≤20)(hn:n≤20):(dG m n F).length<900:=by
 have h1:=jo (F:=F) (n:=n+1) (i:=m+1);have:=Nat.mul_le_mul (show m+1≤21 by omega) (show n+1≤21 by omega);unfold dG;omega
theorem wH{m n:Nat}{F:Int->Int->Bool}(hm:m≤20)(hn:n≤20):∀s∈U m n,(asS m n F s).length<1000:=by
 intro s hs;obtain⟨x,y,rfl,_⟩:=cE.mp hs;show((asL m n F x y).map _).length<1000;rw[List.length_map];unfold asL;have:=jp (F:=F) hm hn;exact Nat.lt_of_le_of_lt (List.length_filter_le _ _) (by omega)
theorem mV{m n:Nat}{F:Int->Int->Bool}(h:fN m n F)(hs:uT ((jy m n F).map fun p=>ck p.1 p.2) (asS m n F) (mU m)):False:=by
 obtain⟨R,r1,r2,r3⟩:=hs;have ex:∃u v,Ch (fun i j=>((i:Int),(j:Int))∈dG m n F) m n u v∧(u.1=0∨u.2=n)∧(v.2=0∨v.1=m):=by
  rcases h with h|⟨S,s1,s2,s3⟩
  ·refine mW (S:=fun _ _=>False) (fun z=>z (b9.mpr ⟨by simp,by simp,by simp,by simp,h⟩)) (fun i j _ z=>?_) (m+n) m n rfl (fun z=>z)
   rcases z with⟨_,z⟩|⟨_,z⟩|⟨_,_,z⟩ <;> exact z
  ·refine mW (S:=fun i j=>i≤m∧j≤n->ck i j∈S) (fun z _=>s1 _ (by simp)) (fun i j hf z hb=>?_) (m+n) m n rfl (fun z=>?_)
   ·have on:∀(x y:Int),ck x y∈S->((i:Int),(j:Int))∈[(x+1,y+1),(x+1,y),(x,y+1)]->ck i j∈S:=fun x y hx hm=>by
     refine s2 _ hx (ck i j,.non) (List.mem_map.mpr ⟨((i:Int),(j:Int)),List.mem_filter.mpr ⟨hm,?_⟩,rfl⟩);simp only[Bool.and_eq_true,decide_eq_true_iff,Bool.not_eq_true',decide_eq_false_iff_not];exact⟨by omega,by omega,hf⟩
    rcases z with⟨a,z⟩|⟨a,z⟩|⟨a,b,z⟩
    ·refine on _ _ (z ⟨by omega,hb.2⟩) (List.mem_cons_of_mem _ (List.mem_cons.mpr (.inl ?_)))
     rw[Prod.mk.injEq];exact⟨by omega,rfl⟩
    ·refine on _ _ (z ⟨hb.1,by omega⟩) (List.mem_cons_of_mem _ (List.mem_cons_of_mem _ (List.mem_cons.mpr (.inl ?_))))
     rw[Prod.mk.injEq];exact⟨rfl,by omega⟩
    ·refine on _ _ (z ⟨by omega,by omega⟩) (List.mem_cons.mpr (.inl ?_))
     rw[Prod.mk.injEq];exact⟨by omega,by omega⟩
   ·have:=s3 _ (z ⟨Nat.le_refl _,Nat.le_refl _⟩)
    unfold gS ck at this;simp at this
 obtain⟨u,v,c,hu,hv⟩:=ex;have inR:∀{u v:Nat×Nat},Ch (fun i j=>((i:Int),(j:Int))∈dG m n F) m n u v->ck u.1 u.2∈R->ck v.1 v.2∈R:=by
  intro u v c
  induction c with
  | one _ _ _=>exact fun z=>z
  | step c s h a b ih =>
   intro z;refine r2 _ (ih z) (_,.non) (List.mem_map.mpr ⟨_,List.mem_filter.mpr ⟨h,?_⟩,rfl⟩);unfold db;simp only[Bool.or_eq_true,Bool.and_eq_true,decide_eq_true_iff];rcases s with s|s
   ·exact .inl (by omega)
   ·exact .inr (by omega)
 have f:=c.first
 have l:=c.last;have ru:ck u.1 u.2∈R:=by
  refine r1 _ (List.mem_map.mpr ⟨(u.1,u.2),List.mem_filter.mpr ⟨f.1,?_⟩,rfl⟩);simp only[Bool.or_eq_true,decide_eq_true_iff];omega
 have:=r3 _ (inR c ru);unfold mU ck at this;simp only[Bool.or_eq_false_iff,decide_eq_false_iff_not]at this;omega
def prC(q:Pr)(c:Int×Int):Prop:=q.a=c.1∧q.b=1∧q.c=c.2∧q.d=1
def dec:aI->Int×Int
 | [.inl i,.inl j]=>(i,j)
 | _=>(0,0)
def ip(m n:Nat)(F:Int->Int->Bool)(ps:List Pr):Prop:=F 0 0=false∧(∃cs:List (Int×Int),Paired (fun c q=>prC q c) cs ps∧(∃r,cs=(0,0)::r)∧cs.getLast? = some ((m:Int),(n:Int))∧(∀c∈cs,0≤c.1∧c.1≤m∧0≤c.2∧c.2≤n)∧cs.length<900∧∀(i:Nat) a b,cs[i]? = some a->cs[i+1]? = some b->b∈dz m n F a.1 a.2)∧∃l,ib [ck 0 0] (onS m n F) (gS m n) l∧Paired (fun c q=>prC q c) (l.map fun e=>dec e.1) ps
def jD(m n:Nat)(F:Int->Int->Bool)(ps:List Pr):Prop:=fN m n F∧(∃cs:List (Int×Int),Paired (fun c q=>prC q c) cs ps∧(∃c r,cs=c::r∧(c.2=n∨c.1=0))∧(∃c,cs.getLast? = some c∧(c.2=0∨c.1=m))∧(∀c∈cs,c∈dG m n F)∧cs.length<900∧∀(i:Nat) a b,cs[i]? = some a->cs[i+1]? = some b->db a b=true)∧∃l,ib ((jy m n F).map fun p=>ck p.1 p.2) (asS m n F) (mU m) l∧Paired (fun c q=>prC q c) (l.map fun e=>dec e.1) ps
theorem iy{bs U:List aI}{stp:aI->List (aI×V)}{fin:aI->Bool}{l:List (aI×V)}(r:uU bs stp fin l)(hb:∀s∈bs,s∈U)(hs:∀s∈U,∀e∈stp s,e.1∈U):∀(n:Nat) e,l[n]? = some e->e.1∈U:=by
 obtain⟨⟨s,r',rfl,h1⟩,h2,_⟩:=r;intro n
 induction n with
 | zero=>intro e he;simp at he;subst he;exact hb s h1
 | succ k ih =>
  intro e he;have lt:=(List.getElem?_eq_some_iff.mp he).1;obtain⟨a,ha⟩:∃a,((s,V.non)::r')[k]? = some a:=⟨((s,V.non)::r')[k]'(by omega),by rw[List.getElem?_eq_getElem (by omega)]⟩;exact hs _ (ih a ha) e (h2 k a e ha he)
def PrL(H:Hp)(l:List (aI×V))(ps:List Pr):Prop:=Paired (fun (e:aI×V) q=>Am H q∧prC q (dec e.1)) l ps
theorem nW{H:Hp}:∀{l:List (aI×V)} {ys:List V},ys.length=l.length->(∀(i:Nat) y,ys[i]? = some y->∃q e,l[i]? = some e∧y=V.ref q.p∧Am H q∧prC q (dec e.1))->∃ps,ys=prs ps∧PrL H l ps
 | [],[],_,_=>⟨[],rfl,.nil⟩
 | [],_::_,h,_=>by simp at h
 | _::_,[],h,_=>by simp at h
 | e::l,y::ys,h,hh=>by
  obtain⟨ps,h1,h2⟩:=nW (l:=l) (ys:=ys) (by simpa using h) fun i z hz=>by
   obtain⟨q,e',g1,g2⟩:=hh (i+1) z (by simpa using hz);exact⟨q,e',by simpa using g1,g2⟩
  obtain⟨q,e',g1,g2,g3⟩:=hh 0 y rfl;have:e=e':=by simpa using g1
  subst this;exact⟨q::ps,by rw[h1,g2];rfl,.cons g3 h2⟩
theorem PrL.at{H:Hp}{l:List (aI×V)}{ps:List Pr}{r:Addr}(h:PrL H l ps)(hr:H r=some (.lst (prs ps))):yh H r ps:=by
 refine⟨hr,fun q hq=>?_⟩;obtain⟨i,hi⟩:=List.getElem?_of_mem hq;obtain⟨e,_,h1,_⟩:=a7 h i q hi;exact h1
theorem PrL.cs{H:Hp}:∀{l:List (aI×V)} {ps:List Pr},PrL H l ps->Paired (fun c q=>prC q c) (l.map fun e=>dec e.1) ps:=by
 intro l ps h
 induction h with
 | nil=>exact .nil
 | cons a r ih=>exact .cons a.2 ih
theorem tD{m n:Nat}{F:Int->Int->Bool}{H:Hp}{l:List (aI×V)}{ps:List Pr}(h0:F 0 0=false)(r:uU [ck 0 0] (onS m n F) (gS m n) l)(fo:ib [ck 0 0] (onS m n F) (gS m n) l)(hl:l.length<900)(h:PrL H l ps):ip m n F ps:=by
 have inU:=iy r (U:=U m n) (fun s hs=>by rw[List.mem_singleton.mp hs];exact cE.mpr ⟨0,0,rfl,by simp,by simp,by simp,by simp⟩) iB;have get:∀(k:Nat) c,(l.map fun e=>dec e.1)[k]? = some c->∃e,l[k]? = some e∧e.1=ck c.1 c.2∧0≤c.1∧c.1≤m∧0≤c.2∧c.2≤n:=fun k c hc=>by
  rw[List.getElem?_map]at hc;obtain⟨e,he,rfl⟩:=Option.map_eq_some_iff.mp hc;obtain⟨x,y,e1,g⟩:=cE.mp (inU k e he);refine⟨e,he,?_⟩;rw[e1];exact⟨rfl,g⟩
 refine⟨h0,⟨l.map fun e=>dec e.1,h.cs,?_,?_,fun c hc=>?_,by rw[List.length_map];exact hl,fun k a b ha hb=>?_⟩,l,fo,h.cs⟩
 ·obtain⟨⟨s,r',rfl,hs⟩,_⟩:=r
  rw[List.mem_singleton.mp hs];exact⟨_,rfl⟩
 ·obtain⟨_,_,a,ha,hf⟩:=r
  rw[List.getLast?_map,ha];rw[List.getLast?_eq_getElem?]at ha;obtain⟨x,y,e1,g⟩:=cE.mp (inU _ a ha);rw[e1]at hf;show some (dec a.1)=_;rw[e1];unfold gS ck at hf;simp only[Bool.and_eq_true,decide_eq_true_iff]at hf;show some (x,y)=_;rw[hf.1,hf.2]
 ·obtain⟨k,hk⟩:=List.getElem?_of_mem hc
  obtain⟨e,_,_,g⟩:=get k c hk;exact g
 ·obtain⟨e,he,e1,_⟩:=get k a ha
  obtain⟨e',he',e2,_⟩:=get (k+1) b hb;have:=r.2.1 k e e' he he';rw[e1]at this;obtain⟨p,hp,e3⟩:=List.mem_map.mp (show e'∈(dz m n F a.1 a.2).map _ from this);rw[<- e3]at e2;obtain⟨z1,z2⟩:=gY e2;have:p=b:=Prod.ext z1 z2;rw[<- this];exact hp
theorem sK{m n:Nat}{F:Int->Int->Bool}{H:Hp}{l:List (aI×V)}{ps:List Pr}(h0:fN m n F)(r:uU ((jy m n F).map fun p=>ck p.1 p.2) (asS m n F) (mU m) l)(fo:ib ((jy m n F).map fun p=>ck p.1 p.2) (asS m n F) (mU m) l)(hl:l.length<900)(h:PrL H l ps):jD m n F ps:=by
 have bU:∀s∈(jy m n F).map fun p=>ck p.1 p.2,s∈U m n:=fun s hs=>by
  obtain⟨p,hp,rfl⟩:=List.mem_map.mp hs;obtain⟨g1,g2,g3,g4,_⟩:=b9.mp (List.mem_filter.mp hp).1;exact cE.mpr ⟨_,_,rfl,g1,g2,g3,g4⟩
 have inU:=iy r (U:=U m n) bU ll;have get:∀(k:Nat) c,(l.map fun e=>dec e.1)[k]? = some c->∃e,l[k]? = some e∧e.1=ck c.1 c.2:=fun k c hc=>by
  rw[List.getElem?_map]at hc;obtain⟨e,he,rfl⟩:=Option.map_eq_some_iff.mp hc;obtain⟨x,y,e1,g⟩:=cE.mp (inU k e he);exact⟨e,he,by rw[e1];rfl⟩
 have far:∀(k:Nat) c,(l.map fun e=>dec e.1)[k]? = some c->c∈dG m n F:=fun k c hc=>by
  obtain⟨e,he,e1⟩:=get k c hc;cases k with
  | zero =>
   obtain⟨⟨s,r',rfl,hs⟩,_⟩:=r;simp at he;subst he;obtain⟨p,hp,e2⟩:=List.mem_map.mp hs;obtain⟨z1,z2⟩:=gY (e2.trans e1);have:p=c:=Prod.ext z1 z2;rw[<- this];exact(List.mem_filter.mp hp).1
  | succ k =>
   have lt:=(List.getElem?_eq_some_iff.mp he).1;obtain⟨a,ha⟩:∃a,l[k]? = some a:=⟨l[k]'(by omega),by rw[List.getElem?_eq_getElem (by omega)]⟩;have st:=r.2.1 k a e ha he;obtain⟨x,y,e2,_⟩:=cE.mp (inU k a ha);rw[e2]at st;obtain⟨p,hp,e3⟩:=List.mem_map.mp (show e∈(asL m n F x y).map _ from st);rw[<- e3]at e1;obtain⟨z1,z2⟩:=gY e1;have:p=c:=Prod.ext z1 z2;rw[<- this];exact(List.mem_filter.mp hp).1
 refine⟨h0,⟨l.map fun e=>dec e.1,h.cs,?_,?_,fun c hc=>?_,by rw[List.length_map];exact hl,fun k a b ha hb=>?_⟩,l,fo,h.cs⟩
 ·obtain⟨⟨s,r',rfl,hs⟩,_⟩:=r
  obtain⟨p,hp,rfl⟩:=List.mem_map.mp hs;refine⟨p,_,rfl,?_⟩;have:=(List.mem_filter.mp hp).2;simpa only[Bool.or_eq_true,decide_eq_true_iff]using this
 ·obtain⟨_,_,a,ha,hf⟩:=r
  refine⟨dec a.1,by rw[List.getLast?_map,ha];rfl,?_⟩;rw[List.getLast?_eq_getElem?]at ha;obtain⟨x,y,e1,g⟩:=cE.mp (inU _ a ha);rw[e1]at hf ⊢;unfold mU ck at hf;simp only[Bool.or_eq_true,decide_eq_true_iff]at hf;exact hf
 ·obtain⟨k,hk⟩:=List.getElem?_of_mem hc
  exact far k c hk
 ·obtain⟨e,he,e1⟩:=get k a ha
  obtain⟨e',he',e2⟩:=get (k+1) b hb;have:=r.2.1 k e e' he he';rw[e1]at this;obtain⟨p,hp,e3⟩:=List.mem_map.mp (show e'∈(asL m n F a.1 a.2).map _ from this);rw[<- e3]at e2;obtain⟨z1,z2⟩:=gY e2;have:p=b:=Prod.ext z1 z2;rw[<- this];exact(List.mem_filter.mp hp).2
theorem jX{C:List Addr}{H H1:Hp}{r:Addr}{l:List (aI×V)}(hC:∀c∈C,H1 c=none)(x:fZ H1 r l):fZ (kC C H H1) r l:=by
 obtain⟨vs,e,p⟩:=x;refine⟨vs,eM hC e,Paired.mapP p fun a b ⟨t,sv,x1,x2,q,x3,x4⟩=>⟨t,sv,x1,eM hC x2,q,x3,eM hC x4⟩⟩
theorem oU{H H1:Hp}{r:Addr}{l:List (aI×V)}(h:∀b o,H b=some o->(∀z,o≠KnO z)->H1 b=some o)(x:fZ H r l):fZ H1 r l:=by
 obtain⟨vs,e,p⟩:=x;exact⟨vs,h _ _ e (fun z q=>by cases q),Paired.mapP p fun a b ⟨t,sv,x1,x2,q,x3,x4⟩=>⟨t,sv,x1,h _ _ x2 (fun z q=>by cases q),q,x3,h _ _ x4 (fun z q=>by cases q)⟩⟩
end Sk
namespace Sk
open PySem PySem.Spec L2 Sp24 Wk
inductive Dj (m n:Nat) (F:Int->Int->Bool):Int->Int->Prop
 | z:F 0 0=false->Dj m n F 0 0
 | s {i j x y:Int}:Dj m n F i j->((x=i+1∧y=j+1)∨(x=i+1∧y=j)∨(x=i∧y=j+1))->x≤m->y≤n->F x y=false->Dj m n F x y
theorem Dj.box{m n:Nat}{F:Int->Int->Bool}{i j:Int}(h:Dj m n F i j):0≤i∧i≤m∧0≤j∧j≤n∧F i j=false:=by
 induction h with
 | z h=>exact⟨by omega,by omega,by omega,by omega,h⟩
 | s _ st hx hy hf ih=>exact⟨by omega,hx,by omega,hy,hf⟩
theorem Dj.begins{m n:Nat}{F:Int->Int->Bool}{i j:Int}(h:Dj m n F i j):F 0 0=false:=by
 induction h with
 | z h=>exact h
 | s _ _ _ _ _ ih=>exact ih
theorem sj{m n:Nat}{F:Int->Int->Bool}{ps:List Pr}(h:ip m n F ps):Dj m n F m n:=by
 obtain⟨h0,⟨cs,_,⟨r,hr⟩,hl,hb,_,hs⟩,_⟩:=h;have all:∀(k:Nat) c,cs[k]? = some c->Dj m n F c.1 c.2:=by
  intro k
  induction k with
  | zero =>
   intro c hc;rw[hr]at hc;have:(0,0)=c:=by simpa using hc
   rw[<- this];exact .z h0
  | succ k ih =>
   intro c hc;have lt:=(List.getElem?_eq_some_iff.mp hc).1;obtain⟨a,ha⟩:∃a,cs[k]? = some a:=⟨cs[k]'(by omega),by rw[List.getElem?_eq_getElem (by omega)]⟩;have st:=hs k a c ha hc;unfold dz at st;rw[List.mem_filter]at st;obtain⟨g1,g2⟩:=st;simp only[Bool.and_eq_true,decide_eq_true_iff,Bool.not_eq_true',decide_eq_false_iff_not]at g2;have bc:=hb c (List.mem_of_getElem? hc);refine .s (ih a ha) ?_ g2.1 g2.2.1 ?_
   ·simp only[List.mem_cons,List.not_mem_nil,or_false]at g1
    rcases g1 with rfl|rfl|rfl
    ·exact .inl ⟨rfl,rfl⟩
    ·exact .inr (.inl ⟨rfl,rfl⟩)
    ·exact .inr (.inr ⟨rfl,rfl⟩)
   ·cases e:F c.1 c.2 with
    | false=>rfl
    | true=>exact absurd (b9.mpr ⟨bc.1,bc.2.1,bc.2.2.1,bc.2.2.2,e⟩) g2.2.2
 rw[List.getLast?_eq_getElem?]at hl;exact all _ _ hl
theorem j4{m n:Nat}{F:Int->Int->Bool}(h:fN m n F):¬Dj m n F m n:=by
 intro hr;rcases h with h|⟨R,r1,r2,r3⟩
 ·rw[hr.begins]at h
  cases h
 ·have inR:∀{i j:Int},Dj m n F i j->ck i j∈R:=by
   intro i j h
   induction h with
   | z _=>exact r1 _ (by simp)
   | @s i j x y h st hx hy hf ih =>
    refine r2 _ ih (ck x y,.non) (List.mem_map.mpr ⟨(x,y),List.mem_filter.mpr ⟨?_,?_⟩,rfl⟩)
    ·simp only[List.mem_cons,Prod.mk.injEq,List.not_mem_nil,or_false]
     exact st
    ·simp only[Bool.and_eq_true,decide_eq_true_iff,Bool.not_eq_true',decide_eq_false_iff_not]
     refine⟨hx,hy,fun z=>?_⟩;have:=(b9.mp z).2.2.2.2;rw[hf]at this;cases this
  have:=r3 _ (inR hr);unfold gS ck at this;simp at this
end Sk
namespace L2
open PySem PySem.Spec PyProof.Rows
def mn2(m y:Int):Int:=if y<m then y else m
section
variable {prog:Program} {w:World} {A:Around} {E:Value->Shared->Prop} {s:Shared}
end
section
variable {X:Cx}
end
end L2
namespace L2
open PySem PySem.Spec PyProof.Rows
end L2
namespace Sk
open PySem PySem.Spec L2 Sp24 Wk
def mx2(i j:Int):Int:=if j>i then j else i
def Tt(D:Nat->Nat->Int):Nat->Nat->Int
 | 0,0=>D 0 0
 | 0,y+1=>mx2 (D 0 (y+1)) (Tt D 0 y)
 | x+1,0=>mx2 (D (x+1) 0) (Tt D x 0)
 | x+1,y+1=>mx2 (D (x+1) (y+1)) (mn2 (mn2 (Tt D x y) (Tt D x (y+1))) (Tt D (x+1) y))
termination_by x y=>x+y
theorem oj{u v a b:Int}(hb:0<b):mx2 u v*b≤a↔u*b≤a∧v*b≤a:=by
 unfold mx2
 by_cases h:v>u
 ·rw[if_pos h]
  constructor
  ·intro z
   have:u*b≤v*b:=Int.mul_le_mul_of_nonneg_right (by omega) (by omega);exact⟨by omega,z⟩
  ·exact fun z=>z.2
 ·rw[if_neg h]
  constructor
  ·intro z
   have:v*b≤u*b:=Int.mul_le_mul_of_nonneg_right (by omega) (by omega);exact⟨z,by omega⟩
  ·exact fun z=>z.1
theorem rT{u v a b:Int}(hb:0<b):mn2 u v*b≤a↔u*b≤a∨v*b≤a:=by
 unfold mn2
 by_cases h:v<u
 ·rw[if_pos h]
  constructor
  ·exact fun z=>.inr z
  ·rintro(z|z)
   ·have:v*b≤u*b:=Int.mul_le_mul_of_nonneg_right (by omega) (by omega)
    omega
   ·exact z
 ·rw[if_neg h]
  constructor
  ·exact fun z=>.inl z
  ·rintro(z|z)
   ·exact z
   ·have:u*b≤v*b:=Int.mul_le_mul_of_nonneg_right (by omega) (by omega)
    omega
theorem rk{m n:Nat}{F:Int->Int->Bool}{D:Nat->Nat->Int}{a b:Int}(hb:0<b)(hF:∀x y:Nat,x≤m->y≤n->(F x y=false↔D x y*b≤a)):∀(k x y:Nat),x+y=k->x≤m->y≤n->(Dj m n F x y↔Tt D x y*b≤a):=by
 intro k
 induction k using Nat.strongRecOn with
 | ind k ih =>
  intro x y hk hx hy;have fw:Dj m n F x y->F x y=false:=fun h=>h.box.2.2.2.2
  match x,y,hk,hx,hy,fw with
  | 0,0,hk,hx,hy,fw =>
   rw[Tt,<- hF 0 0 hx hy];exact⟨fw,fun h=>.z h⟩
  | 0,y+1,hk,hx,hy,fw =>
   rw[Tt,oj hb,<- hF 0 (y+1) hx hy,<- ih y (by omega) 0 y (by omega) hx (by omega)];constructor
   ·intro h
    refine⟨fw h,?_⟩;generalize e1:((0:Nat):Int)=u at h;generalize e2:((y+1:Nat):Int)=v at h;cases h with
    | z _=>omega
    | @s i j _ _ h st _ _ _ =>
     have:=h.box;have hi:i=((0:Nat):Int):=by omega
     have hj:j=((y:Nat):Int):=by omega
     rw[hi,hj]at h;exact e1▸h
   ·rintro⟨h1,h2⟩
    exact .s h2 (.inr (.inr ⟨rfl,by omega⟩)) (by omega) (by omega) h1
  | x+1,0,hk,hx,hy,fw =>
   rw[Tt,oj hb,<- hF (x+1) 0 hx hy,<- ih x (by omega) x 0 (by omega) (by omega) hy];constructor
   ·intro h
    refine⟨fw h,?_⟩;generalize e1:((0:Nat):Int)=v at h;generalize e2:((x+1:Nat):Int)=u at h;cases h with
    | z _=>omega
    | @s i j _ _ h st _ _ _ =>
     have:=h.box;have hi:i=((x:Nat):Int):=by omega
     have hj:j=((0:Nat):Int):=by omega
     rw[hi,hj]at h;exact e1▸h
   ·rintro⟨h1,h2⟩
    exact .s h2 (.inr (.inl ⟨by omega,rfl⟩)) (by omega) (by omega) h1
  | x+1,y+1,hk,hx,hy,fw =>
   rw[Tt,oj hb,rT hb,rT hb,<- hF (x+1) (y+1) hx hy,<- ih (x+y) (by omega) x y rfl (by omega) (by omega),<- ih (x+(y+1)) (by omega) x (y+1) rfl (by omega) hy,<- ih (x+1+y) (by omega) (x+1) y rfl hx (by omega)];constructor
   ·intro h
    refine⟨fw h,?_⟩;generalize e1:((x+1:Nat):Int)=u at h;generalize e2:((y+1:Nat):Int)=v at h;cases h with
    | z _=>omega
    | @s i j _ _ h st _ _ _ =>
     rcases st with⟨s1,s2⟩|⟨s1,s2⟩|⟨s1,s2⟩
     ·refine .inl (.inl ?_)
      have hi:i=((x:Nat):Int):=by omega
      have hj:j=((y:Nat):Int):=by omega
      rw[hi,hj]at h;exact h
     ·refine .inl (.inr ?_)
      have hi:i=((x:Nat):Int):=by omega
      have hj:j=((y+1:Nat):Int):=by omega
      rw[hi,hj]at h;exact e2▸h
     ·refine .inr ?_
      have hi:i=((x+1:Nat):Int):=by omega
      have hj:j=((y:Nat):Int):=by omega
      rw[hi,hj]at h;exact e1▸h
   ·rintro⟨h1,(h2|h2)|h2⟩
    ·exact .s h2 (.inl ⟨by omega,by omega⟩) (by omega) (by omega) h1
    ·exact .s h2 (.inr (.inl ⟨by omega,rfl⟩)) (by omega) (by omega) h1
    ·exact .s h2 (.inr (.inr ⟨rfl,by omega⟩)) (by omega) (by omega) h1
end Sk
namespace L2
open PySem PySem.Spec PyProof.Rows
section
variable {prog:Program} {w:World} {A:Around} {E:Value->Shared->Prop} {s:Shared}
end
section
variable {X:Cx} {o:Expr} {lo hi:Option Expr} {to:TE} {tl th:TO} {pos p2:Pos}
end
end L2
namespace L2
open PySem PySem.Spec PyProof.Rows
section
variable {X:Cx}
inductive Ek (x:V) (y:V) (H:Hp) (Q:VK):Prop
 | mk:∀l b xs zs,(x = .ref l)->(y = .ref b)->(H l=some (.tup xs))->(H b=some (.tup zs))->((xs≠[]∧zs≠[]))->(xs.length+zs.length≤sizeLine)->(∀p H2,Same H H2->H2 p=some (.tup (xs++zs))->H p=none->Q (.ref p) H2)->Ek x y H Q
theorem rM:OpR X (binaryOp .Add) Ek:=by
 intro pins s σ H x y v u Q I rx ry h;obtain⟨l,b,xs,zs,rfl,rfl,hH,hB,⟨h1,h2⟩,hz,q⟩:=h;cases rx;cases ry;obtain⟨z,its,r,⟨⟨cls,dd,data,sl⟩,ho,hc,n,hd⟩⟩:=I.hok _ _ hH;obtain⟨z2,its2,r2,⟨⟨cls2,dd2,data2,sl2⟩,ho2,hc2,n2,hd2⟩⟩:=I.hok _ _ hB;simp only at hc hd hc2 hd2;subst hc hd hc2 hd2;have l1:=r.length;have l2:=r2.length;have n1:its≠[]:=fun e=>h1 (List.eq_nil_of_length_eq_zero (by rw[l1,e];rfl));have n2':its2≠[]:=fun e=>h2 (List.eq_nil_of_length_eq_zero (by rw[l2,e];rfl));have e:its.toArray++its2.toArray=(its++its2).toArray:=by simp
 refine concat_meets ⟨_,ho,rfl⟩ ⟨_,ho2,rfl⟩ noFill_tuple_add seq_tuple_add PySem.F.slot_tuple_add PySem.F.entry_tuple_add (PySem.F.args_tuple_add_2 _ _)
  (tuple_addW2 l b its.toArray its2.toArray n n2 dd dd2 sl sl2 (by simpa using n1) (by simpa using n2') (by rw[List.size_toArray,List.size_toArray];omega)) ⟨ho,ho2,?_⟩
 rw[e];have hf:H s.heap.objs.size=none:=I.fresh;refine⟨.ref s.heap.objs.size,upd H s.heap.objs.size (.tup (xs++zs)),I.laid (t':=s.toks) (fun b u e=>Heap.get?_push_of_some _ e) (Nat.le_refl _) ?_,rfl,q _ _ (Same.new hf) upd_same hf⟩;exact⟨by rw[List.length_append];exact hz,its++its2,r.append r2,IsTup.new _ _⟩
end
end L2
namespace L2
open PySem PySem.Spec PyProof.Rows
section
variable {X:Cx}
end
end L2
namespace L2
open PySem PySem.Spec PyProof.Rows
section
variable {X:Cx}
end
end L2
namespace L2
open PySem PySem.Spec PyProof.Rows
section
variable {X:Cx}
end
end L2
namespace L2
open PySem PySem.Spec PyProof.Rows
section
variable {M:Model} {A:Around} {E:Value->Shared->Prop} {s:Shared}
end
end L2
namespace L2
open PySem PySem.Spec PyProof.Rows
section
variable {P:Program} {w:World} {K:W.Frag} {mg:Str->Option Value} {base:Heap} {N:List Str} {qual:Str} {scope:Scope} {f:Addr} {cdv:Value} {A:Around} {outer:List Env} {s₀:Shared} {H₀:Hp} {E:XK}
end
end L2
namespace L2
open PySem PySem.Spec PyProof.Rows
section
variable {X:Cx} {scope:Scope} {cl:List (Str×Addr)} {x:Str} {fv:List (Str×Nat)} {elt iter:Expr} {px pos:Pos} {te:TE}
end
section
variable {P:Program} {w:World} {K:W.Frag} {mg:Str->Option Value} {base:Heap} {N:List Str} {qual:Str} {scope':Scope} {f:Addr} {cdv:Value} {A:Around} {outer:List Env} {s₀:Shared} {H₀:Hp} {E:XK}
variable {scope:Scope} {cl:List (Str×Addr)} {x:Str} {fv:List (Str×Nat)} {elt iter:Expr} {px pos:Pos} {te:TE}
end
end L2
namespace L2
open PySem PySem.Spec PyProof.Rows
end L2
namespace Hd
open PySem PySem.W PySem.Spec L2
def uh(o:Obj):Bool:=match o.data with
 | .freed=>false
 | _=>true
def qg:Nat->List Obj->Frag
 | _,[]=>[]
 | n,a::r=>bif uh a then (n,a)::qg (n+1) r else qg (n+1) r
def frag(h:Heap):Frag:=qg 0 h.objs.toList
def fnFact(K:Frag)(x:Str):Option (Arguments×List Stmt×Scope×Value):=match nsIn K mainGlobals x with
 | some (some (.ref f))=>(match K.lookup f with
  | some ⟨_,_,.func fd,_⟩=>(match fd.body,fd.closure with
   | .stmts b,[]=>bif (fd.name == x && (fd.qualname == x && (Nat.beq fd.globals mainGlobals && (Nat.beq fd.builtins builtinsNs && codeIn K fd.code x)))) then some (fd.params,b,fd.scope,fd.defaults) else none
   | _,_=>none)
  | _=>none)
 | _=>none
theorem dE{K:Frag}{x:Str}{a:Arguments}{b:List Stmt}{sc:Scope}{dv:Value}(e:fnFact K x=some (a,b,sc,dv)) :
  ∃(f:Addr) (oc:Value) (od:Option Addr) (kV doc pm:Value) (an:Option Addr) (cdv ct:Value) (osl:Array (Option Value)),
   nsIn K mainGlobals x=some (some (.ref f))∧K.lookup f=some ⟨oc,od,.func (fnOf x x a b sc dv kV doc pm an cdv ct),osl⟩∧codeIn K cdv x=true∧keepIn K (.ref f)=true:=by
 unfold fnFact at e
 split at e
 ·rename_i f hf
  split at e
  ·rename_i oc od fd osl hl
   split at e
   ·rename_i b' hb hc
    cases hq:(fd.name == x && (fd.qualname == x && (Nat.beq fd.globals mainGlobals && (Nat.beq fd.builtins builtinsNs && codeIn K fd.code x)))) with
    | false=>rw[hq]at e;cases e
    | true =>
     rw[hq]at e;simp only[Bool.and_eq_true]at hq;obtain⟨h1,h2,h3,h4,h5⟩:=hq
     replace h1:=eq_of_beq h1
     replace h2:=eq_of_beq h2
     replace h3:=Nat.eq_of_beq_eq_true h3
     replace h4:=Nat.eq_of_beq_eq_true h4
     simp only[cond_true,Option.some.injEq,Prod.mk.injEq]at e;obtain⟨e1,e2,e3,e4⟩:=e;obtain⟨n,qn,ps,bd,s,gl,cl,df,kw,dc,pm,an,cd,ct,bl⟩:=fd;simp only at h1 h2 h3 h4 h5 e1 e2 e3 e4 hb hc;subst h1 h2 h3 h4 e1 e2 e3 e4 hb hc;refine⟨f,oc,od,kw,dc,pm,an,cd,ct,osl,hf,hl,h5,?_⟩;unfold keepIn;dsimp only;rw[hl]
   ·cases e
  ·cases e
 ·cases e
theorem df_of{K:Frag}{mg:Str->Option Value}{h:Heap}{x:Str}{st:Stmt}(X:K.In h)(G:h.Ns mainGlobals mg)(e:fnFact K x=some (aU st,aH st,af st,.none)):Df K mg x st:=by
 obtain⟨f,oc,od,kV,doc,pm,an,cdv,ct,osl,h1,h2,h3,h4⟩:=dE e;exact xC X G h1 h2 h3 h4
def pM:Value->V
 | .none=>.non
 | .bool b=>.bl b
 | .int i _=>.int i
 | .str x _=>.str x
 | .bytes b _=>.byt b
 | .float b _=>.flt b
 | .ref a=>.ref a
 | .type n=>.ty n
 | _=>.ty "no plain value"
def gK:Value->Bool
 | .ellipsis | .notImplemented | .builtin _=>false
 | _=>true
theorem qO:∀{v:Value},gK v=true->aT (pM v) v
 | .none,_=>rfl
 | .bool _,_=>rfl
 | .int _ t,_=>⟨t,rfl⟩
 | .str _ t,_=>⟨t,rfl⟩
 | .bytes _ t,_=>⟨t,rfl⟩
 | .float _ t,_=>⟨t,rfl⟩
 | .ref _,_=>rfl
 | .type _,_=>rfl
 | .ellipsis,h=>by cases h
 | .notImplemented,h=>by cases h
 | .builtin _,h=>by cases h
theorem gI:∀{l:List Value},l.all gK=true->aR (l.map pM) l
 | [],_=>.nil
 | _::_,h=>by
  rw[List.all_cons,Bool.and_eq_true]at h;exact .cons (qO h.1) (gI h.2)
def rh(K:Frag)(v:Value):Option (List V):=match v with
 | .ref a=>(match K.lookup a with
  | some ⟨_,_,.seq its _,_⟩=>bif its.toList.all gK then some (its.toList.map pM) else none
  | _=>none)
 | _=>none
theorem iU{K:Frag}{v:Value}{ds:List V}(e:rh K v=some ds):∃(a:Addr) (o:Obj) (its:List Value) (n:Nat),v = .ref a∧K.lookup a=some o∧o.data = .seq its.toArray n∧aR ds its:=by
 unfold rh at e
 split at e
 ·rename_i a
  split at e
  ·rename_i oc od its n osl hl
   cases hq:its.toList.all gK with
   | false=>rw[hq]at e;cases e
   | true =>
    rw[hq]at e;cases e;exact⟨a,_,its.toList,n,rfl,hl,rfl,gI hq⟩
  ·cases e
 ·cases e
def fnFactD(K:Frag)(x:Str):Option (Arguments×List Stmt×Scope×List V):=match fnFact K x with
 | some (a,b,s,dv)=>(match rh K dv with
  | some ds=>some (a,b,s,ds)
  | none=>none)
 | none=>none
theorem dfd_of{K:Frag}{mg:Str->Option Value}{h:Heap}{x:Str}{st:Stmt}{ds:List V}(X:K.In h)(G:h.Ns mainGlobals mg)(e:fnFactD K x=some (aU st,aH st,af st,ds)):EH K mg x st ds:=by
 unfold fnFactD at e
 split at e
 ·rename_i a b s dv hf
  split at e
  ·rename_i ds' hs
   simp only[Option.some.injEq,Prod.mk.injEq]at e;obtain⟨e1,e2,e3,e4⟩:=e;subst e1 e2 e3 e4;obtain⟨f,oc,od,kV,doc,pm,an,cdv,ct,osl,h1,h2,h3,h4⟩:=dE hf;obtain⟨T,oT,its,n,rfl,hl,hd,hv⟩:=iU hs;exact wx X G h1 h2 h3 h4 hl hd hv
  ·cases e
 ·cases e
def cls(K:Frag)(x:Str):Addr:=match nsIn K mainGlobals x with
 | some (some (.ref C))=>C
 | _=>0
def excFact(K:Frag)(x:Str):Bool:=match nsIn K mainGlobals x with
 | some (some (.ref C))=>excIn K C [.type "ValueError",.type "Exception",.type "BaseException",.type "object"] "ValueError.__new__"
 | _=>false
theorem exc_of{K:Frag}{mg:Str->Option Value}{h:Heap}{x:Str}(X:K.In h)(G:h.Ns mainGlobals mg)(e:excFact K x=true):Cs K mg x (cls K x):=by
 unfold excFact at e
 split at e
 ·rename_i C hC
  have:cls K x=C:=by unfold cls;rw[hC]
  rw[this];exact wn X G hC e
 ·cases e
def tupFact(K:Frag)(x:Str):Option (List V):=match nsIn K mainGlobals x with
 | some (some (.ref a))=>(match K.lookup a with
  | some ⟨.type "tuple",_,.seq its _,_⟩=>bif its.toList.all gK then some (its.toList.map pM) else none
  | _=>none)
 | _=>none
theorem tup_of{K:Frag}{x:Str}{ds:List V}(e:tupFact K x=some ds):∃(a:Addr) (od:Option Addr) (its:List Value) (n:Nat) (osl:Array (Option Value)),nsIn K mainGlobals x=some (some (.ref a))∧K.lookup a=some ⟨.type "tuple",od,.seq its.toArray n,osl⟩∧aR ds its:=by
 unfold tupFact at e
 split at e
 ·rename_i a ha
  split at e
  ·rename_i od its n osl hl
   cases hq:its.toList.all gK with
   | false=>rw[hq]at e;cases e
   | true =>
    rw[hq]at e;cases e;exact⟨a,od,its.toList,n,osl,ha,hl,gI hq⟩
  ·cases e
 ·cases e
def noFact(K:Frag)(x:Str):Bool:=match nsIn K mainGlobals x with
 | some none=>true
 | _=>false
theorem no_of{K:Frag}{x:Str}(e:noFact K x=true):nsIn K mainGlobals x=some none:=by
 unfold noFact at e
 split at e
 ·rename_i h
  exact h
 ·cases e
theorem at_map{α β:Type}{f g:α->β}{l:List α}(e:l.map f=l.map g)(i:Nat){a:α}(h:l[i]? = some a):f a=g a:=by
 have q:=congrArg (fun l:List β=>l[i]?) e;simp only[List.getElem?_map,h,Option.map_some,Option.some.injEq]at q;exact q
theorem at_all{α:Type}{f:α->Bool}{l:List α}(e:l.all f=true)(i:Nat){a:α}(h:l[i]? = some a):f a=true :=
 List.all_eq_true.mp e a (List.mem_of_getElem? h)
end Hd
namespace Hd
open PySem PySem.W PySem.Spec L2
theorem vals_sz{ds:List V}{its:List Value}(u:aR ds its)(h:ds.length≤100):its.toArray.size≤100:=by
 rw[List.size_toArray,<- u.length];exact h
end Hd
namespace L2
open PySem PySem.Spec PyProof.Rows
end L2
namespace Hd
open PySem PySem.W PySem.Spec L2
theorem pair2{α β:Type _}{a a':α}{b b':β}(h:a=a')(g:b=b'):(a,b)=(a',b'):=by rw[h,g]
end Hd
namespace L2
open PySem PySem.Spec PyProof.Rows PySem.W
theorem qm{P:Program}{w:World}{K:W.Frag}{mg mb:Str->Option Value}{k:Nat}{fa a:Addr}{fd:FuncData}{x:Str}{sp:Sp}{s₁:Shared}{vs:List Value}{ns:List Int}{tabs:List Addr}
  (KX:K.In s₁.heap) (hKt:∀p∈tabs,K.lookup p=none) (hT:∀p∈tabs,s₁.heap.get? p=some (tabObj #[])) (hTc:∀p∈tabs,isCodeTable s₁.heap p)
  (hns:s₁.heap.Ns mainGlobals mg) (hb:s₁.heap.Ns builtinsNs mb) (hbb:∀x:Str,x≠"__name__"->mb x=bootBuiltins x) (hlim:s₁.heap.NoLimit) (hg:s₁.gens = #[])
  (ha:s₁.heap.get? a=some { cls:=.type "list",data:=.seq vs.toArray }) (hi:IntsAre vs ns) (hl:ns.length≤sizeLine) (hr:yP k callerA)
  (F:∀base:Heap,K.In base->base.Ns mainGlobals mg->An P w K mg base CX0 k fa fd [x] sp) (hbind:∀(s:Shared) (u:Value),BindsTo s fd ⟨[u],[]⟩ [(x,u)])
  (hsp:∀H:Hp,SqL K H a (ns.map V.int)->(∀p∈tabs,H p=some (.tbl #[]))->sp [.ref a] H (fun v _=>v = .bl true) fun _ _ _=>False) :
  codeAny (model P w) callerA (.call (.ref fa) ⟨[.ref a],[]⟩) (fun r s'=>r = .ok (.ret (.bool true))∧OldK s₁.heap s'.heap∧s'.os=s₁.os∧AllBare s'.gens) s₁:=by
 have rv:=jS hi;have lenV:=hi.length;have atab:a∉tabs:=fun z=>by rw[hT a z]at ha;cases ha
 have core:∀H:Hp,SqL K H a (ns.map V.int)->(∀p∈tabs,H p=some (.tbl #[]))->HOk P w H s₁.heap->(∀b,H b≠none->b∈tabs∨(b=a∧K.lookup a=none∧∃o xs,H b=some (.frz o (.lst xs)))) ->
   codeAny (model P w) callerA (.call (.ref fa) ⟨[.ref a],[]⟩) (fun r s'=>r = .ok (.ret (.bool true))∧OldK s₁.heap s'.heap∧s'.os=s₁.os∧AllBare s'.gens) s₁:=by
  intro H hS hTb hok hA;have base_of:∀{b:Addr} {o:Obj},s₁.heap.get? b=some o->H b=none->(kS s₁.heap H).get? b=some o:=fun e n=>sk e n;have noA:∀{b:Addr} {o:Obj} {es:Array DictEntry} {ep:Nat},s₁.heap.get? b=some o->o.data = .dict es ep->H b=none:=fun {b o es ep} e d=>by
   cases q:H b with
   | none=>rfl
   | some u =>
    rcases hA b (by rw[q];simp) with z|⟨e',_⟩
    ·rw[hT b z]at e;cases e
     have d':Data.fields _=Data.dict es ep:=d;cases d'
    ·subst e'
     rw[ha]at e;cases e;have d':Data.seq vs.toArray _=Data.dict es ep:=d;cases d'
  have nsK:∀{b:Addr} {m:Str->Option Value},s₁.heap.Ns b m->(kS s₁.heap H).Ns b m:=fun {b m} ⟨o,es,ep,e,d,r⟩=>⟨o,es,ep,base_of e (noA e d),d,r⟩;have hKb:K.In (kS s₁.heap H):=fun b o e=>base_of (KX b o e) (by
   cases q:H b with
   | none=>rfl
   | some u =>
    rcases hA b (by rw[q];simp) with z|⟨e',hk,_⟩
    ·rw[hKt b z]at e;cases e
    ·subst e'
     rw[hk]at e;cases e)
  have hM:Mod K mg (kS s₁.heap H):=⟨hKb,nsK hns,⟨mb,nsK hb,hbb⟩,let ⟨mc,h1,h2⟩:=hlim;⟨mc,nsK h1,h2⟩⟩;have e0:DX P w K mg (kS s₁.heap H) callerA [] s₁ H:=⟨rfl,hM,fun b o e=>t8 e,Nat.le_of_eq (qu _ _),trivial,fun b hb=>absurd (show b∈([]:List Addr) from hb) (by simp),hok,.of_eq hg⟩;refine codeAny_mono ((F _ hKb (nsK hns)).run callerA [] s₁ H ⟨[.ref a],[]⟩ [.ref a] [.ref a] _ _ hr e0 (hbind s₁ (.ref a)) (.cons rfl .nil) (hsp H hS hTb)) fun r s' h=>?_;cases r with
  | error e=>exact False.elim h
  | ok fl =>
   cases fl with
   | next=>exact False.elim h
   | brk=>exact False.elim h
   | cont=>exact False.elim h
   | ret u =>
    obtain⟨v,H',os,bare,un,hok',r',q⟩:=h;have q':v = .bl true:=q;subst q';obtain rfl:u=Value.bool true:=r';refine⟨rfl,⟨fun b o e=>?_,fun b o e=>un.there b o e (by simp)⟩,os,bare⟩;cases q:H b with
    | none=>exact .inl (un.keep b o e q (by intro z;exact absurd (show b∈([]:List Addr) from z) (by simp)) (by simp))
    | some u =>
     rcases hA b (by rw[q];simp) with z|⟨_,_,ob,xs,z⟩
     ·obtain⟨more,q2⟩:=un.tbls b #[] (hTb b z)
      have e2:s'.heap.get? b=some { cls:=.none,data:=.fields (#[]++more) }:=hok' b _ q2;rw[hT b z]at e;cases e;exact .inr (.inl ⟨hTc b z,rfl,#[],more,rfl,e2⟩)
     ·have z2:=un.frzs b ob _ z
      obtain⟨e1,_⟩:=hok b _ z;obtain⟨e2,_⟩:=hok' b _ z2;rw[e]at e1;cases e1;exact .inl e2
 let Ht:Hp:=fun b=>if b∈tabs then some (.tbl #[]) else none
 have tb:∀p∈tabs,Ht p=some (.tbl #[]):=fun p hp=>if_pos hp;have tn:∀b,b∉tabs->Ht b=none:=fun b hb=>if_neg hb;have tok:HOk P w Ht s₁.heap:=fun b u e=>by
  by_cases z:b∈tabs
  ·rw[tb b z]at e;cases e
   exact hT b z
  ·rw[tn b z]at e;cases e
 cases hk:K.lookup a with
 | some o =>
  have e:=KX a o hk;rw[ha]at e;cases e;refine core Ht (.inr ⟨_,vs.toArray,_,hk,rfl,rfl,rfl,by rw[List.size_toArray,lenV];exact hl,by simpa using rv⟩) tb tok fun b z=>?_
  by_cases hb:b∈tabs
  ·exact .inl hb
  ·exact absurd (tn b hb) z
 | none =>
  have nb:Ht a=none:=tn a atab;have sm:∀b o,Ht b=some o->upd Ht a (.frz { cls:=.type "list",data:=.seq vs.toArray } (.lst (ns.map V.int))) b=some o:=fun b o e=>by
   rw[aN (fun z=>by rw[z,nb]at e;cases e)];exact e
  refine core (upd Ht a (.frz { cls:=.type "list",data:=.seq vs.toArray } (.lst (ns.map V.int)))) (.inl (.inr ⟨{ cls:=.type "list",data:=.seq vs.toArray },upd_same⟩)) (fun p hp=>sm p _ (tb p hp)) (fun b u z=>?_) fun b z=>?_
  ·by_cases hb:b=a
   ·subst hb
    rw[upd_same]at z;cases z;exact⟨ha,by rw[List.length_map];exact hl,vs,_,rv,ha⟩
   ·rw[aN hb]at z
    exact(tok b u z).stay (fun _ _ _ q=>q) (fun d q=>sm d _ q) fun d xs q=>sm d _ q
  ·by_cases hb:b=a
   ·exact .inr ⟨hb,hk,_,_,by rw[hb];exact upd_same⟩
   ·rw[aN hb]at z
    by_cases ht:b∈tabs
    ·exact .inl ht
    ·exact absurd (tn b ht) z
def nQ(K:W.Frag)(tabs:List Addr):Sp:=fun vs H Q _=>∃(a:Addr) (ns:List Int),vs = [.ref a]∧SqL K H a (ns.map V.int)∧ns.length≤63∧(∀p∈tabs,H p=some (.tbl #[]))∧∀H',Q (.bl true) H'
end L2
namespace Hd
open PySem PySem.W PySem.Spec L2
def vw(o:Obj):Bool:=match o with
 | ⟨.none,_,.fields _,_⟩=>true
 | _=>false
def strip(K:Frag):Frag:=K.filter fun p=>!vw p.2
theorem l5:∀(l:List Obj) (n:Nat) (p:Nat×Obj),p∈qg n l->n≤p.1∧l[p.1 - n]? = some p.2∧uh p.2=true
 | [],_,_,e=>by cases e
 | x::r,n,p,e=>by
  have up:p∈qg (n+1) r->n≤p.1∧(x::r)[p.1 - n]? = some p.2∧uh p.2=true:=fun e=>by
   obtain⟨h1,h2,h3⟩:=l5 r (n+1) p e;refine⟨by omega,?_,h3⟩;have:p.1 - n=(p.1 - (n+1))+1:=by omega
   rw[this];exact h2
  unfold qg at e;cases hl:uh x with
  | false =>
   rw[hl]at e;exact up e
  | true =>
   rw[hl,cond_true]at e;rcases List.mem_cons.mp e with rfl|e
   ·exact⟨Nat.le_refl _,by simp,hl⟩
   ·exact up e
theorem sE(h:Heap):∀p∈frag h,h.get? p.1=some p.2:=fun p hp=>by
 obtain⟨_,q,hl⟩:=l5 _ _ _ hp;have q:h.objs[p.1]? = some p.2:=by simpa using q
 unfold Heap.get?;rw[q];obtain⟨a,o⟩:=p;obtain⟨c,d,dt,sl⟩:=o;cases dt <;> first|rfl|cases hl
theorem dN{K:Frag}{b:Addr}{o:Obj}(e:K.lookup b=some o):(b,o)∈K:=by
 induction K with
 | nil=>cases e
 | cons x r ih =>
  rw[List.lookup_cons]at e;cases hb:b == x.1 with
  | true =>
   rw[hb]at e;cases e;rw[beq_iff_eq.mp hb];exact List.mem_cons_self
  | false =>
   rw[hb]at e;exact List.mem_cons_of_mem _ (ih e)
theorem qY{K:Frag}{h:Heap}(k:∀p∈K,h.get? p.1=some p.2):(strip K).In h:=fun b o e=>k (b,o) (List.mem_filter.mp (dN e)).1
theorem pR{K:Frag}{b:Addr}{o:Obj}(e:(strip K).lookup b=some o):vw o=false:=by
 have:=(List.mem_filter.mp (dN e)).2;simpa using this
def hookT{α:Type}(facts:Frag->α)(val:α):Hook :=
 ⟨α,fun s=>facts (frag s.heap),fun _=>val,fun _ h=>∃K:Frag,(∀p∈K,h.get? p.1=some p.2)∧facts K=val,fun _ s e=>⟨_,sE s.heap,e⟩,fun _ _ _ ⟨K,hi,e⟩ k=>⟨K,fun p hp=>k _ _ (hi p hp),e⟩⟩
def lJ(K:Frag)(x:Str):Option (Addr×Addr):=match nsIn (strip K) mainGlobals x with
 | some (some (.ref f))=>(match (strip K).lookup f with
  | some ⟨_,_,.func fd,_⟩=>(match fd.code with
   | .ref c=>(match (strip K).lookup c with
    | some ⟨.type "code",_,.fields vs,_⟩=>(match (vs[11]? : Option Value),vs.getD 18 .none,vs.getD 7 .none,vs.getD 9 .none,vs.getD 10 .none with
     | some (.ref p),.str _ _,.int _ _,.bool _,.int _ _=>(match K.lookup p with
      | some ⟨.none,none,.fields ps,sl⟩=>bif (ps.toList.isEmpty && (sl.toList.isEmpty && !(Nat.beq c p))) then some (c,p) else none
      | _=>none)
     | _,_,_,_,_=>none)
    | _=>none)
   | _=>none)
  | _=>none)
 | _=>none
def tabFact(K:Frag)(x:Str):Bool:=(lJ K x).isSome
def tabP(K:Frag)(x:Str):Addr:=match lJ K x with
 | some q=>q.2
 | none=>0
theorem fP{K:Frag}{x:Str}{c p:Addr}(e:lJ K x=some (c,p)):∃f oc od fd sl,nsIn (strip K) mainGlobals x=some (some (.ref f))∧(strip K).lookup f=some ⟨oc,od,.func fd,sl⟩∧fd.code = .ref c∧gF (strip K) c p∧K.lookup p=some (tabObj #[]):=by
 unfold lJ at e
 split at e
 ·rename_i f hf
  split at e
  ·rename_i oc od fd sl hl
   split at e
   ·rename_i c' hc
    split at e
    ·rename_i od2 vs sl2 hl2
     split at e
     ·rename_i p' st tt i1 t1 b1 i2 t2 h11 h18 h7 h9 h10
      split at e
      ·rename_i ps sl3 hl3
       cases hq:(ps.toList.isEmpty && (sl3.toList.isEmpty && !(Nat.beq c' p'))) with
       | false=>rw[hq]at e;cases e
       | true =>
        rw[hq]at e;simp only[cond_true,Option.some.injEq,Prod.mk.injEq]at e;obtain⟨rfl,rfl⟩:=e;simp only[Bool.and_eq_true,List.isEmpty_iff,Bool.not_eq_true']at hq;obtain⟨q1,q2,q3⟩:=hq;have q1:ps = #[]:=by simpa using q1
        have q2:sl3 = #[]:=by simpa using q2
        subst q1 q2;refine⟨f,oc,od,fd,sl,hf,hl,hc,⟨_,vs,st,tt,i1,t1,b1,i2,t2,hl2,rfl,rfl,h11,?_,h18,h7,h9,h10,?_⟩,hl3⟩
        ·rw[Array.getD_eq_getD_getElem?,h11];rfl
        ·intro z
         rw[z,Nat.beq_refl]at q3;cases q3
      ·cases e
     ·cases e
    ·cases e
   ·cases e
  ·cases e
 ·cases e
theorem iP{K:Frag}{x:Str}(t:tabFact K x=true):∃c,lJ K x=some (c,tabP K x):=by
 unfold tabFact at t;obtain⟨⟨c,p⟩,e⟩:=Option.isSome_iff_exists.mp t;refine⟨c,?_⟩;unfold tabP;rw[e]
theorem dft_of{K:Frag}{mg:Str->Option Value}{h:Heap}{x:Str}{st:Stmt}(X:(strip K).In h)(G:h.Ns mainGlobals mg)(e:fnFact (strip K) x=some (aU st,aH st,af st,.none))(t:tabFact K x=true):Ez (strip K) mg x st (tabP K x):=by
 obtain⟨f,oc,od,kV,doc,pm,an,cdv,ct,osl,h1,h2,h3,h4⟩:=dE e;obtain⟨c,ht⟩:=iP t;obtain⟨f',oc',od',fd',sl',g1,g2,g3,g4,_⟩:=fP ht;rw[h1]at g1;cases g1;rw[h2]at g2;cases g2;have g3:cdv = .ref c:=g3;subst g3;exact⟨⟨f,oc,od,kV,doc,pm,an,c,ct,osl,W.mg_of X G h1,h2,h3,h4,g4⟩⟩
theorem dfdt_of{K:Frag}{mg:Str->Option Value}{h:Heap}{x:Str}{st:Stmt}{ds:List V}(X:(strip K).In h)(G:h.Ns mainGlobals mg)(e:fnFactD (strip K) x=some (aU st,aH st,af st,ds))(t:tabFact K x=true):Em (strip K) mg x st ds (tabP K x):=by
 unfold fnFactD at e
 split at e
 ·rename_i a b s dv hf
  split at e
  ·rename_i ds' hs
   simp only[Option.some.injEq,Prod.mk.injEq]at e;obtain⟨e1,e2,e3,e4⟩:=e;subst e1 e2 e3 e4;obtain⟨f,oc,od,kV,doc,pm,an,cdv,ct,osl,h1,h2,h3,h4⟩:=dE hf;obtain⟨T,oT,its,n,rfl,hl,hd,hv⟩:=iU hs;obtain⟨c,ht⟩:=iP t;obtain⟨f',oc',od',fd',sl',g1,g2,g3,g4,_⟩:=fP ht;rw[h1]at g1;cases g1;rw[h2]at g2;cases g2;have g3:cdv = .ref c:=g3;subst g3;exact⟨⟨f,T,oT,n,its,oc,od,kV,doc,pm,an,c,ct,osl,W.mg_of X G h1,h2,h3,h4,hl,hd,hv,g4⟩⟩
  ·cases e
 ·cases e
def apart:List Addr->Bool
 | []=>true
 | a::r=>(r.all fun b=>!(Nat.beq a b)) && apart r
theorem apart_ne:∀{l:List Addr},apart l=true->∀{i j:Nat} {a b:Addr},l[i]? = some a->l[j]? = some b->i<j->a≠b
 | [],_,i,j,a,b,hi,_,_=>by simp at hi
 | x::r,h,i,j,a,b,hi,hj,lt=>by
  unfold apart at h;rw[Bool.and_eq_true]at h;cases j with
  | zero=>omega
  | succ j =>
   have hj:r[j]? = some b:=by simpa using hj
   cases i with
   | zero =>
    have hi:x=a:=by simpa using hi
    subst hi;have:=List.all_eq_true.mp h.1 b (List.mem_of_getElem? hj);rintro rfl;rw[Nat.beq_refl]at this;cases this
   | succ i=>exact apart_ne h.2 (i:=i) (j:=j) (by simpa using hi) hj (by omega)
def bltFact(K:Frag):Bool:=match nsIn K mainGlobals "__builtins__" with
 | some (some (.ref bm))=>(match K.lookup bm with
  | some ⟨.type "module",some d,.plain,_⟩=>!(Nat.beq bm builtinsNs) && (!(Nat.beq bm mainGlobals) && Nat.beq d builtinsNs)
  | _=>false)
 | _=>false
theorem blt_of{K:Frag}{mg:Str->Option Value}{h:Heap}(X:K.In h)(G:h.Ns mainGlobals mg)(t:bltFact K=true):oJ K mg:=by
 unfold bltFact at t
 split at t
 ·rename_i bm hb
  split at t
  ·rename_i d sl hl
   simp only[Bool.and_eq_true,Bool.not_eq_true']at t;obtain⟨t1,t2,t3⟩:=t;have t3:=Nat.eq_of_beq_eq_true t3;subst t3;refine⟨bm,_,W.mg_of X G hb,fun z=>?_,fun z=>?_,hl,rfl,rfl,rfl⟩
   ·rw[z,Nat.beq_refl]at t1;cases t1
   ·rw[z,Nat.beq_refl]at t2;cases t2
  ·cases t
 ·cases t
theorem law_walkT{l:OpenLaw}{k:Nat}{q:Program}{loose:List Str}{XP:(Str->Option Value)->Heap->Prop}{d:DefRec}{α:Type}{facts:Frag->α}{val:α}{names:List Str}(hk:yP k callerA)(hn:l.most=some 63)(hdf:d.params.defaults = [])
  (hnm:∀K,facts K=val->names.all (tabFact K)=true)
  (F:∀(K:Frag),facts K=val->∀(w:World) (mg:Str->Option Value) (fa:Addr) (h:Heap),(strip K).In h->h.Ns mainGlobals mg->mg d.name=some (.ref fa) ->
   ∃fd:FuncData,(∀(s:Shared) (u:Value),BindsTo s fd ⟨[u],[]⟩ [("script",u)])∧∀base:Heap,(strip K).In base->base.Ns mainGlobals mg->An l.prog w (strip K) mg base CX0 k fa fd ["script"] (nQ (strip K) (names.map (tabP K)))) :
  WalkO q loose XP (Hook.says (hookT facts val)) l.row.toRowW d [] (fun f vs=>PySem.call f vs):=by
 refine Att.attach_call hn hdf fun w s₀ s₁ mg mb fa o pm cd doc a vs ns G Y ho hd hcd hmg hobj hints hlen hg=>?_;obtain⟨K,hin,hf⟩:=Y;have KX:=qY hin;obtain⟨fd,hb,hF⟩:=F K hf w mg fa _ KX G.T.g hmg;have ht:∀p∈names.map (tabP K),∃c,gF (strip K) c p∧K.lookup p=some (tabObj #[]):=fun p hp=>by
  obtain⟨x,hx,rfl⟩:=List.mem_map.mp hp;obtain⟨c,e⟩:=iP (List.all_eq_true.mp (hnm K hf) x hx);obtain⟨_,_,_,_,_,_,_,_,g4,g5⟩:=fP e;exact⟨c,g4,g5⟩
 refine qm (tabs:=names.map (tabP K)) KX (fun p hp=>?_) (fun p hp=>?_) (fun p hp=>?_) G.T.g G.T.b G.T.builtins G.T.nolimit hg hobj hints (Nat.le_trans hlen (by decide)) hk hF hb (fun H hS hT=>⟨a,ns,rfl,hS,hlen,hT,fun _=>rfl⟩)
 ·cases e:(strip K).lookup p with
  | none=>rfl
  | some o =>
   have e1:=hin _ (List.mem_filter.mp (dN e)).1;obtain⟨c,_,e2⟩:=ht p hp;have e2:=hin _ (dN e2);have e1:s₁.heap.get? p=some o:=e1;have e2:s₁.heap.get? p=some (tabObj #[]):=e2;rw[e1]at e2;cases e2;cases pR e
 ·obtain⟨c,_,e2⟩:=ht p hp
  exact hin _ (dN e2)
 ·obtain⟨c,C,e2⟩:=ht p hp
  exact((C.hd KX).tab (ps:=#[]) (hin _ (dN e2))).isCodeTable
end Hd
namespace Hd
open PySem PySem.W PySem.Spec L2
end Hd
local macro_rules | `(tactic| walk_at "bt")=>`(tactic| first
 | assumption
 | (apply L2.bits_mul <;> walk_at "bt")
 | (apply L2.bits_add2 <;> walk_at "bt")
 | (apply L2.bits_sub2 <;> walk_at "bt")
 | (apply L2.bits_neg;walk_at "bt")
 | (apply L2.bits_abs;walk_at "bt")
 | exact L2.bits_lit)
local macro_rules | `(tactic| walk_at "bl")=>`(tactic| (apply L2.bits_of_le;(walk_at "bt");decide))
local macro_rules | `(tactic| walk_at "cm")=>`(tactic| first
 | exact L2.CM.l ⟨by decide,by decide⟩
 | exact L2.CM.r ⟨by decide,by decide⟩
 | (apply L2.CM.of;(walk_at "bt");(walk_at "bt");decide))
local macro_rules | `(tactic| walk_at "at")=>`(tactic| first
 | assumption
 | exact L2.upd_same
 | (refine L2.Same.at (by assumption) ?_;walk_at "at")
 | (refine L2.SameT.at (by assumption) ?_;walk_at "at"))
local macro_rules | `(tactic| walk_at "sm")=>`(tactic| first
 | assumption
 | exact L2.Same.rfl'
 | (refine L2.Same.trans ?_ (by assumption);walk_at "sm"))
local macro_rules | `(tactic| walk_at "kn")=>`(tactic| first
 | assumption
 | exact⟨_,.int _⟩|exact⟨_,.bl _⟩|exact⟨_,.str _⟩|exact⟨_,.non⟩
 | exact⟨_,.tup (by walk_at "at")⟩|exact⟨_,.lst (by walk_at "at")⟩|exact⟨_,.dict (by walk_at "at")⟩)
local macro_rules | `(tactic| walk_at "nice")=>`(tactic| first
 | exact L2.nice_int|exact L2.nice_bool|exact L2.nice_tuple|exact L2.nice_list|exact L2.nice_str)
local macro_rules | `(tactic| walk_at "th")=>`(tactic| first
 | assumption
 | exact Sp1.th_flat .non (fun p e=>nomatch e)|exact Sp1.th_flat (.int _) (fun p e=>nomatch e)|exact Sp1.th_flat (.bl _) (fun p e=>nomatch e)|exact Sp1.th_flat (.str _) (fun p e=>nomatch e)
 | exact Sp1.th_lst (by walk_at "at")
 | (refine' Sp1.th_tup ?hat ?hkn;(case hat=>walk_at "at");(case hkn=>(simp only[List.mem_cons,List.not_mem_nil,or_false,forall_eq_or_imp,forall_eq,false_imp_iff,implies_true];(try (first|(walk_at "kn")|(repeat' apply And.intro) <;> walk_at "kn")))))
 )
local macro_rules | `(tactic| walk_at "r1")=>`(tactic| first
 | (refine⟨_,rfl,?_⟩)
 | (refine⟨_,_,rfl,rfl,?_⟩)
 | (refine⟨_,_,rfl,rfl,by walk_at "cm",?_⟩)
 | (refine⟨_,_,rfl,rfl,(by show(0:Int)<_;decide),?_⟩)
 | (refine⟨_,_,rfl,rfl,⟨by decide,by decide⟩,?_⟩)
 | (refine⟨_,_,rfl,rfl,⟨by decide,by decide,by decide⟩,?_⟩)
 | (refine' ⟨_,_,_,_,rfl,rfl,L2.SqT.of ?hat,?hix,?nxt⟩;(case hat=>walk_at "at");(case hix=>exact rfl))
 | (refine' ⟨_,_,_,_,rfl,rfl,L2.SqL.of ?hat,?hix,?nxt⟩;(case hat=>walk_at "at");(case hix=>exact rfl))
 | (refine⟨by walk_at "cm",?_⟩)
 | (refine⟨(by show(0:Int)<_;decide),?_⟩)
 | (refine⟨⟨by decide,by decide⟩,?_⟩)
 | (refine⟨⟨by decide,by decide,by decide⟩,?_⟩)
 | (refine⟨Sp1.sz (by simp),fun _ _ _ _ _=>?_⟩)
 | (refine⟨Sp1.sz (by simp),L2.alloc fun _ _ _ _=>?_⟩)
 | (refine' ⟨_,_,_,_,rfl,rfl,?hat,?hbt,Sp1.sz ?hsz,fun _ _ _ _ _=>?nxt⟩;(case hat=>walk_at "at");(case hbt=>walk_at "at");(case hsz=>simp))
 | (refine' ⟨_,_,_,_,rfl,rfl,?hat,?hbt,Sp1.sz ?hsz,L2.alloc fun _ _ _ _=>?nxt⟩;(case hat=>walk_at "at");(case hbt=>walk_at "at");(case hsz=>simp))
 | (refine' ⟨_,_,rfl,.inl (L2.SqL.of ?hat),?nxt⟩;(case hat=>walk_at "at"))
 | (refine' ⟨_,_,rfl,.inr (L2.SqT.of ?hat),?nxt⟩;(case hat=>walk_at "at"))
 | (refine' L2.alloc fun _ _ _ _=>?nxt))
local macro_rules | `(tactic| walk_at "rd")=>`(tactic| repeat (walk_at "r1"))
namespace K44
open PySem PySem.Spec L2 Mth Sp1 Sp2 Sp11 Sp7 Sp24 Dr Wk Fnc Sk
def top(i:Nat):Stmt:=Challenge.pw_oneleash_k44_whole_hops_shown_both_ways.main.body.getD i (.Pass ⟨0,0,0,0⟩)
def iI:List (Str×Nat):=[(Str.ofString "is_whole",7),(Str.ofString "common_divisor",8),(Str.ofString "plus",10),(Str.ofString "minus",11),(Str.ofString "times",12),(Str.ofString "over",13),(Str.ofString "less",14),(Str.ofString "floor_of",15),(Str.ofString "is_ratio",16),(Str.ofString "sign_of",18),(Str.ofString "look_at_square",34),(Str.ofString "leash_order",35),(Str.ofString "last_of",39),(Str.ofString "far_corners",45),(Str.ofString "begins_fence",47)]
def iH:List (Str×Nat):=[(Str.ofString "ends_fence",48),(Str.ofString "pair_at_corner",49),(Str.ofString "row_to",55),(Str.ofString "seek",56),(Str.ofString "go_free",64),(Str.ofString "fence_freely",65),(Str.ofString "go_on",85),(Str.ofString "go_part",86),(Str.ofString "fence_by",87),(Str.ofString "is_place",89),(Str.ofString "look_at_place",90),(Str.ofString "number_at",91),(Str.ofString "point_at",92),(Str.ofString "step_from",93),(Str.ofString "inner_product",94)]
def iG:List (Str×Nat):=[(Str.ofString "square_between",95),(Str.ofString "square_of",96),(Str.ofString "nearest_part",97),(Str.ofString "least_along",98),(Str.ofString "look_at_way",101),(Str.ofString "hops_aside",103),(Str.ofString "steps_on",105),(Str.ofString "hops_walk",106),(Str.ofString "steps_aside",107),(Str.ofString "hops_fence",108),(Str.ofString "go_hops",109),(Str.ofString "fence_hops",110),(Str.ofString "first_number",112),(Str.ofString "put_in",113),(Str.ofString "square_apart",114)]
def iF:List (Str×Nat):=[(Str.ofString "least_beside",115),(Str.ofString "even_squares",116),(Str.ofString "squares_beside",117),(Str.ofString "stretches_of",118),(Str.ofString "candidates",119),(Str.ofString "fence_at",121),(Str.ofString "_law_pool",124),(Str.ofString "_law_take",125),(Str.ofString "_law_corner",126),(Str.ofString "_law_line",127),(Str.ofString "_law_second",128),(Str.ofString "_law_whole",129),(Str.ofString "_law_shared",130),(Str.ofString "_law_is_fraction",131),(Str.ofString "_law_is_pair",132)]
def iE:List (Str×Nat):=[(Str.ofString "_law_are_pairs",133),(Str.ofString "_law_less",134),(Str.ofString "_law_near",135),(Str.ofString "_law_point",136),(Str.ofString "_law_apart",137),(Str.ofString "_law_square",138),(Str.ofString "_law_least",139),(Str.ofString "_law_goes",140),(Str.ofString "_law_walk_square",141),(Str.ofString "_law_upright",142),(Str.ofString "_law_level",143),(Str.ofString "_law_step",144),(Str.ofString "_law_fence_square",145),(Str.ofString "_law_shown",146),(Str.ofString "law",147)]
def iD:List (Str×Nat×List V):=[(Str.ofString "ratio",9,[.int 1]),(Str.ofString "go",120,[.str "on"]),(Str.ofString "leash",122,[.str "on"])]
def xv:List Str:=[Str.ofString "NoRatio",Str.ofString "NoPlace",Str.ofString "NoSquare",Str.ofString "NoWay"]
def hNo:List Str:=[Str.ofString "abs",Str.ofString "bool",Str.ofString "enumerate",Str.ofString "int",Str.ofString "isinstance",Str.ofString "len",Str.ofString "list",Str.ofString "max",Str.ofString "min",Str.ofString "range",Str.ofString "str",Str.ofString "tuple",Str.ofString "zip"]
def ut:List (Str×List V):=[(Str.ofString "WAYS",[.str "on",.str "part",.str "free",.str "hops"])]
def hTabs:List Str:=[Str.ofString "hops_walk",Str.ofString "hops_fence",Str.ofString "put_in",Str.ofString "leash"]
def hF0(K:W.Frag):List (Option (Arguments×List Stmt×Scope×Value)):=iI.map (fun p=>Hd.fnFact K p.1)
def hG0:List (Option (Arguments×List Stmt×Scope×Value)):=iI.map (fun p=>some (aU (top p.2),aH (top p.2),af (top p.2),.none))
def hF1(K:W.Frag):List (Option (Arguments×List Stmt×Scope×Value)):=iH.map (fun p=>Hd.fnFact K p.1)
def hG1:List (Option (Arguments×List Stmt×Scope×Value)):=iH.map (fun p=>some (aU (top p.2),aH (top p.2),af (top p.2),.none))
def hF2(K:W.Frag):List (Option (Arguments×List Stmt×Scope×Value)):=iG.map (fun p=>Hd.fnFact K p.1)
def hG2:List (Option (Arguments×List Stmt×Scope×Value)):=iG.map (fun p=>some (aU (top p.2),aH (top p.2),af (top p.2),.none))
def hF3(K:W.Frag):List (Option (Arguments×List Stmt×Scope×Value)):=iF.map (fun p=>Hd.fnFact K p.1)
def hG3:List (Option (Arguments×List Stmt×Scope×Value)):=iF.map (fun p=>some (aU (top p.2),aH (top p.2),af (top p.2),.none))
def hF4(K:W.Frag):List (Option (Arguments×List Stmt×Scope×Value)):=iE.map (fun p=>Hd.fnFact K p.1)
def hG4:List (Option (Arguments×List Stmt×Scope×Value)):=iE.map (fun p=>some (aU (top p.2),aH (top p.2),af (top p.2),.none))
def hF5(K:W.Frag):List (Option (Arguments×List Stmt×Scope×List V))×Bool×Bool×List (Option (List V)):=(iD.map (fun p=>Hd.fnFactD K p.1),xv.all (Hd.excFact K),hNo.all (Hd.noFact K),ut.map (fun p=>Hd.tupFact K p.1))
def hG5:List (Option (Arguments×List Stmt×Scope×List V))×Bool×Bool×List (Option (List V)):=(iD.map (fun p=>some (aU (top p.2.1),aH (top p.2.1),af (top p.2.1),p.2.2)),true,true,ut.map (fun p=>some p.2))
def hF6(K0:W.Frag):Bool×Bool×Bool:=(hTabs.all (Hd.tabFact K0),Hd.bltFact (Hd.strip K0),Hd.apart (hTabs.map (Hd.tabP K0)))
def hG6:Bool×Bool×Bool:=(true,true,true)
def hFacts(K:W.Frag):(List (Option (Arguments×List Stmt×Scope×Value)))×(List (Option (Arguments×List Stmt×Scope×Value)))×(List (Option (Arguments×List Stmt×Scope×Value)))×(List (Option (Arguments×List Stmt×Scope×Value)))×(List (Option (Arguments×List Stmt×Scope×Value)))×(List (Option (Arguments×List Stmt×Scope×List V))×Bool×Bool×List (Option (List V)))×(Bool×Bool×Bool):=(hF0 (Hd.strip (K)),hF1 (Hd.strip (K)),hF2 (Hd.strip (K)),hF3 (Hd.strip (K)),hF4 (Hd.strip (K)),hF5 (Hd.strip (K)),hF6 (K))
def hGood:(List (Option (Arguments×List Stmt×Scope×Value)))×(List (Option (Arguments×List Stmt×Scope×Value)))×(List (Option (Arguments×List Stmt×Scope×Value)))×(List (Option (Arguments×List Stmt×Scope×Value)))×(List (Option (Arguments×List Stmt×Scope×Value)))×(List (Option (Arguments×List Stmt×Scope×List V))×Bool×Bool×List (Option (List V)))×(Bool×Bool×Bool):=(hG0,hG1,hG2,hG3,hG4,hG5,hG6)
def hView:Program:=W.view Challenge.pw_oneleash_k44_whole_hops_shown_both_ways [147]
def hLoose:List Str:=[Str.ofString "LeashError",Str.ofString "NoRatio",Str.ofString "NoPlace",Str.ofString "NoWay",Str.ofString "NoSquare",Str.ofString "is_whole",Str.ofString "common_divisor",Str.ofString "ratio",Str.ofString "plus",Str.ofString "minus",Str.ofString "times",Str.ofString "over",Str.ofString "less",Str.ofString "floor_of",Str.ofString "is_ratio",Str.ofString "sign_of",Str.ofString "signed_square",Str.ofString "sign_with_root",Str.ofString "sign_with_roots",Str.ofString "root_order",Str.ofString "floor_root",Str.ofString "own_fraction",Str.ofString "scaled_floor",Str.ofString "below_all",Str.ofString "shared_terms",Str.ofString "fraction_of_terms",Str.ofString "fraction_within",Str.ofString "root_between",Str.ofString "BEGIN",Str.ofString "END",Str.ofString "look_at_square",Str.ofString "leash_order",Str.ofString "reach_of",Str.ofString "part_within",Str.ofString "last_of",Str.ofString "UPRIGHT",Str.ofString "LEVEL",Str.ofString "with_a_stretch",Str.ofString "doors_of",Str.ofString "far_corners",Str.ofString "Field",Str.ofString "begins_fence",Str.ofString "ends_fence",Str.ofString "pair_at_corner",Str.ofString "part_from",Str.ofString "pair_in_door",Str.ofString "place_on",Str.ofString "pairs_on",Str.ofString "row_to",Str.ofString "seek",Str.ofString "is_cell",Str.ofString "steps_through",Str.ofString "pair_within",Str.ofString "free_walk",Str.ofString "steps_along",Str.ofString "free_fence",Str.ofString "go_free",Str.ofString "fence_freely",Str.ofString "gap_between",Str.ofString "steps_down",Str.ofString "steps_over",Str.ofString "steps_back",Str.ofString "steps_from",Str.ofString "pairs_of_bend",Str.ofString "fence_past",Str.ofString "doors_at_begin",Str.ofString "door_out",Str.ofString "pass_through",Str.ofString "doors_reached",Str.ofString "doors_at_end",Str.ofString "may_keep",Str.ofString "pairs_to",Str.ofString "walk_through",Str.ofString "go_by",Str.ofString "go_on",Str.ofString "go_part",Str.ofString "fence_by",Str.ofString "is_place",Str.ofString "look_at_place",Str.ofString "number_at",Str.ofString "point_at",Str.ofString "step_from",Str.ofString "inner_product",Str.ofString "square_between",Str.ofString "square_of",Str.ofString "nearest_part",Str.ofString "least_along",Str.ofString "WAYS",Str.ofString "look_at_way",Str.ofString "hops_aside",Str.ofString "steps_on",Str.ofString "hops_walk",Str.ofString "steps_aside",Str.ofString "hops_fence",Str.ofString "go_hops",Str.ofString "fence_hops",Str.ofString "first_number",Str.ofString "put_in",Str.ofString "square_apart",Str.ofString "least_beside",Str.ofString "even_squares",Str.ofString "squares_beside",Str.ofString "stretches_of",Str.ofString "candidates",Str.ofString "go",Str.ofString "fence_at",Str.ofString "leash",Str.ofString "_law_pool",Str.ofString "_law_take",Str.ofString "_law_corner",Str.ofString "_law_line",Str.ofString "_law_second",Str.ofString "_law_whole",Str.ofString "_law_shared",Str.ofString "_law_is_fraction",Str.ofString "_law_is_pair",Str.ofString "_law_are_pairs",Str.ofString "_law_less",Str.ofString "_law_near",Str.ofString "_law_point",Str.ofString "_law_apart",Str.ofString "_law_square",Str.ofString "_law_least",Str.ofString "_law_goes",Str.ofString "_law_walk_square",Str.ofString "_law_upright",Str.ofString "_law_level",Str.ofString "_law_step",Str.ofString "_law_fence_square",Str.ofString "_law_shown"]
noncomputable def hRunS(w:World):=(W.openEnds treeTable Challenge.pw_oneleash_k44_whole_hops_shown_both_ways w 100000).map (fun s=>W.openSeen hView hLoose (importedModules Challenge.pw_oneleash_k44_whole_hops_shown_both_ways.main.body) (fun _=>true) true s)
noncomputable def hEndS:=some (W.openGood hView hLoose)
theorem hRunS_self:@hRunS = @hRunS:=rfl
theorem hEndS_self:@hEndS = @hEndS:=rfl
set_option maxHeartbeats 0 in
lay_quick K44.hRunS K44.hEndS
name_quick hRunSQ for K44.hRunS by K44.hRunS_self
name_quick hEndSQ for K44.hEndS by K44.hEndS_self
set_option maxHeartbeats 0 in
theorem uu(w:World):W.Fast.hRunSQ w=W.Fast.hEndSQ:=by kernel_rfl
theorem xn(w:World):hRunS w=hEndS:=(congrFun W.Fast.hRunSQ_eq w).trans ((uu w).trans W.Fast.hEndSQ_eq.symm)
noncomputable def hRun0(w:World):=(W.openEnds treeTable Challenge.pw_oneleash_k44_whole_hops_shown_both_ways w 100000).map (fun s=>hF0 (Hd.strip (Hd.frag s.heap)))
noncomputable def hEnd0:=some (hG0)
theorem hRun0_self:@hRun0 = @hRun0:=rfl
theorem hEnd0_self:@hEnd0 = @hEnd0:=rfl
set_option maxHeartbeats 0 in
lay_quick K44.hRun0 K44.hEnd0
name_quick hRun0Q for K44.hRun0 by K44.hRun0_self
name_quick hEnd0Q for K44.hEnd0 by K44.hEnd0_self
set_option maxHeartbeats 0 in
theorem uC(w:World):W.Fast.hRun0Q w=W.Fast.hEnd0Q:=by kernel_rfl
theorem xu(w:World):hRun0 w=hEnd0:=(congrFun W.Fast.hRun0Q_eq w).trans ((uC w).trans W.Fast.hEnd0Q_eq.symm)
noncomputable def hRun1(w:World):=(W.openEnds treeTable Challenge.pw_oneleash_k44_whole_hops_shown_both_ways w 100000).map (fun s=>hF1 (Hd.strip (Hd.frag s.heap)))
noncomputable def hEnd1:=some (hG1)
theorem hRun1_self:@hRun1 = @hRun1:=rfl
theorem hEnd1_self:@hEnd1 = @hEnd1:=rfl
set_option maxHeartbeats 0 in
lay_quick K44.hRun1 K44.hEnd1
name_quick hRun1Q for K44.hRun1 by K44.hRun1_self
name_quick hEnd1Q for K44.hEnd1 by K44.hEnd1_self
set_option maxHeartbeats 0 in
theorem uA(w:World):W.Fast.hRun1Q w=W.Fast.hEnd1Q:=by kernel_rfl
theorem xt(w:World):hRun1 w=hEnd1:=(congrFun W.Fast.hRun1Q_eq w).trans ((uA w).trans W.Fast.hEnd1Q_eq.symm)
noncomputable def hRun2(w:World):=(W.openEnds treeTable Challenge.pw_oneleash_k44_whole_hops_shown_both_ways w 100000).map (fun s=>hF2 (Hd.strip (Hd.frag s.heap)))
noncomputable def hEnd2:=some (hG2)
theorem hRun2_self:@hRun2 = @hRun2:=rfl
theorem hEnd2_self:@hEnd2 = @hEnd2:=rfl
set_option maxHeartbeats 0 in
lay_quick K44.hRun2 K44.hEnd2
name_quick hRun2Q for K44.hRun2 by K44.hRun2_self
name_quick hEnd2Q for K44.hEnd2 by K44.hEnd2_self
set_option maxHeartbeats 0 in
theorem uz(w:World):W.Fast.hRun2Q w=W.Fast.hEnd2Q:=by kernel_rfl
theorem xr(w:World):hRun2 w=hEnd2:=(congrFun W.Fast.hRun2Q_eq w).trans ((uz w).trans W.Fast.hEnd2Q_eq.symm)
noncomputable def hRun3(w:World):=(W.openEnds treeTable Challenge.pw_oneleash_k44_whole_hops_shown_both_ways w 100000).map (fun s=>hF3 (Hd.strip (Hd.frag s.heap)))
noncomputable def hEnd3:=some (hG3)
theorem hRun3_self:@hRun3 = @hRun3:=rfl
theorem hEnd3_self:@hEnd3 = @hEnd3:=rfl
set_option maxHeartbeats 0 in
lay_quick K44.hRun3 K44.hEnd3
name_quick hRun3Q for K44.hRun3 by K44.hRun3_self
name_quick hEnd3Q for K44.hEnd3 by K44.hEnd3_self
set_option maxHeartbeats 0 in
theorem uy(w:World):W.Fast.hRun3Q w=W.Fast.hEnd3Q:=by kernel_rfl
theorem xq(w:World):hRun3 w=hEnd3:=(congrFun W.Fast.hRun3Q_eq w).trans ((uy w).trans W.Fast.hEnd3Q_eq.symm)
noncomputable def hRun4(w:World):=(W.openEnds treeTable Challenge.pw_oneleash_k44_whole_hops_shown_both_ways w 100000).map (fun s=>hF4 (Hd.strip (Hd.frag s.heap)))
noncomputable def hEnd4:=some (hG4)
theorem hRun4_self:@hRun4 = @hRun4:=rfl
theorem hEnd4_self:@hEnd4 = @hEnd4:=rfl
set_option maxHeartbeats 0 in
lay_quick K44.hRun4 K44.hEnd4
name_quick hRun4Q for K44.hRun4 by K44.hRun4_self
name_quick hEnd4Q for K44.hEnd4 by K44.hEnd4_self
set_option maxHeartbeats 0 in
theorem ux(w:World):W.Fast.hRun4Q w=W.Fast.hEnd4Q:=by kernel_rfl
theorem xp(w:World):hRun4 w=hEnd4:=(congrFun W.Fast.hRun4Q_eq w).trans ((ux w).trans W.Fast.hEnd4Q_eq.symm)
noncomputable def hRun5(w:World):=(W.openEnds treeTable Challenge.pw_oneleash_k44_whole_hops_shown_both_ways w 100000).map (fun s=>(hF5 (Hd.strip (Hd.frag s.heap)),hF6 (Hd.frag s.heap)))
noncomputable def hEnd5:=some ((hG5,hG6))
theorem hRun5_self:@hRun5 = @hRun5:=rfl
theorem hEnd5_self:@hEnd5 = @hEnd5:=rfl
set_option maxHeartbeats 0 in
lay_quick K44.hRun5 K44.hEnd5
name_quick hRun5Q for K44.hRun5 by K44.hRun5_self
name_quick hEnd5Q for K44.hEnd5 by K44.hEnd5_self
set_option maxHeartbeats 0 in
theorem uw(w:World):W.Fast.hRun5Q w=W.Fast.hEnd5Q:=by kernel_rfl
theorem xo(w:World):hRun5 w=hEnd5:=(congrFun W.Fast.hRun5Q_eq w).trans ((uw w).trans W.Fast.hEnd5Q_eq.symm)
theorem xZ(w:World):(W.openEnds treeTable Challenge.pw_oneleash_k44_whole_hops_shown_both_ways w 100000).map (fun s=>(W.openSeen hView hLoose (importedModules Challenge.pw_oneleash_k44_whole_hops_shown_both_ways.main.body) (fun _=>true) true s,hFacts (Hd.frag s.heap)))=some (W.openGood hView hLoose,hGood):=by
 have rS:(W.openEnds treeTable Challenge.pw_oneleash_k44_whole_hops_shown_both_ways w 100000).map (fun s=>W.openSeen hView hLoose (importedModules Challenge.pw_oneleash_k44_whole_hops_shown_both_ways.main.body) (fun _=>true) true s)=some (W.openGood hView hLoose):=xn w;have r0:(W.openEnds treeTable Challenge.pw_oneleash_k44_whole_hops_shown_both_ways w 100000).map (fun s=>hF0 (Hd.strip (Hd.frag s.heap)))=some (hG0):=xu w;have r1:(W.openEnds treeTable Challenge.pw_oneleash_k44_whole_hops_shown_both_ways w 100000).map (fun s=>hF1 (Hd.strip (Hd.frag s.heap)))=some (hG1):=xt w;have r2:(W.openEnds treeTable Challenge.pw_oneleash_k44_whole_hops_shown_both_ways w 100000).map (fun s=>hF2 (Hd.strip (Hd.frag s.heap)))=some (hG2):=xr w;have r3:(W.openEnds treeTable Challenge.pw_oneleash_k44_whole_hops_shown_both_ways w 100000).map (fun s=>hF3 (Hd.strip (Hd.frag s.heap)))=some (hG3):=xq w;have r4:(W.openEnds treeTable Challenge.pw_oneleash_k44_whole_hops_shown_both_ways w 100000).map (fun s=>hF4 (Hd.strip (Hd.frag s.heap)))=some (hG4):=xp w;have r5:(W.openEnds treeTable Challenge.pw_oneleash_k44_whole_hops_shown_both_ways w 100000).map (fun s=>(hF5 (Hd.strip (Hd.frag s.heap)),hF6 (Hd.frag s.heap)))=some ((hG5,hG6)):=xo w
 skip
 generalize (W.openEnds treeTable Challenge.pw_oneleash_k44_whole_hops_shown_both_ways w 100000)=x at *;cases x with
 | none=>cases rS
 | some s =>
  have zS:=Option.some.inj rS;have z0:=Option.some.inj r0;have z1:=Option.some.inj r1;have z2:=Option.some.inj r2;have z3:=Option.some.inj r3;have z4:=Option.some.inj r4;have z5:=Option.some.inj r5;show some (W.openSeen hView hLoose (importedModules Challenge.pw_oneleash_k44_whole_hops_shown_both_ways.main.body) (fun _=>true) true s,hFacts (Hd.frag s.heap))=_;unfold hFacts hGood;have z:=zS;have q0:=z0;have q1:=z1;have q2:=z2;have q3:=z3;have q4:=z4;have q5:=(congrArg Prod.fst z5);have q6:=(congrArg Prod.snd z5);exact congrArg some (Hd.pair2 z (Hd.pair2 q0 (Hd.pair2 q1 (Hd.pair2 q2 (Hd.pair2 q3 (Hd.pair2 q4 (Hd.pair2 q5 q6)))))))
structure Txt(mg:Str->Option Value):Prop where
 z_abs:mg "abs" = none
 z_bool:mg "bool" = none
 z_enumerate:mg "enumerate" = none
 z_int:mg "int" = none
 z_isinstance:mg "isinstance" = none
 z_len:mg "len" = none
 z_list:mg "list" = none
 z_max:mg "max" = none
 z_min:mg "min" = none
 z_range:mg "range" = none
 z_str:mg "str" = none
 z_tuple:mg "tuple" = none
 z_zip:mg "zip" = none
section
variable {P:Program} {w:World} {K:W.Frag} {mg:Str->Option Value} {base:Heap}
theorem dQ{α:Type}{xs:List α}(h:xs.length=1):∃a,xs = [a]:=match xs,h with | [a],_=>⟨a,rfl⟩
inductive Ep (vs:List V) (H:Hp) (Q:VK) (x_3:XK):Prop
 | mk:∀(p q:Addr) (a b c d:Int),(vs = [.ref p,.ref q])->(H p=some (.tup [.int a,.int b]))->(H q=some (.tup [.int c,.int d]))->((ao a≤5000∧ao b≤5000∧ao c≤5000∧ao d≤5000))->(Q (.bl (decide (a*d<c*b))) H)->Ep vs H Q x_3
inductive Do (vs:List V) (H:Hp) (Q:VK) (x_3:XK):Prop
 | mk:∀(p p1 p2:Addr) (X Y b X1 Y1 b1 X2 Y2 b2:Int),(vs = [.ref p,.ref p1,.ref p2])->(Co H p X Y b 262)->(Co H p1 X1 Y1 b1 262)->(Co H p2 X2 Y2 b2 262)->(0<b)->(0<b1)->(0<b2)->(∀(r:Addr) (t u:Int) (H':Hp),BN H' r t u 4207->NP X Y b X1 Y1 b1 X2 Y2 b2 t u->Same H H'->Q (.ref r) H')->Do vs H Q x_3
def wK(l l':Addr)(qs qs':Crn)(t b l1 l2 h1 h2:Int)(H:Hp)(Q:VK):Prop:=ao b≤60∧ao l2≤60∧ao h2≤60∧InS qs'.length l1 l2 h1 h2 ∧
 ∀(r rs rp:Addr) (s w T B:Int) (H':Hp),H' r=some (.tup [.ref rs,.ref rp])->BN H' rs s w 2103->Bz H' rp T B (cD qs')->LPc (ptX qs t b) (ptY qs t b) b qs' l1 l2 h1 h2 T B->l1*B≤T*l2->T*h2≤h1*B->ye (sqF qs t b qs' T B) (sqD b B) s w->Same H H'->Q (.ref r) H'
inductive CP (C:Addr) (vs:List V) (H:Hp) (Q:VK) (E:XK):Prop
 | mk:∀(l l':Addr) (qs qs':Crn) (x y z:V),(vs = [.ref l,x,.ref l',y,z])->(LineAt H l qs)->(LineAt H l' qs')->((1≤qs.length∧qs.length≤20))->((1≤qs'.length∧qs'.length≤20))->(yT H x)->(yT H y)->(yT H z)->(((bf (cD qs) H x=false∧E (.ref C) none H)∨∃(p:Addr) (t b:Int),x = .ref p∧Bz H p t b (cD qs) ∧
  ((bf (cD qs') H y=false∧∀H',Same H H'->E (.ref C) none H')∨∃(q:Addr) (l1 l2:Int),y = .ref q∧Bz H q l1 l2 (cD qs') ∧
   ((bf (cD qs') H z=false∧∀H',Same H H'->E (.ref C) none H')∨∃(q':Addr) (h1 h2:Int),z = .ref q'∧Bz H q' h1 h2 (cD qs')∧wK l l' qs qs' t b l1 l2 h1 h2 H Q))))->CP C vs H Q E
theorem tT{p:Addr}{qs:Crn}{t b:Int}{H:Hp}{G:Prop}(pl:Bz H p t b (cD qs))(z:bf ((qs.length:Int) - 1) H (.ref p)=false):G:=by
 rw[show bf ((qs.length:Int) - 1) H (.ref p)=true from pl.place]at z;cases z
theorem tS{p:Addr}{qs:Crn}{t b:Int}{H:Hp}{G:Addr->Hp->Prop}(pl:Bz H p t b (cD qs))(k:∀(r:Addr) (H':Hp),Co H' r (ptX qs t b) (ptY qs t b) b 262->Same H H'->G r H')(p0:Addr)(t0 b0:Int)(e0:V.ref p = .ref p0)(eH:H p0=some (.tup [.int t0,.int b0]))(_:AI t0 b0)(_:0≤t0)(_:t0≤((qs.length:Int) - 1)*b0) :
  ao t0≤200∧ao b0≤200∧∀(r:Addr) (H':Hp),Co H' r (ptX qs t0 b0) (ptY qs t0 b0) b0 262->Same H H'->G r H':=by
 cases e0;have e2:=pl.at_;rw[eH]at e2;cases e2;exact⟨pl.bt,pl.bb,k⟩
theorem vR{qs:Crn}{x:V}{H:Hp}(no:bf (cD qs) H x=false){p0:Addr}{t0 b0:Int}(e0:x = .ref p0)(eH:H p0=some (.tup [.int t0,.int b0]))(lw:AI t0 b0)(t00:0≤t0)(t01:t0≤((qs.length:Int) - 1)*b0){G:Prop}:G:=by
 subst e0;rw[show bf (cD qs) H (.ref p0)=true from fe eH lw t00 t01]at no;cases no
theorem vf{H:Hp}{r:Addr}{u v c d:Int}{n:Nat}(p:DY H r u v c d n):Rp H 9 (.ref r) (.tup [.tup [.int u,.int v],.tup [.int c,.int d]]):=by
 obtain⟨rx,ry,e,f,g⟩:=p.ex;exact Rp.t2 e (Rp.t2 f.at_ .int .int) (Rp.t2 g.at_ .int .int)
theorem iK{X1 b1 X2 b2 u1 v1 u2 v2:Int}(h1:b1≠0)(h2:b2≠0)(f:ye X1 b1 u1 v1)(g:ye X2 b2 u2 v2):X1*b2=X2*b1↔(u1=u2∧v1=v2):=by
 have e1:=ee f h1;have e2:=ee g h2;constructor
 ·intro h
  refine d8 f.low g.low (lO (nzl f.low) (nzl g.low) ?_);rw[e1,e2];have q1:=cz h1;have q2:=cz h2;have h3:(X1:Rat)*(b2:Rat)=(X2:Rat)*(b1:Rat):=by rw[<- Rat.intCast_mul,<- Rat.intCast_mul,h]
  unfold rq
  grind
 ·rintro⟨rfl,rfl⟩
  exact lO h1 h2 (by rw[<- e1,<- e2])
theorem wm{x:Str}{ps:List Str}{k:Nat}{sp sp':Sp}(F:Fn P w K mg base x ps k sp)(h:∀vs H Q E,sp' vs H Q E->sp vs H Q E):Fn P w K mg base x ps k sp':=by
 obtain⟨f,fd,o,h1,h2,h3,h4,h6⟩:=F.ex;exact⟨⟨f,fd,o,h1,h2,h3,h4,h6.imp h⟩⟩
theorem j5(F:Fn P w K mg base "less" ["a","b"] 1 Ep):Fn P w K mg base "less" ["a","b"] 1 Ag :=
 wm F fun vs H Q E ⟨p,q,a,b,c,d,e,h1,h2,⟨b1,b2,b3,b4⟩,k⟩=>⟨p,q,a,b,c,d,e,h1,h2,⟨ap b1 (by decide),ap b2 (by decide),ap b3 (by decide),ap b4 (by decide)⟩,k⟩
theorem smk{N M:List Str}{c:Scope}(a:c.kind=.function:=by rfl)(b:c.isCoroutine=false:=by rfl)(d:c.isGenerator=false:=by rfl)(e:N.Nodup:=by decide +kernel)(f:N.take M.length=M:=by rfl)(g:∀x∈M,c.names.lookup x=some .local∨c.names.lookup x=some .cell:=by decide +kernel)(h:∀y∈c.names,y.2≠.free:=by decide +kernel):yc N M c:=⟨a,b,d,e,f,g,h⟩
theorem Dz:yc ["thing"] ["thing"] (af (top 7)):=smk
theorem mO(Bm:Df K mg "is_whole" (top 7))(T:Txt mg):Fn P w K mg base "is_whole" ["thing"] 1 B6:=by
 refine Bm.fn Dz (fun _ _ _ _ _ _ us hl=>by obtain⟨_,rfl⟩:=dQ hl;rfl) (fun vs H Q E h=>?_) (fun f cdv A outer s H vs Q E hr h=>?_)
 ·obtain⟨x,t,rfl,_⟩:=h
  rfl
 ·obtain⟨x,t,rfl,k,q⟩:=h
  refine⟨_,(ag (ak (dw (aJ bJ (by rfl) T.z_isinstance be (aa (pv 0) (aa (fM T.z_int sY) ad))) (cV (i0 (aJ bJ (by rfl) T.z_isinstance be (aa (pv 0) (aa (fM T.z_bool pL) ad)))))))),?_⟩;refine⟨_,rfl,x,t,"int",rfl,k,.inl rfl,_,rfl,?_⟩;refine aW (fun hc=>?_) (fun hc=>?_)
  ·refine⟨_,rfl,x,t,"bool",rfl,k,.inr (.inl rfl),_,rfl,?_⟩
   rw[(jR k).1 hc];exact q
  ·rw[(jR k).2 hc]at q
   exact q
theorem yr:yc ["one","other","rest"] ["one","other"] (af (top 8)):=smk
theorem gD(zf:Df K mg "common_divisor" (top 8))(T:Txt mg):Fn P w K mg base "common_divisor" ["one","other"] 1 DN:=by
 refine zf.fn yr (fun _ _ _ _ _ _ us hl=>by obtain⟨_,_,rfl⟩:=cI hl;rfl) (fun vs H Q E h=>?_) (fun f cdv A outer s H vs Q E hr h=>?_)
 ·obtain⟨a,b,rfl,_⟩:=h
  rfl
 ·obtain⟨a,b,rfl,q⟩:=h
  refine⟨_,(ae (aw (i:=0) yr.nd rfl (Or.inl rfl) (aJ eX (by rfl) T.z_abs ju (aa (pv 0) ad))) (ae (aw (i:=1) yr.nd rfl (Or.inl rfl) (aJ eX (by rfl) T.z_abs ju (aa (pv 1) ad))) (ae (eO PassesOwn.never (aq dn (pv 1) ac (ar _)) (ae (aw (i:=2) yr.nd rfl (Or.inl rfl) (am d5 (pv 0) (pv 1))) (ae (aw (i:=0) yr.nd rfl (Or.inl rfl) (pv 1)) (ag (aw (i:=1) yr.nd rfl (Or.inl rfl) (pv 2)))))) (ag (ak (pv 0)))))),?_⟩;refine⟨_,rfl,a,rfl,_,rfl,b,rfl,?_⟩;refine eE (fun σ H'=>∃x y r,σ = [some (.int x),some (.int y),r]∧H'=H∧0≤x∧0≤y∧Int.gcd x y=Int.gcd a b)
   (fun σ _=>match σ with | [_,some (.int y),_]=>y.toNat|_=>0) ⟨_,_,_,rfl,rfl,jA a,jA b,by rw[pk,sx]⟩ ?_ ?_
  ·rintro σ H' ⟨x,y,r,rfl,rfl,hx,hy,hg⟩
   refine⟨_,rfl,rfl,_,rfl,?_⟩;refine aW (fun hc=>?_) (fun hc=>?_)
   ·have hy0:¬y=0:=by simpa using hc
    have hy1:0<y:=by omega
    refine⟨_,rfl,_,rfl,x,y,rfl,rfl,hy1,_,rfl,_,rfl,⟨y,x % y,_,rfl,rfl,hy,Int.emod_nonneg _ hy0,?_⟩,?_⟩
    ·rw[mz hx hy1]
     exact hg
    ·have h1:=Int.emod_lt_of_pos x hy1
     have h2:=Int.emod_nonneg x hy0;show(x % y).toNat<y.toNat;omega
   ·have hy0:y=0:=by simpa using hc
    subst hy0;refine⟨_,rfl,?_⟩;have e:(Int.gcd a b:Int)=x:=by rw[<- hg];exact gcd_zero hx
    rw[e]at q;exact q
  ·rintro σ H' Q1 Q2 hq ⟨v,e,hs,k,ek,r⟩
   exact⟨v,e,hs,k,ek,hq _ _ r⟩
theorem CV:yc ["top","bottom","divisor"] ["top","bottom"] (af (top 9)):=smk
theorem sG{C:Addr}(C5:EH K mg "ratio" (top 9) [.int 1])(BL:Cs K mg "NoRatio" C)(yM:Fn P w K mg base "is_whole" ["thing"] 1 B6)(yu:Fn P w K mg base "common_divisor" ["one","other"] 1 DN):Fx P w K mg base "ratio" ["top","bottom"] 2 [.int 1] (zh C):=by
 refine C5.fx CV (fun T kV doc pm an cdv ct us its oT n s hv hl ho hs=>?_) (fun T kV doc pm an cdv ct us its oT n s hv hl ho hs=>?_) (fun vs H Q E h=>?_) (fun f cdv A outer s H vs Q E hr h=>?_)
 ·obtain⟨u,rfl,_⟩:=gb hv
  match us,hl with
  | [_,_],_=>exact BindsTo.of_defaults rfl ho hs rfl rfl
 ·obtain⟨u,rfl,_⟩:=gb hv
  have hl1:us.length=1:=by simpa using hl
  match us,hl1 with
  | [_],_=>exact BindsTo.of_defaults rfl ho hs rfl rfl
 ·obtain⟨a,b,nb,rfl,_⟩:=h
  rfl
 ·obtain⟨a,b,nb,rfl,⟨ba,bb,hnb⟩,k0,k1⟩:=h
  refine⟨_,(ae (aM (bK (bF (aV (az yM (hr.mono (by decide)) (by rfl) (aa (pv 0) ad)))) (bK (bF (aV (az yM (hr.mono (by decide)) (by rfl) (aa (pv 1) ad)))) (bz (aq bG (pv 1) ac (ar _))))).pt (ag (gh BL (by rfl))) aA) (ae (aw (i:=2) CV.nd rfl (Or.inl rfl) (az yu (hr.mono (by decide)) (by rfl) (aa (pv 0) (aa (pv 1) ad)))) (ae (aM (aq dq (pv 1) ac (ar _)) (ag (aw (i:=2) CV.nd rfl (Or.inl rfl) (iY fO (pv 2)))) aA) (ag (ak (oa (aa (am lZ (pv 0) (pv 2)) (aa (am lZ (pv 1) (pv 2)) ad)))))))),?_⟩;refine⟨_,rfl,_,_,rfl,.int a,_,rfl,eW ?_⟩;refine⟨_,rfl,_,_,rfl,.int b,_,rfl,eW ?_⟩;refine⟨_,rfl,rfl,_,rfl,?_⟩;refine aW (fun hc=>?_) (fun hc=>?_)
  ·exact k0 (by simpa using hc)
  ·have hb:b≠0:=by simpa using hc
   have hg:=iJ (a:=a) (b:=b) hb;have bg:ao (Int.gcd a b:Int)≤8000:=ap (qw hb bb) (by omega);refine⟨_,rfl,_,rfl,a,b,rfl,?_⟩;refine⟨_,rfl,_,_,rfl,rfl,_,rfl,?_⟩;refine aW (fun hd=>?_) (fun hd=>?_)
   ·have hlt:b<0:=by simpa using hd
    refine⟨_,rfl,_,rfl,?_⟩;refine⟨_,rfl,_,rfl,_,_,rfl,rfl,⟨by omega,bits_neg bg⟩,_,rfl,_,rfl,_,_,rfl,rfl,⟨by omega,bits_neg bg⟩,sz (by simp),fun p hp=>?_⟩;exact k1 hb p _ _ (kg hb _ (by rw[if_pos hlt])) (fH ba) (fH bb) hp
   ·have hlt:¬b<0:=by simpa using hd
    refine⟨_,rfl,_,rfl,_,_,rfl,rfl,⟨by omega,bg⟩,_,rfl,_,rfl,_,_,rfl,rfl,⟨by omega,bg⟩,sz (by simp),fun p hp=>?_⟩;exact k1 hb p _ _ (kg hb _ (by rw[if_neg hlt])) (fH ba) (fH bb) hp
theorem DC:yc ["a"] ["a"] (af (top 15)):=smk
theorem mR(Bp:Df K mg "floor_of" (top 15)):Fn P w K mg base "floor_of" ["a"] 1 CQ:=by
 refine Bp.fn DC (fun _ _ _ _ _ _ us hl=>by obtain⟨_,rfl⟩:=dQ hl;rfl) (fun vs H Q E h=>?_) (fun f cdv A outer s H vs Q E hr h=>?_)
 ·obtain⟨p,a,b,rfl,_⟩:=h
  rfl
 ·obtain⟨p,a,b,rfl,hp,⟨hb,bb⟩,k⟩:=h
  refine⟨_,(ag (ak (am gk (aj ah (pv 0) ac (fun _ _=>rfl)) (aj ah (pv 0) ac (fun _ _=>rfl))))),?_⟩;exact⟨_,rfl,p,_,_,_,rfl,rfl,SqT.of hp,rfl,_,rfl,p,_,_,_,rfl,rfl,SqT.of hp,rfl,a,b,rfl,rfl,⟨hb,ap bb (by decide)⟩,k⟩
theorem DA:yc ["thing"] ["thing"] (af (top 16)):=smk
theorem mP(Bn:Df K mg "is_ratio" (top 16))(yM:Fn P w K mg base "is_whole" ["thing"] 1 B6)(yu:Fn P w K mg base "common_divisor" ["one","other"] 1 DN)(T:Txt mg):Fn P w K mg base "is_ratio" ["thing"] 2 DL:=by
 refine Bn.fn DA (fun _ _ _ _ _ _ us hl=>by obtain⟨_,rfl⟩:=dQ hl;rfl) (fun vs H Q E h=>?_) (fun f cdv A outer s H vs Q E hr h=>?_)
 ·obtain⟨x,rfl,_⟩:=h
  rfl
 ·obtain⟨x,rfl,th,q⟩:=h
  obtain⟨t,k⟩:=th.kn;refine⟨_,(ae (aM (bK (bF (aV (aJ bJ (by rfl) T.z_isinstance be (aa (pv 0) (aa (fM T.z_tuple gE) ad))))) (bz (aq dn (aJ aL (by rfl) T.z_len bP (aa (pv 0) ad)) ac (ar _)))).pt (ag (ak cT)) aA) (ae (aM (bK (bF (aV (az yM (hr.mono (by decide)) (by rfl) (aa (aj ah (pv 0) ac (fun _ _=>rfl)) ad)))) (bz (bF (aV (az yM (hr.mono (by decide)) (by rfl) (aa (aj ah (pv 0) ac (fun _ _=>rfl)) ad)))))).pt (ag (ak cT)) aA) (ag (ak (dw (bq lY (aj ah (pv 0) ac (fun _ _=>rfl)) ac (ar _)) (cV (bq bG (az yu (hr.mono (by decide)) (by rfl) (aa (aj ah (pv 0) ac (fun _ _=>rfl)) (aa (aj ah (pv 0) ac (fun _ _=>rfl)) ad))) ac (ar _)))))))),?_⟩;refine⟨_,rfl,x,t,"tuple",rfl,k,.inr (.inr (.inl rfl)),_,rfl,?_⟩;rcases Kn.cases_tup k with⟨p,xs,rfl,e,rfl⟩|⟨hl,hs⟩
  ·-- a tuple
   rw[rV e]at q;refine eW ?_;refine⟨_,rfl,p,xs,rfl,.inr (SqT.of e),rfl,_,rfl,?_⟩;refine aW (fun hc=>?_) (fun hc=>?_)
   ·have hn:xs.length≠2:=by
     intro z;rw[z]at hc;exact absurd hc (by decide)
    rw[rX hn]at q;exact q
   ·have hn:xs.length=2:=by
     have z:(xs.length:Int)=2:=by simpa using hc
     omega
    match xs,hn,e,q with
    | [y,z],_,e,q =>
     obtain⟨ty,ky⟩:=th.parts p _ rfl e y (by simp);obtain⟨tz,kz⟩:=th.parts p _ rfl e z (by simp);refine⟨_,rfl,p,_,_,_,rfl,rfl,SqT.of e,rfl,y,ty,rfl,ky,_,rfl,?_⟩;rcases Kn.cases_int ky with⟨a,rfl,rfl⟩|⟨ny,ey⟩
     ·refine eW ?_
      refine⟨_,rfl,p,_,_,_,rfl,rfl,SqT.of e,rfl,z,tz,rfl,kz,_,rfl,?_⟩;rcases Kn.cases_int kz with⟨b,rfl,rfl⟩|⟨nz,ez⟩
      ·refine eW ?_
       refine⟨_,rfl,p,_,_,_,rfl,rfl,SqT.of e,rfl,b,1,rfl,rfl,_,rfl,?_⟩;have q':Q (.bl (i7 a b)) H:=q;unfold i7 at q';refine aW (fun hc=>?_) (fun hc=>?_)
       ·refine⟨_,rfl,p,_,_,_,rfl,rfl,SqT.of e,rfl,_,rfl,p,_,_,_,rfl,rfl,SqT.of e,rfl,a,b,rfl,rfl,?_⟩
        rw[hc,Bool.true_and]at q';have e1:decide (V.int (Int.gcd a b:Int)=V.int 1)=decide (Int.gcd a b=1):=by
         rw[Bool.eq_iff_iff];simp;omega
        rw[<- e1]at q';exact q'
       ·rw[hc,Bool.false_and]at q'
        exact q'
      ·rw[ez,rW nz]at *
       exact q
     ·rw[ey,rY ny]at *
      exact q
  ·rw[hs]
   rw[hl]at q;exact q
theorem DU:yc ["line"] ["line"] (af (top 39)):=smk
theorem ow(BV:Df K mg "last_of" (top 39))(T:Txt mg):Fn P w K mg base "last_of" ["line"] 1 BE:=by
 refine BV.fn DU (fun _ _ _ _ _ _ us hl=>by obtain⟨_,rfl⟩:=dQ hl;rfl) (fun vs H Q E h=>?_) (fun f cdv A outer s H vs Q E hr h=>?_)
 ·obtain⟨p,xs,rfl,_⟩:=h
  rfl
 ·obtain⟨p,xs,rfl,e,q⟩:=h
  exact⟨_,(ag (ak (am aS (aJ aL (by rfl) T.z_len bP (aa (pv 0) ad)) ac))),_,rfl,p,xs,rfl,.inl (SqL.of e),_,_,rfl,rfl,q⟩
theorem DB:yc ["line","thing"] ["line","thing"] (af (top 89)):=smk
theorem mQ(Bo:Df K mg "is_place" (top 89))(y9:Fn P w K mg base "is_ratio" ["thing"] 2 DL)(yp:Fn P w K mg base "last_of" ["line"] 1 BE):Fn P w K mg base "is_place" ["line","thing"] 3 BG:=by
 refine Bo.fn DB (fun _ _ _ _ _ _ us hl=>by obtain⟨_,_,rfl⟩:=cI hl;rfl) (fun vs H Q E h=>?_) (fun f cdv A outer s H vs Q E hr h=>?_)
 ·obtain⟨p,xs,x,rfl,_⟩:=h
  rfl
 ·obtain⟨p,xs,x,rfl,e,hl,th,q⟩:=h
  refine⟨_,(ag (ak (dw (az y9 (hr.mono (by decide)) (by rfl) (aa (pv 1) ad)) (cV (rJ eR eR ac (aj ah (pv 1) ac (fun _ _=>rfl)) (am aF (az yp (hr.mono (by decide)) (by rfl) (aa (pv 0) ad)) (aj ah (pv 1) ac (fun _ _=>rfl)))))))),?_⟩;refine⟨_,rfl,x,rfl,th,_,rfl,aW (fun hc=>?_) (fun hc=>?_)⟩
  ·obtain⟨u,a,b,rfl,eu,lw⟩:=i6 hc
   rw[fQ eu,mi lw,Bool.true_and]at q;refine⟨_,rfl,u,_,_,_,rfl,rfl,SqT.of eu,rfl,_,_,rfl,rfl,_,rfl,aW (fun hd=>?_) (fun hd=>?_)⟩
   ·rw[hd,Bool.true_and]at q
    exact⟨_,rfl,p,xs,rfl,e,_,rfl,u,_,_,_,rfl,rfl,SqT.of eu,rfl,_,_,rfl,rfl,CM.l (vo (by omega) (by omega)),_,_,rfl,rfl,q⟩
   ·rw[hd,Bool.false_and]at q
    exact q
  ·rw[iW hc]at q
   exact q
theorem B3:yc ["line","thing"] ["line","thing"] (af (top 90)):=smk
theorem gP{C:Addr}(zl:Df K mg "look_at_place" (top 90))(BM:Cs K mg "NoPlace" C)(A9:Fn P w K mg base "is_place" ["line","thing"] 3 BG):Fx P w K mg base "look_at_place" ["line","thing"] 4 [] (Dp C):=by
 refine zl.fx B3 (fun _ _ _ _ _ _ us hl=>by obtain⟨_,_,rfl⟩:=cI hl;rfl) (fun vs H Q E h=>?_) (fun f cdv A outer s H vs Q E hr h=>?_)
 ·obtain⟨p,xs,x,rfl,_⟩:=h
  rfl
 ·obtain⟨p,xs,x,rfl,e,hl,th,k0,k1⟩:=h
  refine⟨_,(ag (aM (bF (aV (az A9 (hr.mono (by decide)) (by rfl) (aa (pv 0) (aa (pv 1) ad))))) (ag (gh BM (by rfl))) aA)),?_⟩;refine⟨_,rfl,_,rfl,p,xs,x,rfl,e,hl,th,_,rfl,aW (fun hc=>?_) (fun hc=>?_)⟩
  ·exact k0 (by simpa using hc)
  ·exact k1 (by simpa using hc)
theorem EV:yc ["a","b"] ["a","b"] (af (top 10)):=smk
theorem uG{C:Addr}(DH:Df K mg "plus" (top 10))(yw:Fx P w K mg base "ratio" ["top","bottom"] 2 [.int 1] (zh C)):Fn P w K mg base "plus" ["a","b"] 3 (AG (fun a b c d=>a*d+c*b) (fun a b c d=>b*d)):=by
 refine DH.fn EV (fun _ _ _ _ _ _ us hl=>by obtain⟨_,_,rfl⟩:=cI hl;rfl) (fun vs H Q E h=>?_) (fun f cdv A outer s H vs Q E hr h=>?_)
 ·obtain⟨p,q,a,b,c,d,n,rfl,_⟩:=h
  rfl
 ·obtain⟨p,q,a,b,c,d,n,rfl,fp,fq,hn,hden,k⟩:=h
  have ep:=fp.at_;have eq:=fq.at_;have cm:∀{i j:Int},ao i≤n->ao j≤n->CM i j:=fun hi hj=>CM.b hi hj (Nat.le_trans hn (by decide)) (Nat.le_trans hn (by decide));have fin:∀(r:Addr) (t u:Int),ye (a*d+c*b) (b*d) t u->ao t≤2*n+1->ao u≤2*n+1->H r=none->Q (.ref r) (upd H r (.tup [.int t,.int u])):=fun r t u fr bt bu hr'=>by
   obtain⟨H1,e1,s1,f1⟩:=oo (o:=.tup [.int t,.int u]) hr';rw[e1];exact k r t u H1 fr ⟨f1,fr.low,bt,bu⟩ s1
  refine⟨_,(ag (ak (dk yw (hr.mono (by decide)) (by rfl) (aa (am a8 (am aF (aj ah (pv 0) ac (fun _ _=>rfl)) (aj ah (pv 1) ac (fun _ _=>rfl))) (am aF (aj ah (pv 1) ac (fun _ _=>rfl)) (aj ah (pv 0) ac (fun _ _=>rfl)))) (aa (am aF (aj ah (pv 0) ac (fun _ _=>rfl)) (aj ah (pv 1) ac (fun _ _=>rfl))) ad))))),?_⟩;refine⟨_,rfl,p,_,_,_,rfl,rfl,SqT.of ep,rfl,_,rfl,q,_,_,_,rfl,rfl,SqT.of eq,rfl,_,_,rfl,rfl,cm fp.ba fq.bb,_,rfl,q,_,_,_,rfl,rfl,SqT.of eq,rfl,_,rfl,p,_,_,_,rfl,rfl,SqT.of ep,rfl,_,_,rfl,rfl,cm fq.ba fp.bb,_,_,rfl,rfl,?_⟩;refine⟨_,rfl,p,_,_,_,rfl,rfl,SqT.of ep,rfl,_,rfl,q,_,_,_,rfl,rfl,SqT.of eq,rfl,_,_,rfl,rfl,cm fp.bb fq.bb,_,_,2*n+1,rfl,⟨ap (ce (n:=2*n) (ap (bits_mul fp.ba fq.bb) (by omega)) (ap (bits_mul fq.ba fp.bb) (by omega))) (by omega),ap (bits_mul fp.bb fq.bb) (by omega),by omega⟩,fun z=>absurd z hden,fun _ r t u fr bt bu hr'=>fin r t u fr bt bu hr'⟩
theorem Ew:yc ["a","b"] ["a","b"] (af (top 11)):=smk
theorem sH{C:Addr}(C6:Df K mg "minus" (top 11))(yw:Fx P w K mg base "ratio" ["top","bottom"] 2 [.int 1] (zh C)):Fn P w K mg base "minus" ["a","b"] 3 (AG (fun a b c d=>a*d - c*b) (fun a b c d=>b*d)):=by
 refine C6.fn Ew (fun _ _ _ _ _ _ us hl=>by obtain⟨_,_,rfl⟩:=cI hl;rfl) (fun vs H Q E h=>?_) (fun f cdv A outer s H vs Q E hr h=>?_)
 ·obtain⟨p,q,a,b,c,d,n,rfl,_⟩:=h
  rfl
 ·obtain⟨p,q,a,b,c,d,n,rfl,fp,fq,hn,hden,k⟩:=h
  have ep:=fp.at_;have eq:=fq.at_;have cm:∀{i j:Int},ao i≤n->ao j≤n->CM i j:=fun hi hj=>CM.b hi hj (Nat.le_trans hn (by decide)) (Nat.le_trans hn (by decide));have fin:∀(r:Addr) (t u:Int),ye (a*d - c*b) (b*d) t u->ao t≤2*n+1->ao u≤2*n+1->H r=none->Q (.ref r) (upd H r (.tup [.int t,.int u])):=fun r t u fr bt bu hr'=>by
   obtain⟨H1,e1,s1,f1⟩:=oo (o:=.tup [.int t,.int u]) hr';rw[e1];exact k r t u H1 fr ⟨f1,fr.low,bt,bu⟩ s1
  refine⟨_,(ag (ak (dk yw (hr.mono (by decide)) (by rfl) (aa (am aS (am aF (aj ah (pv 0) ac (fun _ _=>rfl)) (aj ah (pv 1) ac (fun _ _=>rfl))) (am aF (aj ah (pv 1) ac (fun _ _=>rfl)) (aj ah (pv 0) ac (fun _ _=>rfl)))) (aa (am aF (aj ah (pv 0) ac (fun _ _=>rfl)) (aj ah (pv 1) ac (fun _ _=>rfl))) ad))))),?_⟩;refine⟨_,rfl,p,_,_,_,rfl,rfl,SqT.of ep,rfl,_,rfl,q,_,_,_,rfl,rfl,SqT.of eq,rfl,_,_,rfl,rfl,cm fp.ba fq.bb,_,rfl,q,_,_,_,rfl,rfl,SqT.of eq,rfl,_,rfl,p,_,_,_,rfl,rfl,SqT.of ep,rfl,_,_,rfl,rfl,cm fq.ba fp.bb,_,_,rfl,rfl,?_⟩;refine⟨_,rfl,p,_,_,_,rfl,rfl,SqT.of ep,rfl,_,rfl,q,_,_,_,rfl,rfl,SqT.of eq,rfl,_,_,rfl,rfl,cm fp.bb fq.bb,_,_,2*n+1,rfl,⟨ap (aO (n:=2*n) (ap (bits_mul fp.ba fq.bb) (by omega)) (ap (bits_mul fq.ba fp.bb) (by omega))) (by omega),ap (bits_mul fp.bb fq.bb) (by omega),by omega⟩,fun z=>absurd z hden,fun _ r t u fr bt bu hr'=>fin r t u fr bt bu hr'⟩
theorem Ev:yc ["a","b"] ["a","b"] (af (top 12)):=smk
theorem sF{C:Addr}(C4:Df K mg "times" (top 12))(yw:Fx P w K mg base "ratio" ["top","bottom"] 2 [.int 1] (zh C)):Fn P w K mg base "times" ["a","b"] 3 (AG (fun a b c d=>a*c) (fun a b c d=>b*d)):=by
 refine C4.fn Ev (fun _ _ _ _ _ _ us hl=>by obtain⟨_,_,rfl⟩:=cI hl;rfl) (fun vs H Q E h=>?_) (fun f cdv A outer s H vs Q E hr h=>?_)
 ·obtain⟨p,q,a,b,c,d,n,rfl,_⟩:=h
  rfl
 ·obtain⟨p,q,a,b,c,d,n,rfl,fp,fq,hn,hden,k⟩:=h
  have ep:=fp.at_;have eq:=fq.at_;have cm:∀{i j:Int},ao i≤n->ao j≤n->CM i j:=fun hi hj=>CM.b hi hj (Nat.le_trans hn (by decide)) (Nat.le_trans hn (by decide));have fin:∀(r:Addr) (t u:Int),ye (a*c) (b*d) t u->ao t≤2*n+1->ao u≤2*n+1->H r=none->Q (.ref r) (upd H r (.tup [.int t,.int u])):=fun r t u fr bt bu hr'=>by
   obtain⟨H1,e1,s1,f1⟩:=oo (o:=.tup [.int t,.int u]) hr';rw[e1];exact k r t u H1 fr ⟨f1,fr.low,bt,bu⟩ s1
  refine⟨_,(ag (ak (dk yw (hr.mono (by decide)) (by rfl) (aa (am aF (aj ah (pv 0) ac (fun _ _=>rfl)) (aj ah (pv 1) ac (fun _ _=>rfl))) (aa (am aF (aj ah (pv 0) ac (fun _ _=>rfl)) (aj ah (pv 1) ac (fun _ _=>rfl))) ad))))),?_⟩;exact⟨_,rfl,p,_,_,_,rfl,rfl,SqT.of ep,rfl,_,rfl,q,_,_,_,rfl,rfl,SqT.of eq,rfl,_,_,rfl,rfl,cm fp.ba fq.ba,_,rfl,p,_,_,_,rfl,rfl,SqT.of ep,rfl,_,rfl,q,_,_,_,rfl,rfl,SqT.of eq,rfl,_,_,rfl,rfl,cm fp.bb fq.bb,_,_,2*n+1,rfl,⟨ap (bits_mul fp.ba fq.ba) (by omega),ap (bits_mul fp.bb fq.bb) (by omega),by omega⟩,fun z=>absurd z hden,fun _ r t u fr bt bu hr'=>fin r t u fr bt bu hr'⟩
theorem EW:yc ["a","b"] ["a","b"] (af (top 13)):=smk
theorem uH{C:Addr}(DI:Df K mg "over" (top 13))(yw:Fx P w K mg base "ratio" ["top","bottom"] 2 [.int 1] (zh C)):Fn P w K mg base "over" ["a","b"] 3 (AG (fun a b c d=>a*d) (fun a b c d=>b*c)):=by
 refine DI.fn EW (fun _ _ _ _ _ _ us hl=>by obtain⟨_,_,rfl⟩:=cI hl;rfl) (fun vs H Q E h=>?_) (fun f cdv A outer s H vs Q E hr h=>?_)
 ·obtain⟨p,q,a,b,c,d,n,rfl,_⟩:=h
  rfl
 ·obtain⟨p,q,a,b,c,d,n,rfl,fp,fq,hn,hden,k⟩:=h
  have ep:=fp.at_;have eq:=fq.at_;have cm:∀{i j:Int},ao i≤n->ao j≤n->CM i j:=fun hi hj=>CM.b hi hj (Nat.le_trans hn (by decide)) (Nat.le_trans hn (by decide));have fin:∀(r:Addr) (t u:Int),ye (a*d) (b*c) t u->ao t≤2*n+1->ao u≤2*n+1->H r=none->Q (.ref r) (upd H r (.tup [.int t,.int u])):=fun r t u fr bt bu hr'=>by
   obtain⟨H1,e1,s1,f1⟩:=oo (o:=.tup [.int t,.int u]) hr';rw[e1];exact k r t u H1 fr ⟨f1,fr.low,bt,bu⟩ s1
  refine⟨_,(ag (ak (dk yw (hr.mono (by decide)) (by rfl) (aa (am aF (aj ah (pv 0) ac (fun _ _=>rfl)) (aj ah (pv 1) ac (fun _ _=>rfl))) (aa (am aF (aj ah (pv 0) ac (fun _ _=>rfl)) (aj ah (pv 1) ac (fun _ _=>rfl))) ad))))),?_⟩;exact⟨_,rfl,p,_,_,_,rfl,rfl,SqT.of ep,rfl,_,rfl,q,_,_,_,rfl,rfl,SqT.of eq,rfl,_,_,rfl,rfl,cm fp.ba fq.bb,_,rfl,p,_,_,_,rfl,rfl,SqT.of ep,rfl,_,rfl,q,_,_,_,rfl,rfl,SqT.of eq,rfl,_,_,rfl,rfl,cm fp.bb fq.ba,_,_,2*n+1,rfl,⟨ap (bits_mul fp.ba fq.bb) (by omega),ap (bits_mul fp.bb fq.ba) (by omega),by omega⟩,fun z=>absurd z hden,fun _ r t u fr bt bu hr'=>fin r t u fr bt bu hr'⟩
theorem EX:yc ["a","b"] ["a","b"] (af (top 14)):=smk
theorem uI(DJ:Df K mg "less" (top 14)):Fn P w K mg base "less" ["a","b"] 1 Ep:=by
 refine DJ.fn EX (fun _ _ _ _ _ _ us hl=>by obtain⟨_,_,rfl⟩:=cI hl;rfl) (fun vs H Q E h=>?_) (fun f cdv A outer s H vs Q E hr h=>?_)
 ·obtain⟨p,q,a,b,c,d,rfl,_⟩:=h
  rfl
 ·obtain⟨p,q,a,b,c,d,rfl,hp,hq,⟨ba,bb,bc,bd⟩,k⟩:=h
  refine⟨_,(ag (ak (bq dq (am aF (aj ah (pv 0) ac (fun _ _=>rfl)) (aj ah (pv 1) ac (fun _ _=>rfl))) (am aF (aj ah (pv 1) ac (fun _ _=>rfl)) (aj ah (pv 0) ac (fun _ _=>rfl))) (ar _)))),?_⟩;refine⟨_,rfl,p,_,_,_,rfl,rfl,SqT.of hp,rfl,_,rfl,q,_,_,_,rfl,rfl,SqT.of hq,rfl,a,d,rfl,rfl,CM.b ba bd (by decide) (by decide),?_⟩;refine⟨_,rfl,q,_,_,_,rfl,rfl,SqT.of hq,rfl,_,rfl,p,_,_,_,rfl,rfl,SqT.of hp,rfl,c,b,rfl,rfl,CM.b bc bb (by decide) (by decide),?_⟩;exact⟨_,_,rfl,rfl,k⟩
theorem B0:yc ["begin","end","place","rest"] ["begin","end","place"] (af (top 91)):=smk
theorem kW{C:Addr}(AR:Df K mg "number_at" (top 91))(yw:Fx P w K mg base "ratio" ["top","bottom"] 2 [.int 1] (zh C)):Fn P w K mg base "number_at" ["begin","end","place"] 3 CL:=by
 refine AR.fn B0 (fun _ _ _ _ _ _ us hl=>by obtain⟨_,_,_,rfl⟩:=dP hl;rfl) (fun vs H Q E h=>?_) (fun f cdv A outer s H vs Q E hr h=>?_)
 ·obtain⟨x,y,p,t,b,rfl,_⟩:=h
  rfl
 ·obtain⟨x,y,p,t,b,rfl,fp,bx,by',k⟩:=h
  have hb:=fp.low.pos;have ep:=fp.at_;have br:ao (t % b)≤200:=dC (Int.emod_nonneg _ (by omega)) (Int.le_of_lt (Int.emod_lt_of_pos _ (by omega))) fp.bb;refine⟨_,(ae (aw (i:=3) B0.nd rfl (Or.inl rfl) (am d5 (aj ah (pv 2) ac (fun _ _=>rfl)) (aj ah (pv 2) ac (fun _ _=>rfl)))) (ag (ak (dk yw (hr.mono (by decide)) (by rfl) (aa (am a8 (am aF (pv 0) (aj ah (pv 2) ac (fun _ _=>rfl))) (am aF (am aS (pv 1) (pv 0)) (pv 3))) (aa (aj ah (pv 2) ac (fun _ _=>rfl)) ad)))))),?_⟩;refine⟨_,rfl,p,_,_,_,rfl,rfl,SqT.of ep,rfl,_,rfl,p,_,_,_,rfl,rfl,SqT.of ep,rfl,_,_,rfl,rfl,(by show(0:Int)<b;omega),?_⟩;refine⟨_,rfl,_,rfl,p,_,_,_,rfl,rfl,SqT.of ep,rfl,_,_,rfl,rfl,CM.b bx fp.bb (by decide) (by decide),_,rfl,_,rfl,_,_,rfl,rfl,_,rfl,_,_,rfl,rfl,CM.b (aO by' bx) br (by decide) (by decide),_,_,rfl,rfl,?_⟩;refine⟨_,rfl,p,_,_,_,rfl,rfl,SqT.of ep,rfl,_,_,262,rfl,⟨ap (ce (n:=261) (ap (bits_mul bx fp.bb) (by decide)) (bits_mul (aO by' bx) br)) (by decide),ap fp.bb (by decide),by decide⟩,fun z=>absurd z (by omega),fun _ r u v fr bu bv hr'=>?_⟩;obtain⟨H1,e1,s1,f1⟩:=oo (o:=.tup [.int u,.int v]) hr';rw[e1];exact k r u v H1 fr ⟨f1,fr.low,bu,bv⟩ s1
theorem Ah:yc ["line","place","corner","begin","end"] ["line","place"] (af (top 92)):=smk
theorem mD{C:Addr}(Be:Df K mg "point_at" (top 92))(zk:Fx P w K mg base "look_at_place" ["line","thing"] 4 [] (Dp C))(Ba:Fn P w K mg base "floor_of" ["a"] 1 CQ)(yp:Fn P w K mg base "last_of" ["line"] 1 BE)(zP:Fn P w K mg base "number_at" ["begin","end","place"] 3 CL)(T:Txt mg) :
  Fx P w K mg base "point_at" ["line","place"] 5 [] (B7 C):=by
 refine Be.fx Ah (fun _ _ _ _ _ _ us hl=>by obtain⟨_,_,rfl⟩:=cI hl;rfl) (fun vs H Q E h=>?_) (fun f cdv A outer s H vs Q E hr h=>?_)
 ·obtain⟨l,qs,x,rfl,_⟩:=h
  rfl
 ·obtain⟨l,qs,x,rfl,L,h1,h20,th,k0,k1⟩:=h
  have hll:(qs.map fun (q:Addr×Int×Int)=>V.ref q.1).length=qs.length:=List.length_map _;refine⟨_,(ae (bI (eg zk (hr.mono (by decide)) (by rfl) (aa (pv 0) (aa (pv 1) ad)))) (ae (aw (i:=2) Ah.nd rfl (Or.inl rfl) (az Ba (hr.mono (by decide)) (by rfl) (aa (pv 1) ad))) (ae (aw (i:=3) Ah.nd rfl (Or.inl rfl) (aj aQ (pv 0) (pv 2) (fun _ _=>rfl))) (ae (aw (i:=4) Ah.nd rfl (Or.inl rfl) (aj aQ (pv 0) (aJ (gZ rfl) (by rfl) T.z_min oE (aa (am a8 (pv 2) ac) (aa (az yp (hr.mono (by decide)) (by rfl) (aa (pv 0) ad)) ad))) (fun _ _=>rfl))) (ag (ak (oa (aa (az zP (hr.mono (by decide)) (by rfl) (aa (aj ah (pv 3) ac (fun _ _=>rfl)) (aa (aj ah (pv 4) ac (fun _ _=>rfl)) (aa (pv 1) ad)))) (aa (az zP (hr.mono (by decide)) (by rfl) (aa (aj ah (pv 3) ac (fun _ _=>rfl)) (aa (aj ah (pv 4) ac (fun _ _=>rfl)) (aa (pv 1) ad)))) ad))))))))),?_⟩;refine⟨_,rfl,_,rfl,l,_,x,rfl,L.lst,by rw[hll];omega,th,fun z=>k0 (by rw[hll]at z;exact z),fun hx=>?_⟩;rw[hll]at hx;obtain⟨p,t,b,rfl,ep,lw,t0,t1⟩:=nX hx;obtain⟨bt,bb,k⟩:=k1 p t b rfl ep lw t0 t1;have hb:=lw.pos;have fp:BN H p t b 200:=⟨ep,lw,bt,bb⟩;have q0:0≤t / b:=xx (by omega) t0;have qn:t / b≤(qs.length:Int) - 1:=Int.ediv_le_of_le_mul (by omega) t1;refine⟨_,rfl,p,t,b,rfl,ep,⟨by omega,ap bb (by decide)⟩,?_⟩;have atq:∀(j:Nat) (k:Int),k=(j:Int)->j<qs.length->atI (qs.map fun (q:Addr×Int×Int)=>V.ref q.1) k=some (.ref (qs.getD j (0,0,0)).1)∧qs.getD j (0,0,0)∈qs:=fun j k ek hj=>by
   have e1:qs.getD j (0,0,0)=qs[j]:=by rw[List.getD_eq_getElem?_getD,List.getElem?_eq_getElem hj];rfl
   rw[e1];subst ek;exact⟨dh (by rw[List.getElem?_map,List.getElem?_eq_getElem hj];rfl),List.getElem_mem hj⟩
  obtain⟨a0,m0⟩:=atq (t / b).toNat (t / b) (by omega) (by omega);refine⟨_,rfl,_,rfl,l,_,_,_,rfl,rfl,SqL.of L.lst,a0,?_⟩;obtain⟨a1,m1⟩:=atq (min ((t / b).toNat+1) (qs.length - 1)) (if ((((qs.map fun (q:Addr×Int×Int)=>V.ref q.1).length:Nat):Int) - 1)<t / b+1 then ((((qs.map fun (q:Addr×Int×Int)=>V.ref q.1).length:Nat):Int) - 1) else t / b+1) (by rw[hll];split <;> omega) (by omega)
  refine⟨_,rfl,_,rfl,_,_,rfl,rfl,_,rfl,l,_,rfl,L.lst,_,_,rfl,l,_,_,_,rfl,rfl,SqL.of L.lst,a1,?_⟩;have c0:=L.crn _ m0;have c1:=L.crn _ m1;refine⟨_,rfl,_,_,_,_,rfl,rfl,SqT.of c0.1,rfl,_,rfl,_,_,_,_,rfl,rfl,SqT.of c1.1,rfl,_,rfl,_,_,p,t,b,rfl,fp,ap c0.2.1 (by decide),ap c1.2.1 (by decide),fun rx u v H1 fr1 g1 s1=>?_⟩;refine⟨_,rfl,_,_,_,_,rfl,rfl,SqT.of (s1 _ _ c0.1),rfl,_,rfl,_,_,_,_,rfl,rfl,SqT.of (s1 _ _ c1.1),rfl,_,rfl,_,_,p,t,b,rfl,fp.mono s1,ap c0.2.2 (by decide),ap c1.2.2 (by decide),fun ry c d H2 fr2 g2 s2=>?_⟩;refine⟨sz (by simp),fun r hr'=>?_⟩;obtain⟨H3,e3,s3,f3⟩:=oo (o:=.tup [.ref rx,.ref ry]) hr';rw[e3];exact k r H3 ⟨⟨rx,ry,u,v,c,d,f3,(g1.mono s2).mono s3,g2.mono s3,fr1,fr2⟩⟩ (s1.trans (s2.trans s3))
theorem Db:yc ["begin","end"] ["begin","end"] (af (top 93)):=smk
theorem kT(AO:Df K mg "step_from" (top 93))(Ap:Fn P w K mg base "minus" ["a","b"] 3 (AG (fun a b c d=>a*d - c*b) (fun a b c d=>b*d))):Fn P w K mg base "step_from" ["begin","end"] 4 CI:=by
 refine AO.fn Db (fun _ _ _ _ _ _ us hl=>by obtain⟨_,_,rfl⟩:=cI hl;rfl) (fun vs H Q E h=>?_) (fun f cdv A outer s H vs Q E hr h=>?_)
 ·obtain⟨p,q,u,v,c,d,u',v',c',d',rfl,_⟩:=h
  rfl
 ·obtain⟨p,q,u,v,c,d,u',v',c',d',rfl,fp,fq,k⟩:=h
  obtain⟨px,py,ep,gx,gy⟩:=fp.ex;obtain⟨qx,qy,eq,hx,hy⟩:=fq.ex;have nz:∀{x y:Int},1≤x->1≤y->x*y≠0:=fun hx hy=>Int.mul_ne_zero (by omega) (by omega);refine⟨_,(ag (ak (oa (aa (az Ap (hr.mono (by decide)) (by rfl) (aa (aj ah (pv 1) ac (fun _ _=>rfl)) (aa (aj ah (pv 0) ac (fun _ _=>rfl)) ad))) (aa (az Ap (hr.mono (by decide)) (by rfl) (aa (aj ah (pv 1) ac (fun _ _=>rfl)) (aa (aj ah (pv 0) ac (fun _ _=>rfl)) ad))) ad))))),?_⟩;refine⟨_,rfl,q,_,_,_,rfl,rfl,SqT.of eq,rfl,_,rfl,p,_,_,_,rfl,rfl,SqT.of ep,rfl,qx,px,u',v',u,v,262,rfl,hx,gx,by decide,nz hx.low.pos gx.low.pos,fun r1 a b H1 fr1 g1 s1=>?_⟩;refine⟨_,rfl,q,_,_,_,rfl,rfl,SqT.of (s1 _ _ eq),rfl,_,rfl,p,_,_,_,rfl,rfl,SqT.of (s1 _ _ ep),rfl,qy,py,c',d',c,d,262,rfl,hy.mono s1,gy.mono s1,by decide,nz hy.low.pos gy.low.pos,fun r2 e f H2 fr2 g2 s2=>?_⟩;refine⟨sz (by simp),fun r hr'=>?_⟩;obtain⟨H3,e3,s3,f3⟩:=oo (o:=.tup [.ref r1,.ref r2]) hr';rw[e3];exact k r a b e f H3 fr1 fr2 ⟨⟨r1,r2,f3,(g1.mono s2).mono s3,g2.mono s3⟩⟩ (s1.trans (s2.trans s3))
theorem B5:yc ["one","other"] ["one","other"] (af (top 94)):=smk
theorem gR(zn:Df K mg "inner_product" (top 94))(BQ:Fn P w K mg base "plus" ["a","b"] 3 (AG (fun a b c d=>a*d+c*b) (fun a b c d=>b*d)))(Ao:Fn P w K mg base "times" ["a","b"] 3 (AG (fun a b c d=>a*c) (fun a b c d=>b*d))):Fn P w K mg base "inner_product" ["one","other"] 4 B8:=by
 refine zn.fn B5 (fun _ _ _ _ _ _ us hl=>by obtain⟨_,_,rfl⟩:=cI hl;rfl) (fun vs H Q E h=>?_) (fun f cdv A outer s H vs Q E hr h=>?_)
 ·obtain⟨p,q,a,b,e,f,a',b',e',f',rfl,_⟩:=h
  rfl
 ·obtain⟨p,q,a,b,e,f,a',b',e',f',rfl,fp,fq,k⟩:=h
  obtain⟨qx,qy,eq,hx,hy⟩:=fq.ex;obtain⟨px,py,ep,gx,gy⟩:=fp.ex;have nz:∀{x y:Int},1≤x->1≤y->x*y≠0:=fun hx hy=>Int.mul_ne_zero (by omega) (by omega);refine⟨_,(ag (ak (az BQ (hr.mono (by decide)) (by rfl) (aa (az Ao (hr.mono (by decide)) (by rfl) (aa (aj ah (pv 0) ac (fun _ _=>rfl)) (aa (aj ah (pv 1) ac (fun _ _=>rfl)) ad))) (aa (az Ao (hr.mono (by decide)) (by rfl) (aa (aj ah (pv 0) ac (fun _ _=>rfl)) (aa (aj ah (pv 1) ac (fun _ _=>rfl)) ad))) ad))))),?_⟩;refine⟨_,rfl,p,_,_,_,rfl,rfl,SqT.of ep,rfl,_,rfl,q,_,_,_,rfl,rfl,SqT.of eq,rfl,px,qx,a,b,a',b',525,rfl,gx,hx,by decide,nz gx.low.pos hx.low.pos,fun r1 m n H1 fr1 g1 s1=>?_⟩;refine⟨_,rfl,p,_,_,_,rfl,rfl,SqT.of (s1 _ _ ep),rfl,_,rfl,q,_,_,_,rfl,rfl,SqT.of (s1 _ _ eq),rfl,py,qy,e,f,e',f',525,rfl,gy.mono s1,hy.mono s1,by decide,nz gy.low.pos hy.low.pos,fun r2 m' n' H2 fr2 g2 s2=>?_⟩;exact⟨r1,r2,m,n,m',n',1051,rfl,g1.mono s2,g2,by decide,nz g1.low.pos g2.low.pos,fun r s' w' H3 fr3 g3 s3=>k r m n m' n' s' w' H3 fr1 fr2 fr3 g3 (s1.trans (s2.trans s3))⟩
theorem Af:yc ["begin","end","step"] ["begin","end"] (af (top 95)):=smk
theorem gA(zc:Df K mg "square_between" (top 95))(yL:Fn P w K mg base "step_from" ["begin","end"] 4 CI)(yq:Fn P w K mg base "inner_product" ["one","other"] 4 B8):Fn P w K mg base "square_between" ["begin","end"] 5 DK:=by
 refine zc.fn Af (fun _ _ _ _ _ _ us hl=>by obtain⟨_,_,rfl⟩:=cI hl;rfl) (fun vs H Q E h=>?_) (fun f cdv A outer s H vs Q E hr h=>?_)
 ·obtain⟨p,q,X,Y,b,X',Y',b',rfl,_⟩:=h
  rfl
 ·obtain⟨p,q,X,Y,b,X',Y',b',rfl,fp,fq,hb,hb',k⟩:=h
  obtain⟨px,py,u,v,c,d,ep,gx,gy,f1,f2⟩:=fp.ex;obtain⟨qx,qy,u',v',c',d',eq,hx,hy,f3,f4⟩:=fq.ex;refine⟨_,(ae (aw (i:=2) Af.nd rfl (Or.inl rfl) (az yL (hr.mono (by decide)) (by rfl) (aa (pv 0) (aa (pv 1) ad)))) (ag (ak (az yq (hr.mono (by decide)) (by rfl) (aa (pv 2) (aa (pv 2) ad)))))),?_⟩;refine⟨_,rfl,_,rfl,p,q,u,v,c,d,u',v',c',d',rfl,⟨⟨px,py,ep,gx,gy⟩⟩,⟨⟨qx,qy,eq,hx,hy⟩⟩,fun r a e a' e' H1 g1 g2 pf s1=>?_⟩;exact⟨_,rfl,_,rfl,r,r,a,e,a',e',a,e,a',e',rfl,pf,pf,fun r2 m n m' n' s' w' H2 k1 k2 k3 g3 s2=>k r2 s' w' H2 (oR f1 f2 f3 f4 g1 g2 k1 k2 k3) g3 (s1.trans s2)⟩
theorem Dc:yc ["one","x","other","y"] ["one","x","other","y"] (af (top 96)):=smk
theorem kU{C:Addr}(AQ:Df K mg "square_of" (top 96))(yt:Fn P w K mg base "square_between" ["begin","end"] 5 DK)(yz:Fx P w K mg base "point_at" ["line","place"] 5 [] (B7 C)):Fx P w K mg base "square_of" ["one","x","other","y"] 6 [] (Bs C):=by
 refine AQ.fx Dc (fun _ _ _ _ _ _ us hl=>by obtain⟨_,_,_,_,rfl⟩:=kO hl;rfl) (fun vs H Q E h=>?_) (fun f cdv A outer s H vs Q E hr h=>?_)
 ·obtain⟨l,l',qs,qs',x,y,rfl,_⟩:=h
  rfl
 ·obtain⟨l,l',qs,qs',x,y,rfl,L,L',h1,h1',tx,ty,h⟩:=h
  refine⟨_,(ag (ak (az yt (hr.mono (by decide)) (by rfl) (aa (eg yz (hr.mono (by decide)) (by rfl) (aa (pv 0) (aa (pv 1) ad))) (aa (eg yz (hr.mono (by decide)) (by rfl) (aa (pv 2) (aa (pv 3) ad))) ad))))),?_⟩;refine⟨_,rfl,_,rfl,l,qs,x,rfl,L,h1.1,h1.2,tx,fun z=>?_,fun p t b ep eH lw t0 t1=>?_⟩
  ·rcases h with h|⟨p,t,b,rfl,pl,_⟩
   ·exact h.2
   ·rw[show bf ((qs.length:Int) - 1) H (.ref p)=true from pl.place]at z
    cases z
  rcases h with h|⟨p',t',b',rfl,pl,h⟩
  ·subst ep
   have z:=h.1;rw[show bf (cD qs) H (.ref p)=true from fe eH lw t0 t1]at z;cases z
  cases ep;have e2:=pl.at_;rw[eH]at e2;cases e2;refine⟨pl.bt,pl.bb,fun r H1 pt s1=>?_⟩;refine⟨_,rfl,_,rfl,l',qs',y,rfl,L'.mono s1,h1'.1,h1'.2,yT.mono ty s1,fun z=>?_,fun q u c eq' eH' lw' u0 u1=>?_⟩
  ·rcases h with h|⟨q,u,c,rfl,pl',_⟩
   ·exact h.2 H1 s1
   ·rw[show bf ((qs'.length:Int) - 1) H1 (.ref q)=true from(pl'.mono s1).place]at z
    cases z
  rcases h with h|⟨q',u',c',rfl,pl',k⟩
  ·subst eq'
   have z:=h.1;obtain⟨kd,kn⟩:=ty.kn;rw[<- eQ kn s1,show bf (cD qs') H1 (.ref q)=true from fe eH' lw' u0 u1]at z;cases z
  cases eq';have e3:=(pl'.mono s1).at_;rw[eH']at e3;cases e3;refine⟨pl'.bt,pl'.bb,fun r' H2 pt' s2=>?_⟩;have hb:=lw.pos;have hc:=lw'.pos;exact⟨r,r',_,_,_,_,_,_,rfl,pt.mono s2,pt',by omega,by omega,fun r2 s' w' H3 fr f3 s3=>k r2 s' w' H3 fr f3 (s1.trans (s2.trans s3))⟩
theorem zr:yc ["point","begin","end","step","part"] ["point","begin","end"] (af (top 97)):=smk
theorem ii(zH:Df K mg "nearest_part" (top 97))(yL:Fn P w K mg base "step_from" ["begin","end"] 4 CI)(yq:Fn P w K mg base "inner_product" ["one","other"] 4 B8)(DF:Fn P w K mg base "over" ["a","b"] 3 (AG (fun a b c d=>a*d) (fun a b c d=>b*c)))(zw:Fn P w K mg base "less" ["a","b"] 1 Ep):Fn P w K mg base "nearest_part" ["point","begin","end"] 5 Do:=by
 refine zH.fn zr (fun _ _ _ _ _ _ us hl=>by obtain⟨_,_,_,rfl⟩:=dP hl;rfl) (fun vs H Q E h=>?_) (fun f cdv A outer s H vs Q E hr h=>?_)
 ·obtain⟨p,p1,p2,X,Y,b,X1,Y1,b1,X2,Y2,b2,rfl,_⟩:=h
  rfl
 ·obtain⟨p,p1,p2,X,Y,b,X1,Y1,b1,X2,Y2,b2,rfl,pt,pt1,pt2,hb,hb1,hb2,k⟩:=h
  refine⟨_,(ae (aM (aq (v4 hr.units10) (pv 1) (pv 2) (ar _)) (ag (ak (aG (aa ac (aa ac ad))))) aA) (ae (aw (i:=3) zr.nd rfl (Or.inl rfl) (az yL (hr.mono (by decide)) (by rfl) (aa (pv 1) (aa (pv 2) ad)))) (ae (aw (i:=4) zr.nd rfl (Or.inl rfl) (az DF (hr.mono (by decide)) (by rfl) (aa (az yq (hr.mono (by decide)) (by rfl) (aa (az yL (hr.mono (by decide)) (by rfl) (aa (pv 1) (aa (pv 0) ad))) (aa (pv 3) ad))) (aa (az yq (hr.mono (by decide)) (by rfl) (aa (pv 3) (aa (pv 3) ad))) ad)))) (ae (aM (aV (az zw (hr.mono (by decide)) (by rfl) (aa (pv 4) (aa (aG (aa ac (aa ac ad))) ad)))) (ag (ak (aG (aa ac (aa ac ad))))) aA) (ae (aM (aV (az zw (hr.mono (by decide)) (by rfl) (aa (aG (aa ac (aa ac ad))) (aa (pv 4) ad)))) (ag (ak (aG (aa ac (aa ac ad))))) aA) (ag (ak (pv 4)))))))),?_⟩;obtain⟨px,py,u,v,c,d,ep,gx,gy,f1,f2⟩:=pt.ex;obtain⟨qx,qy,u1,v1,c1,d1,eq,hx,hy,f3,f4⟩:=pt1.ex;obtain⟨rx,ry,u2,v2,c2,d2,er,kx,ky,f5,f6⟩:=pt2.ex;have F0:DY H p u v c d 262:=⟨⟨px,py,ep,gx,gy⟩⟩;have F1:DY H p1 u1 v1 c1 d1 262:=⟨⟨qx,qy,eq,hx,hy⟩⟩;have F2:DY H p2 u2 v2 c2 d2 262:=⟨⟨rx,ry,er,kx,ky⟩⟩;have b01:ao 0≤4207∧ao 1≤4207:=⟨by decide,by decide⟩;have Z:∀{H':Hp} {r:Addr},H' r=some (.tup [.int 0,.int 1])->BN H' r 0 1 4207:=fun e=>⟨e,⟨by decide,by decide⟩,b01.1,b01.2⟩;have O:∀{H':Hp} {r:Addr},H' r=some (.tup [.int 1,.int 1])->BN H' r 1 1 4207:=fun e=>⟨e,⟨by decide,by decide⟩,b01.2,b01.2⟩;refine⟨_,rfl,_,rfl,_,_,vf F1,vf F2,_,rfl,aW (fun h1=>?_) (fun h1=>?_)⟩
  ·have h1:(u1=u2∧v1=v2)∧(c1=c2∧d1=d2):=by simpa[deq,fL]using h1
   exact⟨sz (by simp),fun r H1 s1 f1' _=>k r 0 1 H1 (Z f1') (.inl ⟨⟨(iK (by omega) (by omega) f3 f5).mpr h1.1,(iK (by omega) (by omega) f4 f6).mpr h1.2⟩,rfl,rfl⟩) s1⟩
  have h1:¬((u1=u2∧v1=v2)∧(c1=c2∧d1=d2)):=by simpa[deq,fL]using h1
  have hS:0<(X2*b1 - X1*b2)*(X2*b1 - X1*b2)+(Y2*b1 - Y1*b2)*(Y2*b1 - Y1*b2):=by
   have q:∀x:Int,0≤x*x:=fun x=>fg (by omega);have q1:=q (X2*b1 - X1*b2);have q2:=q (Y2*b1 - Y1*b2)
   by_cases z:(X2*b1 - X1*b2)*(X2*b1 - X1*b2)+(Y2*b1 - Y1*b2)*(Y2*b1 - Y1*b2)=0
   ·obtain⟨z1,z2⟩:=tI z
    exact absurd ⟨(iK (by omega) (by omega) f3 f5).mp (by omega),(iK (by omega) (by omega) f4 f6).mp (by omega)⟩ h1
   ·omega
  have hN:0<nN b X1 Y1 b1 X2 Y2 b2:=Int.mul_pos hb hS;refine⟨_,rfl,_,rfl,p1,p2,u1,v1,c1,d1,u2,v2,c2,d2,rfl,F1,F2,fun st a e a' e' H1 g1 g2 pf s1=>?_⟩;refine⟨_,rfl,_,rfl,p1,p,u1,v1,c1,d1,u,v,c,d,rfl,F1.mono s1,F0.mono s1,fun st2 a2 e2 a2' e2' H2 g3 g4 pf2 s2=>?_⟩;refine⟨_,rfl,st2,st,a2,e2,a2',e2',a,e,a',e',rfl,pf2,pf.mono s2,fun r1 m n m' n' i j H3 k1 k2 k3 g5 s3=>?_⟩;refine⟨_,rfl,_,rfl,st,st,a,e,a',e',a,e,a',e',rfl,(pf.mono s2).mono s3,(pf.mono s2).mono s3,fun r2 m2 n2 m2' n2' i2 j2 H4 l1 l2 l3 g6 s4=>?_⟩;have hi:=rP hb1 hb2 f3 f4 f5 f6 g1 g2 l1 l2 l3 hS;have hj:=k3.low.pos;refine⟨r1,r2,i,j,i2,j2,2103,rfl,g5.mono s4,g6,by decide,Int.mul_ne_zero (by omega) (by omega),fun rp t w' H5 fin g7 s5=>?_⟩;have eN:=ud (by omega) (by omega) (by omega) f1 f2 f3 f4 f5 f6 g1 g2 g3 g4 k1 k2 k3 l1 l2 l3 (by omega) fin (by omega);have hw:=fin.low.pos;obtain⟨c1',c2'⟩:=vm (by omega) hN eN;have S5:=s1.trans (s2.trans (s3.trans (s4.trans s5)));have bt:=g7.ba;have bw:=g7.bb;refine⟨_,rfl,sz (by simp),fun zp H6 s6 f6' _=>?_⟩;refine⟨rp,zp,t,w',0,1,rfl,(g7.mono s6).at_,f6',⟨ap bt (by decide),ap bw (by decide),by decide,by decide⟩,_,rfl,aW (fun h2=>?_) (fun h2=>?_)⟩
  ·have h2:t*1<0*w':=ej h2
   exact⟨sz (by simp),fun r H7 s7 f7 _=>k r 0 1 H7 (Z f7) (.inr ⟨hN,.inl ⟨c1'.mp (by omega),rfl,rfl⟩⟩) (S5.trans (s6.trans s7))⟩
  have h2:¬t*1<0*w':=dS h2;refine⟨sz (by simp),fun op H7 s7 f7 _=>?_⟩;have G7:=(g7.mono s6).mono s7;refine⟨_,rfl,op,rp,1,1,t,w',rfl,f7,G7.at_,⟨by decide,by decide,ap bt (by decide),ap bw (by decide)⟩,_,rfl,aW (fun h3=>?_) (fun h3=>?_)⟩
  ·have h3:1*w'<t*1:=ej h3
   exact⟨sz (by simp),fun r H8 s8 f8 _=>k r 1 1 H8 (O f8) (.inr ⟨hN,.inr (.inl ⟨c2'.mp (by omega),rfl,rfl⟩)⟩) (S5.trans (s6.trans (s7.trans s8)))⟩
  have h3:¬1*w'<t*1:=dS h3;exact⟨_,rfl,k rp t w' H7 G7 (.inr ⟨hN,.inr (.inr ⟨by omega,by omega,by omega,eN⟩)⟩) (S5.trans (s6.trans s7))⟩
theorem zg:yc ["one","x","other","low","high","point","part","place"] ["one","x","other","low","high"] (af (top 98)):=smk
theorem jh{C:Addr}(Aa:Df K mg "least_along" (top 98))(yz:Fx P w K mg base "point_at" ["line","place"] 5 [] (B7 C))(zu:Fn P w K mg base "nearest_part" ["point","begin","end"] 5 Do)(BQ:Fn P w K mg base "plus" ["a","b"] 3 (AG (fun a b c d=>a*d+c*b) (fun a b c d=>b*d)))(Ao:Fn P w K mg base "times" ["a","b"] 3 (AG (fun a b c d=>a*c) (fun a b c d=>b*d)))(Ap:Fn P w K mg base "minus" ["a","b"] 3 (AG (fun a b c d=>a*d - c*b) (fun a b c d=>b*d)))(yt:Fn P w K mg base "square_between" ["begin","end"] 5 DK):Fx P w K mg base "least_along" ["one","x","other","low","high"] 6 [] (CP C):=by
 refine Aa.fx zg (fun _ _ _ _ _ _ us hl=>by obtain⟨_,_,_,_,_,rfl⟩:=xh hl;rfl) (fun vs H Q E h=>?_) (fun f cdv A outer s H vs Q E hr h=>?_)
 ·obtain⟨l,l',qs,qs',x,y,z,rfl,_⟩:=h
  rfl
 ·obtain⟨l,l',qs,qs',x,y,z,rfl,L,L',h1,h1',tx,ty,tz,h⟩:=h
  refine⟨_,(ae (aw (i:=5) zg.nd rfl (Or.inl rfl) (eg yz (hr.mono (by decide)) (by rfl) (aa (pv 0) (aa (pv 1) ad)))) (ae (aw (i:=6) zg.nd rfl (Or.inl rfl) (az zu (hr.mono (by decide)) (by rfl) (aa (pv 5) (aa (eg yz (hr.mono (by decide)) (by rfl) (aa (pv 2) (aa (pv 3) ad))) (aa (eg yz (hr.mono (by decide)) (by rfl) (aa (pv 2) (aa (pv 4) ad))) ad))))) (ae (aw (i:=7) zg.nd rfl (Or.inl rfl) (az BQ (hr.mono (by decide)) (by rfl) (aa (pv 3) (aa (az Ao (hr.mono (by decide)) (by rfl) (aa (pv 6) (aa (az Ap (hr.mono (by decide)) (by rfl) (aa (pv 4) (aa (pv 3) ad))) ad))) ad)))) (ag (ak (aG (aa (az yt (hr.mono (by decide)) (by rfl) (aa (pv 5) (aa (eg yz (hr.mono (by decide)) (by rfl) (aa (pv 2) (aa (pv 7) ad))) ad))) (aa (pv 7) ad)))))))),?_⟩;rcases h with h|⟨p,t,b,rfl,pl,h⟩
  ·exact⟨_,rfl,_,rfl,_,_,_,rfl,L,h1.1,h1.2,tx,fun _=>h.2,fun _ _ _ e0 eH lw t0 t1=>vR h.1 e0 eH lw t0 t1⟩
  refine⟨_,rfl,_,rfl,_,_,_,rfl,L,h1.1,h1.2,Bz.th pl,tT pl,tS pl fun r H1 pt s1=>?_⟩;obtain⟨ky,ny⟩:=ty.kn;obtain⟨kz,nz⟩:=tz.kn;rcases h with h|⟨q,l1,l2,rfl,pq,h⟩
  ·exact⟨_,rfl,_,rfl,_,rfl,_,_,_,rfl,(L'.mono s1),h1'.1,h1'.2,(yT.mono ty s1),fun _=>(h.2 H1 s1),fun _ _ _ e0 eH lw t0 t1=>vR (by rw[eQ ny s1];exact h.1) e0 eH lw t0 t1⟩
  refine⟨_,rfl,_,rfl,_,rfl,_,_,_,rfl,(L'.mono s1),h1'.1,h1'.2,Bz.th (pq.mono s1),tT (pq.mono s1),tS (pq.mono s1) fun r1 H2 pt1 s2=>?_⟩;have S2:=s1.trans s2;rcases h with h|⟨q',hi1,hi2,rfl,pq',bb,b2,b4,ins,k⟩
  ·exact⟨_,rfl,_,rfl,_,_,_,rfl,(L'.mono S2),h1'.1,h1'.2,(yT.mono tz S2),fun _=>(h.2 H2 S2),fun _ _ _ e0 eH lw t0 t1=>vR (by rw[eQ nz S2];exact h.1) e0 eH lw t0 t1⟩
  have hb:(0:Int)<b:=pl.low.pos;have hl:(0:Int)<l2:=pq.low.pos;have hh:(0:Int)<hi2:=pq'.low.pos;refine⟨_,rfl,_,rfl,_,_,_,rfl,(L'.mono S2),h1'.1,h1'.2,Bz.th (pq'.mono S2),tT (pq'.mono S2),tS (pq'.mono S2) fun r2 H3 pt2 s3=>?_⟩;refine⟨r,r1,r2,_,_,_,_,_,_,_,_,_,rfl,(pt.mono s2).mono s3,pt1.mono s3,pt2,hb,hl,hh,fun rp ps pw H4 gp np s4=>?_⟩;have S4:=S2.trans (s3.trans s4);have G1:BN H4 q l1 l2 200:=⟨(pq.mono S4).at_,pq.low,pq.bt,pq.bb⟩;have G2:BN H4 q' hi1 hi2 200:=⟨(pq'.mono S4).at_,pq'.low,pq'.bt,pq'.bb⟩;have hpb:ao ps≤900∧ao pw≤900:=by
   have z1:ao 0≤900∧ao 1≤900:=⟨by decide,by decide⟩;rcases np with⟨_,rfl,rfl⟩|⟨hN,⟨_,rfl,rfl⟩|⟨_,rfl,rfl⟩|⟨_,_,_,e⟩⟩
   ·exact z1
   ·exact z1
   ·exact⟨z1.2,z1.2⟩
   ·rcases ins with⟨rfl,rfl⟩|⟨kk,st⟩
    ·unfold nN at hN
     simp at hN
    ·exact qc (L'.mono S4) hb hl hh bb b2 b4 st (kD L hb pl.bb) gp.low hN e
  have gpb:BN H4 rp ps pw 900:=⟨gp.at_,gp.low,hpb.1,hpb.2⟩;refine⟨_,rfl,_,rfl,_,rfl,_,rfl,q',q,hi1,hi2,l1,l2,200,rfl,G2,G1,by decide,Int.mul_ne_zero (by omega) (by omega),fun rm a e H5 fm gm s5=>?_⟩;refine⟨rp,rm,ps,pw,a,e,900,rfl,gpb.mono s5,gm.wide (by decide),by decide,Int.mul_ne_zero (nzl gp.low) (nzl gm.low),fun rt m n H6 ft gt s6=>?_⟩;refine⟨q,rt,l1,l2,m,n,1801,rfl,((G1.mono s5).mono s6).wide (by decide),gt,by decide,Int.mul_ne_zero (by omega) (nzl gt.low),fun rpl T B H7 fT gT s7=>?_⟩;obtain⟨lp,r0,r1'⟩:=sd hb pq.low pq'.low ins np fm ft fT;have S7:=S4.trans (s5.trans (s6.trans s7));have hB:(0:Int)<B:=fT.low.pos;have t0:0≤T:=by
   have z:=Int.mul_nonneg pq.lo (show 0≤B by omega)
   by_cases c:0≤T
   ·exact c
   ·have:=Int.mul_neg_of_neg_of_pos (show T<0 by omega) hl
    omega
  have t1:T≤cD qs'*B:=by
   have z:=Int.mul_le_mul_of_nonneg_right pq'.hi (show 0≤B by omega);have:T*hi2≤cD qs'*B*hi2:=by rw[Int.mul_right_comm];omega
   exact Int.le_of_mul_le_mul_right this hh
  obtain⟨bT,bB⟩:=uf L' h1'.2 hb bb fT.low lp b2 b4 t0 t1;have PL:Bz H7 rpl T B (cD qs'):=⟨gT.at_,fT.low,t0,t1,bT,ap bB (by decide)⟩;refine⟨_,rfl,_,rfl,_,rfl,_,_,_,rfl,(L'.mono S7),h1'.1,h1'.2,Bz.th PL,tT PL,tS PL fun r3 H8 pt3 s8=>?_⟩;refine⟨r,r3,_,_,_,_,_,_,rfl,(pt.mono (s2.trans (s3.trans (s4.trans (s5.trans (s6.trans s7)))))).mono s8,pt3,hb,hB,fun rs sn sw H9 fs gs s9=>?_⟩;refine⟨_,rfl,sz (by simp),fun rr H10 s10 f10 _=>?_⟩;exact k rr rs rpl sn sw T B H10 f10 (gs.mono s10) (PL.mono (s8.trans (s9.trans s10))) lp r0 r1' fs (S7.trans (s8.trans (s9.trans s10)))
structure Sq(H:Hp)(p:Addr)(a b:Int):Prop where
 at_:H p=some (.tup [.int a,.int b])
 ba:ao a≤2000
 bb:ao b≤2000
theorem Sq.mono{H H':Hp}{p:Addr}{x y:Int}(c:Sq H p x y)(s:Same H H'):Sq H' p x y:=⟨s _ _ c.at_,c.ba,c.bb⟩
inductive EL (vs:List V) (H:Hp) (Q:VK) (x_3:XK):Prop
 | mk:∀(p q r:Addr) (x y x' y' a b:Int),(vs = [.ref p,.ref q,.ref r])->(Sp24.Cn H p x y)->(Sp24.Cn H q x' y')->(Sq H r a b)->(Q (.int (lo x y x' y' a b)) H)->EL vs H Q x_3
def SmW(tw tf:Addr)(H H':Hp):Prop:=∀b o,b≠tw->b≠tf->H b=some o->H' b=some o
theorem Bv:yc ["came","spot","row","ahead"] ["came","spot"] (af (top 55)):=smk
theorem qA(Ct:Df K mg "row_to" (top 55))(T:Txt mg):Fn P w K mg base "row_to" ["came","spot"] 1 CJ:=by
 refine Ct.fn Bv (fun _ _ _ _ _ _ us hl=>by obtain⟨_,_,rfl⟩:=cI hl;rfl) (fun vs H Q E h=>?_) (fun f cdv A outer s H vs Q E hr h=>?_)
 ·obtain⟨d,sv,es,i,e,rfl,_⟩:=h
  rfl
 ·obtain⟨d,sv,es,i,e,rfl,cm,tr,he,hsv,hl,q⟩:=h
  refine⟨_,(ae (aw (i:=2) Bv.nd rfl (Or.inl rfl) (bE ad)) (ae (eO PassesOwn.never (aq kJ (pv 1) bp (ar _)) (ae (aw (i:=3) Bv.nd rfl (Or.inl rfl) (tW (jb hr) (pv 0) (pv 1) (fun _ _=>rfl))) (ae (bI (eh PySem.F.plainAttrs_list PySem.F.slot_list_append PySem.F.type_list_append cS (pv 2) (aa (aG (aa (pv 1) (aa (aj ah (pv 3) ac (fun _ _=>rfl)) ad))) ad))) (ag (aw (i:=1) Bv.nd rfl (Or.inl rfl) (aj ah (pv 3) ac (fun _ _=>rfl))))))) (ae (bI (rK PySem.F.plainAttrs_list PySem.F.slot_list_reverse PySem.F.type_list_reverse md (pv 2))) (ag (ak (pv 2)))))),?_⟩;refine⟨sz (by simp),fun r H1 s1 f1 n1=>?_⟩;have CM':∀{H':Hp},Same H H'->∃kvs,H' d=some (.dT kvs)∧Paired (Ent H' es) es kvs:=fun {H'} s'=>by
   obtain⟨kvs,e1,e2⟩:=cm;exact⟨kvs,s' _ _ e1,Paired.mapP e2 fun a b x=>x.mono s'.t fun _ _ h=>h⟩
  refine eE (fun σ H'=>∃(cur:Option Nat) (cv:V) (done:List (aI×V)) (vs:List V) (av:Option V),σ = [some (.ref d),some cv,some (.ref r),av]∧Same H H'∧H' r=some (.lst vs)∧Paired (fun (e:aI×V) v=>∃t sv,v = .ref t∧H' t=some (.tup [sv,e.2])∧bD H' sv e.1) done vs∧oG es cur i done ∧
    (cur=none->cv = .non)∧(∀j,cur=some j->∃e,es[j]? = some e∧bD H' cv e.1∧done.length+j+1≤es.length)∧done.length≤es.length)
   (fun _ H'=>match H' r with|some (.lst vs)=>es.length - vs.length|_=>0) ⟨some i,sv,[],[],_,rfl,s1,f1,.nil,oG.begin,(fun z=>nomatch z),(fun j z=>by cases z;exact⟨e,he,hsv.mono s1.t,by have:=(List.getElem?_eq_some_iff.mp he).1;simp;omega⟩),Nat.zero_le _⟩ ?_ ?_
  ·rintro σ H2 ⟨cur,cv,done,vs,av,rfl,s2,f2,pr,lf,c0,c1,dl⟩
   refine⟨_,rfl,rfl,_,rfl,?_⟩;cases cur with
   | none =>
    rw[c0 rfl];refine eW ?_;refine⟨_,rfl,.inl ⟨rfl,_,SqL.of f2⟩,r,_,rfl,rfl,f2,fun H3 u=>?_⟩;refine⟨_,rfl,?_⟩;have s3:Same H H3:=fun b o eb=>u.at (fun z=>by rw[z,n1]at eb;cases eb) (s2 b o eb);refine q r H3 done.reverse s3 (by simpa using lf [] rfl) (by simpa using dl) ⟨_,u.now,?_⟩;exact oe (Paired.mapP pr fun a b ⟨t,sv,x1,x2,x3⟩=>⟨t,sv,x1,u.t _ _ x2,x3.mono u.t⟩)
   | some j =>
    obtain⟨e,he,hs,hj⟩:=c1 j rfl;obtain⟨p,rfl,hp⟩:=hs;refine eV ?_;obtain⟨kvs,kd,kp⟩:=CM' s2;obtain⟨kv,hkv,ke,t,pv,kt,ht,h0,h1⟩:=cR kp j e he;have nd:(kvs.map (·.1)).Nodup:=by rw[kP kp];exact tr.nd
    have vv:=tE nd hkv;rw[ke,kt]at vv;have dg:=g9.t kd hp;rw[vv]at dg;refine⟨_,rfl,_,rfl,d,_,rfl,dg,?_⟩;refine⟨_,rfl,.inl ⟨rfl,_,SqL.of f2⟩,_,rfl,_,rfl,t,_,_,_,rfl,rfl,SqT.of ht,rfl,sz (by simp),fun x H3 s3 f3 n3=>?_⟩;have lv:=Paired.length pr;refine⟨r,_,_,rfl,rfl,s3 _ _ f2,bZ (by omega),fun H4 u=>?_⟩;have s4:Same H H4:=fun b o eb=>u.at (fun z=>by rw[z,n1]at eb;cases eb) (s3 _ _ (s2 b o eb));have t4:=s3.t.trans u.t;refine⟨_,rfl,t,_,_,_,rfl,rfl,SqT.of (t4 _ _ ht),rfl,?_⟩;refine⟨⟨e.2.1,pv,done++[(e.1,e.2.2)],_,_,rfl,s4,u.now,Paired.snoc (Paired.mapP pr fun a b ⟨t,sv,x1,x2,x3⟩=>⟨t,sv,x1,t4 _ _ x2,x3.mono t4⟩) ⟨x,.ref p,rfl,u.t _ _ f3,p,rfl,t4 _ _ hp⟩,lf.up he,h0,fun j' hj'=>?_,?_⟩,?_⟩
    ·obtain⟨e',g1,g2⟩:=h1 j' hj'
     have:=tr.up j e j' he hj';refine⟨e',g1,g2.mono t4,?_⟩;rw[List.length_append,List.length_singleton];omega
    ·rw[List.length_append,List.length_singleton]
     omega
    ·show(match H4 r with|some (.lst vs)=>es.length - vs.length|_=>0)<(match H2 r with|some (.lst vs)=>es.length - vs.length|_=>0)
     rw[u.now,f2];show es.length - (vs++[V.ref x]).length<es.length - vs.length;rw[List.length_append,List.length_singleton];omega
  ·rintro σ H' Q1 Q2 hq ⟨v,e,hs,k,ek,r⟩
   exact⟨v,e,hs,k,ek,hq _ _ r⟩
theorem AJ:yc ["begins","steps_from","is_end","came","spot","row","number","step"] ["begins","steps_from","is_end"] (af (top 56)):=smk
theorem uF(DG:Df K mg "seek" (top 56))(Cq:Fn P w K mg base "row_to" ["came","spot"] 1 CJ)(T:Txt mg):Fn P w K mg base "seek" ["begins","steps_from","is_end"] 5 (nO P w K mg base 3):=by
 refine DG.fn AJ (fun _ _ _ _ _ _ us hl=>by obtain⟨_,_,_,rfl⟩:=dP hl;rfl) (fun vs H Q E h=>?_) (fun f cdv A outer s H vs Q E hr h=>?_)
 ·obtain⟨b,f1,f2,bvs,bs,U,stp,fin,rfl,_⟩:=h
  rfl
 ·obtain⟨b,f1,f2,bvs,bs,U,stp,fin,rfl,hb,pb,nd,hU,hul,F,q0,q1⟩:=h
  refine⟨_,(ae (aw (i:=3) AJ.nd rfl (Or.inl rfl) lW) (ae (cB PassesOwn.never rfl (cF (pv 0)) (aP (i:=4) AJ.nd rfl (Or.inl rfl)) (ag (kE (jb hr) (pv 3) (pv 4) (aG (aa bp (aa bp ad))) rfl))) (ae (aw (i:=5) AJ.nd rfl (Or.inl rfl) (dM cL (by rfl) T.z_list fE (aa (pv 0) ad))) (ae (aw (i:=6) AJ.nd rfl (Or.inl rfl) ac) (ae (eO PassesOwn.never (aq dq (pv 6) (aJ aL (by rfl) T.z_len bP (aa (pv 5) ad)) (ar _)) (ae (aw (i:=4) AJ.nd rfl (Or.inl rfl) (aj aQ (pv 5) (pv 6) (fun _ _=>rfl))) (ae (aM (aV (i3 (k:=3) (i:=2) (hr.mono (by decide)) rfl (Or.inl rfl) (aa (pv 4) ad))) (ag (ak (az Cq (hr.mono (by decide)) (by rfl) (aa (pv 3) (aa (pv 4) ad))))) aA) (ae (cB PassesOwn.never rfl (cF (i3 (k:=3) (i:=1) (hr.mono (by decide)) rfl (Or.inl rfl) (aa (pv 4) ad))) (aP (i:=7) AJ.nd rfl (Or.inl rfl)) (ag (aM (nS (jZ (jb hr) (aj ah (pv 7) ac (fun _ _=>rfl)) (pv 3)) (by rfl)) (ae (kE (jb hr) (pv 3) (aj ah (pv 7) ac (fun _ _=>rfl)) (aG (aa (pv 4) (aa (aj ah (pv 7) ac (fun _ _=>rfl)) ad))) rfl) (ag (bI (eh PySem.F.plainAttrs_list PySem.F.slot_list_append PySem.F.type_list_append cS (pv 5) (aa (aj ah (pv 7) ac (fun _ _=>rfl)) ad))))) aA))) (ag (vT (i:=6) AJ.nd rfl (Or.inl rfl) ac wf)))))) (ag (ak bp))))))),?_⟩;obtain⟨sp1,i1,c1⟩:=F.c1;obtain⟨sp2,i2,c2⟩:=F.c2;have FO:∀{f:Addr} {H':Hp},nJ H f->Same H H'->nJ H' f:=fun {f H'} ⟨o,fd,e,d⟩ s=>⟨o,fd,s _ _ e,d⟩;have bl:=Paired.length pb;refine fun d hd=>?_;have s1:Same H (upd H d (.dT [])):=Same.new hd;refine⟨_,rfl,b,rfl,⟨_,SqL.of (s1 _ _ hb)⟩,cJ (K:=K) (xs:=bvs) (fun i σ H'=>∃spv,σ = [some (.ref b),some (.ref f1),some (.ref f2),some (.ref d),spv,none,none,none]∧Same H H'∧hO H' d ((bs.take i).map fun s=>(s,none,.non))) ⟨_,rfl,s1,[],upd_same,.nil⟩ ?_ ?_ ?_⟩
  ·rintro i σ H' hi ⟨spv,rfl,s',_⟩
   exact SqL.of (s' _ _ hb)
  ·rintro i x σ H' hx ⟨spv,rfl,s',cm⟩
   obtain⟨s,hs,p,rfl,hp⟩:=a7 pb i x hx;refine⟨sz (by simp),fun t H2 s2 f2 n2=>⟨_,rfl,_,rfl,?_⟩⟩;have hns:s∉(((bs.take i).map fun s=>((s,none,.non):En)).map (·.1)):=by
    rw[List.map_map];show s∉(bs.take i).map id;rw[List.map_id];intro z;obtain⟨j,hj⟩:=List.getElem?_of_mem z;have ⟨j1,j2⟩:=List.getElem?_eq_some_iff.mp hj;rw[List.length_take]at j1;rw[List.getElem?_take_of_lt (by omega)]at hj;have:=qh nd hs hj;omega
   have hlb:=j3 nd hU;obtain⟨H3,dp,cm3,t3,o3⟩:=(cm.mono s2).add (s:=s) (pj:=none) (s2 _ _ (s' _ _ hp)) f2 hns (fun _=>rfl) (fun j z=>nomatch z) (by simp;omega)
   have s3:Same H H3:=fun x o e=>by
    rw[o3 x (fun z=>by rw[z,hd]at e;cases e)];exact s2 _ _ (s' _ _ e)
   refine⟨d,H3,rfl,dp,_,rfl,s3,?_⟩;rw[List.take_add_one,hs,List.map_append];exact cm3
  ·rintro σ H2 ⟨spv,rfl,s2,cm⟩
   rw[List.take_of_length_le (by omega)]at cm;refine⟨_,rfl,b,_,rfl,.inl (SqL.of (s2 _ _ hb)),fun r H3 s3 f3 n3=>?_⟩;have nr:H r=none:=s2.free n3;have rd:r≠d:=fun z=>by
    obtain⟨kvs,e1,_⟩:=cm;rw[z,e1]at n3;cases n3
   refine eE (fun σ H'=>∃(es:List En) (n:Nat) (spv stv:Option V) (rvs:List V),σ = [some (.ref b),some (.ref f1),some (.ref f2),some (.ref d),spv,some (.ref r),some (.int (n:Int)),stv]∧Same H H'∧hO H' d es∧H' r=some (.lst rvs)∧Paired (fun (e:En) v=>bD H' v e.1) es rvs∧zt bs U stp fin es n∧es=bQ bs stp n)
    (fun σ _=>match σ with | [_,_,_,_,_,_,some (.int n),_]=>U.length - n.toNat|_=>0) ⟨_,0,_,_,_,rfl,s2.trans s3,cm.mono s3,f3,?_,zt.first nd hU,rfl⟩ ?_ ?_
   ·have:∀{bs:List aI} {bvs:List V},Paired (fun s v=>bD H v s) bs bvs->Paired (fun (e:En) v=>bD H3 v e.1) (bs.map fun s=>(s,none,.non)) bvs:=by
     intro bs bvs pb
     induction pb with
     | nil=>exact .nil
     | cons a r ih=>exact .cons (bD.mono a (s2.trans s3).t) ih
    exact this pb
   ·rintro σ H4 ⟨es,n,spv,stv,rvs,rfl,s4,cm4,f4,pr,go,esn⟩
    have el:=Paired.length pr;have gl:=go.len;refine⟨_,rfl,_,rfl,r,_,rfl,.inl (SqL.of f4),_,_,rfl,rfl,_,rfl,aW (fun g1=>?_) (fun g1=>?_)⟩
    ·have g1:(n:Int)<(rvs.length:Int):=ej g1
     obtain⟨v,hv⟩:∃v,rvs[n]? = some v:=⟨rvs[n]'(by omega),by simp[show n<rvs.length by omega]⟩;obtain⟨e,he,hsp⟩:=a7 pr n v hv;have eU:=go.inU e (List.mem_of_getElem? he);refine⟨_,rfl,_,rfl,r,_,_,_,rfl,rfl,SqL.of f4,dh hv,?_⟩;refine⟨f2,sp2,rfl,i2,FO F.o2 s4,_,rfl,FO F.o2 s4,c2 H4 v e.1 _ s4 hsp eU fun H5 s5=>⟨_,rfl,aW (fun g2=>?_) (fun g2=>?_)⟩⟩
     ·refine⟨_,rfl,_,rfl,d,v,es,n,e,rfl,cm4.mono s5,go.tree,he,hsp.mono s5.t,by omega,fun r' H' l s' p hl ra=>?_⟩
      obtain⟨w1,w2,e',w3,w4⟩:=tM (fin:=fin) go.grown p;rw[he]at w3;cases w3;exact q1 r' H' l ((s4.trans s5).trans s') ⟨w1,w2,_,w4,g2⟩ ⟨n,e,by rw[<- esn];exact he,g2,(fun i hi=>by
       have hl:=go.le;have hx:es[i]? = some (es[i]'(by omega)):=List.getElem?_eq_getElem (by omega);exact⟨_,by rw[<- esn];exact hx,(go.seen i _ hi hx).1⟩),by rw[<- esn];exact p⟩ (by omega) ra
     ·refine⟨f1,sp1,rfl,i1,FO F.o1 (s4.trans s5),_,rfl,FO F.o1 (s4.trans s5),c1 H5 v e.1 _ (s4.trans s5) (hsp.mono s5.t) eU fun rl H6 s6 n6 st=>?_⟩
      obtain⟨svs,hr6,ps⟩:=st;have sl:=Paired.length ps;have few:=F.few _ eU;have cm6:=(cm4.mono s5).mono s6;have rld:rl≠d:=fun z=>by
       obtain⟨kvs,e1,_⟩:=cm4.mono s5;rw[z,e1]at n6;cases n6
      have rlr:rl≠r:=fun z=>by
       rw[z,s5 _ _ f4]at n6;cases n6
      have pr6:Paired (fun (e:En) v=>bD H6 v e.1) es rvs:=Paired.mapP pr fun a b x=>x.mono (s5.t.trans s6.t);refine⟨rl,rfl,⟨_,SqL.of hr6⟩,cJ (K:=K) (xs:=svs) (fun i σ H'=>∃(es':List En) (stv:Option V) (rvs:List V),σ = [some (.ref b),some (.ref f1),some (.ref f2),some (.ref d),some v,some (.ref r),some (.int (n:Int)),stv]∧Same H H'∧SameT H6 H'∧H' rl=some (.lst svs)∧hO H' d es'∧H' r=some (.lst rvs)∧Paired (fun (e:En) v=>bD H' v e.1) es' rvs∧zt bs U stp fin es' n∧es'[n]? = some e∧es'=((stp e.1).take i).foldl (oB n) es∧∀(k:Nat) x,k<i->(stp e.1)[k]? = some x->x.1∈es'.map (·.1))
       ⟨es,_,rvs,rfl,(s4.trans s5).trans s6,SameT.refl,hr6,cm6,s6 _ _ (s5 _ _ f4),pr6,go,he,rfl,fun k x z=>absurd z (Nat.not_lt_zero _)⟩ ?_ ?_ ?_⟩
      ·rintro i σ H7 hi ⟨es',stv,rvs,rfl,s7,t7,h7,_⟩
       exact SqL.of h7
      ·rintro i x σ H7 hx ⟨es',stv,rvs,rfl,s7,t7,h7,cm7,f7,pr7,go7,he7,fo7,sn7⟩
       have el7:=Paired.length pr7;have gl7:=go7.len;obtain⟨y,hy,t,sv,rfl,ht,p,rfl,hp⟩:=a7 ps i x hx;have ht7:=t7 _ _ ht;have hp7:=t7 _ _ hp;obtain⟨o,dg,iff⟩:=cm7.look hp7;refine⟨_,rfl,t,_,_,_,rfl,rfl,SqT.of ht7,rfl,_,rfl,d,o,rfl,dg,_,rfl,?_⟩;cases ho:o.isSome with
       | true =>
        refine eW ?_;refine⟨es',_,rvs,rfl,s7,t7,h7,cm7,f7,pr7,go7,he7,by rw[List.take_add_one,hy,Option.toList_some,List.foldl_append,<- fo7];exact(if_pos (iff.mp ho)).symm,fun k x hk hz=>?_⟩
        by_cases z:k=i
        ·subst z
         rw[hy]at hz;cases hz;exact iff.mp ho
        ·exact sn7 k x (by omega) hz
       | false =>
        have hnew:y.1∉es'.map (·.1):=fun z=>by rw[iff.mpr z]at ho;cases ho
        have hyU:=F.shut _ eU y (List.mem_of_getElem? hy);refine eV ?_;refine⟨_,rfl,_,rfl,t,_,_,_,rfl,rfl,SqT.of ht7,rfl,sz (by simp),fun x8 H8 s8 f8 n8=>⟨_,rfl,_,rfl,t,_,_,_,rfl,rfl,SqT.of (s8 _ _ ht7),rfl,?_⟩⟩;obtain⟨H9,dp,cm9,t9,o9⟩:=(cm7.mono s8).add (s:=y.1) (pj:=some n) (h:=y.2) (s8 _ _ hp7) f8 hnew (fun z=>nomatch z) (fun j z=>by cases z;exact⟨e,he7,hsp.mono (((s5.t.trans s6.t).trans t7).trans s8.t)⟩) (by omega)
        refine⟨d,H9,rfl,dp,?_⟩;have f9:H9 r=some (.lst rvs):=(o9 r rd).trans (s8 _ _ f7);have T9:=s8.t.trans t9;refine⟨_,rfl,.inl ⟨rfl,_,SqL.of f9⟩,_,rfl,t,_,_,_,rfl,rfl,SqT.of (T9 _ _ ht7),rfl,r,_,_,rfl,rfl,f9,bZ (by omega),fun H10 u=>?_⟩;have T10:=T9.trans u.t;have s10:Same H H10:=fun x o eo=>by
         refine u.at (fun z=>by rw[z,nr]at eo;cases eo) ?_;rw[o9 x (fun z=>by rw[z,hd]at eo;cases eo)];exact s8 _ _ (s7 _ _ eo)
        have cm10:hO H10 d (es'++[(y.1,some n,y.2)]):=by
         obtain⟨kvs,k1,k2⟩:=cm9;exact⟨kvs,u.at (fun z=>rd z.symm) k1,Paired.mapP k2 fun a b x=>x.mono u.t fun _ _ h=>h⟩
        refine⟨es'++[(y.1,some n,y.2)],_,_,rfl,s10,t7.trans T10,u.at rlr ((o9 rl rld).trans (s8 _ _ h7)),cm10,u.now,Paired.snoc (Paired.mapP pr7 fun a b x=>x.mono T10) ⟨p,rfl,T10 _ _ hp7⟩,go7.add he7 (List.mem_of_getElem? hy) hyU hnew,?_,by rw[List.take_add_one,hy,Option.toList_some,List.foldl_append,<- fo7];exact(if_neg hnew).symm,fun k x hk hz=>?_⟩
        ·rw[List.getElem?_append_left (List.getElem?_eq_some_iff.mp he7).1]
         exact he7
        ·rw[List.map_append]
         by_cases z:k=i
         ·subst z
          rw[hy]at hz;cases hz;exact List.mem_append_right _ (by simp)
         ·exact List.mem_append_left _ (sn7 k x (by omega) hz)
      ·rintro σ H7 ⟨es',stv,rvs,rfl,s7,t7,h7,cm7,f7,pr7,go7,he7,fo7,sn7⟩
       refine⟨_,rfl,_,_,rfl,rfl,?_⟩;refine⟨⟨es',n+1,_,_,rvs,rfl,s7,cm7,f7,pr7,go7.next he7 g2 fun x hx=>?_,?_⟩,?_⟩
       ·obtain⟨k,hk⟩:=List.getElem?_of_mem hx
        exact sn7 k x (by have:=(List.getElem?_eq_some_iff.mp hk).1;omega) hk
       ·rw[fo7,List.take_of_length_le (by omega)]
        show _=match (bQ bs stp n)[n]? with
         | some e=>(stp e.1).foldl (oB n) (bQ bs stp n)
         | none=>bQ bs stp n
        rw[<- esn,he]
       ·have gl7:=go7.len
        have ln:=(List.getElem?_eq_some_iff.mp he7).1;show U.length - ((n:Int)+1).toNat<U.length - (n:Int).toNat;omega
    ·have g1:¬((n:Int)<(rvs.length:Int)):=fun z=>by rw[show decide ((n:Int)<(rvs.length:Int))=true from decide_eq_true z]at g1;cases g1
     exact q0 H4 s4 (go.shut (by omega))
   ·rintro σ H' Q1 Q2 hq ⟨v,e,w,e2,r,xs,h1,h2,i,j,h3,h4,k,ek,rr⟩
    exact⟨v,e,w,e2,r,xs,h1,h2,i,j,h3,h4,k,ek,hq _ _ rr⟩
def cW(qs1 qs2:Crn)(a b room:Int)(i j:Int):Bool:=match qs1[i.toNat]?,qs2[j.toNat]? with
 | some c,some d=>decide (lo c.2.1 c.2.2 d.2.1 d.2.2 a b<room)
 | _,_=>false
theorem ld{qs1 qs2:Crn}{a b room:Int}{i j:Nat}{c d:Addr×Int×Int}(hc:qs1[i]? = some c)(hd:qs2[j]? = some d):cW qs1 qs2 a b room i j=decide (lo c.2.1 c.2.2 d.2.1 d.2.2 a b<room):=by
 unfold cW;rw[Int.toNat_natCast,Int.toNat_natCast,hc,hd]
inductive DP (vs:List V) (H:Hp) (Q:VK) (x_3:XK):Prop
 | mk:∀(l1 l2 sp:Addr) (qs1 qs2:Crn) (a b room:Int),(vs = [.ref l1,.ref l2,.ref sp,.int room])->(yi H l1 qs1)->(yi H l2 qs2)->((1≤qs1.length∧qs1.length≤20))->((1≤qs2.length∧qs2.length≤20))->(Sq H sp a b)->(∀d H',Same H H'->g8 H' d (qs1.length - 1) (qs2.length - 1) (cW qs1 qs2 a b room)->Q (.ref d) H')->DP vs H Q x_3
inductive Eh (vs:List V) (H:Hp) (Q:VK) (x_3:XK):Prop
 | mk:∀(c l:Addr) (i j m n:Int),(vs = [.ref c,.ref l,.str "hops"])->(H c=some (.tup [.int i,.int j]))->(H l=some (.tup [.int m,.int n]))->(Q (.bl (decide (j=n) || decide (i=0))) H)->Eh vs H Q x_3
inductive Ef (vs:List V) (H:Hp) (Q:VK) (x_3:XK):Prop
 | mk:∀(c l:Addr) (i j m n:Int),(vs = [.ref c,.ref l,.str "hops"])->(H c=some (.tup [.int i,.int j]))->(H l=some (.tup [.int m,.int n]))->(Q (.bl (decide (j=0) || decide (i=m))) H)->Ef vs H Q x_3
inductive Bt (vs:List V) (H:Hp) (Q:VK) (x_3:XK):Prop
 | mk:∀(c:Addr) (i j:Int),(vs = [.ref c])->(H c=some (.tup [.int i,.int j]))->((0≤i∧i≤1000))->((0≤j∧j≤1000))->(∀(q:Pr) H',Same H H'->Am H' q->prC q (i,j)->Q (.ref q.p) H')->Bt vs H Q x_3
theorem xa{H:Hp}{p x y:Addr}{i j:Int}(hp:H p=some (.tup [.ref x,.ref y]))(hx:H x=some (.tup [.int i,.int 1]))(hy:H y=some (.tup [.int j,.int 1]))(bi:0≤i∧i≤1000)(bj:0≤j∧j≤1000):Am H ⟨p,x,y,i,1,j,1⟩:=by
 have b1:∀{k:Int},0≤k∧k≤1000->ao k≤10:=fun {k} h=>jw (by omega) h.2;have one:ao (1:Int)≤60:=ap (b1 (k:=1) ⟨by decide,by decide⟩) (by decide);have lw:∀k:Int,AI k 1:=fun k=>⟨Int.le_refl 1,by simp⟩;exact⟨hp,hx,hy,lw i,lw j,bi.1,bj.1,ap (b1 bi) (by decide),one,ap (b1 bj) (by decide),one⟩
def vK(P:Int×Int->Bool):aI×V->Bool
 | ([.inl x,.inl y],_)=>P (x,y)
 | _=>false
theorem fU{P:Int×Int->Bool}:∀{l:List (Int×Int)},(kvF l).filter (vK P)=kvF (l.filter P)
 | []=>rfl
 | p::r=>by
  have ih:=fU (P:=P) (l:=r);unfold kvF at ih ⊢;rw[List.map_cons,List.filter_cons,List.filter_cons,ih];show(if P p=true then _ else _)=_
  split <;> rfl
theorem fR{α β γ:Type}{G:β->γ->Prop}{f:α->β}:∀{l:List α} {ys:List γ},Paired G (l.map f) ys->Paired (fun a y=>G (f a) y) l ys
 | [],_,h=>by cases h;exact .nil
 | a::r,_,h=>by
  cases h with
  | cons h1 h2=>exact .cons h1 (fR h2)
theorem dY{α β γ:Type}{G:β->γ->Prop}{f:α->β}:∀{l:List α} {ys:List γ},Paired (fun a y=>G (f a) y) l ys->Paired G (l.map f) ys
 | [],_,h=>by cases h;exact .nil
 | a::r,_,h=>by
  cases h with
  | cons h1 h2=>exact .cons h1 (dY h2)
inductive EK (vs:List V) (H:Hp) (Q:VK) (x_3:XK):Prop
 | mk:∀(d l c:Addr) (m n:Nat) (F:Int->Int->Bool) (i j:Int),(vs = [.ref d,.ref l,.ref c])->(g8 H d m n F)->(H l=some (.tup [.int (m:Int),.int (n:Int)]))->(H c=some (.tup [.int i,.int j]))->(∀r H',Same H H'->H r=none->lA H' r (onS m n F (ck i j))->Q (.ref r) H')->EK vs H Q x_3
inductive EO (vs:List V) (H:Hp) (Q:VK) (x_3:XK):Prop
 | mk:∀(d c:Addr) (m n:Nat) (F:Int->Int->Bool) (i j:Int),(vs = [.ref d,.ref c])->(g8 H d m n F)->((m≤20∧n≤20))->(H c=some (.tup [.int i,.int j]))->((0≤i∧i≤1000))->((0≤j∧j≤1000))->(∀r H',Same H H'->H r=none->lA H' r (asS m n F (ck i j))->Q (.ref r) H')->EO vs H Q x_3
theorem DT:yc ["number"] ["number"] (af (top 18)):=smk
theorem ou(BU:Df K mg "sign_of" (top 18)):Fn P w K mg base "sign_of" ["number"] 1 Dm:=by
 refine BU.fn DT (fun _ _ _ _ _ _ us hl=>by obtain⟨_,rfl⟩:=dQ hl;rfl) (fun vs H Q E h=>?_) (fun f cdv A outer s H vs Q E hr h=>?_)
 ·obtain⟨n,rfl,_⟩:=h
  rfl
 ·obtain⟨n,rfl,q⟩:=h
  refine⟨_,(ae (aM (aq rL (pv 0) ac (ar _)) (ag (ak ac)) aA) (ae (aM (aq dq (pv 0) ac (ar _)) (ag (ak (iY fO ac))) aA) (ag (ak ac)))),?_⟩;unfold sg at q;refine⟨_,rfl,_,_,rfl,rfl,_,rfl,aW (fun h1=>?_) (fun h1=>?_)⟩
  ·rw[if_pos (by simpa using h1)]at q
   exact q
  ·rw[if_neg (by simpa using h1)]at q
   refine⟨_,rfl,_,_,rfl,rfl,_,rfl,aW (fun h2=>?_) (fun h2=>?_)⟩
   ·rw[if_pos (by simpa using h2)]at q
    exact⟨_,rfl,q⟩
   ·rw[if_neg (by simpa using h2)]at q
    exact q
theorem zT:yc ["one","other","square","across","up"] ["one","other","square"] (af (top 35)):=smk
theorem ji(Ab:Df K mg "leash_order" (top 35))(BO:Fn P w K mg base "sign_of" ["number"] 1 Dm):Fn P w K mg base "leash_order" ["one","other","square"] 2 EL:=by
 refine Ab.fn zT (fun _ _ _ _ _ _ us hl=>by obtain⟨_,_,_,rfl⟩:=dP hl;rfl) (fun vs H Q E h=>?_) (fun f cdv A outer s H vs Q E hr h=>?_)
 ·obtain⟨p,q,r,x,y,x',y',a,b,rfl,_⟩:=h
  rfl
 ·obtain⟨p,q,r,x,y,x',y',a,b,rfl,⟨e1,b1,b2⟩,⟨e2,b3,b4⟩,⟨e3,b5,b6⟩,k⟩:=h
  refine⟨_,(ae (aw (i:=3) zT.nd rfl (Or.inl rfl) (am aS (aj ah (pv 1) ac (fun _ _=>rfl)) (aj ah (pv 0) ac (fun _ _=>rfl)))) (ae (aw (i:=4) zT.nd rfl (Or.inl rfl) (am aS (aj ah (pv 1) ac (fun _ _=>rfl)) (aj ah (pv 0) ac (fun _ _=>rfl)))) (ag (ak (az BO (hr.mono (by decide)) (by rfl) (aa (am aS (aj ah (pv 2) ac (fun _ _=>rfl)) (am aF (am a8 (am aF (pv 3) (pv 3)) (am aF (pv 4) (pv 4))) (aj ah (pv 2) ac (fun _ _=>rfl)))) ad)))))),?_⟩
  walk_at "rd"
  exact k
theorem BK:yc ["square"] ["square"] (af (top 34)):=smk
theorem gC{C:Addr}(ze:Df K mg "look_at_square" (top 34))(A4:Cs K mg "NoSquare" C)(y9:Fn P w K mg base "is_ratio" ["thing"] 2 DL):Fx P w K mg base "look_at_square" ["square"] 3 [] (CO C):=by
 refine ze.fx BK (fun _ _ _ _ _ _ us hl=>by obtain⟨_,rfl⟩:=dQ hl;rfl) (fun vs H Q E h=>?_) (fun f cdv A outer s H vs Q E hr h=>?_)
 ·obtain⟨x,rfl,_⟩:=h
  rfl
 ·obtain⟨x,rfl,th,k0,k1⟩:=h
  refine⟨_,(ag (aM (bK (bF (aV (az y9 (hr.mono (by decide)) (by rfl) (aa (pv 0) ad)))) (bz (aq dq (aj ah (pv 0) ac (fun _ _=>rfl)) ac (ar _)))).pt (ag (gh A4 (by rfl))) aA)),?_⟩;refine⟨_,rfl,x,rfl,th,_,rfl,?_⟩;cases hl:gq H x with
  | false=>exact eV (k0 (tJ hl))
  | true =>
   obtain⟨p,a,b,rfl,e,lw⟩:=i6 hl;rw[oS e,mi lw,Bool.true_and]at k0 k1;refine eW ?_;refine⟨_,rfl,p,_,_,_,rfl,rfl,SqT.of e,rfl,_,_,rfl,rfl,_,rfl,aW (fun h1=>?_) (fun h1=>?_)⟩
   ·exact k0 (by rw[show decide (a<0)=true from h1];rfl)
   ·exact k1 (by rw[show decide (a<0)=false from h1];rfl)
theorem Al:yc ["begin","end","rise","fall"] ["begin","end"] (af (top 103)):=smk
theorem jM(AC:Df K mg "hops_aside" (top 103)):Fn P w K mg base "hops_aside" ["begin","end"] 1 (D0 jz):=by
 refine AC.fn Al (fun _ _ _ _ _ _ us hl=>by obtain⟨_,_,rfl⟩:=cI hl;rfl) (fun vs H Q E h=>?_) (fun f cdv A outer s H vs Q E hr h=>?_)
 ·obtain⟨u,v,rfl,_⟩:=h
  rfl
 ·obtain⟨u,v,rfl,pu,qv,q⟩:=h
  refine⟨_,(ae (aw (i:=2) Al.nd rfl (Or.inl rfl) (am aS (aj ah (aj ah (pv 1) ac (fun _ _=>rfl)) ac (fun _ _=>rfl)) (aj ah (aj ah (pv 0) ac (fun _ _=>rfl)) ac (fun _ _=>rfl)))) (ae (aw (i:=3) Al.nd rfl (Or.inl rfl) (am aS (aj ah (aj ah (pv 0) ac (fun _ _=>rfl)) ac (fun _ _=>rfl)) (aj ah (aj ah (pv 1) ac (fun _ _=>rfl)) ac (fun _ _=>rfl)))) (ag (ak (rH (dw (bq eR (pv 2) ac (ar _)) (cV (bq eR (pv 3) ac (ar _)))) (cV (dw (bq eR (pv 2) ac (ar _)) (cV (bq eR (pv 3) ac (ar _)))))))))),?_⟩;have q:=q H (Same.refl _);unfold jz at q;have P1:=SqT.of (K:=K) pu.p_;have P2:=SqT.of (K:=K) qv.p_;refine⟨_,rfl,v.p,_,_,_,rfl,rfl,P2,rfl,v.x,_,_,_,rfl,rfl,SqT.of qv.x_,rfl,_,rfl,u.p,_,_,_,rfl,rfl,P1,rfl,u.x,_,_,_,rfl,rfl,SqT.of pu.x_,rfl,_,_,rfl,rfl,?_⟩;refine⟨_,rfl,u.p,_,_,_,rfl,rfl,P1,rfl,u.y,_,_,_,rfl,rfl,SqT.of pu.y_,rfl,_,rfl,v.p,_,_,_,rfl,rfl,P2,rfl,v.y,_,_,_,rfl,rfl,SqT.of qv.y_,rfl,_,_,rfl,rfl,?_⟩;have tl:(decide (v.a - u.a≤0) && decide (u.c - v.c≤1))=false->Q (.bl (decide (v.a - u.a≤1) && decide (u.c - v.c≤0))) H:=fun e=>by rw[e,Bool.false_or]at q;exact q
  refine⟨_,rfl,_,_,rfl,rfl,_,rfl,aW (fun h1=>?_) (fun h1=>?_)⟩
  ·refine⟨_,rfl,_,_,rfl,rfl,_,rfl,aW (fun h2=>?_) (fun h2=>?_)⟩
   ·rw[h1,h2]at q
    exact q
   ·have t:=tl (by rw[h1,h2];rfl)
    refine⟨_,rfl,_,_,rfl,rfl,_,rfl,aW (fun h3=>?_) (fun h3=>?_)⟩
    ·rw[h3,Bool.true_and]at t
     exact⟨_,rfl,_,_,rfl,rfl,t⟩
    ·rw[h3,Bool.false_and]at t
     exact t
  ·have t:=tl (by rw[h1];rfl)
   refine⟨_,rfl,eW ?_⟩;refine⟨_,rfl,_,_,rfl,rfl,_,rfl,aW (fun h3=>?_) (fun h3=>?_)⟩
   ·rw[h3,Bool.true_and]at t
    exact⟨_,rfl,_,_,rfl,rfl,t⟩
   ·rw[h3,Bool.false_and]at t
    exact t
theorem Cm:yc ["corner","last","way"] ["corner","last","way"] (af (top 47)):=smk
theorem io(zM:Df K mg "begins_fence" (top 47)):Fn P w K mg base "begins_fence" ["corner","last","way"] 1 Eh:=by
 refine zM.fn Cm (fun _ _ _ _ _ _ us hl=>by obtain⟨_,_,_,rfl⟩:=dP hl;rfl) (fun vs H Q E h=>?_) (fun f cdv A outer s H vs Q E hr h=>?_)
 ·obtain⟨c,l,i,j,m,n,rfl,_⟩:=h
  rfl
 ·obtain⟨c,l,i,j,m,n,rfl,hc,hl,q⟩:=h
  refine⟨_,(ag (ak (rH (bq bG (aj ah (pv 0) ac (fun _ _=>rfl)) (aj ah (pv 1) ac (fun _ _=>rfl)) (ar _)) (cV (dw (bq dn (pv 2) bC (ar _)) (cV (bq bG (aj ah (pv 0) ac (fun _ _=>rfl)) ac (ar _)))))))),?_⟩;refine⟨_,rfl,c,_,_,_,rfl,rfl,SqT.of hc,rfl,_,rfl,l,_,_,_,rfl,rfl,SqT.of hl,rfl,rfl,_,rfl,?_⟩;rw[di];refine aW (fun h1=>?_) (fun h1=>?_)
  ·rw[h1]at q
   exact q
  ·rw[h1,Bool.false_or]at q
   refine⟨_,rfl,rfl,_,rfl,?_⟩;rw[show(!decide (V.str (Str.ofString "hops")=V.str (Str.ofString "part")))=true from rfl];refine eV ?_;exact⟨_,rfl,c,_,_,_,rfl,rfl,SqT.of hc,rfl,rfl,by rw[di];exact q⟩
theorem CZ:yc ["corner","last","way"] ["corner","last","way"] (af (top 48)):=smk
theorem jO(AE:Df K mg "ends_fence" (top 48)):Fn P w K mg base "ends_fence" ["corner","last","way"] 1 Ef:=by
 refine AE.fn CZ (fun _ _ _ _ _ _ us hl=>by obtain⟨_,_,_,rfl⟩:=dP hl;rfl) (fun vs H Q E h=>?_) (fun f cdv A outer s H vs Q E hr h=>?_)
 ·obtain⟨c,l,i,j,m,n,rfl,_⟩:=h
  rfl
 ·obtain⟨c,l,i,j,m,n,rfl,hc,hl,q⟩:=h
  refine⟨_,(ag (ak (rH (bq bG (aj ah (pv 0) ac (fun _ _=>rfl)) ac (ar _)) (cV (dw (bq dn (pv 2) bC (ar _)) (cV (bq bG (aj ah (pv 0) ac (fun _ _=>rfl)) (aj ah (pv 1) ac (fun _ _=>rfl)) (ar _)))))))),?_⟩;refine⟨_,rfl,c,_,_,_,rfl,rfl,SqT.of hc,rfl,rfl,_,rfl,?_⟩;rw[di];refine aW (fun h1=>?_) (fun h1=>?_)
  ·rw[h1]at q
   exact q
  ·rw[h1,Bool.false_or]at q
   refine⟨_,rfl,rfl,_,rfl,?_⟩;rw[show(!decide (V.str (Str.ofString "hops")=V.str (Str.ofString "part")))=true from rfl];refine eV ?_;exact⟨_,rfl,c,_,_,_,rfl,rfl,SqT.of hc,rfl,_,rfl,l,_,_,_,rfl,rfl,SqT.of hl,rfl,rfl,by rw[di];exact q⟩
theorem BJ:yc ["corner"] ["corner"] (af (top 49)):=smk
theorem gB(zd:Df K mg "pair_at_corner" (top 49)):Fn P w K mg base "pair_at_corner" ["corner"] 1 Bt:=by
 refine zd.fn BJ (fun _ _ _ _ _ _ us hl=>by obtain⟨_,rfl⟩:=dQ hl;rfl) (fun vs H Q E h=>?_) (fun f cdv A outer s H vs Q E hr h=>?_)
 ·obtain⟨c,i,j,rfl,_⟩:=h
  rfl
 ·obtain⟨c,i,j,rfl,hc,bi,bj,q⟩:=h
  refine⟨_,(ag (ak (@aG _ _ _ _ _ (@aa _ _ _ _ _ (@aG _ _ _ _ _ (@aa _ _ _ _ _ (aj ah (pv 0) ac (fun _ _=>rfl)) (@aa _ _ _ _ _ ac ad (by rfl)) (by rfl))) (@aa _ _ _ _ _ (@aG _ _ _ _ _ (@aa _ _ _ _ _ (aj ah (pv 0) ac (fun _ _=>rfl)) (@aa _ _ _ _ _ ac ad (by rfl)) (by rfl))) ad (by rfl)) (by rfl))))),?_⟩;refine⟨_,rfl,c,_,_,_,rfl,rfl,SqT.of hc,rfl,sz (by simp),fun x H1 s1 f1 n1=>?_⟩;refine⟨_,rfl,c,_,_,_,rfl,rfl,SqT.of (s1 _ _ hc),rfl,sz (by simp),fun y H2 s2 f2 n2=>⟨sz (by simp),fun p H3 s3 f3 n3=>?_⟩⟩;exact q ⟨p,x,y,i,1,j,1⟩ H3 ((s1.trans s2).trans s3) (xa f3 ((s2.trans s3) _ _ f1) (s3 _ _ f2) bi bj) ⟨rfl,rfl,rfl,rfl⟩
theorem yI:yc ["one","other","square","room","far","i","corner","j","beside"] ["one","other","square","room"] (af (top 45)):=smk
theorem jn(Ae:Df K mg "far_corners" (top 45))(zW:Fn P w K mg base "leash_order" ["one","other","square"] 2 EL)(T:Txt mg):Fn P w K mg base "far_corners" ["one","other","square","room"] 3 DP:=by
 refine Ae.fn yI (fun _ _ _ _ _ _ us hl=>by obtain⟨_,_,_,_,rfl⟩:=kO hl;rfl) (fun vs H Q E h=>?_) (fun f cdv A outer s H vs Q E hr h=>?_)
 ·obtain⟨l1,l2,sp,qs1,qs2,a,b,room,rfl,_⟩:=h
  rfl
 ·obtain⟨l1,l2,sp,qs1,qs2,a,b,room,rfl,L1,L2',b1,b2,sq,q⟩:=h
  refine⟨_,(ae (aw (i:=4) yI.nd rfl (Or.inl rfl) lW) (ae (cB PassesOwn.never rfl (kG rfl T.z_enumerate (aa (pv 0) ad)) (dX rfl (bh (aP (i:=5) yI.nd rfl (Or.inl rfl)) (bh (aP (i:=6) yI.nd rfl (Or.inl rfl)) dr))) (ag (cB PassesOwn.never rfl (kG rfl T.z_enumerate (aa (pv 1) ad)) (dX rfl (bh (aP (i:=7) yI.nd rfl (Or.inl rfl)) (bh (aP (i:=8) yI.nd rfl (Or.inl rfl)) dr))) (ag (aM (aq dq (az zW (hr.mono (by decide)) (by rfl) (aa (pv 6) (aa (pv 8) (aa (pv 2) ad)))) (pv 3) (ar _)) (ag (kE (jb hr) (pv 4) (aG (aa (pv 5) (aa (pv 7) ad))) cT rfl)) aA))))) (ag (ak (vY (pv 4)))))),?_⟩;have hl1:(qs1.map fun (q:Addr×Int×Int)=>V.ref q.1).length=qs1.length:=List.length_map _;have hl2:(qs2.map fun (q:Addr×Int×Int)=>V.ref q.1).length=qs2.length:=List.length_map _;generalize hF:cW qs1 qs2 a b room=F at q;refine fun d hd=>?_;have s0:Same H (upd H d (.dT [])):=Same.new hd;refine⟨_,rfl,l1,rfl,⟨_,SqL.of (s0 _ _ L1.lst)⟩,je (K:=K) (a:=l1) (xs:=qs1.map fun (q:Addr×Int×Int)=>V.ref q.1) (fun i σ H'=>∃(z5 z6 z7 z8:Option V),σ = [some (.ref l1),some (.ref l2),some (.ref sp),some (.int room),some (.ref d),z5,z6,z7,z8]∧Same H H'∧H' d=some (.dT (kvF (fY F qs2.length i))))
   ⟨_,_,_,_,rfl,s0,upd_same⟩ (fun i σ H' _ ⟨_,_,_,_,_,s',_⟩=>SqL.of (s' _ _ L1.lst)) ?_ ?_⟩
  ·rintro i x pp σ H1 H2 hx ⟨z5,z6,z7,z8,rfl,s1,e1⟩ s2 f2
   rw[List.getElem?_map]at hx;obtain⟨u,hu,rfl⟩:=Option.map_eq_some_iff.mp hx;have iu:=(List.getElem?_eq_some_iff.mp hu).1;have S2:=s1.trans s2;refine⟨pp,_,rfl,SqT.of f2,rfl,_,_,rfl,_,_,rfl,rfl,?_⟩;refine⟨_,rfl,l2,rfl,⟨_,SqL.of (S2 _ _ L2'.lst)⟩,je (K:=K) (a:=l2) (xs:=qs2.map fun (q:Addr×Int×Int)=>V.ref q.1) (fun j σ H'=>∃(z7 z8:Option V),σ = [some (.ref l1),some (.ref l2),some (.ref sp),some (.int room),some (.ref d),some (.int (i:Int)),some (.ref u.1),z7,z8]∧Same H H'∧H' d=some (.dT (kvF (fY F qs2.length i++fI F i j))))
    ⟨_,_,rfl,S2,by rw[show fI F i 0 = [] from rfl,List.append_nil];exact s2 _ _ e1⟩ (fun i σ H' _ ⟨_,_,_,s',_⟩=>SqL.of (s' _ _ L2'.lst)) ?_ ?_⟩
   ·rintro j x pp σ H3 H4 hx ⟨z7,z8,rfl,s3,e3⟩ s4 f4
    rw[List.getElem?_map]at hx;obtain⟨v,hv,rfl⟩:=Option.map_eq_some_iff.mp hx;have jv:=(List.getElem?_eq_some_iff.mp hv).1;have S4:=s3.trans s4;have cu:=(L1.mono S4).crn u (List.mem_of_getElem? hu);have cv:=(L2'.mono S4).crn v (List.mem_of_getElem? hv);have e4:=s4 _ _ e3;have fa:F i j=decide (lo u.2.1 u.2.2 v.2.1 v.2.2 a b<room):=by rw[<- hF];exact ld hu hv
    refine⟨pp,_,rfl,SqT.of f4,rfl,_,_,rfl,_,_,rfl,rfl,?_⟩;refine⟨_,rfl,_,rfl,_,rfl,u.1,v.1,sp,_,_,_,_,_,_,rfl,⟨cu.1,eY cu.2.1,eY cu.2.2⟩,⟨cv.1,eY cv.2.1,eY cv.2.2⟩,sq.mono S4,_,rfl,_,_,rfl,rfl,_,rfl,aW (fun g=>?_) (fun g=>?_)⟩
    ·rw[<- fa]at g
     refine⟨_,rfl,_,rfl,_,rfl,sz (by simp),fun c H5 s5 f5 n5=>?_⟩;have e5:=s5 _ _ e4;have nk:((i:Int),(j:Int))∉fY F qs2.length i++fI F i j:=fun z=>by
      rcases List.mem_append.mp z with z|z
      ·have:=(i4.mp z).2.1
       dsimp only at this;omega
      ·have:=(gn.mp z).2.2.1
       dsimp only at this;omega
     have nv:eG (kvF (fY F qs2.length i++fI F i j)) (ck i j)=none:=gf fun z=>nk (mo.mp z);have len:(kvF (fY F qs2.length i++fI F i j)).length<sizeLine:=by
      unfold kvF;rw[List.length_map,List.length_append];have h1:=jo (F:=F) (n:=qs2.length) (i:=i);have h2:=lP (F:=F) (i:=i) (k:=j);have h3:=Nat.mul_le_mul (show i≤20 by omega) b2.2;exact bZ (by omega)
     refine⟨d,_,rfl,oH.t (k:=ck i j) e5 f5 len,_,_,rfl,?_,?_⟩
     ·exact fun x o e=>by
       rw[aN (fun z=>by rw[z,hd]at e;cases e)];exact s5 _ _ (S4 _ _ e)
     ·rw[upd_same,lS _ nv,gJ,if_pos g]
      unfold kvF;rw[<- List.append_assoc,List.map_append (l₂:=[_])];rfl
    ·rw[<- fa]at g
     refine⟨_,_,rfl,S4,?_⟩;rw[gJ,if_neg (by rw[g];exact Bool.false_ne_true),List.append_nil];exact e4
   ·rintro σ H3 ⟨z7,z8,rfl,s3,e3⟩
    rw[hl2,<- gW]at e3;exact⟨_,_,_,_,rfl,s3,e3⟩
  ·rintro σ H1 ⟨z5,z6,z7,z8,rfl,s1,e1⟩
   rw[hl1]at e1;refine⟨_,rfl,d,_,rfl,e1,fun o=>q d _ ?_ ⟨o,?_⟩⟩
   ·exact fun x o e=>by
     rw[aN (fun z=>by rw[z,hd]at e;cases e)];exact s1 _ _ e
   ·rw[upd_same]
    unfold dG;rw[show qs1.length - 1+1=qs1.length by omega,show qs2.length - 1+1=qs2.length by omega]
theorem zo:yc ["far","last","corner","i","j","steps","found"] ["far","last","corner"] (af (top 105)):=smk
theorem mC(Bd:Df K mg "steps_on" (top 105)):Fn P w K mg base "steps_on" ["far","last","corner"] 2 EK:=by
 refine Bd.fn zo (fun _ _ _ _ _ _ us hl=>by obtain⟨_,_,_,rfl⟩:=dP hl;rfl) (fun vs H Q E h=>?_) (fun f cdv A outer s H vs Q E hr h=>?_)
 ·obtain⟨d,l,c,m,n,F,i,j,rfl,_⟩:=h
  rfl
 ·obtain⟨d,l,c,m,n,F,i,j,rfl,fd,hl,hc,q⟩:=h
  refine⟨_,(ae (aw (i:=3) zo.nd rfl (Or.inl rfl) (aj ah (pv 2) ac (fun _ _=>rfl))) (ae (aw (i:=4) zo.nd rfl (Or.inl rfl) (aj ah (pv 2) ac (fun _ _=>rfl))) (ae (aw (i:=5) zo.nd rfl (Or.inl rfl) (bE ad)) (ae (cB PassesOwn.never rfl (cF (@bE _ _ _ _ (@aa _ _ _ _ _ (@aG _ _ _ _ _ (@aa _ _ _ _ _ (am a8 (pv 3) ac) (@aa _ _ _ _ _ (am a8 (pv 4) ac) ad (by rfl)) (by rfl))) (@aa _ _ _ _ _ (@aG _ _ _ _ _ (@aa _ _ _ _ _ (am a8 (pv 3) ac) (@aa _ _ _ _ _ (pv 4) ad (by rfl)) (by rfl))) (@aa _ _ _ _ _ (@aG _ _ _ _ _ (@aa _ _ _ _ _ (pv 3) (@aa _ _ _ _ _ (am a8 (pv 4) ac) ad (by rfl)) (by rfl))) ad (by rfl)) (by rfl)) (by rfl)))) (aP (i:=6) zo.nd rfl (Or.inl rfl)) (ag (aM (cZ (aq eR (aj ah (pv 6) ac (fun _ _=>rfl)) (aj ah (pv 1) ac (fun _ _=>rfl)) (ar _)) (cZ (aq eR (aj ah (pv 6) ac (fun _ _=>rfl)) (aj ah (pv 1) ac (fun _ _=>rfl)) (ar _)) (cU (nS (jZ (jb hr) (pv 6) (pv 0)) (by rfl))))).pt (ag (bI (eh PySem.F.plainAttrs_list PySem.F.slot_list_append PySem.F.type_list_append cS (pv 5) (aa (aG (aa (pv 6) (aa bp ad))) ad)))) aA))) (ag (ak (pv 5))))))),?_⟩;refine⟨_,rfl,c,_,_,_,rfl,rfl,SqT.of hc,rfl,_,rfl,c,_,_,_,rfl,rfl,SqT.of hc,rfl,sz (by simp),fun r H1 s1 f1 n1=>?_⟩;refine⟨_,rfl,_,_,rfl,rfl,_,rfl,_,_,rfl,rfl,sz (by simp),fun p1 H2 s2 f2 n2=>?_⟩;refine⟨_,rfl,_,_,rfl,rfl,_,rfl,sz (by simp),fun p2 H3 s3 f3 n3=>?_⟩;refine⟨_,rfl,_,rfl,_,_,rfl,rfl,sz (by simp),fun p3 H4 s4 f4 n4=>⟨sz (by simp),fun w5 H5 s5 f5 n5=>?_⟩⟩;have S4:=(s2.trans s3).trans s4;have S5:=S4.trans s5;have fr1:H5 r=some (.lst []):=S5 _ _ f1;have wr:w5≠r:=fun z=>by rw[z,S4 _ _ f1]at n5;cases n5
  have cs:Paired (fun (p:Int×Int) (v:V)=>∃q,v = .ref q∧H5 q=some (.tup [.int p.1,.int p.2])) [(i+1,j+1),(i+1,j),(i,j+1)] [V.ref p1,V.ref p2,V.ref p3] :=
   .cons ⟨_,rfl,((s3.trans s4).trans s5) _ _ f2⟩ (.cons ⟨_,rfl,(s4.trans s5) _ _ f3⟩ (.cons ⟨_,rfl,s5 _ _ f4⟩ .nil))
  refine⟨w5,rfl,⟨_,SqL.of f5⟩,cJ (K:=K) (xs:=[.ref p1,.ref p2,.ref p3]) (fun k σ H'=>∃(z:Option V) (vs:List V),σ = [some (.ref d),some (.ref l),some (.ref c),some (.int i),some (.int j),some (.ref r),z]∧Same H H'∧SameT H5 H'∧H' w5=some (.lst [.ref p1,.ref p2,.ref p3])∧H' r=some (.lst vs) ∧
    Paired (fun (p:Int×Int) (v:V)=>∃t sv,v = .ref t∧H' t=some (.tup [sv,.non])∧bD H' sv (ck p.1 p.2)) (([(i+1,j+1),(i+1,j),(i,j+1)].take k).filter fun p=>decide (p.1≤m) && (decide (p.2≤n) && !decide (p∈dG m n F))) vs)
   ⟨_,[],rfl,s1.trans S5,SameT.refl,f5,fr1,.nil⟩ (fun k σ H' _ ⟨_,_,_,_,_,hw,_⟩=>SqL.of hw) ?_ ?_⟩
  ·rintro k x σ H6 hx ⟨z,vs,rfl,s6,t6,w6,r6,pr⟩
   obtain⟨p,hp,q,rfl,hq⟩:=a7 cs k x hx;have hq6:=t6 _ _ hq;have hl6:=s6 _ _ hl;have tk:[(i+1,j+1),(i+1,j),(i,j+1)].take (k+1) = [(i+1,j+1),(i+1,j),(i,j+1)].take k++[p]:=by rw[List.take_add_one,hp];rfl
   have vl:vs.length≤3:=by
    rw[<- Paired.length pr];exact Nat.le_trans (List.length_filter_le _ _) (by rw[List.length_take];simp;omega)
   obtain⟨o,dg,ho⟩:=(fd.mono s6).get (x:=p.1) (y:=p.2) hq6;have skip:(decide (p.1≤m) && (decide (p.2≤n) && !decide (p∈dG m n F)))=false->∃(z:Option V) (vs:List V),[some (.ref d),some (.ref l),some (.ref c),some (.int i),some (.int j),some (.ref r),some (.ref q)] = [some (.ref d),some (.ref l),some (.ref c),some (.int i),some (.int j),some (.ref r),z]∧Same H H6∧SameT H5 H6∧H6 w5=some (.lst [.ref p1,.ref p2,.ref p3])∧H6 r=some (.lst vs) ∧
     Paired (fun (p:Int×Int) (v:V)=>∃t sv,v = .ref t∧H6 t=some (.tup [sv,.non])∧bD H6 sv (ck p.1 p.2)) (([(i+1,j+1),(i+1,j),(i,j+1)].take (k+1)).filter fun p=>decide (p.1≤m) && (decide (p.2≤n) && !decide (p∈dG m n F))) vs:=fun e=>by
    refine⟨_,vs,rfl,s6,t6,w6,r6,?_⟩;rw[tk,List.filter_append,show[p].filter (fun (p:Int×Int)=>decide (p.1≤m) && (decide (p.2≤n) && !decide (p∈dG m n F))) = [] by rw[List.filter_cons,e];rfl,List.append_nil];exact pr
   refine⟨_,rfl,q,_,_,_,rfl,rfl,SqT.of hq6,rfl,_,rfl,l,_,_,_,rfl,rfl,SqT.of hl6,rfl,_,_,rfl,rfl,_,rfl,aW (fun h1=>?_) (fun h1=>eW (skip (by rw[h1];rfl)))⟩;refine⟨_,rfl,q,_,_,_,rfl,rfl,SqT.of hq6,rfl,_,rfl,l,_,_,_,rfl,rfl,SqT.of hl6,rfl,_,_,rfl,rfl,_,rfl,aW (fun h2=>?_) (fun h2=>eW (skip (by rw[h1,h2];rfl)))⟩;refine⟨_,rfl,_,rfl,d,o,rfl,dg,_,rfl,aW (fun h3=>?_) (fun h3=>skip (by rw[h1,h2,<- ho,h3];rfl))⟩;have e:(decide (p.1≤m) && (decide (p.2≤n) && !decide (p∈dG m n F)))=true:=by rw[h1,h2,<- ho,h3];rfl
   refine⟨_,rfl,.inl ⟨rfl,_,SqL.of r6⟩,_,rfl,sz (by simp),fun t H7 s7 f7 n7=>⟨r,_,_,rfl,rfl,s7 _ _ r6,bZ (by omega),fun H8 u=>?_⟩⟩;have T8:=s7.t.trans u.t;have s8:Same H H8:=fun x o eo=>u.at (fun z=>by rw[z,n1]at eo;cases eo) (s7 _ _ (s6 _ _ eo));refine⟨_,_,rfl,s8,t6.trans T8,u.at wr (s7 _ _ w6),u.now,?_⟩;rw[tk,List.filter_append,show[p].filter (fun (p:Int×Int)=>decide (p.1≤m) && (decide (p.2≤n) && !decide (p∈dG m n F))) = [p] by rw[List.filter_cons,e];rfl];exact Paired.snoc (Paired.mapP pr fun a b ⟨t,sv,x1,x2,x3⟩=>⟨t,sv,x1,T8 _ _ x2,x3.mono T8⟩) ⟨t,.ref q,rfl,u.t _ _ f7,q,rfl,T8 _ _ hq6⟩
  ·rintro σ H6 ⟨z,vs,rfl,s6,t6,w6,r6,pr⟩
   refine⟨_,rfl,q r H6 s6 n1 ⟨vs,r6,?_⟩⟩;have pm:∀{l:List (Int×Int)} {vs:List V},Paired (fun (p:Int×Int) (v:V)=>∃t sv,v = .ref t∧H6 t=some (.tup [sv,.non])∧bD H6 sv (ck p.1 p.2)) l vs->Paired (fun (e:aI×V) v=>∃t sv,v = .ref t∧H6 t=some (.tup [sv,e.2])∧bD H6 sv e.1) (l.map fun p=>(ck p.1 p.2,.non)) vs:=by
    intro l vs p
    induction p with
    | nil=>exact .nil
    | cons a r ih=>exact .cons a ih
   exact pm pr
theorem A0:yc ["far","corner","begin"] ["far","corner"] (af (top 107)):=smk
theorem jf(zZ:Df K mg "steps_aside" (top 107))(At:Fn P w K mg base "hops_aside" ["begin","end"] 1 (D0 jz))(yg:Fn P w K mg base "pair_at_corner" ["corner"] 1 Bt):Fn P w K mg base "steps_aside" ["far","corner"] 2 EO:=by
 refine zZ.fn A0 (fun _ _ _ _ _ _ us hl=>by obtain⟨_,_,rfl⟩:=cI hl;rfl) (fun vs H Q E h=>?_) (fun f cdv A outer s H vs Q E hr h=>?_)
 ·obtain⟨d,c,m,n,F,i,j,rfl,_⟩:=h
  rfl
 ·obtain⟨d,c,m,n,F,i,j,rfl,fd,bm,hc,bi,bj,q⟩:=h
  have CN:B2 (aZ CX0 P w K mg base ["far","corner","begin"] "steps_aside" (af (top 107)) f cdv A outer s H E).nox (Sp7.retScope ((aH (top 107)).getD 1 (.Pass ⟨0,0,0,0⟩))) [("begin",s.heap.objs.size+1)] ["found"] [("begin",2)] :=
   ⟨by rfl,rfl,by decide +kernel,by decide +kernel,(fun x hx=>by simp only[List.mem_cons,List.not_mem_nil,or_false]at hx;subst hx;rfl),(fun p hp=>by simp only[List.mem_cons,List.not_mem_nil,or_false]at hp;subst hp;rfl),by rfl,by decide +kernel,(fun p hp=>by simp only[List.mem_cons,List.not_mem_nil,or_false]at hp;subst hp;exact⟨rfl,rfl,.inr (.inl rfl),rfl,rfl⟩),⟨rfl,rfl⟩,rfl⟩
  refine⟨_,(ae (aw (i:=2) A0.nd rfl (Or.inr rfl) (az yg (hr.mono (by decide)) (by rfl) (aa (pv 1) ad))) (ag (ak (lX rfl CN (oY (pv 0)) (fun fp s₀ H₀=>(aP (i:=0) CN.nd rfl (Or.inl rfl) (Or.inr rfl))) (fun fp s₀ H₀=>(oV (aV (az At (hr.mono (by decide)) (by rfl) (aa (pv 1) (aa (az yg (hr.mono (by decide)) (by rfl) (aa (pv 0) ad)) ad)))))) (fun fp s₀ H₀=>(aG (aa (pv 0) (aa bp ad)))))))),?_⟩;refine⟨_,rfl,c,i,j,rfl,hc,bi,bj,fun u H1 s1 pu cu=>?_⟩;obtain⟨o,ed⟩:=fd.mono s1;refine⟨_,rfl,d,o,_,rfl,ed,jt (k:=1) ed (by unfold kvF;rw[List.length_map];have:=jp (F:=F) bm.1 bm.2;omega) (vK fun p=>db (i,j) p) (fun e y H'=>∃t sv,y = .ref t∧H' t=some (.tup [sv,.non])∧bD H' sv e.1) (fun e v H H' st ⟨t,sv,x1,x2,x3⟩=>⟨t,sv,x1,st _ _ x2,x3.mono st⟩) ?_ ?_⟩
  ·intro k e b H2 τ Kc Kn he hb s2 hτ kc kn
   obtain⟨τ0,rfl⟩:∃τ0,τ = [τ0]:=dQ hτ;have he':=List.mem_of_getElem? he;unfold kvF at he';obtain⟨p,hp,rfl⟩:=List.mem_map.mp he';obtain⟨x,y⟩:=p;obtain⟨g1,g2,g3,g4,g5⟩:=b9.mp hp;refine⟨⟨[some (.ref b)],rfl,rfl⟩,?_⟩;refine⟨_,rfl,_,rfl,b,x,y,rfl,hb,⟨g1,by omega⟩,⟨g3,by omega⟩,fun v H3 s3 pv cv=>?_⟩;refine⟨u,v,rfl,pu.t (s2.trans s3).t,pv,fun H4 s4=>⟨_,rfl,?_⟩⟩;have ea:jz u v=db (i,j) (x,y):=by
    obtain⟨h1,h2,h3,h4⟩:=cu;obtain⟨h5,h6,h7,h8⟩:=cv;unfold jz db;rw[h1,h3,h5,h7]
   rw[ea];refine aW (fun h=>?_) (fun h=>kn h H4 (s3.trans s4));refine⟨_,rfl,sz (by simp),fun t H5 s5 f5 n5=>kc h _ H5 ((s3.trans s4).trans s5) ⟨t,.ref b,rfl,f5,b,rfl,((s3.trans s4).trans s5) _ _ hb⟩⟩
  ·intro l ys H2 nl s2 f2 pr
   rw[fU]at pr;refine q l H2 (s1.trans s2) (s1.free nl) ⟨ys,f2,?_⟩;show Paired _ ((asL m n F i j).map fun p=>(ck p.1 p.2,V.non)) ys;exact dY (fR (f:=fun (p:Int×Int)=>(ck p.1 p.2,V.bl true)) pr)
theorem v0{X:Cx}(h:X.A.units<cLine)(hk:X.K=K):OpR X (compareOp .Eq) (Eu K false):=hk▸v3 h
def qW:Str:="hops_walk"++".<locals>."++"<lambda>"
def qF:Str:="hops_fence"++".<locals>."++"<lambda>"
def laW:Expr:=fC ((aH (top 106)).getD 1 (.Pass ⟨0,0,0,0⟩)) 1
def lbW:Expr:=fC ((aH (top 106)).getD 1 (.Pass ⟨0,0,0,0⟩)) 2
def laF:Expr:=fC ((aH (top 108)).getD 1 (.Pass ⟨0,0,0,0⟩)) 1
def lbF:Expr:=fC ((aH (top 108)).getD 1 (.Pass ⟨0,0,0,0⟩)) 2
def lsW:List (Pos×Str):=[(a9 laW,qW),(a9 lbW,qW)]
def lsF:List (Pos×Str):=[(a9 laF,qF),(a9 lbF,qF)]
inductive EM (t:Addr) (vs:List V) (H:Hp) (Q:VK) (x_3:XK):Prop
 | mk:∀(d l:Addr) (m n:Nat) (F:Int->Int->Bool),(vs = [.ref d,.ref l])->(Tab H t lsW)->(g8 H d m n F)->(H l=some (.tup [.int (m:Int),.int (n:Int)]))->((m≤20∧n≤20))->((∀H',bY t H H'->Tab H' t lsW->fN m n F->Q .non H'))->(∀r H' ps,H r=none->bY t H H'->Tab H' t lsW->ip m n F ps->yh H' r ps->Q (.ref r) H')->EM t vs H Q x_3
inductive Er (t:Addr) (vs:List V) (H:Hp) (Q:VK) (x_3:XK):Prop
 | mk:∀(d l:Addr) (m n:Nat) (F:Int->Int->Bool),(vs = [.ref d,.ref l])->(Tab H t lsF)->(g8 H d m n F)->(H l=some (.tup [.int (m:Int),.int (n:Int)]))->((m≤20∧n≤20))->(fN m n F)->(∀r H' ps,H r=none->bY t H H'->Tab H' t lsF->jD m n F ps->yh H' r ps->Q (.ref r) H')->Er t vs H Q x_3
theorem cQ{p:Addr}{H H':Hp}{b:Addr}{ls:List (Pos×Str)}(s:bY p H H')(t:Tab H' p ls)(n:H' b=none):H b=none:=by
 cases e:H b with
 | none=>rfl
 | some o =>
  by_cases z:b=p
  ·obtain⟨ps,e1,_⟩:=t
   rw[z,e1]at n;cases n
  ·rw[s b o z e]at n
   cases n
def aX(H H':Hp):Prop:=∀b o,H b=some o->(∀ps,o≠.tbl ps)->H' b=some o
theorem aX.of{H H':Hp}(s:Same H H'):aX H H':=fun b o e _=>s b o e
theorem aX.trans{H H1 H2:Hp}(a:aX H H1)(b:aX H1 H2):aX H H2:=fun c o e n=>b c o (a c o e n) n
theorem aX.t{H H':Hp}(s:aX H H'){b:Addr}{xs:List V}(e:H b=some (.tup xs)):H' b=some (.tup xs):=s b _ e fun ps q=>by cases q
theorem aX.l{H H':Hp}(s:aX H H'){b:Addr}{xs:List V}(e:H b=some (.lst xs)):H' b=some (.lst xs):=s b _ e fun ps q=>by cases q
theorem aX.line{H H':Hp}(s:aX H H'){l:Addr}{qs:Crn}(L:yi H l qs):yi H' l qs:=⟨s.l L.lst,fun q hq=>⟨s.t (L.crn q hq).1,(L.crn q hq).2⟩⟩
theorem aX.seq{H H':Hp}(s:aX H H'){l:Addr}{xs:List V}(L:SqL K H l xs):SqL K H' l xs:=by
 rcases L with(h|⟨o,h⟩)|h
 ·exact .inl (.inl (s.l h))
 ·exact .inl (.inr ⟨o,s _ _ h fun ps q=>by cases q⟩)
 ·exact .inr h
theorem bY.n{p:Addr}{H H':Hp}{ls:List (Pos×Str)}(s:bY p H H')(t:Tab H p ls):aX H H':=fun b o e n=>s.keep t e n
structure BI(H:Hp)(tw tf:Addr):Prop where
 w:Tab H tw lsW
 f:Tab H tf lsF
 ne:tw≠tf
theorem BI.same{H H':Hp}{tw tf:Addr}(t:BI H tw tf)(s:Same H H'):BI H' tw tf:=⟨t.w.same s,t.f.same s,t.ne⟩
def aK(qs:Crn):Nat:=qs.length - 1
inductive EN (C tw tf:Addr) (vs:List V) (H:Hp) (Q:VK) (E:XK):Prop
 | mk:∀(l1 l2:Addr) (qs1 qs2:Crn) (x:V),(vs = [.ref l1,.ref l2,x])->(yi H l1 qs1)->(yi H l2 qs2)->((1≤qs1.length∧qs1.length≤20))->((1≤qs2.length∧qs2.length≤20))->(yT H x)->(((sqV H x=false∧E (.ref C) none H)∨(sqV H x=true∧∃(p:Addr) (a b:Int),x = .ref p∧Sq H p a b∧BI H tw tf∧∀(t r:Addr) (H':Hp) (ps:List Pr),H r=none->H t=none->t≠r->SmW tw tf H H'->BI H' tw tf->yh H' r ps ->
  ((H' t=some (.tup [.str "walk",.ref r])∧ip (aK qs1) (aK qs2) (cW qs1 qs2 a b 0) ps)∨(H' t=some (.tup [.str "fence",.ref r])∧jD (aK qs1) (aK qs2) (cW qs1 qs2 a b 0) ps))->Q (.ref t) H')))->EN C tw tf vs H Q E
theorem B1:yc ["far","last","row"] ["far","last"] (af (top 106)):=smk
theorem lb{t_hops_walk:Addr}(AY:Ez K mg "hops_walk" (top 106) t_hops_walk)(BF:oJ K mg)(BP:Fn P w K mg base "seek" ["begins","steps_from","is_end"] 5 (nO P w K mg base 3))(A5:Fn P w K mg base "steps_on" ["far","last","corner"] 2 EK)(yg:Fn P w K mg base "pair_at_corner" ["corner"] 1 Bt)(T:Txt mg):Fn P w K mg base "hops_walk" ["far","last"] 6 (EM t_hops_walk):=by
 refine AY.fn B1 (fun _ _ _ _ _ _ us hl=>by obtain⟨_,_,rfl⟩:=cI hl;rfl) (fun vs H Q E h=>?_) (fun f cdv A outer s H vs Q E CF hr h=>?_)
 ·obtain⟨d,l,m,n,F,rfl,_⟩:=h
  rfl
 ·obtain⟨d,l,m,n,F,rfl,tb,fd,hl,bm,q0,q1⟩:=h
  obtain⟨c,ec,CF⟩:=CF;have CL_a:closureFor (bn laW) (aZ CX0 P w K mg base ["far","last","row"] "hops_walk" (af (top 106)) f cdv A outer s H E).nox.env=pure ([("last",s.heap.objs.size+2),("far",s.heap.objs.size+1)]:List (Str×Addr)):=by rfl
  have CL_b:closureFor (bn lbW) (aZ CX0 P w K mg base ["far","last","row"] "hops_walk" (af (top 106)) f cdv A outer s H E).nox.env=pure ([("last",s.heap.objs.size+2)]:List (Str×Addr)):=by rfl
  have CM_a:(a9 laW,qW)∈lsW:=List.mem_cons_self;have CM_b:(a9 lbW,qW)∈lsW:=List.mem_cons_of_mem _ List.mem_cons_self;have CD_a:∀l∈lsW,l≠(a9 laW,qW)->¬(l.1.line=(a9 laW).line∧l.1.col=(a9 laW).col):=by
   intro l hl ne;rcases List.mem_cons.mp hl with rfl|hl
   ·exact absurd rfl ne
   ·rw[List.mem_singleton.mp hl]
    decide +kernel
  have CD_b:∀l∈lsW,l≠(a9 lbW,qW)->¬(l.1.line=(a9 lbW).line∧l.1.col=(a9 lbW).col):=by
   intro l hl ne;rcases List.mem_cons.mp hl with rfl|hl
   ·decide +kernel
   ·rw[List.mem_singleton.mp hl]at ne
    exact absurd rfl ne
  have CS:∀p∈[((s.heap.objs.size+1:Addr),0),(s.heap.objs.size+2,1)],∃y,(aZ CX0 P w K mg base ["far","last","row"] "hops_walk" (af (top 106)) f cdv A outer s H E).nox.env.cells.lookup y=some p.1∧(aZ CX0 P w K mg base ["far","last","row"] "hops_walk" (af (top 106)) f cdv A outer s H E).nox.N[p.2]? = some y∧(aZ CX0 P w K mg base ["far","last","row"] "hops_walk" (af (top 106)) f cdv A outer s H E).nox.env.kindOf y=some .cell∧Vis (aZ CX0 P w K mg base ["far","last","row"] "hops_walk" (af (top 106)) f cdv A outer s H E).nox.env.scope y:=by
   intro p hp;simp only[List.mem_cons,List.not_mem_nil,or_false]at hp;rcases hp with rfl|rfl
   ·exact⟨"far",rfl,rfl,rfl,.inr (.inl rfl)⟩
   ·exact⟨"last",rfl,rfl,rfl,.inr (.inl rfl)⟩
  have CN:BC (aZ CX0 P w K mg base ["far","last","row"] "hops_walk" (af (top 106)) f cdv A outer s H E).nox (Sp7.retScope ((aH (top 106)).getD 3 (.Pass ⟨0,0,0,0⟩))) [] "step" [] :=
   ⟨by rfl,rfl,by decide +kernel,by decide +kernel,rfl,(fun p hp=>nomatch hp),by rfl,by decide +kernel,(fun p hp=>nomatch hp),⟨rfl,rfl⟩,rfl⟩
  refine⟨_,(ae (aM (nS (vZ (jb hr) (aG (aa ac (aa ac ad))) (pv 0)) (by rfl)) (ag (ak bp)) aA) (ae (aw (i:=2) B1.nd rfl (Or.inl rfl) (kH BP (hr.mono (by decide)) (by rfl) (fun _=>rfl) CS (aa (@bE _ _ _ _ (@aa _ _ _ _ _ (@aG _ _ _ _ _ (@aa _ _ _ _ _ ac (@aa _ _ _ _ _ ac ad (by rfl)) (by rfl))) ad (by rfl))) (aa (gM CL_a ec CF BF rfl rfl CM_a CD_a) (aa (gM CL_b ec CF BF rfl rfl CM_b CD_b) ad))))) (ae (aM (aq kM (pv 2) bp (ar _)) (ag (ak bp)) aA) (ag (ak (gi rfl CN (cF (pv 2)) (fun fp s₀ H₀=>(az yg (hr.mono (by decide)) (by rfl) (aa (aj (kQ (K:=K) rfl) (pv 0) ac (fun _ _=>rfl)) ad))))))))),?_⟩;refine⟨sz (by simp),fun p0 H1 s1 f1 n1=>⟨_,rfl,?_⟩⟩;obtain⟨o,dg,ho⟩:=(fd.mono s1).get (x:=0) (y:=0) f1;refine⟨d,o,rfl,dg,_,rfl,aW (fun h0=>?_) (fun h0=>?_)⟩
  ·rw[ho,decide_eq_true_iff]at h0
   exact q0 H1 s1.p (tb.same s1) (.inl (b9.mp h0).2.2.2.2)
  have F0:F 0 0=false:=by
   rw[ho,decide_eq_false_iff_not]at h0;cases e:F 0 0 with
   | false=>rfl
   | true=>exact absurd (b9.mpr ⟨by simp,by simp,by simp,by simp,e⟩) h0
  refine⟨sz (by simp),fun p1 H2 s2 f2 n2=>⟨sz (by simp),fun b H3 s3 f3 n3=>?_⟩⟩;have S3:=(s1.trans s2).trans s3;have tb3:=tb.same S3;refine⟨tb3,fun fa H4 P4 tb4 la4 nfa=>⟨tb4,fun fb H5 P5 tb5 lb5 nfb=>fun H6 s6 cells=>?_⟩⟩;have kp:∀{x:Addr} {ob:HO},H3 x=some ob->(∀ps,ob≠.tbl ps)->H6 x=some ob:=fun e n=>s6 _ _ (P5.keep tb4 (P4.keep tb3 e n) n);have c1:=cells (s.heap.objs.size+1,0) List.mem_cons_self (.ref d) rfl;have c2:=cells (s.heap.objs.size+2,1) (List.mem_cons_of_mem _ List.mem_cons_self) (.ref l) rfl;have la6:=(la4.same fun x ob e=>P5.keep tb4 e (fun ps q=>by cases q)).same fun x ob e=>s6 _ _ e;have lb6:=lb5.same fun x ob e=>s6 _ _ e;have d6:g8 H6 d m n F:=by
   obtain⟨o,e⟩:=fd.mono S3;exact⟨o,kp e (fun ps q=>by cases q)⟩
  have l6:=kp (S3 _ _ hl) (fun ps q=>by cases q);have FN:Fa P w K mg base 3 H6 fa fb (U m n) (onS m n F) (gS m n):=by
   refine⟨la6.obj,lb6.obj,?_,?_,iB,v5⟩
   ·obtain⟨pm,cc,ct,ea,ck6⟩:=la6
    have LN:Di "corner" (bn laW) [("last",s.heap.objs.size+2),("far",s.heap.objs.size+1)]:=by
     refine⟨rfl,rfl,rfl,by decide +kernel,rfl,by rfl,?_,fun p hp=>?_,fun p hp q hq e=>?_⟩
     ·show(["corner","last","far"]:List Str).Nodup
      decide +kernel
     ·simp only[List.mem_cons,List.not_mem_nil,or_false]at hp
      rcases hp with rfl|rfl <;> rfl
     ·simp only[List.mem_cons,List.not_mem_nil,or_false]at hp hq
      have e1:s.heap.objs.size+2≠s.heap.objs.size+1:=by omega
      rcases hp with rfl|rfl
      ·rcases hq with rfl|rfl
       ·rfl
       ·exact absurd e e1
      ·rcases hq with rfl|rfl
       ·exact absurd e.symm e1
       ·rfl
    refine⟨_,⟨_,["corner"],gO (P:=P) (w:=w) (K:=K) (mg:=mg) (base:=base) (x:="corner") (q:=qW) (params:=fi laW) (body:=fh laW) (scope:=bn laW) (pm:=pm) (ctv:=ct) (f:=fa) (c:=cc) (k:=2) LN (fun A2 o2 s2 H2 hr2=>az A5 (hr2.mono (by decide)) (by rfl) (aa (pv 2) (aa (pv 1) (aa (pv 0) ad)))),.all fun us hl=>by obtain⟨_,rfl⟩:=dQ hl;rfl⟩,?_⟩;intro H' v sp Q' s' hv hU k;obtain⟨x,y,rfl,_⟩:=cE.mp hU;obtain⟨p,rfl,hp⟩:=hv;have cs:Paired (fun (p:Str×Addr) z=>bO H' p.2 z) [("last",s.heap.objs.size+2),("far",s.heap.objs.size+1)] [.ref l,.ref d]:=.cons (c2.mono s') (.cons (c1.mono s') .nil);have hC:=dU cs;have CK:eB H' cc qW:=by
     obtain⟨o,vs,t,e,r⟩:=ck6;exact⟨o,vs,t,s' _ _ e,r⟩
    refine⟨.ref p,[.ref l,.ref d],rfl,s' _ _ ea,CK,cs,?_⟩;obtain⟨o,ed⟩:=d6.mono s';refine⟨_,rfl,_,rfl,_,rfl,d,l,p,m,n,F,x,y,rfl,⟨o,bV hC ed (fun z q=>by cases q)⟩,bV hC (s' _ _ l6) (fun z q=>by cases q),bV hC hp (fun z q=>by cases q),fun r H1 s1 nr st hC1=>?_⟩;refine k r _ (dJ s1) ?_ (jX hC1 st);obtain⟨vs,er,_⟩:=st;rw[bS fun z=>by rw[hC1 r z]at er;cases er]at nr;exact nr
   ·obtain⟨pm,cc,ct,ea,ck6⟩:=lb6
    have LN:Di "spot" (bn lbW) [("last",s.heap.objs.size+2)]:=by
     refine⟨rfl,rfl,rfl,by decide +kernel,rfl,by rfl,?_,fun p hp=>?_,fun p hp q hq e=>?_⟩
     ·show(["spot","last"]:List Str).Nodup
      decide +kernel
     ·rw[List.mem_singleton.mp hp]
      rfl
     ·rw[List.mem_singleton.mp hp,List.mem_singleton.mp hq]
    refine⟨_,⟨_,["spot"],gO (P:=P) (w:=w) (K:=K) (mg:=mg) (base:=base) (x:="spot") (q:=qW) (params:=fi lbW) (body:=fh lbW) (scope:=bn lbW) (pm:=pm) (ctv:=ct) (f:=fb) (c:=cc) (k:=2) LN (fun A2 o2 s2 H2 hr2=>bq (v0 hr2.units0 rfl) (pv 0) (pv 1) (ar _)),.all fun us hl=>by obtain⟨_,rfl⟩:=dQ hl;rfl⟩,?_⟩;intro H' v sp Q' s' hv hU k;obtain⟨x,y,rfl,_⟩:=cE.mp hU;obtain⟨p,rfl,hp⟩:=hv;have cs:Paired (fun (p:Str×Addr) z=>bO H' p.2 z) [("last",s.heap.objs.size+2)] [.ref l]:=.cons (c2.mono s') .nil;have hC:=dU cs;have CK:eB H' cc qW:=by
     obtain⟨o,vs,t,e,r⟩:=ck6;exact⟨o,vs,t,s' _ _ e,r⟩
    refine⟨.ref p,[.ref l],rfl,s' _ _ ea,CK,cs,?_⟩;refine⟨_,rfl,_,rfl,p,l,[x,y],[(m:Int),(n:Int)],rfl,rfl,SqT.of (bV hC hp (fun z q=>by cases q)),SqT.of (bV hC (s' _ _ l6) (fun z q=>by cases q)),fun hC1=>?_⟩;have e:(if false=true then !decide ([x,y] = [(m:Int),(n:Int)]) else decide ([x,y] = [(m:Int),(n:Int)]))=gS m n (ck x y):=by
     rw[if_neg Bool.false_ne_true];unfold gS ck;simp
    rw[e];exact k _ (dJ (Same.refl _))
  have SP5:bY t_hops_walk H H5:=(S3.p.trans P4).trans P5;refine⟨b,fa,fb,[.ref p1],[ck 0 0],U m n,onS m n F,gS m n,rfl,kp f3 (fun ps q=>by cases q),.cons ⟨p1,rfl,kp (s3 _ _ f2) (fun ps q=>by cases q)⟩ .nil,by simp,(fun x hx=>by rw[List.mem_singleton.mp hx];exact cE.mpr ⟨0,0,rfl,by simp,by simp,by simp,by simp⟩),iM bm.1 bm.2,FN,?_,?_⟩
  ·intro H7 s7 sh H8 k1 k2
   have S8:Same H5 H8:=fun x ob e=>k2 x ob e (s7 _ _ (s6 _ _ e));exact⟨_,rfl,rfl,_,rfl,eV (q0 H8 (SP5.trans S8.p) (tb5.same S8) (.inr sh))⟩
  ·intro r H7 lst s7 road fnd hlen ra H8 k1 k2
   have S8:Same H5 H8:=fun x ob e=>k2 x ob e (s7 _ _ (s6 _ _ e));have hU:=iM bm.1 bm.2;obtain⟨vs,hr8,pr8⟩:=oU (o8 k1) ra;have vl:=Paired.length pr8;have inU:=iy road (U:=U m n) (fun s hs=>by rw[List.mem_singleton.mp hs];exact cE.mpr ⟨0,0,rfl,by simp,by simp,by simp,by simp⟩) iB;refine⟨_,rfl,rfl,_,rfl,eW ?_⟩;refine⟨_,rfl,r,rfl,⟨_,SqL.of hr8⟩,oD (K:=K) (SqL.of hr8) (by omega) (fun i v H'=>∃q e,lst[i]? = some e∧v=V.ref q.p∧Am H' q∧prC q (dec e.1)) (fun i v H H' st h=>by obtain⟨q,e,x1,x2,x3,x4⟩:=h;exact⟨q,e,x1,x2,x3.t st,x4⟩) ?_ ?_⟩
   ·intro i x H9 Kc hx s9 kc
    obtain⟨e,he,t,sv,rfl,ht,c,rfl,hc⟩:=a7 pr8 i x hx;obtain⟨x,y,ex,g1,g2,g3,g4⟩:=cE.mp (inU i e he);rw[ex]at hc;refine⟨_,rfl,t,_,_,_,rfl,rfl,SqT.of (s9 _ _ ht),rfl,c,x,y,rfl,s9 _ _ hc,⟨g1,by omega⟩,⟨g3,by omega⟩,fun q H10 s10 pq cq=>kc _ H10 s10 ⟨q,e,he,rfl,pq,?_⟩⟩;rw[ex];exact cq
   ·intro lr ys H9 nl s9 f9 hlen9 hr9
    obtain⟨ps,rfl,hp⟩:=nW (l:=lst) (ys:=ys) (by omega) hr9;exact q1 lr H9 ps (cQ (SP5.trans S8.p) (tb5.same S8) nl) ((SP5.trans S8.p).trans s9.p) (tb5.same (S8.trans s9)) (tD F0 road fnd (by omega) hp) (hp.at f9)
theorem qN{m n:Nat}{F:Int->Int->Bool}:((jy m n F).map fun p=>ck p.1 p.2).Nodup:=by
 have nd:(jy m n F).Nodup:=by
  unfold jy dG;exact List.Pairwise.filter _ oA
 refine List.pairwise_map.mpr (List.Pairwise.imp (fun {a b} h z=>h ?_) nd);obtain⟨z1,z2⟩:=gY z;exact Prod.ext z1 z2
theorem Ak:yc ["far","last","begins","row"] ["far","last"] (af (top 108)):=smk
theorem jL{t_hops_fence:Addr}(AB:Ez K mg "hops_fence" (top 108) t_hops_fence)(BF:oJ K mg)(BP:Fn P w K mg base "seek" ["begins","steps_from","is_end"] 5 (nO P w K mg base 3))(zU:Fn P w K mg base "steps_aside" ["far","corner"] 2 EO)(zE:Fn P w K mg base "begins_fence" ["corner","last","way"] 1 Eh)(Av:Fn P w K mg base "ends_fence" ["corner","last","way"] 1 Ef)(yg:Fn P w K mg base "pair_at_corner" ["corner"] 1 Bt)(T:Txt mg):Fn P w K mg base "hops_fence" ["far","last"] 6 (Er t_hops_fence):=by
 refine AB.fn Ak (fun _ _ _ _ _ _ us hl=>by obtain⟨_,_,rfl⟩:=cI hl;rfl) (fun vs H Q E h=>?_) (fun f cdv A outer s H vs Q E CF hr h=>?_)
 ·obtain⟨d,l,m,n,F,rfl,_⟩:=h
  rfl
 ·obtain⟨d,l,m,n,F,rfl,tb,fd,hl,bm,nh,q1⟩:=h
  obtain⟨c,ec,CF⟩:=CF;have CL_a:closureFor (bn laF) (aZ CX0 P w K mg base ["far","last","begins","row"] "hops_fence" (af (top 108)) f cdv A outer s H E).nox.env=pure ([("far",s.heap.objs.size+1)]:List (Str×Addr)):=by rfl
  have CL_b:closureFor (bn lbF) (aZ CX0 P w K mg base ["far","last","begins","row"] "hops_fence" (af (top 108)) f cdv A outer s H E).nox.env=pure ([("last",s.heap.objs.size+2)]:List (Str×Addr)):=by rfl
  have CM_a:(a9 laF,qF)∈lsF:=List.mem_cons_self;have CM_b:(a9 lbF,qF)∈lsF:=List.mem_cons_of_mem _ List.mem_cons_self;have CD_a:∀l∈lsF,l≠(a9 laF,qF)->¬(l.1.line=(a9 laF).line∧l.1.col=(a9 laF).col):=by
   intro l hl ne;rcases List.mem_cons.mp hl with rfl|hl
   ·exact absurd rfl ne
   ·rw[List.mem_singleton.mp hl]
    decide +kernel
  have CD_b:∀l∈lsF,l≠(a9 lbF,qF)->¬(l.1.line=(a9 lbF).line∧l.1.col=(a9 lbF).col):=by
   intro l hl ne;rcases List.mem_cons.mp hl with rfl|hl
   ·decide +kernel
   ·rw[List.mem_singleton.mp hl]at ne
    exact absurd rfl ne
  have CS:∀p∈[((s.heap.objs.size+1:Addr),0),(s.heap.objs.size+2,1)],∃y,(aZ CX0 P w K mg base ["far","last","begins","row"] "hops_fence" (af (top 108)) f cdv A outer s H E).nox.env.cells.lookup y=some p.1∧(aZ CX0 P w K mg base ["far","last","begins","row"] "hops_fence" (af (top 108)) f cdv A outer s H E).nox.N[p.2]? = some y∧(aZ CX0 P w K mg base ["far","last","begins","row"] "hops_fence" (af (top 108)) f cdv A outer s H E).nox.env.kindOf y=some .cell∧Vis (aZ CX0 P w K mg base ["far","last","begins","row"] "hops_fence" (af (top 108)) f cdv A outer s H E).nox.env.scope y:=by
   intro p hp;simp only[List.mem_cons,List.not_mem_nil,or_false]at hp;rcases hp with rfl|rfl
   ·exact⟨"far",rfl,rfl,rfl,.inr (.inl rfl)⟩
   ·exact⟨"last",rfl,rfl,rfl,.inr (.inl rfl)⟩
  have CB:B2 (aZ CX0 P w K mg base ["far","last","begins","row"] "hops_fence" (af (top 108)) f cdv A outer s H E).nox (rg ((aH (top 108)).getD 0 (.Pass ⟨0,0,0,0⟩))) [("last",s.heap.objs.size+2)] ["corner"] [("last",1)] :=
   ⟨by rfl,rfl,by decide +kernel,by decide +kernel,(fun x hx=>by simp only[List.mem_cons,List.not_mem_nil,or_false]at hx;subst hx;rfl),(fun p hp=>by simp only[List.mem_cons,List.not_mem_nil,or_false]at hp;subst hp;rfl),by rfl,by decide +kernel,(fun p hp=>by simp only[List.mem_cons,List.not_mem_nil,or_false]at hp;subst hp;exact⟨rfl,rfl,.inr (.inl rfl),rfl,rfl⟩),⟨rfl,rfl⟩,rfl⟩
  have CN:BC (aZ CX0 P w K mg base ["far","last","begins","row"] "hops_fence" (af (top 108)) f cdv A outer s H E).nox (Sp7.retScope ((aH (top 108)).getD 2 (.Pass ⟨0,0,0,0⟩))) [] "step" [] :=
   ⟨by rfl,rfl,by decide +kernel,by decide +kernel,rfl,(fun p hp=>nomatch hp),by rfl,by decide +kernel,(fun p hp=>nomatch hp),⟨rfl,rfl⟩,rfl⟩
  refine⟨_,(ae (lU (j:=2) rfl CB Ak.nd rfl rfl (oY (pv 0)) (fun fp s₀ H₀=>(aP (i:=0) CB.nd rfl (Or.inl rfl) (Or.inr rfl))) (fun fp s₀ H₀=>(oV (aV (az zE (hr.mono (by decide)) (by rfl) (aa (pv 0) (aa (pv 1) (aa bC ad))))))) (fun fp s₀ H₀=>(pv 0))) (ae (aw (i:=3) Ak.nd rfl (Or.inl rfl) (kH BP (hr.mono (by decide)) (by rfl) (fun _=>rfl) CS (aa (pv 2) (aa (gM CL_a ec CF BF rfl rfl CM_a CD_a) (aa (gM CL_b ec CF BF rfl rfl CM_b CD_b) ad))))) (ag (ak (gi rfl CN (cF (pv 3)) (fun fp s₀ H₀=>(az yg (hr.mono (by decide)) (by rfl) (aa (aj (kQ (K:=K) rfl) (pv 0) ac (fun _ _=>rfl)) ad)))))))),?_⟩;obtain⟨o,ed⟩:=id fd;refine⟨_,rfl,d,o,_,rfl,ed,jt (k:=1) ed (by unfold kvF;rw[List.length_map];have:=jp (F:=F) bm.1 bm.2;omega) (vK fun p=>decide (p.2=n) || decide (p.1=0)) (fun e y H'=>bD H' y e.1) (fun e v H H' st h=>h.mono st) ?_ ?_⟩
  ·intro k e b H2 τ Kc Kn he hb s2 hτ kc kn
   obtain⟨τ0,rfl⟩:∃τ0,τ = [τ0]:=dQ hτ;have he':=List.mem_of_getElem? he;unfold kvF at he';obtain⟨p,hp,rfl⟩:=List.mem_map.mp he';obtain⟨x,y⟩:=p;refine⟨⟨[some (.ref b)],rfl,rfl⟩,?_⟩;refine⟨_,rfl,_,rfl,b,l,x,y,m,n,rfl,hb,s2 _ _ hl,_,rfl,aW (fun h=>?_) (fun h=>kn h H2 (Same.refl _))⟩;exact⟨_,rfl,kc h _ H2 (Same.refl _) ⟨b,rfl,hb⟩⟩
  intro bl bvs H3 nb S3 f3 prb;rw[fU]at prb;have pb3:Paired (fun s v=>bD H3 v s) ((jy m n F).map fun p=>ck p.1 p.2) bvs:=dY (fR (f:=fun (p:Int×Int)=>(ck p.1 p.2,V.bl true)) prb);have tb3:=tb.same S3;refine⟨_,rfl,tb3,fun fa H4 P4 tb4 la4 nfa=>⟨tb4,fun fb H5 P5 tb5 lb5 nfb=>fun H6 s6 cells=>?_⟩⟩;have kp:∀{x:Addr} {ob:HO},H3 x=some ob->(∀ps,ob≠.tbl ps)->H6 x=some ob:=fun e n=>s6 _ _ (P5.keep tb4 (P4.keep tb3 e n) n);have c1:=cells (s.heap.objs.size+1,0) List.mem_cons_self (.ref d) rfl;have c2:=cells (s.heap.objs.size+2,1) (List.mem_cons_of_mem _ List.mem_cons_self) (.ref l) rfl;have la6:=(la4.same fun x ob e=>P5.keep tb4 e (fun ps q=>by cases q)).same fun x ob e=>s6 _ _ e;have lb6:=lb5.same fun x ob e=>s6 _ _ e;have d6:g8 H6 d m n F:=by
   obtain⟨o,e⟩:=fd.mono S3;exact⟨o,kp e (fun ps q=>by cases q)⟩
  have l6:=kp (S3 _ _ hl) (fun ps q=>by cases q);have bU:∀s∈(jy m n F).map fun p=>ck p.1 p.2,s∈U m n:=fun s hs=>by
   obtain⟨p,hp,rfl⟩:=List.mem_map.mp hs;obtain⟨g1,g2,g3,g4,_⟩:=b9.mp (List.mem_filter.mp hp).1;exact cE.mpr ⟨_,_,rfl,g1,g2,g3,g4⟩
  have FN:Fa P w K mg base 3 H6 fa fb (U m n) (asS m n F) (mU m):=by
   refine⟨la6.obj,lb6.obj,?_,?_,ll,wH bm.1 bm.2⟩
   ·obtain⟨pm,cc,ct,ea,ck6⟩:=la6
    have LN:Di "corner" (bn laF) [("far",s.heap.objs.size+1)]:=by
     refine⟨rfl,rfl,rfl,by decide +kernel,rfl,by rfl,?_,fun p hp=>?_,fun p hp q hq e=>?_⟩
     ·show(["corner","far"]:List Str).Nodup
      decide +kernel
     ·rw[List.mem_singleton.mp hp]
      rfl
     ·rw[List.mem_singleton.mp hp,List.mem_singleton.mp hq]
    refine⟨_,⟨_,["corner"],gO (P:=P) (w:=w) (K:=K) (mg:=mg) (base:=base) (x:="corner") (q:=qF) (params:=fi laF) (body:=fh laF) (scope:=bn laF) (pm:=pm) (ctv:=ct) (f:=fa) (c:=cc) (k:=2) LN (fun A2 o2 s2 H2 hr2=>az zU (hr2.mono (by decide)) (by rfl) (aa (pv 1) (aa (pv 0) ad))),.all fun us hl=>by obtain⟨_,rfl⟩:=dQ hl;rfl⟩,?_⟩;intro H' v sp Q' s' hv hU k;obtain⟨x,y,rfl,g1,g2,g3,g4⟩:=cE.mp hU;obtain⟨p,rfl,hp⟩:=hv;have cs:Paired (fun (p:Str×Addr) z=>bO H' p.2 z) [("far",s.heap.objs.size+1)] [.ref d]:=.cons (c1.mono s') .nil;have hC:=dU cs;have CK:eB H' cc qF:=by
     obtain⟨o,vs,t,e,r⟩:=ck6;exact⟨o,vs,t,s' _ _ e,r⟩
    refine⟨.ref p,[.ref d],rfl,s' _ _ ea,CK,cs,?_⟩;obtain⟨o,ed⟩:=d6.mono s';refine⟨_,rfl,_,rfl,d,p,m,n,F,x,y,rfl,⟨o,bV hC ed (fun z q=>by cases q)⟩,bm,bV hC hp (fun z q=>by cases q),⟨g1,by omega⟩,⟨g3,by omega⟩,fun r H1 s1 nr st hC1=>?_⟩;refine k r _ (dJ s1) ?_ (jX hC1 st);obtain⟨vs,er,_⟩:=st;rw[bS fun z=>by rw[hC1 r z]at er;cases er]at nr;exact nr
   ·obtain⟨pm,cc,ct,ea,ck6⟩:=lb6
    have LN:Di "spot" (bn lbF) [("last",s.heap.objs.size+2)]:=by
     refine⟨rfl,rfl,rfl,by decide +kernel,rfl,by rfl,?_,fun p hp=>?_,fun p hp q hq e=>?_⟩
     ·show(["spot","last"]:List Str).Nodup
      decide +kernel
     ·rw[List.mem_singleton.mp hp]
      rfl
     ·rw[List.mem_singleton.mp hp,List.mem_singleton.mp hq]
    refine⟨_,⟨_,["spot"],gO (P:=P) (w:=w) (K:=K) (mg:=mg) (base:=base) (x:="spot") (q:=qF) (params:=fi lbF) (body:=fh lbF) (scope:=bn lbF) (pm:=pm) (ctv:=ct) (f:=fb) (c:=cc) (k:=2) LN (fun A2 o2 s2 H2 hr2=>az Av (hr2.mono (by decide)) (by rfl) (aa (pv 0) (aa (pv 1) (aa bC ad)))),.all fun us hl=>by obtain⟨_,rfl⟩:=dQ hl;rfl⟩,?_⟩;intro H' v sp Q' s' hv hU k;obtain⟨x,y,rfl,_⟩:=cE.mp hU;obtain⟨p,rfl,hp⟩:=hv;have cs:Paired (fun (p:Str×Addr) z=>bO H' p.2 z) [("last",s.heap.objs.size+2)] [.ref l]:=.cons (c2.mono s') .nil;have hC:=dU cs;have CK:eB H' cc qF:=by
     obtain⟨o,vs,t,e,r⟩:=ck6;exact⟨o,vs,t,s' _ _ e,r⟩
    refine⟨.ref p,[.ref l],rfl,s' _ _ ea,CK,cs,?_⟩;exact⟨_,rfl,_,rfl,p,l,x,y,m,n,rfl,bV hC hp (fun z q=>by cases q),bV hC (s' _ _ l6) (fun z q=>by cases q),fun hC1=>k _ (dJ (Same.refl _))⟩
  have SP5:bY t_hops_fence H H5:=(S3.p.trans P4).trans P5;have pb6:Paired (fun s v=>bD H6 v s) ((jy m n F).map fun p=>ck p.1 p.2) bvs:=Paired.mapP pb3 fun a b ⟨p,e1,e2⟩=>⟨p,e1,kp e2 (fun ps q=>by cases q)⟩;refine⟨bl,fa,fb,bvs,_,U m n,asS m n F,mU m,rfl,kp f3 (fun ps q=>by cases q),pb6,qN,bU,iM bm.1 bm.2,FN,?_,?_⟩
  ·intro H7 s7 sh
   exact(mV nh sh).elim
  ·intro r H7 lst s7 road fnd hlen ra H8 k1 k2
   have S8:Same H5 H8:=fun x ob e=>k2 x ob e (s7 _ _ (s6 _ _ e));have hU:=iM bm.1 bm.2;obtain⟨vs,hr8,pr8⟩:=oU (o8 k1) ra;have vl:=Paired.length pr8;have inU:=iy road (U:=U m n) bU ll;refine⟨_,rfl,r,rfl,⟨_,SqL.of hr8⟩,oD (K:=K) (SqL.of hr8) (by omega) (fun i v H'=>∃q e,lst[i]? = some e∧v=V.ref q.p∧Am H' q∧prC q (dec e.1)) (fun i v H H' st h=>by obtain⟨q,e,x1,x2,x3,x4⟩:=h;exact⟨q,e,x1,x2,x3.t st,x4⟩) ?_ ?_⟩
   ·intro i x H9 Kc hx s9 kc
    obtain⟨e,he,t,sv,rfl,ht,c,rfl,hc⟩:=a7 pr8 i x hx;obtain⟨x,y,ex,g1,g2,g3,g4⟩:=cE.mp (inU i e he);rw[ex]at hc;refine⟨_,rfl,t,_,_,_,rfl,rfl,SqT.of (s9 _ _ ht),rfl,c,x,y,rfl,s9 _ _ hc,⟨g1,by omega⟩,⟨g3,by omega⟩,fun q H10 s10 pq cq=>kc _ H10 s10 ⟨q,e,he,rfl,pq,?_⟩⟩;rw[ex];exact cq
   ·intro lr ys H9 nl s9 f9 hlen9 hr9
    obtain⟨ps,rfl,hp⟩:=nW (l:=lst) (ys:=ys) (by omega) hr9;exact q1 lr H9 ps (cQ (SP5.trans S8.p) (tb5.same S8) nl) ((SP5.trans S8.p).trans s9.p) (tb5.same (S8.trans s9)) (sK nh road fnd (by omega) hp) (hp.at f9)
theorem AZ:yc ["one","other","square","last","far","walk"] ["one","other","square"] (af (top 109)):=smk
theorem oy{C_NoSquare t_hops_walk t_hops_fence:Addr}(BX:Df K mg "go_hops" (top 109))(yZ:Fx P w K mg base "look_at_square" ["square"] 3 [] (CO C_NoSquare))(yp:Fn P w K mg base "last_of" ["line"] 1 BE)(yK:Fn P w K mg base "far_corners" ["one","other","square","room"] 3 DP)(AN:Fn P w K mg base "hops_walk" ["far","last"] 6 (EM t_hops_walk))(yO:Fn P w K mg base "hops_fence" ["far","last"] 6 (Er t_hops_fence)):Fx P w K mg base "go_hops" ["one","other","square"] 7 [] (EN C_NoSquare t_hops_walk t_hops_fence):=by
 refine BX.fx AZ (fun _ _ _ _ _ _ us hl=>by obtain⟨_,_,_,rfl⟩:=dP hl;rfl) (fun vs H Q E h=>?_) (fun f cdv A outer s H vs Q E hr h=>?_)
 ·obtain⟨l1,l2,qs1,qs2,x,rfl,_⟩:=h
  rfl
 ·obtain⟨l1,l2,qs1,qs2,x,rfl,L1,L2',b1,b2,th,q⟩:=h
  refine⟨_,(ae (bI (eg yZ (hr.mono (by decide)) (by rfl) (aa (pv 2) ad))) (ae (aw (i:=3) AZ.nd rfl (Or.inl rfl) (aG (aa (az yp (hr.mono (by decide)) (by rfl) (aa (pv 0) ad)) (aa (az yp (hr.mono (by decide)) (by rfl) (aa (pv 1) ad)) ad)))) (ae (aw (i:=4) AZ.nd rfl (Or.inl rfl) (az yK (hr.mono (by decide)) (by rfl) (aa (pv 0) (aa (pv 1) (aa (pv 2) (aa ac ad)))))) (ae (aw (i:=5) AZ.nd rfl (Or.inl rfl) (az AN (hr.mono (by decide)) (by rfl) (aa (pv 4) (aa (pv 3) ad)))) (ae (aM (aq kJ (pv 5) bp (ar _)) (ag (ak (aG (aa bC (aa (pv 5) ad))))) aA) (ag (ak (aG (aa bC (aa (az yO (hr.mono (by decide)) (by rfl) (aa (pv 4) (aa (pv 3) ad))) ad)))))))))),?_⟩;rcases q with⟨sv,qe⟩|⟨sv,p,a,b,rfl,sq,tb,q⟩
  ·exact⟨_,rfl,x,rfl,th,fun _=>qe,fun z=>by rw[sv]at z;cases z⟩
  refine⟨_,rfl,.ref p,rfl,th,(fun z=>by rw[sv]at z;cases z),fun _=>?_⟩;have hl1:(qs1.map fun (q:Addr×Int×Int)=>V.ref q.1).length=qs1.length:=List.length_map _;have hl2:(qs2.map fun (q:Addr×Int×Int)=>V.ref q.1).length=qs2.length:=List.length_map _;refine⟨_,rfl,l1,_,rfl,L1.lst,_,rfl,l2,_,rfl,L2'.lst,sz (by simp),fun lt H1 s1 f1 n1=>?_⟩;have e1:(((qs1.map fun (q:Addr×Int×Int)=>V.ref q.1).length:Nat):Int) - 1=((aK qs1:Nat):Int):=by unfold aK;rw[hl1];omega
  have e2:(((qs2.map fun (q:Addr×Int×Int)=>V.ref q.1).length:Nat):Int) - 1=((aK qs2:Nat):Int):=by unfold aK;rw[hl2];omega
  rw[e1,e2]at f1;have m20:aK qs1≤20∧aK qs2≤20:=by unfold aK;omega
  refine⟨_,rfl,_,rfl,_,rfl,l1,l2,p,qs1,qs2,a,b,0,rfl,L1.mono s1,L2'.mono s1,b1,b2,sq.mono s1,fun d H2 s2 fd=>?_⟩;have S2:=s1.trans s2;have tb2:=tb.same S2;have l2':=s2 _ _ f1;refine⟨_,rfl,_,rfl,d,lt,aK qs1,aK qs2,cW qs1 qs2 a b 0,rfl,tb2.w,fd,l2',m20,fun H3 P3 tb3 nh=>?_,fun r H3 ps nr P3 tb3 hw pp=>?_⟩
  ·have N3:=bY.n P3 tb2.w
   have tf3:Tab H3 t_hops_fence lsF:=by
    obtain⟨ps,ew,_⟩:=id tb2.w;exact tb2.f.other ew (fun z=>tb2.ne z.symm) P3
   have fd3:g8 H3 d (aK qs1) (aK qs2) (cW qs1 qs2 a b 0):=by
    obtain⟨o,e⟩:=fd;exact⟨o,N3 _ _ e fun ps q=>by cases q⟩
   refine⟨_,rfl,rfl,_,rfl,eW ?_⟩;refine⟨_,rfl,_,rfl,d,lt,aK qs1,aK qs2,cW qs1 qs2 a b 0,rfl,tf3,fd3,N3.t l2',m20,nh,fun r H4 ps nr P4 tb4 hf pp=>⟨sz (by simp),fun t H5 s5 f5 n5=>?_⟩⟩;have tw4:Tab H4 t_hops_walk lsW:=by
    obtain⟨ps,ew,_⟩:=id tf3;exact tb3.other ew tb2.ne P4
   have N5:=((aX.of S2).trans N3).trans ((bY.n P4 tf3).trans (aX.of s5));have fr:∀{x:Addr},H3 x=none->H x=none:=fun h=>S2.free (cQ P3 tb3 h);exact q t r H5 ps (fr nr) (fr (cQ P4 tb4 n5)) (fun z=>by rw[z,pp.lst]at n5;cases n5) (fun b o n1 n2 e=>s5 _ _ (P4 b o n2 (P3 b o n1 (S2 _ _ e)))) ⟨tw4.same s5,tb4.same s5,tb2.ne⟩ (pp.mono s5) (.inr ⟨f5,hf⟩)
  ·refine⟨_,rfl,rfl,_,rfl,eV ?_⟩
   refine⟨_,rfl,sz (by simp),fun t H4 s4 f4 n4=>?_⟩;have N4:=((aX.of S2).trans (bY.n P3 tb2.w)).trans (aX.of s4);have tf3:Tab H3 t_hops_fence lsF:=by
    obtain⟨ps,ew,_⟩:=id tb2.w;exact tb2.f.other ew (fun z=>tb2.ne z.symm) P3
   exact q t r H4 ps (S2.free nr) (S2.free (cQ P3 tb3 n4)) (fun z=>by rw[z,pp.lst]at n4;cases n4) (fun b o n1 n2 e=>s4 _ _ (P3 b o n1 (S2 _ _ e))) ⟨tb3.same s4,tf3.same s4,tb2.ne⟩ (pp.mono s4) (.inl ⟨f4,hw⟩)
structure Fb(P:Program)(w:World)(K:W.Frag)(mg:Str->Option Value)(base:Heap)(k:Nat)(I:Hp->Prop)(f:Addr)(n:Nat)(hd:Nat->Bool):Prop where
 o:∀H,I H->nJ H f
 c:∃sp,uX P w K mg base k f sp∧∀H' (i:Nat) (Q:VK),I H'->i<n->(∀H'',I H''->Q (.bl (hd i)) H'')->sp [.int (i:Int)] H' Q E0
inductive B9 (P:Program) (w:World) (K:W.Frag) (mg:Str->Option Value) (base:Heap) (k:Nat) (vs:List V) (H:Hp) (Q:VK) (x_3:XK):Prop
 | mk:∀(f:Addr) (n:Nat) (hd:Nat->Bool) (I:Hp->Prop),(vs = [.int (n:Int),.ref f])->(I H)->(Fb P w K mg base k I f n hd)->((∀i j,i≤j->j<n->hd i=true->hd j=true))->(∀(m:Nat) H',I H'->m≤n->(∀i,i<m->hd i=false)->(∀i,m≤i->i<n->hd i=true)->Q (.int (m:Int)) H')->B9 P w K mg base k vs H Q x_3
theorem yB:yc ["count","holds","low","high","number"] ["count","holds"] (af (top 112)):=smk
theorem ik(zJ:Df K mg "first_number" (top 112))(T:Txt mg):Fn P w K mg base "first_number" ["count","holds"] 10 (B9 P w K mg base 9):=by
 refine zJ.fn yB (fun _ _ _ _ _ _ us hl=>by obtain⟨_,_,rfl⟩:=cI hl;rfl) (fun vs H Q E h=>?_) (fun f cdv A outer s H vs Q E hr h=>?_)
 ·obtain⟨f,n,hd,I,rfl,_⟩:=h
  rfl
 ·obtain⟨f,n,hd,I,rfl,hI,F,mono,q⟩:=h
  refine⟨_,(ae (aw (i:=2) yB.nd rfl (Or.inl rfl) ac) (ae (aw (i:=3) yB.nd rfl (Or.inl rfl) (pv 0)) (ae (eO PassesOwn.never (aq dq (pv 2) (pv 3) (ar _)) (ae (aw (i:=4) yB.nd rfl (Or.inl rfl) (am gk (am a8 (pv 2) (pv 3)) ac)) (ag (aM (aV (i3 (k:=9) (i:=1) (hr.mono (by decide)) rfl (Or.inl rfl) (aa (pv 4) ad))) (ag (aw (i:=3) yB.nd rfl (Or.inl rfl) (pv 4))) (ag (aw (i:=2) yB.nd rfl (Or.inl rfl) (am a8 (pv 4) ac))))))) (ag (ak (pv 2)))))),?_⟩;obtain⟨sp,i1,c1⟩:=F.c;refine⟨_,rfl,?_⟩;refine eE (fun σ H'=>∃(lo hi:Nat) (z:Option V),σ = [some (.int (n:Int)),some (.ref f),some (.int (lo:Int)),some (.int (hi:Int)),z]∧I H'∧lo≤hi∧hi≤n∧(∀i,i<lo->hd i=false)∧∀i,hi≤i->i<n->hd i=true)
   (fun σ _=>match σ with | [_,_,some (.int lo),some (.int hi),_]=>(hi - lo).toNat|_=>0) ⟨0,n,_,rfl,hI,Nat.zero_le _,Nat.le_refl _,fun i h=>absurd h (Nat.not_lt_zero _),fun i h1 h2=>absurd h2 (by omega)⟩ ?_ ?_
  ·rintro σ H1 ⟨lo,hi,z,rfl,I1,h1,h2,h3,h4⟩
   refine⟨_,rfl,_,rfl,_,_,rfl,rfl,_,rfl,aW (fun c=>?_) (fun c=>?_)⟩
   ·have c:(lo:Int)<(hi:Int):=ej c
    refine⟨_,rfl,_,rfl,_,_,rfl,rfl,_,_,rfl,rfl,⟨by decide,by decide⟩,?_⟩;have em:((lo:Int)+(hi:Int)) / 2=(((lo+hi) / 2:Nat):Int):=by omega
    dsimp only;rw[em];refine⟨f,sp,rfl,i1,F.o _ I1,_,rfl,F.o _ I1,c1 H1 _ _ I1 (by omega) fun H2 I2=>⟨_,rfl,aW (fun g=>?_) (fun g=>?_)⟩⟩
    ·refine⟨_,rfl,⟨lo,(lo+hi) / 2,_,rfl,I2,by omega,by omega,h3,fun i e1 e2=>mono _ i e1 e2 g⟩,?_⟩
     show((((lo+hi) / 2:Nat):Int) - (lo:Int)).toNat<((hi:Int) - (lo:Int)).toNat;omega
    ·refine⟨_,rfl,_,_,rfl,rfl,⟨(lo+hi) / 2+1,hi,_,rfl,I2,by omega,h2,fun i e1=>?_,h4⟩,?_⟩
     ·cases e2:hd i with
      | false=>rfl
      | true =>
       have:=mono i ((lo+hi) / 2) (by omega) (by omega) e2;rw[g]at this;cases this
     ·show((hi:Int) - ((((lo+hi) / 2:Nat):Int)+1)).toNat<((hi:Int) - (lo:Int)).toNat
      omega
   ·have c:¬((lo:Int)<(hi:Int)):=dS c
    have e:lo=hi:=by omega
    subst e;exact⟨_,rfl,q lo H1 I1 h2 h3 h4⟩
  ·rintro σ H' Q1 Q2 hq ⟨v,e,v2,e2,i,j,e3,e4,k,ek,r⟩
   exact⟨v,e,v2,e2,i,j,e3,e4,k,ek,hq _ _ r⟩
def qP:Str:="put_in"++".<locals>."++"<lambda>"
def laP:Expr:=fC ((aH (top 113)).getD 0 (.Pass ⟨0,0,0,0⟩)) 1
def lsP:List (Pos×Str):=[(a9 laP,qP)]
def ltF(p q:Addr×Int×Int):Prop:=p.2.1*q.2.2<q.2.1*p.2.2
structure EE(H:Hp)(l:Addr)(fs:Crn):Prop where
 lst:H l=some (.lst (fs.map fun (q:Addr×Int×Int)=>V.ref q.1))
 fr:∀q∈fs,H q.1=some (.tup [.int q.2.1,.int q.2.2])∧AI q.2.1 q.2.2∧ao q.2.1≤2000∧ao q.2.2≤2000
 up:fs.Pairwise ltF
def hdP(fs:Crn)(a b:Int)(k:Nat):Bool:=match fs[k]? with
 | some p=>!decide (p.2.1*b<a*p.2.2)
 | none=>true
theorem sr{H:Hp}{l:Addr}{fs:Crn}{a b:Int}(R:EE H l fs)(hb:0<b)(i j:Nat)(h:i≤j)(hj:j<fs.length)(e:hdP fs a b i=true):hdP fs a b j=true:=by
 by_cases z:i=j
 ·subst z
  exact e
 have hi:fs[i]? = some (fs[i]'(by omega)):=List.getElem?_eq_getElem (by omega);have hj':fs[j]? = some (fs[j]'hj):=List.getElem?_eq_getElem hj;have u:ltF (fs[i]'(by omega)) (fs[j]'hj):=List.pairwise_iff_getElem.mp R.up i j (by omega) hj (by omega);unfold ltF at u;have lp:=(R.fr _ (List.mem_of_getElem? hi)).2.1.pos;have lq:=(R.fr _ (List.mem_of_getElem? hj')).2.1.pos;unfold hdP at e ⊢;rw[hi]at e;rw[hj'];simp only[Bool.not_eq_true',decide_eq_false_iff_not]at e ⊢;generalize fs[i]'(by omega)=p at e u lp;generalize fs[j]'hj=q at u lq ⊢;intro c;have h1:q.2.1*b*p.2.2<a*q.2.2*p.2.2:=Int.mul_lt_mul_of_pos_right c lp;have h2:p.2.1*q.2.2*b<q.2.1*p.2.2*b:=Int.mul_lt_mul_of_pos_right u hb;have h3:a*p.2.2*q.2.2≤p.2.1*b*q.2.2:=Int.mul_le_mul_of_nonneg_right (by omega) (by omega);have e1:q.2.1*b*p.2.2=q.2.1*p.2.2*b:=by rw[Int.mul_assoc,Int.mul_comm b,<- Int.mul_assoc]
 have e2:a*q.2.2*p.2.2=a*p.2.2*q.2.2:=by rw[Int.mul_assoc,Int.mul_comm q.2.2,<- Int.mul_assoc]
 have e3:p.2.1*q.2.2*b=p.2.1*b*q.2.2:=by rw[Int.mul_assoc,Int.mul_comm q.2.2,<- Int.mul_assoc]
 omega
def my(fs:Crn)(m:Nat)(x:Addr×Int×Int):Crn:=fs.take m++[x]++fs.drop m
theorem vq{a b c d e f:Int}(hb:0<b)(hd:0<d)(hf:0<f)(h1:a*d≤c*b)(h2:c*f<e*d):a*f<e*b:=by
 have h3:a*d*f≤c*b*f:=Int.mul_le_mul_of_nonneg_right h1 (by omega);have h4:c*f*b<e*d*b:=Int.mul_lt_mul_of_pos_right h2 hb;have e1:a*d*f=a*f*d:=by rw[Int.mul_assoc,Int.mul_comm d,<- Int.mul_assoc]
 have e2:c*b*f=c*f*b:=by rw[Int.mul_assoc,Int.mul_comm b,<- Int.mul_assoc]
 have e3:e*d*b=e*b*d:=by rw[Int.mul_assoc,Int.mul_comm d,<- Int.mul_assoc]
 exact Int.lt_of_mul_lt_mul_right (a:=d) (by omega) (by omega)
theorem tN{H H5:Hp}{l q:Addr}{fs:Crn}{a b:Int}{m:Nat}(R:EE H l fs)(kp:∀c xs,H c=some (.tup xs)->H5 c=some (.tup xs))(e5:H5 l=some (.lst ((fs.map fun (q:Addr×Int×Int)=>V.ref q.1).take m++[V.ref q]++(fs.map fun (q:Addr×Int×Int)=>V.ref q.1).drop m)))(hq:H5 q=some (.tup [.int a,.int b]))(lw:AI a b)(bd:ao a≤2000∧ao b≤2000)
  (h1:∀i,i<m->hdP fs a b i=false) (h2:∀i,m≤i->i<fs.length->hdP fs a b i=true) (h3:∀p,fs[m]? = some p->p.2≠(a,b)):EE H5 l (my fs m (q,a,b)):=by
 have hb:0<b:=lw.pos;have pos:∀p∈fs,0<p.2.2:=fun p hp=>(R.fr p hp).2.1.pos;have low:∀p∈fs.take m,ltF p (q,a,b):=fun p hp=>by
  obtain⟨i,hi⟩:=List.getElem?_of_mem hp;have hl:=(List.getElem?_eq_some_iff.mp hi).1;rw[List.length_take]at hl;rw[List.getElem?_take_of_lt (by omega)]at hi;have:=h1 i (by omega);unfold hdP at this;rw[hi]at this;show p.2.1*b<a*p.2.2;simpa using this
 have ge:∀(i:Nat) p,m≤i->fs[i]? = some p->a*p.2.2≤p.2.1*b:=fun i p hm hi=>by
  have:=h2 i hm (List.getElem?_eq_some_iff.mp hi).1;unfold hdP at this;rw[hi]at this;simpa using this
 have high:∀p∈fs.drop m,ltF (q,a,b) p:=fun p hp=>by
  obtain⟨i,hi⟩:=List.getElem?_of_mem hp;rw[List.getElem?_drop]at hi;have hp':=List.mem_of_getElem? hi;have g:=ge (m+i) p (by omega) hi;show a*p.2.2<p.2.1*b
  by_cases z:i=0
  ·subst z
   rcases Int.lt_or_eq_of_le g with h|h
   ·exact h
   ·obtain⟨e1,e2⟩:=dD (a:=a) (b:=b) (by omega) (kb lw) (⟨(R.fr p hp').2.1,h⟩:ye a b p.2.1 p.2.2)
    exact absurd (show p.2=(a,b) by rw[e1,e2]) (h3 p hi)
  ·have lt:=(List.getElem?_eq_some_iff.mp hi).1
   have hm:fs[m]? = some (fs[m]'(by omega)):=List.getElem?_eq_getElem (by omega);have u:=List.pairwise_iff_getElem.mp R.up m (m+i) (by omega) lt (by omega);rw[(List.getElem?_eq_some_iff.mp hi).2]at u;exact vq hb (pos _ (List.mem_of_getElem? hm)) (pos p hp') (ge m _ (Nat.le_refl _) hm) u
 refine⟨?_,fun p hp=>?_,?_⟩
 ·rw[e5]
  unfold my;rw[List.map_append,List.map_append,List.map_take,List.map_drop];rfl
 ·unfold my at hp
  simp only[List.mem_append,List.mem_singleton]at hp;rcases hp with(hp|rfl)|hp
  ·have:=R.fr p (List.mem_of_mem_take hp)
   exact⟨kp _ _ this.1,this.2⟩
  ·exact⟨hq,lw,bd.1,bd.2⟩
  ·have:=R.fr p (List.mem_of_mem_drop hp)
   exact⟨kp _ _ this.1,this.2⟩
 ·unfold my
  rw[List.append_assoc,List.pairwise_append];have sp:=R.up;rw[<- List.take_append_drop m fs,List.pairwise_append]at sp;refine⟨sp.1,List.pairwise_cons.mpr ⟨high,sp.2.1⟩,fun p hp x hx=>?_⟩;rcases List.mem_cons.mp hx with rfl|hx
  ·exact low p hp
  ·exact sp.2.2 p hp x hx
theorem uq{fs:Crn}{m:Nat}{q:Addr}{a b:Int}(x:Int×Int):x∈(my fs m (q,a,b)).map (·.2)↔x∈fs.map (·.2)∨x=(a,b):=by
 have h:x∈fs.map (·.2)↔x∈(fs.take m).map (·.2)∨x∈(fs.drop m).map (·.2):=by
  conv=>lhs;rw[<- List.take_append_drop m fs,List.map_append,List.mem_append]
 rw[h];unfold my;rw[List.map_append,List.map_append,List.mem_append,List.mem_append,List.map_singleton,List.mem_singleton];constructor
 ·rintro((h|h)|h)
  ·exact .inl (.inl h)
  ·exact .inr h
  ·exact .inl (.inr h)
 ·rintro((h|h)|h)
  ·exact .inl (.inl h)
  ·exact .inr h
  ·exact .inl (.inr h)
def MvL(t l:Addr)(H H':Hp):Prop:=∀c o,c≠l->c≠t->H c=some o->H' c=some o
theorem eI{p t:Addr}{H H':Hp}{xs ys:List V}{ls:List (Pos×Str)}(x:Tab H t ls)(u:Ce H H' p xs ys):Tab H' t ls:=by
 obtain⟨ps,e,tr,al⟩:=x;have ne:∀{c:Addr} {o:HO},H c=some o->(∀xs,o≠.lst xs)->c≠p:=fun {c o} e n z=>by
  rw[z,u.was]at e;exact n _ (Option.some.inj e).symm
 refine⟨ps,u.at (ne e fun xs q=>by cases q) e,tr,fun l hl=>(al l hl).imp_right ?_⟩;rintro⟨c,e2,o,vs,t,e3,r⟩;exact⟨c,e2,o,vs,t,u.at (ne e3 fun xs q=>by cases q) e3,r⟩
inductive D5 (t:Addr) (vs:List V) (H:Hp) (Q:VK) (x_3:XK):Prop
 | mk:∀(l q:Addr) (fs:Crn) (a b:Int),(vs = [.ref l,.ref q])->(Tab H t lsP)->(EE H l fs)->(fs.length<900)->(H q=some (.tup [.int a,.int b]))->(AI a b)->((ao a≤2000∧ao b≤2000))->(∀(fs':Crn) H',Tab H' t lsP->EE H' l fs'->MvL t l H H'->(∀x:Int×Int,x∈fs'.map (·.2)↔x∈fs.map (·.2)∨x=(a,b))->fs'.length≤fs.length+1->Q .non H')->D5 t vs H Q x_3
theorem Dd:yc ["rising","square","number"] ["rising","square"] (af (top 113)):=smk
theorem qB{t_put_in:Addr}(Cu:Ez K mg "put_in" (top 113) t_put_in)(BF:oJ K mg)(yD:Fn P w K mg base "first_number" ["count","holds"] 10 (B9 P w K mg base 9))(zw:Fn P w K mg base "less" ["a","b"] 1 Ag)(T:Txt mg):Fn P w K mg base "put_in" ["rising","square"] 11 (D5 t_put_in):=by
 refine Cu.fn Dd (fun _ _ _ _ _ _ us hl=>by obtain⟨_,_,rfl⟩:=cI hl;rfl) (fun vs H Q E h=>?_) (fun f cdv A outer s H vs Q E CF hr h=>?_)
 ·obtain⟨l,q,fs,a,b,rfl,_⟩:=h
  rfl
 ·obtain⟨l,q,fs,a,b,rfl,tb,R,hlen,hq,lw,⟨ba,bb⟩,k⟩:=h
  obtain⟨c,ec,CF⟩:=CF;have CL_a:closureFor (bn laP) (aZ CX0 P w K mg base ["rising","square","number"] "put_in" (af (top 113)) f cdv A outer s H E).nox.env=pure ([("square",s.heap.objs.size+2),("rising",s.heap.objs.size+1)]:List (Str×Addr)):=by rfl
  have CM_a:(a9 laP,qP)∈lsP:=List.mem_cons_self;have CD_a:∀l∈lsP,l≠(a9 laP,qP)->¬(l.1.line=(a9 laP).line∧l.1.col=(a9 laP).col):=by
   intro l hl ne;rw[List.mem_singleton.mp hl]at ne;exact absurd rfl ne
  have CS:∀p∈[((s.heap.objs.size+1:Addr),0),(s.heap.objs.size+2,1)],∃y,(aZ CX0 P w K mg base ["rising","square","number"] "put_in" (af (top 113)) f cdv A outer s H E).nox.env.cells.lookup y=some p.1∧(aZ CX0 P w K mg base ["rising","square","number"] "put_in" (af (top 113)) f cdv A outer s H E).nox.N[p.2]? = some y∧(aZ CX0 P w K mg base ["rising","square","number"] "put_in" (af (top 113)) f cdv A outer s H E).nox.env.kindOf y=some .cell∧Vis (aZ CX0 P w K mg base ["rising","square","number"] "put_in" (af (top 113)) f cdv A outer s H E).nox.env.scope y:=by
   intro p hp;simp only[List.mem_cons,List.not_mem_nil,or_false]at hp;rcases hp with rfl|rfl
   ·exact⟨"rising",rfl,rfl,rfl,.inr (.inl rfl)⟩
   ·exact⟨"square",rfl,rfl,rfl,.inr (.inl rfl)⟩
  refine⟨_,(ae (aw (i:=2) Dd.nd rfl (Or.inl rfl) (kH yD (hr.mono (by decide)) (by rfl) (fun _=>rfl) CS (aa (aJ aL (by rfl) T.z_len bP (aa (pv 0) ad)) (aa (gM CL_a ec CF BF rfl rfl CM_a CD_a) ad)))) (ag (aM (bK (aq bG (pv 2) (aJ aL (by rfl) T.z_len bP (aa (pv 0) ad)) (ar _)) (bz (aq (dZ hr.units0) (aj aQ (pv 0) (pv 2) (fun _ _=>rfl)) (pv 1) (ar _)))).pt (ag (bI (eh PySem.F.plainAttrs_list PySem.F.slot_list_insert PySem.F.type_list_insert ue (pv 0) (aa (pv 2) (aa (pv 1) ad))))) aA))),?_⟩;have hl:(fs.map fun (q:Addr×Int×Int)=>V.ref q.1).length=fs.length:=List.length_map _;refine⟨_,rfl,l,_,rfl,.inl (SqL.of R.lst),tb,fun fa H1 P1 tb1 la1 nfa=>fun H2 s2 cells=>?_⟩;have kp:∀{x:Addr} {ob:HO},H x=some ob->(∀ps,ob≠.tbl ps)->H2 x=some ob:=fun e n=>s2 _ _ (P1.keep tb e n);have c1:=cells (s.heap.objs.size+1,0) List.mem_cons_self (.ref l) rfl;have c2:=cells (s.heap.objs.size+2,1) (List.mem_cons_of_mem _ List.mem_cons_self) (.ref q) rfl;have la2:=la1.same fun x ob e=>s2 _ _ e;have l2:=kp R.lst (fun ps q=>by cases q);have q2:=kp hq (fun ps q=>by cases q);have FN:Fb P w K mg base 9 (fun H'=>Same H2 H') fa (fs.map fun (q:Addr×Int×Int)=>V.ref q.1).length (hdP fs a b):=by
   refine⟨fun H' s'=>by obtain⟨o,fd,e,d⟩:=la2.obj;exact⟨o,fd,s' _ _ e,d⟩,?_⟩;obtain⟨pm,cc,ct,ea,ck6⟩:=la2;have LN:Di "k" (bn laP) [("square",s.heap.objs.size+2),("rising",s.heap.objs.size+1)]:=by
    refine⟨rfl,rfl,rfl,by decide +kernel,rfl,by rfl,?_,fun p hp=>?_,fun p hp q hq e=>?_⟩
    ·show(["k","square","rising"]:List Str).Nodup
     decide +kernel
    ·simp only[List.mem_cons,List.not_mem_nil,or_false]at hp
     rcases hp with rfl|rfl <;> rfl
    ·simp only[List.mem_cons,List.not_mem_nil,or_false]at hp hq
     have e1:s.heap.objs.size+2≠s.heap.objs.size+1:=by omega
     rcases hp with rfl|rfl
     ·rcases hq with rfl|rfl
      ·rfl
      ·exact absurd e e1
     ·rcases hq with rfl|rfl
      ·exact absurd e.symm e1
      ·rfl
   refine⟨_,⟨_,["k"],An.mono (j:=3) (h:=(by decide)) <| gO (P:=P) (w:=w) (K:=K) (mg:=mg) (base:=base) (x:="k") (q:=qP) (params:=fi laP) (body:=fh laP) (scope:=bn laP) (pm:=pm) (ctv:=ct) (f:=fa) (c:=cc) (k:=2) LN (fun A2 o2 s2 H2 hr2=>i0 (az zw (hr2.mono (by decide)) (by rfl) (aa (aj (mw (K:=K) rfl) (pv 2) (pv 0) (fun _ _=>rfl)) (aa (pv 1) ad)))),.all fun us hl=>by obtain⟨_,rfl⟩:=dQ hl;rfl⟩,?_⟩;intro H' i Q' s' hi k;have cs:Paired (fun (p:Str×Addr) z=>bO H' p.2 z) [("square",s.heap.objs.size+2),("rising",s.heap.objs.size+1)] [.ref q,.ref l]:=.cons (c2.mono s') (.cons (c1.mono s') .nil);have hC:=dU cs;have CK:eB H' cc qP:=by
    obtain⟨o,vs,t,e,r⟩:=ck6;exact⟨o,vs,t,s' _ _ e,r⟩
   rw[hl]at hi;have hp:fs[i]? = some (fs[i]'hi):=List.getElem?_eq_getElem hi;generalize fs[i]'hi=p at hp;obtain⟨fp,lp,bp1,bp2⟩:=R.fr p (List.mem_of_getElem? hp);have fp2:=kp fp (fun ps q=>by cases q);refine⟨.int (i:Int),[.ref q,.ref l],rfl,s' _ _ ea,CK,cs,?_⟩;refine⟨_,rfl,_,rfl,l,_,_,_,rfl,rfl,SqL.of (bV hC (s' _ _ l2) (fun z q=>by cases q)),dh (j:=i) (v:=.ref p.1) (by rw[List.getElem?_map,hp];rfl),_,rfl,p.1,q,p.2.1,p.2.2,a,b,rfl,bV hC (s' _ _ fp2) (fun z q=>by cases q),bV hC (s' _ _ q2) (fun z q=>by cases q),⟨bp1,bp2,ba,bb⟩,_,rfl,fun hC1=>?_⟩;rw[show(!decide (p.2.1*b<a*p.2.2))=hdP fs a b i by unfold hdP;rw[hp]];exact k _ (s'.trans (dJ (Same.refl _)))
  refine⟨fa,_,hdP fs a b,fun H'=>Same H2 H',rfl,Same.refl _,FN,fun i j h hj=>sr R lw.pos i j h (by rw[<- hl];exact hj),fun m H3 s3 m1 m2 m3 H4 k1 k2=>?_⟩;rw[hl]at m1 m3;have S4:Same H1 H4:=fun x ob e=>k2 x ob e (s3 _ _ (s2 _ _ e));have tb4:=tb1.same S4;have kp4:∀{x:Addr} {ob:HO},H x=some ob->(∀ps,ob≠.tbl ps)->H4 x=some ob:=fun e n=>S4 _ _ (P1.keep tb e n);have l4:=kp4 R.lst (fun ps q=>by cases q);have q4:=kp4 hq (fun ps q=>by cases q);have t4:∀c xs,H c=some (.tup xs)->H4 c=some (.tup xs):=fun c xs e=>kp4 e (fun ps q=>by cases q);have fin:∀(h3:∀p,fs[m]? = some p->p.2≠(a,b)) H5,Ce H4 H5 l (fs.map fun (q:Addr×Int×Int)=>V.ref q.1) ((fs.map fun (q:Addr×Int×Int)=>V.ref q.1).take ((m:Int)).toNat++[V.ref q]++(fs.map fun (q:Addr×Int×Int)=>V.ref q.1).drop ((m:Int)).toNat)->Q .non H5:=fun h3 H5 u=>by
   have e5:=u.now;rw[Int.toNat_natCast]at e5;refine k (my fs m (q,a,b)) H5 (eI tb4 u) (tN R (fun c xs e=>u.t _ _ (t4 c xs e)) e5 (u.t _ _ q4) lw ⟨ba,bb⟩ m2 m3 h3) (fun c o n nt e=>u.at n (S4 _ _ (P1 c o nt e))) (fun x=>uq x) ?_;unfold my;rw[List.length_append,List.length_append,List.length_take,List.length_drop,List.length_singleton];omega
  refine⟨_,rfl,_,rfl,l,_,rfl,.inl (SqL.of l4),rfl,_,rfl,aW (fun c1=>?_) (fun c1=>?_)⟩
  ·have c1:(m:Int)=(((fs.map fun (q:Addr×Int×Int)=>V.ref q.1).length:Nat):Int):=by simpa using c1
   rw[hl]at c1;refine⟨_,rfl,.inl ⟨rfl,_,SqL.of l4⟩,_,rfl,_,rfl,l,_,_,_,rfl,rfl,l4,⟨by omega,by rw[hl];omega⟩,by rw[hl];omega,fun H5 u=>fin (fun p hp=>?_) H5 u⟩;rw[List.getElem?_eq_none (by omega)]at hp;cases hp
  ·have c1:¬(m:Int)=(((fs.map fun (q:Addr×Int×Int)=>V.ref q.1).length:Nat):Int):=by simpa using c1
   rw[hl]at c1;have hm:m<fs.length:=by omega
   have hp:fs[m]? = some (fs[m]'hm):=List.getElem?_eq_getElem hm;generalize fs[m]'hm=p at hp;have fp:=R.fr p (List.mem_of_getElem? hp);refine⟨_,rfl,_,rfl,l,_,_,_,rfl,rfl,SqL.of l4,dh (j:=m) (v:=.ref p.1) (by rw[List.getElem?_map,hp];rfl),_,rfl,p.1,q,[p.2.1,p.2.2],[a,b],rfl,rfl,SqT.of (t4 _ _ fp.1),SqT.of q4,_,rfl,aW (fun c2=>?_) (fun c2=>?_)⟩
   ·have c2:¬(p.2.1=a∧p.2.2=b):=fun ⟨z1,z2⟩=>by rw[z1,z2]at c2;simp at c2
    refine⟨_,rfl,.inl ⟨rfl,_,SqL.of l4⟩,_,rfl,_,rfl,l,_,_,_,rfl,rfl,l4,⟨by omega,by rw[hl];omega⟩,by rw[hl];omega,fun H5 u=>fin (fun p' hp' z=>?_) H5 u⟩;rw[hp]at hp';cases hp';exact c2 ⟨congrArg (·.1) z,congrArg (·.2) z⟩
   ·have c2:p.2.1=a∧p.2.2=b:=by simpa using c2
    refine k fs H4 tb4 ⟨l4,fun x hx=>⟨t4 _ _ (R.fr x hx).1,(R.fr x hx).2⟩,R.up⟩ (fun c o n nt e=>S4 _ _ (P1 c o nt e)) (fun x=>⟨.inl,fun h=>?_⟩) (by omega);rcases h with h|h
    ·exact h
    ·rw[h,<- c2.1,<- c2.2]
     exact List.mem_map.mpr ⟨p,List.mem_of_getElem? hp,rfl⟩
def sqI(c d:Int×Int):Int:=(c.1 - d.1)*(c.1 - d.1)+(c.2 - d.2)*(c.2 - d.2)
theorem lN(c d:Int×Int):sqI c d=sqI d c:=by unfold sqI;grind
theorem ku(c d:Int×Int):0≤sqI c d:=by
 unfold sqI;have h1:0≤(c.1 - d.1)*(c.1 - d.1):=fg (by omega);have h2:0≤(c.2 - d.2)*(c.2 - d.2):=fg (by omega);omega
def ug(a b:Int):Int×Int:=(a / (Int.gcd a b:Int),b / (Int.gcd a b:Int))
theorem o0{a b s w:Int}(hb:0<b)(f:ye a b s w):(s,w)=ug a b:=by
 obtain⟨e1,e2⟩:=dD (by omega) f (gw hb);rw[e1,e2];rfl
theorem kf{A M N D s w:Int}(hM:0<M)(f:ye A M s w)(e:A*D=N*M):ye N D s w:=by
 refine⟨f.low,?_⟩;have h:=f.eq;refine Int.eq_of_mul_eq_mul_right (show M≠0 by omega) ?_;have e1:N*w*M=N*M*w:=Int.mul_right_comm _ _ _;rw[e1,<- e,Int.mul_right_comm A D w,h,Int.mul_right_comm]
def leA(c x y:Int×Int):Int:=(c.1 - x.1)*(y.1 - x.1)+(c.2 - x.2)*(y.2 - x.2)
def leL(x y:Int×Int):Int:=(y.1 - x.1)*(y.1 - x.1)+(y.2 - x.2)*(y.2 - x.2)
theorem se(x y:Int×Int):0≤leL x y:=ku y x
def leF(c x y:Int×Int):Int×Int:=if leL x y=0∨leA c x y<0 then (sqI c x,1) else if leL x y<leA c x y then (sqI c y,1) else (sqI c x*leL x y - leA c x y*leA c x y,leL x y)
def leV(c x y:Int×Int):Int×Int:=ug (leF c x y).1 (leF c x y).2
theorem o6(c x y:Int×Int):0<(leF c x y).2:=by
 have:=se x y;unfold leF
 split
 ·exact(by decide:(0:Int)<1)
 ·split
  ·exact(by decide:(0:Int)<1)
  ·rename_i h _
   show 0<leL x y;omega
def Cb(c:Int×Int):Prop:=ao c.1≤50∧ao c.2≤50
theorem cx{c d:Int×Int}(h:Cb c)(h':Cb d):ao (sqI c d)≤103:=by
 have a:=aO h.1 h'.1;have b:=aO h.2 h'.2;exact ap (ce (bits_mul a a) (bits_mul b b)) (by decide)
theorem i9{c x y:Int×Int}(h:Cb c)(h1:Cb x)(h2:Cb y):ao (leA c x y)≤103 :=
 ap (ce (bits_mul (aO h.1 h1.1) (aO h2.1 h1.1)) (bits_mul (aO h.2 h1.2) (aO h2.2 h1.2))) (by decide)
theorem i8{x y:Int×Int}(h1:Cb x)(h2:Cb y):ao (leL x y)≤103:=cx h2 h1
theorem sf{c x y:Int×Int}(h:Cb c)(h1:Cb x)(h2:Cb y):ao (leF c x y).1≤300∧ao (leF c x y).2≤300:=by
 unfold leF
 split
 ·exact⟨ap (cx h h1) (by decide),(by decide:ao 1≤300)⟩
 ·split
  ·exact⟨ap (cx h h2) (by decide),(by decide:ao 1≤300)⟩
  ·exact⟨ap (aO (bits_mul (cx h h1) (i8 h1 h2)) (bits_mul (i9 h h1 h2) (i9 h h1 h2))) (by decide),ap (i8 h1 h2) (by decide)⟩
theorem pt1(p:Addr)(c:Int×Int):ptX [(p,c)] 0 1=c.1∧ptY [(p,c)] 0 1=c.2:=by
 constructor
 ·show c.1*1+(c.1 - c.1)*(0 % 1)=c.1
  omega
 ·show c.2*1+(c.2 - c.2)*(0 % 1)=c.2
  omega
theorem pt2{p q:Addr}{x y:Int×Int}{T B:Int}(hB:0<B)(h0:0≤T)(h1:T≤B):ptX [(p,x),(q,y)] T B=x.1*B+(y.1 - x.1)*T∧ptY [(p,x),(q,y)] T B=x.2*B+(y.2 - x.2)*T:=by
 have a:=nV (qs:=[(p,x),(q,y)]) (t:=T) (b:=B) (k:=0) hB (by simp) (by simp;omega) (by simp;omega);have b:=nU (qs:=[(p,x),(q,y)]) (t:=T) (b:=B) (k:=0) hB (by simp) (by simp;omega) (by simp;omega);rw[a,b];have e:T - ((0:Nat):Int)*B=T:=by simp
 rw[e];exact⟨rfl,rfl⟩
theorem sq2{r p q:Addr}{c x y:Int×Int}{T B:Int}(hB:0<B)(h0:0≤T)(h1:T≤B):sqF [(r,c)] 0 1 [(p,x),(q,y)] T B=B*B*sqI c x - 2*B*T*leA c x y+T*T*leL x y:=by
 unfold sqF;rw[(pt1 r c).1,(pt1 r c).2,(pt2 (p:=p) (q:=q) (x:=x) (y:=y) hB h0 h1).1,(pt2 (p:=p) (q:=q) (x:=x) (y:=y) hB h0 h1).2];unfold sqN sqI leA leL
 grind
theorem ql{r p q:Addr}{c x y:Int×Int}{T B s w:Int}(hB:0<B)(h0:0≤T)(h1:T≤B)(h:LPc (ptX [(r,c)] 0 1) (ptY [(r,c)] 0 1) 1 [(p,x),(q,y)] 0 1 1 1 T B)(f:ye (sqF [(r,c)] 0 1 [(p,x),(q,y)] T B) (sqD 1 B) s w):ye (leF c x y).1 (leF c x y).2 s w:=by
 have hD:0<sqD 1 B:=by
  unfold sqD;exact Int.mul_pos (by omega) (by omega)
 refine kf hD f ?_;rw[sq2 hB h0 h1];rcases h with⟨z,_⟩|⟨k,st,cl⟩
 ·exact absurd z (by decide)
 have hk:k=0:=by
  have:=st.kn
  change k+1<2 at this
  omega
 subst hk;have eL:kL [(p,x),(q,y)] 0=leL x y:=rfl;have eA:kA (ptX [(r,c)] 0 1) (ptY [(r,c)] 0 1) 1 [(p,x),(q,y)] 0=leA c x y:=by
  rw[(pt1 r c).1,(pt1 r c).2];show(c.1 - x.1*1)*(y.1 - x.1)+(c.2 - x.2*1)*(y.2 - x.2)=_;rw[Int.mul_one,Int.mul_one];rfl
 rw[eL,eA]at cl;have e1:(0:Int) - ((0:Nat):Int)*1=0:=by decide
 have e2:(1:Int) - ((0:Nat):Int)*1=1:=by decide
 have e3:T - ((0:Nat):Int)*B=T:=by simp
 rw[e1,e2,e3]at cl;have hL:=se x y;have e4:sqI c y=sqI c x - 2*leA c x y+leL x y:=by
  unfold sqI leA leL
  grind
 unfold leF sqD;rcases cl with⟨rfl,rfl,z⟩|⟨rfl,rfl,z1,z2,z3⟩|⟨z1,z2,z3,z4⟩
 ·rw[if_pos (by omega)]
  simp
 ·rw[if_neg (by omega),if_pos (by omega)]
  simp only[e4];omega
 ·rw[if_neg (by omega),if_neg (by omega)]
  simp only;rw[Int.mul_one]at z4;generalize leA c x y=al at *;generalize leL x y=L at *;generalize sqI c x=G at *
  grind
def Cn(H:Hp)(p:Addr)(c:Int×Int):Prop:=H p=some (.tup [.int c.1,.int c.2])∧Cb c
theorem Cn.mono{H H':Hp}{p:Addr}{c:Int×Int}(h:Cn H p c)(s:Same H H'):Cn H' p c:=⟨s _ _ h.1,h.2⟩
theorem o5{H:Hp}{l p:Addr}{c:Int×Int}(e:H l=some (.lst [.ref p]))(h:Cn H p c):LineAt H l [(p,c)]:=⟨e,fun q hq=>by
 rw[List.mem_singleton.mp hq];exact⟨h.1,h.2⟩⟩
theorem vp{H:Hp}{l p q:Addr}{c d:Int×Int}(e:H l=some (.lst [.ref p,.ref q]))(h:Cn H p c)(h':Cn H q d):LineAt H l [(p,c),(q,d)]:=⟨e,fun z hz=>by
 simp only[List.mem_cons,List.not_mem_nil,or_false]at hz;rcases hz with rfl|rfl
 ·exact⟨h.1,h.2⟩
 ·exact⟨h'.1,h'.2⟩⟩
theorem rF{H:Hp}{z:Addr}{n:Int}(e:H z=some (.tup [.int 0,.int 1]))(h:0≤n):Bz H z 0 1 n:=⟨e,⟨by decide,by decide⟩,by decide,by omega,by decide,by decide⟩
theorem xV{H:Hp}{z:Addr}{n:Int}(e:H z=some (.tup [.int 1,.int 1]))(h:1≤n):Bz H z 1 1 n:=⟨e,⟨by decide,by decide⟩,by decide,by omega,by decide,by decide⟩
inductive DQ (vs:List V) (H:Hp) (Q:VK) (x_3:XK):Prop
 | mk:∀(p q:Addr) (c d:Int×Int),(vs = [.ref p,.ref q])->(Cn H p c)->(Cn H q d)->(∀(r:Addr) H',Same H H'->H' r=some (.tup [.int (sqI c d),.int 1])->Q (.ref r) H')->DQ vs H Q x_3
inductive D9 (vs:List V) (H:Hp) (Q:VK) (x_3:XK):Prop
 | mk:∀(p l p1 p2:Addr) (c x y:Int×Int),(vs = [.ref p,.ref l])->(Cn H p c)->(H l=some (.lst [.ref p1,.ref p2]))->(Cn H p1 x)->(Cn H p2 y)->(∀(r:Addr) (s w:Int) H',Same H H'->BN H' r s w 300->(s,w)=leV c x y->Q (.ref r) H')->D9 vs H Q x_3
theorem Cg:yc ["corner","beside"] ["corner","beside"] (af (top 114)):=smk
theorem ig{C2:Addr}(zG:Df K mg "square_apart" (top 114))(yU:Fx P w K mg base "square_of" ["one","x","other","y"] 6 [] (Bs C2)):Fn P w K mg base "square_apart" ["corner","beside"] 7 DQ:=by
 refine zG.fn Cg (fun _ _ _ _ _ _ us hl=>by obtain⟨_,_,rfl⟩:=cI hl;rfl) (fun vs H Q E h=>?_) (fun f cdv A outer s H vs Q E hr h=>?_)
 ·obtain⟨p,q,c,d,rfl,_⟩:=h
  rfl
 ·obtain⟨p,q,c,d,rfl,hc,hd,k⟩:=h
  refine⟨_,(ag (ak (dk yU (hr.mono (by decide)) (by rfl) (aa (bE (aa (pv 0) ad)) (aa (aG (aa ac (aa ac ad))) (aa (bE (aa (pv 1) ad)) (aa (aG (aa ac (aa ac ad))) ad))))))),?_⟩;refine⟨_,rfl,sz (by simp),fun l1 H1 s1 f1 _=>?_⟩;refine⟨sz (by simp),fun z1 H2 s2 f2 _=>?_⟩;refine⟨_,rfl,sz (by simp),fun l2 H3 s3 f3 _=>?_⟩;refine⟨sz (by simp),fun z2 H4 s4 f4 _=>?_⟩;have S4:=s1.trans (s2.trans (s3.trans s4));have P1:Bz H4 z1 0 1 (cD [(p,c)]):=rF (s4 _ _ (s3 _ _ f2)) (by unfold cD;simp);have P2:Bz H4 z2 0 1 (cD [(q,d)]):=rF f4 (by unfold cD;simp);refine⟨l1,l2,[(p,c)],[(q,d)],_,_,rfl,o5 (s4 _ _ (s3 _ _ (s2 _ _ f1))) (hc.mono S4),o5 (s4 _ _ f3) (hd.mono S4),⟨by simp,by simp⟩,⟨by simp,by simp⟩,P1.th,P2.th,.inr ⟨z1,0,1,rfl,P1,.inr ⟨z2,0,1,rfl,P2,fun r s w H5 fr f5 s5=>?_⟩⟩⟩;have e:sqF [(p,c)] 0 1 [(q,d)] 0 1=sqI c d:=by
   unfold sqF;rw[(pt1 p c).1,(pt1 p c).2,(pt1 q d).1,(pt1 q d).2];unfold sqN sqI
   grind
  rw[e]at fr;have lw:AI (sqI c d) 1:=⟨by decide,by rw[Int.gcd_one]⟩;obtain⟨e1,e2⟩:=dD (by decide) fr (kb lw);have at5:=f5.at_;rw[e1,e2]at at5;exact k r H5 (S4.trans s5) at5
theorem Ci:yc ["corner","stretch"] ["corner","stretch"] (af (top 115)):=smk
theorem ij{C:Addr}(zI:Df K mg "least_beside" (top 115))(zV:Fx P w K mg base "least_along" ["one","x","other","low","high"] 6 [] (CP C)):Fn P w K mg base "least_beside" ["corner","stretch"] 7 D9:=by
 refine zI.fn Ci (fun _ _ _ _ _ _ us hl=>by obtain⟨_,_,rfl⟩:=cI hl;rfl) (fun vs H Q E h=>?_) (fun f cdv A outer s H vs Q E hr h=>?_)
 ·obtain⟨p,l,p1,p2,c,x,y,rfl,_⟩:=h
  rfl
 ·obtain⟨p,l,p1,p2,c,x,y,rfl,hc,hl,hx,hy,k⟩:=h
  refine⟨_,(ag (ak (aj ah (dk zV (hr.mono (by decide)) (by rfl) (aa (bE (aa (pv 0) ad)) (aa (aG (aa ac (aa ac ad))) (aa (pv 1) (aa (aG (aa ac (aa ac ad))) (aa (aG (aa ac (aa ac ad))) ad)))))) ac (fun _ _=>rfl)))),?_⟩;refine⟨_,rfl,sz (by simp),fun l1 H1 s1 f1 _=>?_⟩;refine⟨sz (by simp),fun z1 H2 s2 f2 _=>?_⟩;refine⟨_,rfl,sz (by simp),fun z2 H3 s3 f3 _=>?_⟩;refine⟨sz (by simp),fun z3 H4 s4 f4 _=>?_⟩;have S4:=s1.trans (s2.trans (s3.trans s4));have P1:Bz H4 z1 0 1 (cD [(p,c)]):=rF (s4 _ _ (s3 _ _ f2)) (by unfold cD;simp);have P2:Bz H4 z2 0 1 (cD [(p1,x),(p2,y)]):=rF (s4 _ _ f3) (by unfold cD;simp);have P3:Bz H4 z3 1 1 (cD [(p1,x),(p2,y)]):=xV f4 (by unfold cD;simp);refine⟨l1,l,[(p,c)],[(p1,x),(p2,y)],_,_,_,rfl,o5 (s4 _ _ (s3 _ _ (s2 _ _ f1))) (hc.mono S4),vp (S4 _ _ hl) (hx.mono S4) (hy.mono S4),⟨by simp,by simp⟩,⟨by simp,by simp⟩,P1.th,P2.th,P3.th,.inr ⟨z1,0,1,rfl,P1,.inr ⟨z2,0,1,rfl,P2,.inr ⟨z3,1,1,rfl,P3,by decide,by decide,by decide,.inr ⟨0,⟨by simp,by simp,by simp,by simp⟩⟩,?_⟩⟩⟩⟩;intro r rs rp s w T B H5 e5 fs pl lp r0 r1 fr s5;refine⟨r,_,_,_,rfl,rfl,SqT.of e5,rfl,?_⟩;have fv:=ql pl.low.pos (by omega) (by omega) lp fr;have bd:=sf hc.2 hx.2 hy.2;have bd2:=fj (o6 c x y) fv bd.1 bd.2;exact k rs s w H5 (S4.trans s5) ⟨fs.at_,fs.low,bd2.1,bd2.2⟩ (o0 (o6 c x y) fv)
def evS(c m x y:Int×Int):Int:=2*((c.1 - m.1)*(y.1 - x.1)+(c.2 - m.2)*(y.2 - x.2))
def evT(c m x:Int×Int):Int:=sqI c x - sqI m x
def evP(c m x y:Int×Int):Int×Int:=if evS c m x y<0 then (0 - evT c m x,0 - evS c m x y) else (evT c m x,evS c m x y)
def evF(c x y p:Int×Int):Int×Int:=(p.2*p.2*sqI c x - 2*p.2*p.1*leA c x y+p.1*p.1*leL x y,p.2*p.2)
def evV(c m x y:Int×Int):List (Int×Int):=if (evP c m x y).2=0∨(evP c m x y).1<0∨(evP c m x y).2<(evP c m x y).1 then [] else [ug (evF c x y (evP c m x y)).1 (evF c x y (evP c m x y)).2]
theorem sP{c m x y:Int×Int}(h:Cb c)(h':Cb m)(h1:Cb x)(h2:Cb y):ao (evS c m x y)≤110 :=
 ap (bits_mul (show ao 2≤2 by decide) (ce (bits_mul (aO h.1 h'.1) (aO h2.1 h1.1)) (bits_mul (aO h.2 h'.2) (aO h2.2 h1.2)))) (by decide)
theorem sO{c m x:Int×Int}(h:Cb c)(h':Cb m)(h1:Cb x):ao (evT c m x)≤110:=ap (aO (cx h h1) (cx h' h1)) (by decide)
theorem sQ{c m x y:Int×Int}(h:Cb c)(h':Cb m)(h1:Cb x)(h2:Cb y):ao (evP c m x y).1≤111∧ao (evP c m x y).2≤111:=by
 have a:=sP h h' h1 h2;have b:=sO h h' h1;have z:ao 0≤110:=by decide
 unfold evP
 split
 ·exact⟨aO z b,aO z a⟩
 ·exact⟨ap b (by decide),ap a (by decide)⟩
theorem sR{c x y p:Int×Int}(h:Cb c)(h1:Cb x)(h2:Cb y)(hp:ao p.1≤111∧ao p.2≤111):ao (evF c x y p).1≤400∧ao (evF c x y p).2≤400:=by
 have b2:ao 2≤2:=by decide
 have h1':ao (p.2*p.2*sqI c x)≤350:=ap (bits_mul (bits_mul hp.2 hp.2) (cx h h1)) (by decide);have h2':ao (2*p.2*p.1*leA c x y)≤350:=ap (bits_mul (bits_mul (bits_mul b2 hp.2) hp.1) (i9 h h1 h2)) (by decide);have h3':ao (p.1*p.1*leL x y)≤351:=ap (bits_mul (bits_mul hp.1 hp.1) (i8 h1 h2)) (by decide);exact⟨ap (ce (aO h1' h2') h3') (by decide),ap (bits_mul hp.2 hp.2) (by decide)⟩
structure Dk(H:Hp)(l:Addr)(fs:Crn):Prop where
 lst:H l=some (.lst (fs.map fun (q:Addr×Int×Int)=>V.ref q.1))
 fr:∀q∈fs,H q.1=some (.tup [.int q.2.1,.int q.2.2])∧AI q.2.1 q.2.2∧ao q.2.1≤2000∧ao q.2.2≤2000
theorem Dk.mono{H H':Hp}{l:Addr}{fs:Crn}(F:Dk H l fs)(s:Same H H'):Dk H' l fs:=⟨s _ _ F.lst,fun q h=>⟨s _ _ (F.fr q h).1,(F.fr q h).2⟩⟩
theorem Dk.cat{H H':Hp}{l:Addr}{fs gs:Crn}(F:Dk H l fs)(G:∀q∈gs,H q.1=some (.tup [.int q.2.1,.int q.2.2])∧AI q.2.1 q.2.2∧ao q.2.1≤2000∧ao q.2.2≤2000)(u:Ce H H' l (fs.map fun (q:Addr×Int×Int)=>V.ref q.1) ((fs.map fun (q:Addr×Int×Int)=>V.ref q.1)++gs.map fun (q:Addr×Int×Int)=>V.ref q.1)):Dk H' l (fs++gs):=by
 refine⟨by rw[u.now,List.map_append],fun q hq=>?_⟩;rcases List.mem_append.mp hq with h|h
 ·exact⟨u.t _ _ (F.fr q h).1,(F.fr q h).2⟩
 ·exact⟨u.t _ _ (G q h).1,(G q h).2⟩
inductive Ee (vs:List V) (H:Hp) (Q:VK) (x_3:XK):Prop
 | mk:∀(p q l p1 p2:Addr) (c m x y:Int×Int),(vs = [.ref p,.ref q,.ref l])->(Cn H p c)->(Cn H q m)->(H l=some (.lst [.ref p1,.ref p2]))->(Cn H p1 x)->(Cn H p2 y)->(∀(r:Addr) (fs:Crn) H',Same H H'->H r=none->Dk H' r fs->fs.map (·.2)=evV c m x y->Q (.ref r) H')->Ee vs H Q x_3
theorem uK{c m x y:Int×Int}{sl off t u:Int}(hs:evS c m x y=0 - 2*sl)(ho:evT c m x=0 - off)(h0:sl≠0)(f:ye off (2*sl) t u):0<(evP c m x y).2∧t*(evP c m x y).2=(evP c m x y).1*u:=by
 have e:=f.eq;unfold evP;rw[hs,ho]
 split
 ·refine⟨show 0<0 - (0 - 2*sl) by omega,?_⟩
  show t*(0 - (0 - 2*sl))=(0 - (0 - off))*u;rw[show 0 - (0 - 2*sl)=2*sl by omega,show 0 - (0 - off)=off by omega,e]
 ·refine⟨show 0<0 - 2*sl by omega,?_⟩
  show t*(0 - 2*sl)=(0 - off)*u;rw[show 0 - 2*sl = -(2*sl) by omega,show 0 - off = -off by omega,Int.mul_neg,Int.neg_mul,e]
theorem sN{r p q:Addr}{c x y P:Int×Int}{t u s w:Int}(hu:0<u)(h0:0≤t)(h1:t≤u)(hP:0<P.2)(e:t*P.2=P.1*u)(f:ye (sqF [(r,c)] 0 1 [(p,x),(q,y)] t u) (sqD 1 u) s w):ye (evF c x y P).1 (evF c x y P).2 s w:=by
 have hD:0<sqD 1 u:=by
  unfold sqD;exact Int.mul_pos (by omega) (by omega)
 refine kf hD f ?_;rw[sq2 hu h0 h1];unfold evF sqD;generalize leA c x y=al;generalize leL x y=L;generalize sqI c x=G;show(u*u*G - 2*u*t*al+t*t*L)*(P.2*P.2)=(P.2*P.2*G - 2*P.2*P.1*al+P.1*P.1*L)*(1*u*(1*u));generalize P.1=a at *;generalize P.2=b at *;have e1:2*u*t*al*(b*b)=2*u*(t*b)*al*b:=by grind
 have e2:t*t*L*(b*b)=(t*b)*(t*b)*L:=by grind
 rw[Int.add_mul,Int.sub_mul,e1,e2,e]
 grind
theorem yC:yc ["corner","mate","stretch","begin","end","slope","off","part"] ["corner","mate","stretch"] (af (top 116)):=smk
theorem im{C C2:Addr}(zL:Df K mg "even_squares" (top 116))(yv:Fn P w K mg base "square_apart" ["corner","beside"] 7 DQ)(yw:Fx P w K mg base "ratio" ["top","bottom"] 2 [.int 1] (zh C))(zw:Fn P w K mg base "less" ["a","b"] 1 Ag)(yU:Fx P w K mg base "square_of" ["one","x","other","y"] 6 [] (Bs C2)):Fn P w K mg base "even_squares" ["corner","mate","stretch"] 8 Ee:=by
  refine zL.fn yC (fun _ _ _ _ _ _ us hl=>by obtain⟨_,_,_,rfl⟩:=dP hl;rfl) (fun vs H Q E h=>?_) (fun f cdv A outer s H vs Q E hr h=>?_)
  · obtain⟨p,q,l,p1,p2,c,m,x,y,rfl,_⟩:=h
    rfl
  · obtain⟨p,q,l,p1,p2,c,m,x,y,rfl,hc,hm,hl,hx,hy,k⟩:=h
    refine⟨_,(ae (aw (i:=3) yC.nd rfl (Or.inl rfl) (aj aQ (pv 2) ac (fun _ _=>rfl))) (ae (aw (i:=4) yC.nd rfl (Or.inl rfl) (aj aQ (pv 2) ac (fun _ _=>rfl))) (ae (aw (i:=5) yC.nd rfl (Or.inl rfl) (am a8 (am aF (am aS (aj ah (pv 4) ac (fun _ _=>rfl)) (aj ah (pv 3) ac (fun _ _=>rfl))) (am aS (aj ah (pv 1) ac (fun _ _=>rfl)) (aj ah (pv 0) ac (fun _ _=>rfl)))) (am aF (am aS (aj ah (pv 4) ac (fun _ _=>rfl)) (aj ah (pv 3) ac (fun _ _=>rfl))) (am aS (aj ah (pv 1) ac (fun _ _=>rfl)) (aj ah (pv 0) ac (fun _ _=>rfl)))))) (ae (aM (aq bG (pv 5) ac (ar _)) (ag (ak (bE ad))) aA) (ae (aw (i:=6) yC.nd rfl (Or.inl rfl) (am aS (aj ah (az yv (hr.mono (by decide)) (by rfl) (aa (pv 3) (aa (pv 1) ad))) ac (fun _ _=>rfl)) (aj ah (az yv (hr.mono (by decide)) (by rfl) (aa (pv 3) (aa (pv 0) ad))) ac (fun _ _=>rfl)))) (ae (aw (i:=7) yC.nd rfl (Or.inl rfl) (dk yw (hr.mono (by decide)) (by rfl) (aa (pv 6) (aa (am aF ac (pv 5)) ad)))) (ae (aM (bK (aV (az zw (hr.mono (by decide)) (by rfl) (aa (pv 7) (aa (aG (aa ac (aa ac ad))) ad)))) (bz (aV (az zw (hr.mono (by decide)) (by rfl) (aa (aG (aa ac (aa ac ad))) (aa (pv 7) ad)))))).pt (ag (ak (bE ad))) aA) (ag (ak (bE (aa (dk yU (hr.mono (by decide)) (by rfl) (aa (bE (aa (pv 0) ad)) (aa (aG (aa ac (aa ac ad))) (aa (pv 2) (aa (pv 7) ad))))) ad))))))))))),?_⟩;have bs:∀{a b:Int},ao a≤50->ao b≤50->ao (a - b)≤51:=fun h h'=>aO h h';have cm:∀{a b d e:Int},ao a≤50->ao b≤50->ao d≤50->ao e≤50->CM (a - b) (d - e):=fun h1 h2 h3 h4=>CM.b (bs h1 h2) (bs h3 h4) (by decide) (by decide);refine⟨_,rfl,l,_,_,_,rfl,rfl,SqL.of hl,rfl,_,rfl,l,_,_,_,rfl,rfl,SqL.of hl,rfl,?_⟩;refine⟨_,rfl,p2,_,_,_,rfl,rfl,SqT.of hy.1,rfl,_,rfl,p1,_,_,_,rfl,rfl,SqT.of hx.1,rfl,_,_,rfl,rfl,_,rfl,q,_,_,_,rfl,rfl,SqT.of hm.1,rfl,_,rfl,p,_,_,_,rfl,rfl,SqT.of hc.1,rfl,_,_,rfl,rfl,_,_,rfl,rfl,cm hy.2.1 hx.2.1 hm.2.1 hc.2.1,?_⟩;refine⟨_,rfl,p2,_,_,_,rfl,rfl,SqT.of hy.1,rfl,_,rfl,p1,_,_,_,rfl,rfl,SqT.of hx.1,rfl,_,_,rfl,rfl,_,rfl,q,_,_,_,rfl,rfl,SqT.of hm.1,rfl,_,rfl,p,_,_,_,rfl,rfl,SqT.of hc.1,rfl,_,_,rfl,rfl,_,_,rfl,rfl,cm hy.2.2 hx.2.2 hm.2.2 hc.2.2,_,_,rfl,rfl,?_⟩;have hs:evS c m x y=0 - 2*((y.1 - x.1)*(m.1 - c.1)+(y.2 - x.2)*(m.2 - c.2)):=by
      unfold evS
      grind
    have bsl:ao ((y.1 - x.1)*(m.1 - c.1)+(y.2 - x.2)*(m.2 - c.2))≤103:=ap (ce (bits_mul (bs hy.2.1 hx.2.1) (bs hm.2.1 hc.2.1)) (bits_mul (bs hy.2.2 hx.2.2) (bs hm.2.2 hc.2.2))) (by decide);dsimp only;generalize (y.1 - x.1)*(m.1 - c.1)+(y.2 - x.2)*(m.2 - c.2)=sl at hs bsl ⊢;refine⟨_,rfl,rfl,_,rfl,aW (fun c1=>?_) (fun c1=>?_)⟩
    · have c1:sl=0:=by simpa using c1
      refine⟨sz (by simp),fun r H1 s1 f1 n1=>k r [] H1 s1 n1 ⟨f1,fun q h=>nomatch h⟩ ?_⟩
      unfold evV;rw[if_pos (.inl (by unfold evP;rw[hs,c1];rfl))];rfl
    have c1:sl≠0:=by simpa using c1
    refine⟨_,rfl,_,rfl,p1,q,x,m,rfl,hx,hm,fun r1 H1 s1 e1=>⟨r1,_,_,_,rfl,rfl,SqT.of e1,rfl,?_⟩⟩;refine⟨_,rfl,_,rfl,p1,p,x,c,rfl,hx.mono s1,hc.mono s1,fun r2 H2 s2 e2=>⟨r2,_,_,_,rfl,rfl,SqT.of e2,rfl,_,_,rfl,rfl,?_⟩⟩;have S2:=s1.trans s2;have ho:evT c m x=0 - (sqI x m - sqI x c):=by
      unfold evT;rw[lN c x,lN m x];omega
    have bo:ao (sqI x m - sqI x c)≤104:=aO (cx hx.2 hm.2) (cx hx.2 hc.2);dsimp only;generalize sqI x m - sqI x c=off at ho bo ⊢;have b2:ao (2*sl)≤120:=ap (bits_mul (show ao 2≤2 by decide) bsl) (by decide);refine⟨_,rfl,_,rfl,_,_,rfl,rfl,CM.l ⟨by decide,by decide⟩,off,2*sl,120,rfl,⟨ap bo (by decide),b2,by decide⟩,fun z=>absurd z (by omega),fun _ rp t u fr bt bu np=>?_⟩;obtain⟨hP,eP⟩:=uK hs ho c1 fr;have hu:=fr.low.pos;obtain⟨n1,n2⟩:=vm hu hP eP;generalize hH3:upd H2 rp (.tup [.int t,.int u])=H3;have s3:Same H2 H3:=by rw[<- hH3];exact Same.new np
    have e3:H3 rp=some (.tup [.int t,.int u]):=by rw[<- hH3];exact upd_same
    clear hH3;have S3:=S2.trans s3;have bt':ao t≤2000∧ao u≤2000:=⟨ap bt (by decide),ap bu (by decide)⟩;have none:∀{H4:Hp},Same H H4->((evP c m x y).1<0∨(evP c m x y).2<(evP c m x y).1)->(vz (u7 vA)) { nx:=fun _ H'=>Q .non H',rt:=Q } [some (.ref p),some (.ref q),some (.ref l),some (.ref p1),some (.ref p2),some (.int sl),some (.int off),some (.ref rp)] H4:=fun {H4} s4 h=>by
      refine⟨sz (by simp),fun r H5 s5 f5 n5=>k r [] H5 (s4.trans s5) (s4.free n5) ⟨f5,fun q h=>nomatch h⟩ ?_⟩
      unfold evV;rw[if_pos (.inr h)];rfl
    refine⟨_,rfl,sz (by simp),fun z1 H4 s4 f4 _=>?_⟩;refine⟨rp,z1,t,u,0,1,rfl,s4 _ _ e3,f4,⟨bt'.1,bt'.2,by decide,by decide⟩,_,rfl,aW (fun c2=>?_) (fun c2=>?_)⟩
    · have c2:t*1<0*u:=ej c2
      exact none (S3.trans s4) (.inl (n1.mp (by omega)))
    have c2:¬t*1<0*u:=dS c2;refine⟨sz (by simp),fun z2 H5 s5 f5 _=>?_⟩;refine⟨_,rfl,z2,rp,1,1,t,u,rfl,f5,s5 _ _ (s4 _ _ e3),⟨by decide,by decide,bt'.1,bt'.2⟩,_,rfl,aW (fun c3=>?_) (fun c3=>?_)⟩
    · have c3:1*u<t*1:=ej c3
      exact none (S3.trans (s4.trans s5)) (.inr (n2.mp (by omega)))
    have c3:¬1*u<t*1:=dS c3;refine⟨_,rfl,sz (by simp),fun l1 H6 s6 f6 _=>?_⟩;refine⟨sz (by simp),fun z3 H7 s7 f7 _=>?_⟩;have S7:=S3.trans (s4.trans (s5.trans (s6.trans s7)));have P1:Bz H7 z3 0 1 (cD [(p,c)]):=rF f7 (by unfold cD;simp);have P2:Bz H7 rp t u (cD [(p1,x),(p2,y)]):=⟨s7 _ _ (s6 _ _ (s5 _ _ (s4 _ _ e3))),fr.low,by omega,by unfold cD;simp;omega,ap bt (by decide),ap bu (by decide)⟩;refine⟨_,rfl,_,rfl,l1,l,[(p,c)],[(p1,x),(p2,y)],_,_,rfl,o5 (s7 _ _ f6) (hc.mono S7),vp (S7 _ _ hl) (hx.mono S7) (hy.mono S7),⟨by simp,by simp⟩,⟨by simp,by simp⟩,P1.th,P2.th,.inr ⟨z3,0,1,rfl,P1,.inr ⟨rp,t,u,rfl,P2,fun r s w H8 fr8 f8 s8=>?_⟩⟩⟩;have fv:=sN hu (by omega) (by omega) hP eP fr8;have hD:0<(evF c x y (evP c m x y)).2:=Int.mul_pos hP hP;have bd:=sR hc.2 hx.2 hy.2 (sQ hc.2 hm.2 hx.2 hy.2);have bd2:=fj hD fv bd.1 bd.2;refine⟨sz (by simp),fun rr H9 s9 f9 n9=>k rr [(r,s,w)] H9 (S7.trans (s8.trans s9)) ((S7.trans s8).free n9) ⟨f9,fun z hz=>?_⟩ ?_⟩
    · rw[List.mem_singleton.mp hz]
      exact⟨s9 _ _ f8.at_,f8.low,ap bd2.1 (by decide),ap bd2.2 (by decide)⟩
    · unfold evV
      rw [if_neg (by rintro (z | z | z)
                     · omega
                     · exact absurd (n1.mpr z) (by omega)
                     · exact absurd (n2.mpr z) (by omega)),<- o0 hD fv]
      rfl
def Frq(H:Hp)(q:Addr×Int×Int):Prop:=H q.1=some (.tup [.int q.2.1,.int q.2.2])∧AI q.2.1 q.2.2∧ao q.2.1≤2000∧ao q.2.2≤2000
theorem mB{H:Hp}:∀(ys:List V) (vs:List (Int×Int)),ys.length=vs.length->(∀(i:Nat) y,ys[i]? = some y->∃q:Addr×Int×Int,y = .ref q.1∧vs[i]? = some q.2∧Frq H q)->∃fs:Crn,ys=fs.map (fun (q:Addr×Int×Int)=>V.ref q.1)∧(∀q∈fs,Frq H q)∧fs.map (·.2)=vs
 | [],[],_,_=>⟨[],rfl,(fun q h=>nomatch h),rfl⟩
 | y::ys,v::vs,hl,h=>by
  obtain⟨fs,e1,e2,e3⟩:=mB ys vs (by simpa using hl) fun i z hz=>h (i+1) z (by simpa using hz);obtain⟨q,rfl,q2,q3⟩:=h 0 y rfl;refine⟨q::fs,by rw[e1];rfl,fun z hz=>?_,?_⟩
  ·rcases List.mem_cons.mp hz with rfl|hz
   ·exact q3
   ·exact e2 z hz
  ·rw[List.map_cons,e3,<- Option.some.inj q2]
 | [],_::_,hl,_=>by cases hl
 | _::_,[],hl,_=>by cases hl
def evN(cs:List (Int×Int))(c x y:Int×Int)(j:Nat):List (Int×Int):=(cs.take j).flatMap fun m=>evV c m x y
theorem mZ{cs:List (Int×Int)}{c m x y:Int×Int}{j:Nat}(h:cs[j]? = some m):evN cs c x y (j+1)=evN cs c x y j++evV c m x y:=by
 unfold evN;rw[List.take_succ,h,List.flatMap_append];simp
def alN(cs:List (Int×Int))(x y:Int×Int)(i:Nat):List (Int×Int):=(List.range i).flatMap fun k=>leV (cs.getD k (0,0)) x y::evN cs (cs.getD k (0,0)) x y k
theorem tq{cs:List (Int×Int)}{c x y:Int×Int}{i:Nat}(h:cs[i]? = some c):alN cs x y (i+1)=alN cs x y i++(leV c x y::evN cs c x y i):=by
 have e:cs.getD i (0,0)=c:=by rw[List.getD_eq_getElem?_getD,h];rfl
 unfold alN;rw[List.range_succ,List.flatMap_append,List.flatMap_singleton,e]
theorem pA(c m x y:Int×Int):(evV c m x y).length≤1:=by
 unfold evV
 split <;> simp
theorem lg(cs:List (Int×Int))(c x y:Int×Int):∀j,(evN cs c x y j).length≤j
 | 0=>by simp[evN]
 | j+1=>by
  have ih:=lg cs c x y j;cases h:cs[j]? with
  | none =>
   have e:evN cs c x y (j+1)=evN cs c x y j:=by
    unfold evN;rw[List.take_succ,h];simp
   rw[e];omega
  | some m =>
   rw[mZ h,List.length_append];have:=pA c m x y;omega
theorem iL(cs:List (Int×Int))(x y:Int×Int):∀i,(alN cs x y i).length≤i*i
 | 0=>by simp[alN]
 | i+1=>by
  have ih:=iL cs x y i;have e:alN cs x y (i+1)=alN cs x y i++(leV (cs.getD i (0,0)) x y::evN cs (cs.getD i (0,0)) x y i):=by
   unfold alN;rw[List.range_succ,List.flatMap_append,List.flatMap_singleton]
  rw[e,List.length_append,List.length_cons];have:=lg cs (cs.getD i (0,0)) x y i;have h2:(i+1)*(i+1)=i*i+2*i+1:=by grind
  omega
def crs(qs:Crn):List (Int×Int):=qs.map (·.2)
theorem dH{qs:Crn}{i:Nat}{u:Addr×Int×Int}(h:qs[i]? = some u):(crs qs)[i]? = some u.2:=by
 unfold crs;rw[List.getElem?_map,h];rfl
theorem _root_.Sp2.LineAt.cn{H:Hp}{l:Addr}{qs:Crn}(L:LineAt H l qs){u:Addr×Int×Int}{i:Nat}(h:qs[i]? = some u):Cn H u.1 u.2:=⟨(L.crn u (List.mem_of_getElem? h)).1,(L.crn u (List.mem_of_getElem? h)).2⟩
theorem sX{xs:List V}{n:Nat}(h:n≤xs.length):js xs none (some (n:Int))=xs.take n:=by
 unfold js;rw[HT.sIx_nat,HT.sIx_none,Nat.min_eq_left h];simp
theorem qG(xs:List V)(h:1≤xs.length):js xs (some 1) none=xs.drop 1:=by
 unfold js;rw[show(1:Int)=((1:Nat):Int) from rfl,HT.sIx_nat,HT.sIx_none,Nat.min_eq_left h];exact List.take_of_length_le (by rw[List.length_drop];exact Nat.le_refl _)
inductive Eg (vs:List V) (H:Hp) (Q:VK) (x_3:XK):Prop
 | mk:∀(lc l p1 p2:Addr) (qs:Crn) (x y:Int×Int),(vs = [.ref lc,.ref l])->(LineAt H lc qs)->(qs.length≤20)->(H l=some (.lst [.ref p1,.ref p2]))->(Cn H p1 x)->(Cn H p2 y)->(∀(r:Addr) (fs:Crn) H',Same H H'->H r=none->Dk H' r fs->fs.map (·.2)=alN (crs qs) x y qs.length->Q (.ref r) H')->Eg vs H Q x_3
theorem Dk.len{H:Hp}{l:Addr}{fs:Crn}{vs:List (Int×Int)}(_:Dk H l fs)(e:fs.map (·.2)=vs):(fs.map fun (q:Addr×Int×Int)=>V.ref q.1).length=vs.length:=by
 rw[<- e,List.length_map,List.length_map]
theorem yA:yc ["corners","stretch","squares","number","corner","mate"] ["corners","stretch"] (af (top 117)):=smk
theorem gz(zb:Df K mg "squares_beside" (top 117))(zA:Fn P w K mg base "least_beside" ["corner","stretch"] 7 D9)(zD:Fn P w K mg base "even_squares" ["corner","mate","stretch"] 8 Ee)(T:Txt mg):Fn P w K mg base "squares_beside" ["corners","stretch"] 9 Eg:=by
 refine zb.fn yA (fun _ _ _ _ _ _ us hl=>by obtain⟨_,_,rfl⟩:=cI hl;rfl) (fun vs H Q E h=>?_) (fun f cdv A outer s H vs Q E hr h=>?_)
 ·obtain⟨lc,l,p1,p2,qs,x,y,rfl,_⟩:=h
  rfl
 ·obtain⟨lc,l,p1,p2,qs,x,y,rfl,L,hq,hl,hx,hy,k⟩:=h
  refine⟨_,(ae (aw (i:=2) yA.nd rfl (Or.inl rfl) (bE ad)) (ae (cB PassesOwn.never rfl (kG rfl T.z_enumerate (aa (pv 0) ad)) (dX rfl (bh (aP (i:=3) yA.nd rfl (Or.inl rfl)) (bh (aP (i:=4) yA.nd rfl (Or.inl rfl)) dr))) (ae (bI (eh PySem.F.plainAttrs_list PySem.F.slot_list_append PySem.F.type_list_append cS (pv 2) (aa (az zA (hr.mono (by decide)) (by rfl) (aa (pv 4) (aa (pv 1) ad))) ad))) (ag (cB PassesOwn.never rfl (cF (iZ iS (pv 0) kF (iA (pv 3)))) (aP (i:=5) yA.nd rfl (Or.inl rfl)) (ag (bI (eh PySem.F.plainAttrs_list PySem.F.slot_list_extend PySem.F.type_list_extend d7 (pv 2) (aa (az zD (hr.mono (by decide)) (by rfl) (aa (pv 4) (aa (pv 5) (aa (pv 1) ad)))) ad)))))))) (ag (ak (pv 2))))),?_⟩;have hll:(qs.map fun (q:Addr×Int×Int)=>V.ref q.1).length=qs.length:=List.length_map _;refine⟨sz (by simp),fun r H1 s1 f1 n1=>?_⟩;refine⟨_,rfl,lc,rfl,⟨_,SqL.of (s1 _ _ L.lst)⟩,je (K:=K) (a:=lc) (xs:=qs.map fun (q:Addr×Int×Int)=>V.ref q.1) (fun i σ H'=>∃(z3 z4 z5:Option V) (fs:Crn),σ = [some (.ref lc),some (.ref l),some (.ref r),z3,z4,z5]∧Same H H'∧Dk H' r fs∧fs.map (·.2)=alN (crs qs) x y i)
   ⟨_,_,_,[],rfl,s1,⟨f1,fun q h=>nomatch h⟩,rfl⟩ (fun i σ H' _ ⟨_,_,_,_,_,s',_⟩=>SqL.of (s' _ _ L.lst)) ?_ ?_⟩
  ·rintro i v pp σ H2 H3 hv ⟨z3,z4,z5,fs,rfl,s2,F2,e2⟩ s3 f3
   rw[List.getElem?_map]at hv;obtain⟨u,hu,rfl⟩:=Option.map_eq_some_iff.mp hv;have iu:=(List.getElem?_eq_some_iff.mp hu).1;have S3:=s2.trans s3;have F3:=F2.mono s3;have sizes:∀{k:Nat},k≤421->k≤sizeLine:=fun h=>sz (by omega);have al:(alN (crs qs) x y i).length≤400:=Nat.le_trans (iL _ _ _ i) (Nat.mul_le_mul (show i≤20 by omega) (show i≤20 by omega));refine⟨pp,_,rfl,SqT.of f3,rfl,_,_,rfl,_,_,rfl,rfl,?_⟩;refine⟨_,rfl,.inl ⟨rfl,_,SqL.of F3.lst⟩,_,rfl,_,rfl,u.1,l,p1,p2,u.2,x,y,rfl,(L.cn hu).mono S3,S3 _ _ hl,hx.mono S3,hy.mono S3,fun rr s w H4 s4 f4 e4=>?_⟩;have F4:=F3.mono s4;refine⟨r,_,_,rfl,rfl,F4.lst,Nat.lt_of_lt_of_le (by rw[F4.len e2];omega) (sizes (Nat.le_refl 421)),fun H5 u5=>?_⟩;have F5:=F4.cat (gs:=[(rr,s,w)]) (fun q hq=>by rw[List.mem_singleton.mp hq];exact⟨f4.at_,f4.low,ap f4.ba (by decide),ap f4.bb (by decide)⟩) u5;have S5:Same H H5:=u5.same (S3.trans s4) n1;have L5:=L.mono S5;refine⟨_,rfl,_,rfl,_,rfl,lc,_,rfl,SqL.of L5.lst,fun ps H6 s6 f6 n6=>?_⟩;rw[sX (by rw[hll];omega),<- List.map_take]at f6;have ne:ps≠r:=(aE F5.lst n6).symm;refine⟨ps,rfl,⟨_,SqL.of f6⟩,cJ (K:=K) (a:=ps) (xs:=(qs.take i).map fun (q:Addr×Int×Int)=>V.ref q.1) (fun j σ H'=>∃(z5:Option V) (fs:Crn),σ = [some (.ref lc),some (.ref l),some (.ref r),some (.int (i:Int)),some (.ref u.1),z5]∧Same H H'∧H' ps=some (.lst ((qs.take i).map fun (q:Addr×Int×Int)=>V.ref q.1))∧Dk H' r fs∧fs.map (·.2)=alN (crs qs) x y i++(leV u.2 x y::evN (crs qs) u.2 x y j))
    ⟨_,_,rfl,S5.trans s6,f6,F5.mono s6,?_⟩ (fun j σ H' _ ⟨_,_,_,_,e,_⟩=>SqL.of e) ?_ ?_⟩
   ·rw[List.map_append,e2,<- e4]
    rfl
   ·rintro j v σ H7 hv ⟨z5,gs,rfl,s7,f7,F7,e7⟩
    rw[List.getElem?_map]at hv;obtain⟨m,hm,rfl⟩:=Option.map_eq_some_iff.mp hv;have jm:=(List.getElem?_eq_some_iff.mp hm).1;rw[List.length_take]at jm;rw[List.getElem?_take_of_lt (by omega)]at hm;refine⟨_,rfl,.inl ⟨rfl,_,SqL.of F7.lst⟩,_,rfl,_,rfl,_,rfl,u.1,m.1,l,p1,p2,u.2,m.2,x,y,rfl,(L.cn hu).mono s7,(L.cn hm).mono s7,s7 _ _ hl,hx.mono s7,hy.mono s7,fun r8 hs H8 s8 n8 G8 e8=>?_⟩;have F8:=F7.mono s8;have el:=F8.len e7;rw[List.length_append,List.length_cons]at el;have h1:=lg (crs qs) u.2 x y j;have h2:=pA u.2 m.2 x y;refine⟨r,r8,_,_,rfl,rfl,F8.lst,G8.lst,sizes (by rw[el,G8.len e8];omega),fun H9 u9=>?_⟩;refine⟨_,_,rfl,u9.same (s7.trans s8) n1,u9.at ne (s8 _ _ f7),F8.cat G8.fr u9,?_⟩;rw[List.map_append,e7,e8,mZ (dH hm),List.append_assoc];rfl
   ·rintro σ H7 ⟨z5,gs,rfl,s7,f7,F7,e7⟩
    refine⟨_,_,_,gs,rfl,s7,F7,?_⟩;rw[e7,tq (dH hu),List.length_map,List.length_take,Nat.min_eq_left (by omega)]
  ·rintro σ H2 ⟨z3,z4,z5,fs,rfl,s2,F2,e2⟩
   rw[hll]at e2;exact⟨_,rfl,k r fs H2 s2 n1 F2 e2⟩
theorem qH{K:W.Frag}{a b:Addr}{xs ys:List V}{fv:List (Str×Nat)}{te:TE}{σ:St}{H1:Hp}{Q:VK}{g:TG}{k:Nat}(q1:SqL K H1 a xs)(q2:SqL K H1 b ys)(hlen:min xs.length ys.length<1000)(R:Addr->Nat->V->Hp->Prop)(hR:∀l i v H H',(∀b o,b≠l->H b=some o->H' b=some o)->R l i v H->R l i v H')
  (hs:∀l i x y p H2 (τ:St) (Kc:VK),xs[i]? = some x->ys[i]? = some y->Same H1 H2->H1 l=none->H2 l≠none->H2 p=some (.tup [x,y])->τ.length=k->(∀y H4,Same H2 H4->R l i y H4->Kc y H4)->g (.ref p) (τ++fvs fv σ) H2 fun σ2 H4=>(∃τ':St,τ'.length=k∧σ2=τ'++fvs fv σ)∧te σ2 H4 Kc)
  (hd:∀l zs H',H1 l=none->Same H1 H'->H' l=some (.lst zs)->zs.length=min xs.length ys.length->(∀i y,zs[i]? = some y->R l i y H')->Q (.ref l) H') :
  iN (Itz K a b) k fv g wM te σ H1 Q:=by
 intro l hl;refine⟨fun i m acc H2=>m=min xs.length ys.length - i∧i≤min xs.length ys.length∧acc.length=i∧Same H1 H2∧H2 l=some (.lst acc)∧∀j y,acc[j]? = some y->R l j y H2,⟨_,rfl,Nat.zero_le _,rfl,Same.new hl,upd_same,fun j y h=>by simp at h⟩,?_⟩;rintro i m acc H2 ⟨rfl,hi,e1,sm,e3,hr⟩;refine⟨e3,bZ (by omega),?_⟩
 by_cases hlt:i<min xs.length ys.length
 ·have h1:i<xs.length:=by omega
  have h2:i<ys.length:=by omega
  refine .inr ⟨⟨xs,ys,xs[i],ys[i],sm.seq q1,sm.seq q2,by simp[h1],by simp[h2]⟩,fun x H3 y τ hτ=>?_⟩;obtain⟨p,u,v,rfl,np,rfl,e⟩:=y;obtain⟨x1,x2⟩:=e xs ys (sm.seq q1) (sm.seq q2);have s3:Same H2 (upd H2 p (.tup [u,v])):=Same.new np;refine hs l i u v p _ τ _ x1 x2 (sm.trans s3) hl (by rw[s3 _ _ e3];exact fun z=>nomatch z) upd_same hτ fun y H4 s4 ry=>⟨s4 _ _ (s3 _ _ e3),_,by omega,rfl,hlt,by simp[e1],(sm.trans (s3.trans s4)).upd hl,upd_same,fun j z hz=>?_⟩
  have t4:∀b o,b≠l->H4 b=some o->upd H4 l (.lst (acc++[y])) b=some o:=fun b o n q=>by rw[aN n];exact q
  rcases Nat.lt_trichotomy j acc.length with h|h|h
  ·rw[List.getElem?_append_left h]at hz
   exact hR _ _ _ _ _ (fun b o n q=>t4 b o n (s4 _ _ (s3 _ _ q))) (hr j z hz)
  ·subst h
   rw[List.getElem?_append_right (Nat.le_refl _),Nat.sub_self]at hz;cases hz;rw[e1];exact hR _ _ _ _ _ t4 ry
  ·rw[List.getElem?_eq_none (by simp;omega)]at hz
   cases hz
 ·have e:i=min xs.length ys.length:=by omega
  subst e;exact .inl ⟨⟨xs,ys,sm.seq q1,sm.seq q2,rfl⟩,hd l acc H2 hl sm e3 e1 hr⟩
theorem pU{P:Nat->Addr->Prop}:∀(zs:List V) (_:∀(i:Nat) y,zs[i]? = some y->∃p:Addr,y = .ref p∧P i p),∃ls:List Addr,zs=ls.map V.ref∧∀(i:Nat) a,ls[i]? = some a->P i a:=by
 intro zs
 induction zs generalizing P with
 | nil=>exact fun _=>⟨[],rfl,fun i a h=>by simp at h⟩
 | cons z zs ih =>
  intro h;obtain⟨ls,e1,e2⟩:=ih (P:=fun i=>P (i+1)) fun i y hy=>h (i+1) y (by simpa using hy);obtain⟨p,rfl,hp⟩:=h 0 z rfl;refine⟨p::ls,by rw[e1];rfl,fun i a ha=>?_⟩;cases i with
  | zero =>
   simp at ha;rw[<- ha];exact hp
  | succ i=>exact e2 i a (by simpa using ha)
structure StL(H0 H:Hp)(r:Addr)(ls:List Addr)(qs:Crn):Prop where
 lst:H r=some (.lst (ls.map V.ref))
 len:ls.length=qs.length - 1
 at_:∀(i:Nat) a,ls[i]? = some a->H0 a=none∧∃u v,qs[i]? = some u∧qs[i+1]? = some v∧H a=some (.lst [.ref u.1,.ref v.1])
inductive D1 (vs:List V) (H:Hp) (Q:VK) (x_3:XK):Prop
 | mk:∀(l:Addr) (qs:Crn),(vs = [.ref l])->(LineAt H l qs)->((1≤qs.length∧qs.length≤20))->(∀(r:Addr) (ls:List Addr) H',Same H H'->H r=none->StL H H' r ls qs->Q (.ref r) H')->D1 vs H Q x_3
theorem Cf:yc ["line"] ["line"] (af (top 118)):=smk
theorem ie(zF:Df K mg "stretches_of" (top 118))(T:Txt mg):Fn P w K mg base "stretches_of" ["line"] 2 D1:=by
 refine zF.fn Cf (fun _ _ _ _ _ _ us hl=>by obtain⟨_,rfl⟩:=dQ hl;rfl) (fun vs H Q E h=>?_) (fun f cdv A outer s H vs Q E hr h=>?_)
 ·obtain⟨l,qs,rfl,_⟩:=h
  rfl
 ·obtain⟨l,qs,rfl,L,⟨h1,h20⟩,k⟩:=h
  have CN:B2 (aZ CX0 P w K mg base ["line"] "stretches_of" (af (top 118)) f cdv A outer s H E).nox (Sp7.retScope ((aH (top 118)).getD 0 (.Pass ⟨0,0,0,0⟩))) [] ["begin","end"] [] :=
   ⟨by rfl,rfl,by decide +kernel,by decide +kernel,(fun x hx=>by simp only[List.mem_cons,List.not_mem_nil,or_false]at hx;rcases hx with rfl|rfl <;> rfl),(fun p hp=>nomatch hp),by rfl,by decide +kernel,(fun p hp=>nomatch hp),⟨rfl,rfl⟩,rfl⟩
  refine⟨_,(ag (ak (lX rfl CN (vW rfl T.z_zip (aa (pv 0) (aa (iZ iS (pv 0) (iA ac) kF) ad))) (fun fp s₀ H₀=>(tU (K:=K) (n:=2) rfl rfl (bh (aP (i:=0) CN.nd rfl (Or.inl rfl) (Or.inr rfl)) (bh (aP (i:=1) CN.nd rfl (Or.inl rfl) (Or.inr rfl)) dr)))) (fun fp s₀ H₀=>tR) (fun fp s₀ H₀=>(bE (aa (pv 0) (aa (pv 1) ad))))))),?_⟩;have hll:(qs.map fun (q:Addr×Int×Int)=>V.ref q.1).length=qs.length:=List.length_map _;refine⟨_,rfl,_,rfl,_,rfl,l,_,rfl,SqL.of L.lst,fun l2 H1 s1 f1 n1=>?_⟩;rw[qG _ (by rw[hll];exact h1)]at f1;have L1:=L.mono s1;have lmin:min (qs.map fun (q:Addr×Int×Int)=>V.ref q.1).length ((qs.map fun (q:Addr×Int×Int)=>V.ref q.1).drop 1).length=qs.length - 1:=by rw[List.length_drop,hll];omega
  refine⟨l,l2,rfl,⟨_,SqL.of L1.lst⟩,⟨_,SqL.of f1⟩,qH (K:=K) (k:=2) (SqL.of L1.lst) (SqL.of f1) (by rw[lmin];omega) (fun r i v H'=>∃(p:Addr) (u w:Addr×Int×Int),v = .ref p∧p≠r∧H p=none∧qs[i]? = some u∧qs[i+1]? = some w∧H' p=some (.lst [.ref u.1,.ref w.1]))
   (fun r i v H H' kp ⟨p,u,w,e1,e2,e3,e4,e5,e6⟩=>⟨p,u,w,e1,e2,e3,e4,e5,kp p _ e2 e6⟩) ?_ ?_⟩
  ·intro r i x y p H2 τ Kc hx hy s2 nr hr ep hτ kk
   obtain⟨τ0,τ1,rfl⟩:∃τ0 τ1,τ = [τ0,τ1]:=by
    match τ,hτ with
    | [a,b],_=>exact⟨a,b,rfl⟩
   rw[List.getElem?_map]at hx;obtain⟨u,hu,rfl⟩:=Option.map_eq_some_iff.mp hx;rw[List.getElem?_drop,List.getElem?_map]at hy;obtain⟨v,hv,rfl⟩:=Option.map_eq_some_iff.mp hy;rw[Nat.add_comm]at hv;refine⟨p,_,rfl,SqT.of ep,rfl,_,_,rfl,_,_,rfl,rfl,⟨[some (.ref u.1),some (.ref v.1)],rfl,rfl⟩,?_⟩;refine⟨_,rfl,_,rfl,sz (by simp),fun q H4 s4 f4 n4=>kk _ H4 s4 ⟨q,u,v,rfl,fun z=>hr (by rw[<- z];exact n4),(s1.trans s2).free n4,hu,hv,f4⟩⟩
  ·intro r zs H2 nr s2 f2 hl hr
   obtain⟨ls,rfl,h2⟩:=pU (P:=fun i p=>p≠r∧H p=none∧∃u w:Addr×Int×Int,qs[i]? = some u∧qs[i+1]? = some w∧H2 p=some (.lst [.ref u.1,.ref w.1])) zs fun i y hy=>by
    obtain⟨p,u,w,e1,e2,e3,e4,e5,e6⟩:=hr i y hy;exact⟨p,e1,e2,e3,u,w,e4,e5,e6⟩
   rw[List.length_map,lmin]at hl;exact k r ls H2 (s1.trans s2) (s1.free nr) ⟨f2,hl,fun i a ha=>(h2 i a ha).2⟩
def sM(s:Stmt):Scope:=match s with
 | .Expr e _=>lQ e
 | _=>{ kind:=.function,names:=[],isGenerator:=false,isCoroutine:=false }
def prN(cs ds:List (Int×Int))(i:Nat):List (Int×Int):=(cs.take i).flatMap fun c=>ds.map fun d=>(sqI c d,1)
theorem lV{cs ds:List (Int×Int)}{c:Int×Int}{i:Nat}(h:cs[i]? = some c):prN cs ds (i+1)=prN cs ds i++ds.map fun d=>(sqI c d,1):=by
 unfold prN;rw[List.take_succ,h,List.flatMap_append];simp
theorem oX(cs ds:List (Int×Int)):∀i,(prN cs ds i).length≤i*ds.length
 | 0=>by simp[prN]
 | i+1=>by
  have ih:=oX cs ds i;rw[Nat.succ_mul];cases h:cs[i]? with
  | none =>
   have e:prN cs ds (i+1)=prN cs ds i:=by
    unfold prN;rw[List.take_succ,h];simp
   rw[e];omega
  | some c =>
   rw[lV h,List.length_append,List.length_map];omega
def stN(ds cs:List (Int×Int))(k:Nat):List (Int×Int):=(List.range k).flatMap fun i=>alN cs (ds.getD i (0,0)) (ds.getD (i+1) (0,0)) cs.length
theorem lL{ds cs:List (Int×Int)}{x y:Int×Int}{k:Nat}(h:ds[k]? = some x)(h':ds[k+1]? = some y):stN ds cs (k+1)=stN ds cs k++alN cs x y cs.length:=by
 have e:ds.getD k (0,0)=x:=by rw[List.getD_eq_getElem?_getD,h];rfl
 have e':ds.getD (k+1) (0,0)=y:=by rw[List.getD_eq_getElem?_getD,h'];rfl
 unfold stN;rw[List.range_succ,List.flatMap_append,List.flatMap_singleton,e,e']
theorem oQ(ds cs:List (Int×Int)):∀k,(stN ds cs k).length≤k*(cs.length*cs.length)
 | 0=>by simp[stN]
 | k+1=>by
  have ih:=oQ ds cs k;rw[Nat.succ_mul];unfold stN at ih ⊢;rw[List.range_succ,List.flatMap_append,List.flatMap_singleton,List.length_append];have:=iL cs (ds.getD k (0,0)) (ds.getD (k+1) (0,0)) cs.length;omega
def cdV(cs ds:List (Int×Int)):List (Int×Int):=prN cs ds cs.length++stN ds cs (ds.length - 1)++stN cs ds (cs.length - 1)
theorem du(qs:Crn):(crs qs).length=qs.length:=List.length_map _
inductive Dv (t:Addr) (vs:List V) (H:Hp) (Q:VK) (x_3:XK):Prop
 | mk:∀(l1 l2:Addr) (qs rs:Crn),(vs = [.ref l1,.ref l2])->(Tab H t lsP)->((LineAt H l1 qs∧1≤qs.length∧qs.length≤6))->((LineAt H l2 rs∧1≤rs.length∧rs.length≤6))->(∀(r:Addr) (fs:Crn) H',bY t H H'->Tab H' t lsP->H r=none->EE H' r fs->fs.length≤800->(∀v:Int×Int,v∈fs.map (·.2)↔v∈cdV (crs qs) (crs rs))->Q (.ref r) H')->Dv t vs H Q x_3
structure Gr(H0 H:Hp)(r:Addr)(vs:List (Int×Int)):Prop where
 but:But r H0 H
 ex:∃fs,Dk H r fs∧fs.map (·.2)=vs
theorem Gr.step{H0 H H1 H2:Hp}{r r2:Addr}{vs ws:List (Int×Int)}{gs:Crn}{fs:Crn}(b:But r H0 H)(F:Dk H r fs)(e:fs.map (·.2)=vs)(s:Same H H1)(G:Dk H1 r2 gs)(e2:gs.map (·.2)=ws)(u:Ce H1 H2 r (fs.map fun (q:Addr×Int×Int)=>V.ref q.1) ((fs.map fun (q:Addr×Int×Int)=>V.ref q.1)++gs.map fun (q:Addr×Int×Int)=>V.ref q.1)):Gr H0 H2 r (vs++ws) :=
 ⟨fun c o n z=>u.at n (s _ _ (b c o n z)),fs++gs,(F.mono s).cat G.fr u,by rw[List.map_append,e,e2]⟩
theorem yH:yc ["one","other","squares","corner","stretch","rising","square"] ["one","other"] (af (top 119)):=smk
theorem jP{t_put_in:Addr}(AF:Df K mg "candidates" (top 119))(yv:Fn P w K mg base "square_apart" ["corner","beside"] 7 DQ)(yV:Fn P w K mg base "stretches_of" ["line"] 2 D1)(yN:Fn P w K mg base "squares_beside" ["corners","stretch"] 9 Eg)(Cr:Fn P w K mg base "put_in" ["rising","square"] 11 (D5 t_put_in))(T:Txt mg):Fn P w K mg base "candidates" ["one","other"] 12 (Dv t_put_in):=by
 refine AF.fn yH (fun _ _ _ _ _ _ us hl=>by obtain⟨_,_,rfl⟩:=cI hl;rfl) (fun vs H Q E h=>?_) (fun f cdv A outer s H vs Q E hr h=>?_)
 ·obtain⟨l1,l2,qs,rs,rfl,_⟩:=h
  rfl
 ·obtain⟨l1,l2,qs,rs,rfl,tb,⟨L1,a1,a6⟩,⟨L2,b1,b6⟩,k⟩:=h
  have CN:BC (aZ CX0 P w K mg base ["one","other","squares","corner","stretch","rising","square"] "candidates" (af (top 119)) f cdv A outer s H E).nox (sM ((uD ((aH (top 119)).getD 1 (.Pass ⟨0,0,0,0⟩))).getD 0 (.Pass ⟨0,0,0,0⟩))) [("corner",s.heap.objs.size+1)] "beside" [("corner",3)] :=
   ⟨by rfl,rfl,by decide +kernel,by decide +kernel,rfl,(fun p hp=>by simp only[List.mem_cons,List.not_mem_nil,or_false]at hp;subst hp;rfl),by rfl,by decide +kernel,(fun p hp=>by simp only[List.mem_cons,List.not_mem_nil,or_false]at hp;subst hp;exact⟨rfl,rfl,.inr (.inl rfl),rfl,rfl⟩),⟨rfl,rfl⟩,rfl⟩
  refine⟨_,(ae (aw (i:=2) yH.nd rfl (Or.inl rfl) (bE ad)) (ae (cB PassesOwn.never rfl (cF (pv 0)) (aP (i:=3) yH.nd rfl (Or.inr rfl)) (ag (bI (eh PySem.F.plainAttrs_list PySem.F.slot_list_extend PySem.F.type_list_extend d7 (pv 2) (aa (gi rfl CN (cF (pv 1)) (fun fp s₀ H₀=>(az yv (hr.mono (by decide)) (by rfl) (aa (pv 1) (aa (pv 0) ad))))) ad))))) (ae (cB PassesOwn.never rfl (cF (az yV (hr.mono (by decide)) (by rfl) (aa (pv 1) ad))) (aP (i:=4) yH.nd rfl (Or.inl rfl)) (ag (bI (eh PySem.F.plainAttrs_list PySem.F.slot_list_extend PySem.F.type_list_extend d7 (pv 2) (aa (az yN (hr.mono (by decide)) (by rfl) (aa (pv 0) (aa (pv 4) ad))) ad))))) (ae (cB PassesOwn.never rfl (cF (az yV (hr.mono (by decide)) (by rfl) (aa (pv 0) ad))) (aP (i:=4) yH.nd rfl (Or.inl rfl)) (ag (bI (eh PySem.F.plainAttrs_list PySem.F.slot_list_extend PySem.F.type_list_extend d7 (pv 2) (aa (az yN (hr.mono (by decide)) (by rfl) (aa (pv 1) (aa (pv 4) ad))) ad))))) (ae (aw (i:=5) yH.nd rfl (Or.inl rfl) (bE ad)) (ae (cB PassesOwn.never rfl (cF (pv 2)) (aP (i:=6) yH.nd rfl (Or.inl rfl)) (ag (bI (az Cr (hr.mono (by decide)) (by rfl) (aa (pv 5) (aa (pv 6) ad)))))) (ag (ak (pv 5))))))))),?_⟩;have hl1:(qs.map fun (q:Addr×Int×Int)=>V.ref q.1).length=qs.length:=List.length_map _;have hl2:(rs.map fun (q:Addr×Int×Int)=>V.ref q.1).length=rs.length:=List.length_map _;have c6:(crs qs).length≤6:=by rw[du];exact a6
  have d6:(crs rs).length≤6:=by rw[du];exact b6
  have pl:∀i,i≤6->(prN (crs qs) (crs rs) i).length≤36:=fun i hi=>Nat.le_trans (oX _ _ i) (Nat.mul_le_mul hi d6);have sl:∀(cs ds:List (Int×Int)) (i:Nat),i≤6->ds.length≤6->(stN cs ds i).length≤216:=fun cs ds i hi hd=>Nat.le_trans (oQ cs ds i) (Nat.mul_le_mul hi (Nat.mul_le_mul hd hd));have al:∀(cs:List (Int×Int)) x y,cs.length≤6->(alN cs x y cs.length).length≤36:=fun cs x y hd=>Nat.le_trans (iL cs x y _) (Nat.mul_le_mul hd hd);refine⟨sz (by simp),fun r H1 s1 f1 n1=>?_⟩;refine⟨_,rfl,l1,rfl,⟨_,SqL.of (s1 _ _ L1.lst)⟩,cJ (K:=K) (a:=l1) (xs:=qs.map fun (q:Addr×Int×Int)=>V.ref q.1) (fun i σ H'=>∃(z3 z4 z5 z6:Option V),σ = [some (.ref l1),some (.ref l2),some (.ref r),z3,z4,z5,z6]∧Gr H H' r (prN (crs qs) (crs rs) i))
   ⟨_,_,_,_,rfl,.of s1,[],⟨f1,fun q h=>nomatch h⟩,rfl⟩ (fun i σ H' _ ⟨_,_,_,_,_,G⟩=>SqL.of (G.but.same (Same.refl _) n1 _ _ L1.lst)) ?_ ?_⟩
  ·rintro i v σ H2 hv ⟨z3,z4,z5,z6,rfl,bt,fs,F2,e2⟩
   rw[List.getElem?_map]at hv;obtain⟨u,hu,rfl⟩:=Option.map_eq_some_iff.mp hv;have iu:=(List.getElem?_eq_some_iff.mp hu).1;have S2:=bt.same (Same.refl _) n1;have L2':=L2.mono S2;refine⟨_,rfl,.inl ⟨rfl,_,SqL.of F2.lst⟩,_,rfl,l2,rfl,⟨_,SqL.of L2'.lst⟩,oD (K:=K) (SqL.of L2'.lst) (by rw[hl2];omega) (fun j v H'=>∃q:Addr×Int×Int,v = .ref q.1∧((crs rs).map fun d=>(sqI u.2 d,(1:Int)))[j]? = some q.2∧Frq H' q) (fun j v H H' st ⟨q,x1,x2,x3,x4⟩=>⟨q,x1,x2,st _ _ x3,x4⟩) ?_ ?_⟩
   ·intro j x H3 Kc hx s3 kk
    rw[List.getElem?_map]at hx;obtain⟨v,hv,rfl⟩:=Option.map_eq_some_iff.mp hx;have cu:=(L1.cn hu).mono (S2.trans s3);have cv:=(L2.cn hv).mono (S2.trans s3);refine⟨_,rfl,_,rfl,u.1,v.1,u.2,v.2,rfl,cu,cv,fun rr H4 s4 e4=>kk _ H4 s4 ⟨(rr,sqI u.2 v.2,1),rfl,?_,e4,⟨(by decide:(0:Int)<1),by rw[Int.gcd_one]⟩,ap (cx cu.2 cv.2) (by decide),(by decide:ao 1≤2000)⟩⟩;rw[List.getElem?_map,dH hv];rfl
   ·intro l3 ys H3 n3 s3 f3 h3 hr
    obtain⟨gs,rfl,g2,g3⟩:=mB ys ((crs rs).map fun d=>(sqI u.2 d,(1:Int))) (by rw[h3,hl2,List.length_map,du]) hr;have G3:Dk H3 l3 gs:=⟨f3,g2⟩;have q1:=F2.len e2;have q2:=G3.len g3;rw[List.length_map]at q2;have q3:=pl i (by omega);refine⟨r,l3,_,_,rfl,rfl,s3 _ _ F2.lst,f3,sz (by omega),fun H4 u4=>⟨_,_,_,_,rfl,?_⟩⟩;rw[lV (dH hu)];exact Gr.step bt F2 e2 s3 G3 g3 u4
  ·rintro σ H2 ⟨z3,z4,z5,z6,rfl,bt,fs,F2,e2⟩
   rw[hl1]at e2;have S2:=bt.same (Same.refl _) n1;have al':=al;refine⟨_,rfl,l2,rs,rfl,L2.mono S2,⟨b1,by omega⟩,fun r2 ls H3 s3 n3 T3=>?_⟩;have hls:(ls.map V.ref).length=rs.length - 1:=by rw[List.length_map,T3.len]
   have ner2:r2≠r:=(aE F2.lst n3).symm;refine⟨r2,rfl,⟨_,SqL.of T3.lst⟩,cJ (K:=K) (a:=r2) (xs:=ls.map V.ref) (fun i σ H'=>∃(z3 z4 z5 z6:Option V),σ = [some (.ref l1),some (.ref l2),some (.ref r),z3,z4,z5,z6]∧Gr H3 H' r (prN (crs qs) (crs rs) qs.length++stN (crs rs) (crs qs) i))
    ⟨_,_,_,_,rfl,.refl,fs,F2.mono s3,by rw[e2];simp[stN]⟩ (fun i σ H' _ ⟨_,_,_,_,_,G⟩=>SqL.of (G.but _ _ ner2 T3.lst)) ?_ ?_⟩
   ·rintro i v σ H4 hv ⟨z3,z4,z5,z6,rfl,bt4,gs,F4,e4⟩
    rw[List.getElem?_map]at hv;obtain⟨a,ha,rfl⟩:=Option.map_eq_some_iff.mp hv;have ia:=(List.getElem?_eq_some_iff.mp ha).1;rw[T3.len]at ia;obtain⟨na,u,v,hu,hv,ea⟩:=T3.at_ i a ha;have nea:a≠r:=(aE F2.lst na).symm;have S4:Same H H4:=bt4.same (S2.trans s3) n1;have q1:=F4.len e4;rw[List.length_append]at q1;have q3:=pl qs.length a6;have q4:=sl (crs rs) (crs qs) i (by omega) c6;refine⟨_,rfl,.inl ⟨rfl,_,SqL.of F4.lst⟩,_,rfl,_,rfl,l1,a,u.1,v.1,qs,u.2,v.2,rfl,L1.mono S4,by omega,bt4 _ _ nea ea,(L2.cn hu).mono S4,(L2.cn hv).mono S4,fun r5 hs H5 s5 n5 G5 e5=>?_⟩;have q2:=G5.len e5;have q5:=al (crs qs) u.2 v.2 c6;rw[du]at q5;refine⟨r,r5,_,_,rfl,rfl,s5 _ _ F4.lst,G5.lst,sz (by omega),fun H6 u6=>⟨_,_,_,_,rfl,?_⟩⟩;rw[lL (dH hu) (dH hv),<- List.append_assoc,du];exact Gr.step bt4 F4 e4 s5 G5 e5 u6
   rintro σ H4 ⟨z3,z4,z5,z6,rfl,bt4,gs,F4,e4⟩;rw[hls]at e4;have S4:Same H H4:=bt4.same (S2.trans s3) n1;refine⟨_,rfl,l1,qs,rfl,L1.mono S4,⟨a1,by omega⟩,fun r5 ls2 H5 s5 n5 T5=>?_⟩;have hls2:(ls2.map V.ref).length=qs.length - 1:=by rw[List.length_map,T5.len]
   have ner5:r5≠r:=(aE F4.lst n5).symm;refine⟨r5,rfl,⟨_,SqL.of T5.lst⟩,cJ (K:=K) (a:=r5) (xs:=ls2.map V.ref) (fun i σ H'=>∃(z3 z4 z5 z6:Option V),σ = [some (.ref l1),some (.ref l2),some (.ref r),z3,z4,z5,z6]∧Gr H5 H' r (prN (crs qs) (crs rs) qs.length++stN (crs rs) (crs qs) (rs.length - 1)++stN (crs qs) (crs rs) i))
    ⟨_,_,_,_,rfl,.refl,gs,F4.mono s5,by rw[e4];simp[stN]⟩ (fun i σ H' _ ⟨_,_,_,_,_,G⟩=>SqL.of (G.but _ _ ner5 T5.lst)) ?_ ?_⟩
   ·rintro i v σ H6 hv ⟨z3,z4,z5,z6,rfl,bt6,hs,F6,e6⟩
    rw[List.getElem?_map]at hv;obtain⟨a,ha,rfl⟩:=Option.map_eq_some_iff.mp hv;have ia:=(List.getElem?_eq_some_iff.mp ha).1;rw[T5.len]at ia;obtain⟨na,u,v,hu,hv,ea⟩:=T5.at_ i a ha;have nea:a≠r:=(aE F4.lst na).symm;have S6:Same H H6:=bt6.same (S4.trans s5) n1;have q1:=F6.len e6;rw[List.length_append,List.length_append]at q1;have q3:=pl qs.length a6;have q4:=sl (crs rs) (crs qs) (rs.length - 1) (by omega) c6;have q6:=sl (crs qs) (crs rs) i (by omega) d6;refine⟨_,rfl,.inl ⟨rfl,_,SqL.of F6.lst⟩,_,rfl,_,rfl,l2,a,u.1,v.1,rs,u.2,v.2,rfl,L2.mono S6,by omega,bt6 _ _ nea ea,(L1.cn hu).mono S6,(L1.cn hv).mono S6,fun r7 hs7 H7 s7 n7 G7 e7=>?_⟩;have q2:=G7.len e7;have q5:=al (crs rs) u.2 v.2 d6;rw[du]at q5;refine⟨r,r7,_,_,rfl,rfl,s7 _ _ F6.lst,G7.lst,sz (by omega),fun H8 u8=>⟨_,_,_,_,rfl,?_⟩⟩;rw[lL (dH hu) (dH hv),<- List.append_assoc,du];exact Gr.step bt6 F6 e6 s7 G7 e7 u8
   rintro σ H6 ⟨z3,z4,z5,z6,rfl,bt6,hs,F6,e6⟩;rw[hls2]at e6;have S6:Same H H6:=bt6.same (S4.trans s5) n1;have q1:=F6.len e6;rw[List.length_append,List.length_append]at q1;have q3:=pl qs.length a6;have q4:=sl (crs rs) (crs qs) (rs.length - 1) (by omega) c6;have q6:=sl (crs qs) (crs rs) (qs.length - 1) (by omega) d6;rw[List.length_map]at q1;refine⟨sz (by simp),fun g H7 s7 f7 n7=>?_⟩;refine⟨_,rfl,r,rfl,⟨_,SqL.of (s7 _ _ F6.lst)⟩,cJ (K:=K) (a:=r) (xs:=hs.map fun (q:Addr×Int×Int)=>V.ref q.1) (fun i σ H'=>∃(z3 z4 z6:Option V) (fs:Crn),σ = [some (.ref l1),some (.ref l2),some (.ref r),z3,z4,some (.ref g),z6]∧bY t_put_in H6 H'∧Tab H' t_put_in lsP∧EE H' g fs∧fs.length≤i∧∀v:Int×Int,v∈fs.map (·.2)↔v∈(hs.take i).map (·.2))
    ⟨_,_,_,[],rfl,s7.p,tb.same (S6.trans s7),⟨f7,(fun q h=>nomatch h),.nil⟩,Nat.le_refl _,fun v=>by simp⟩ (fun i σ H' _ ⟨_,_,_,_,_,S,_⟩=>SqL.of (S.keep (tb.same S6) F6.lst (fun ps q=>by cases q))) ?_ ?_⟩
   ·rintro i v σ H8 hv ⟨z3,z4,z6,fs,rfl,s8,tb8,R8,l8,m8⟩
    rw[List.getElem?_map]at hv;obtain⟨q,hq,rfl⟩:=Option.map_eq_some_iff.mp hv;have iq:=(List.getElem?_eq_some_iff.mp hq).1;have fq:=F6.fr q (List.mem_of_getElem? hq);refine⟨_,rfl,_,rfl,g,q.1,fs,q.2.1,q.2.2,rfl,tb8,R8,by omega,s8.keep (tb.same S6) fq.1 (fun ps q=>by cases q),fq.2.1,fq.2.2,fun fs' H9 tb9 R9 mv m9 l9=>⟨_,_,_,fs',rfl,fun b o nt e=>mv b o (aE e n7) nt (s8 b o nt e),tb9,R9,by omega,fun v=>?_⟩⟩;rw[m9,m8,List.take_succ,hq,List.map_append,List.mem_append];simp
   ·rintro σ H8 ⟨z3,z4,z6,fs,rfl,s8,tb8,R8,l8,m8⟩
    rw[List.length_map]at l8 m8;refine⟨_,rfl,k g fs H8 (S6.p.trans s8) tb8 (S6.free n7) R8 (by omega) fun v=>?_⟩;rw[m8,List.take_length,e6];unfold cdV;rw[du,du]
theorem vI{H:Hp}{z:Addr}{a b:Int}(s:Sq H z a b)(lw:AI a b)(ha:0≤a):sqV H (.ref z)=true:=by
 rw[oS s.at_,mi lw,Bool.true_and,Bool.not_eq_true',decide_eq_false_iff_not];omega
theorem wL{H:Hp}{z:Addr}{a b:Int}(s:Sq H z a b):yT H (.ref z):=by
 refine⟨⟨_,.tup s.at_⟩,fun q xs e1 e2 y hy=>?_⟩;cases e1;rw[s.at_]at e2;cases e2;simp only[List.mem_cons,List.not_mem_nil,or_false]at hy;rcases hy with rfl|rfl <;> exact⟨_,.int _⟩
inductive Bu (vs:List V) (x_1:Hp) (x_2:VK) (x_3:XK):Prop
 | mk:∀x y z:V,(vs = [x,y,z])->(False)->Bu vs x_1 x_2 x_3
inductive BZ (vs:List V) (x_1:Hp) (x_2:VK) (x_3:XK):Prop
 | mk:∀x y z t:V,(vs = [x,y,z,t])->(False)->BZ vs x_1 x_2 x_3
inductive Eb (tw tf:Addr) (vs:List V) (H:Hp) (Q:VK) (x_3:XK):Prop
 | mk:∀(l1 l2 p:Addr) (qs1 qs2:Crn) (a b:Int),(vs = [.ref l1,.ref l2,.ref p,.str "hops"])->(yi H l1 qs1)->(yi H l2 qs2)->((1≤qs1.length∧qs1.length≤20))->((1≤qs2.length∧qs2.length≤20))->((Sq H p a b∧AI a b∧0≤a))->(BI H tw tf)->(∀(t r:Addr) (H':Hp) (ps:List Pr),H r=none->H t=none->t≠r->SmW tw tf H H'->BI H' tw tf->yh H' r ps ->
  ((H' t=some (.tup [.str "walk",.ref r])∧ip (aK qs1) (aK qs2) (cW qs1 qs2 a b 0) ps)∨(H' t=some (.tup [.str "fence",.ref r])∧jD (aK qs1) (aK qs2) (cW qs1 qs2 a b 0) ps))->Q (.ref t) H')->Eb tw tf vs H Q x_3
inductive Ec (tf:Addr) (vs:List V) (H:Hp) (Q:VK) (x_3:XK):Prop
 | mk:∀(l1 l2 p:Addr) (qs1 qs2:Crn) (a b:Int),(vs = [.ref l1,.ref l2,.ref p])->(yi H l1 qs1)->(yi H l2 qs2)->((1≤qs1.length∧qs1.length≤20))->((1≤qs2.length∧qs2.length≤20))->(Sq H p a b)->(Tab H tf lsF)->(fN (aK qs1) (aK qs2) (cW qs1 qs2 a b 1))->(∀(r:Addr) (H':Hp) (ps:List Pr),H r=none->bY tf H H'->Tab H' tf lsF->yh H' r ps->jD (aK qs1) (aK qs2) (cW qs1 qs2 a b 1) ps->Q (.ref r) H')->Ec tf vs H Q x_3
inductive Ed (tf:Addr) (vs:List V) (H:Hp) (Q:VK) (x_3:XK):Prop
 | mk:∀(l1 l2 p:Addr) (qs1 qs2:Crn) (a b:Int),(vs = [.ref l1,.ref l2,.ref p,.str "hops"])->(yi H l1 qs1)->(yi H l2 qs2)->((1≤qs1.length∧qs1.length≤20))->((1≤qs2.length∧qs2.length≤20))->(Sq H p a b)->(Tab H tf lsF)->(fN (aK qs1) (aK qs2) (cW qs1 qs2 a b 1))->(∀(r:Addr) (H':Hp) (ps:List Pr),H r=none->bY tf H H'->Tab H' tf lsF->yh H' r ps->jD (aK qs1) (aK qs2) (cW qs1 qs2 a b 1) ps->Q (.ref r) H')->Ed tf vs H Q x_3
theorem DV:yc ["one","other","square"] ["one","other","square"] (af (top 86)):=smk
theorem ox(BW:Df K mg "go_part" (top 86)):Fn P w K mg base "go_part" ["one","other","square"] 1 Bu:=by
 refine BW.fn DV (fun _ _ _ _ _ _ us hl=>by obtain⟨_,_,_,rfl⟩:=dP hl;rfl) (fun vs H Q E h=>?_) (fun f cdv A outer s H vs Q E hr h=>?_)
 ·obtain⟨x,y,z,rfl,_⟩:=h
  rfl
 ·obtain⟨x,y,z,rfl,fal⟩:=h
  exact fal.elim
theorem DW:yc ["one","other","square","field","walk"] ["one","other","square"] (af (top 64)):=smk
theorem oz(BY:Df K mg "go_free" (top 64)):Fn P w K mg base "go_free" ["one","other","square"] 1 Bu:=by
 refine BY.fn DW (fun _ _ _ _ _ _ us hl=>by obtain⟨_,_,_,rfl⟩:=dP hl;rfl) (fun vs H Q E h=>?_) (fun f cdv A outer s H vs Q E hr h=>?_)
 ·obtain⟨x,y,z,rfl,_⟩:=h
  rfl
 ·obtain⟨x,y,z,rfl,fal⟩:=h
  exact fal.elim
theorem Ex:yc ["one","other","square"] ["one","other","square"] (af (top 85)):=smk
theorem sJ(C8:Df K mg "go_on" (top 85)):Fn P w K mg base "go_on" ["one","other","square"] 1 Bu:=by
 refine C8.fn Ex (fun _ _ _ _ _ _ us hl=>by obtain⟨_,_,_,rfl⟩:=dP hl;rfl) (fun vs H Q E h=>?_) (fun f cdv A outer s H vs Q E hr h=>?_)
 ·obtain⟨x,y,z,rfl,_⟩:=h
  rfl
 ·obtain⟨x,y,z,rfl,fal⟩:=h
  exact fal.elim
theorem Ck:yc ["one","other","square"] ["one","other","square"] (af (top 65)):=smk
theorem il(zK:Df K mg "fence_freely" (top 65)):Fn P w K mg base "fence_freely" ["one","other","square"] 1 Bu:=by
 refine zK.fn Ck (fun _ _ _ _ _ _ us hl=>by obtain⟨_,_,_,rfl⟩:=dP hl;rfl) (fun vs H Q E h=>?_) (fun f cdv A outer s H vs Q E hr h=>?_)
 ·obtain⟨x,y,z,rfl,_⟩:=h
  rfl
 ·obtain⟨x,y,z,rfl,fal⟩:=h
  exact fal.elim
theorem DD:yc ["one","other","square","way"] ["one","other","square","way"] (af (top 87)):=smk
theorem mS(Bq:Df K mg "fence_by" (top 87)):Fn P w K mg base "fence_by" ["one","other","square","way"] 1 BZ:=by
 refine Bq.fn DD (fun _ _ _ _ _ _ us hl=>by obtain⟨_,_,_,_,rfl⟩:=kO hl;rfl) (fun vs H Q E h=>?_) (fun f cdv A outer s H vs Q E hr h=>?_)
 ·obtain⟨x,y,z,t,rfl,_⟩:=h
  rfl
 ·obtain⟨x,y,z,t,rfl,fal⟩:=h
  exact fal.elim
theorem Cv:yc ["way"] ["way"] (af (top 101)):=smk
theorem jg{C pW:Addr}(z9:Df K mg "look_at_way" (top 101))(C0:Cs K mg "NoWay" C)(EZ:mg "WAYS" = some (.ref pW))(hW:∀H,SqT K H pW [.str wOn,.str lB,.str lD,.str lC])(T:Txt mg):Fx P w K mg base "look_at_way" ["way"] 1 [] (CG C):=by
 refine z9.fx Cv (fun _ _ _ _ _ _ us hl=>by obtain⟨_,rfl⟩:=dQ hl;rfl) (fun vs H Q E h=>?_) (fun f cdv A outer s H vs Q E hr h=>?_)
 ·obtain⟨x,t,rfl,_⟩:=h
  rfl
 ·obtain⟨x,t,rfl,kn,h⟩:=h
  refine⟨_,(ag (aM (bK (bF (aV (aJ bJ (by rfl) T.z_isinstance be (aa (pv 0) (aa (fM T.z_str wC) ad))))) (bz (aq kK (pv 0) (tV (v:=.ref _) (by rfl) EZ rfl) (by rfl)))).pt (ag (gh C0 (by rfl))) aA)),?_⟩;refine⟨_,rfl,x,t,"str",rfl,kn,nice_str,_,rfl,?_⟩;rcases h with⟨w,rfl,hw,q⟩|⟨hn,hE⟩
  ·cases kn
   refine aB (by decide) ?_;refine⟨_,rfl,pW,_,rfl,.inr (hW _),rfl,rfl,_,rfl,aB ?_ q⟩;rcases hw with rfl|rfl|rfl|rfl <;> decide
  ·cases hs:gv t "str" with
   | false=>exact eV hE
   | true =>
    obtain⟨w,rfl⟩:∃w,x = .str w:=by
     cases kn with
     | str w=>exact⟨w,rfl⟩
     | non=>exact absurd hs (by decide)
     | bl b=>exact absurd hs (by decide)
     | int i=>exact absurd hs (by decide)
     | lst e=>exact absurd hs (by decide)
     | tup e=>exact absurd hs (by decide)
     | dict e=>exact absurd hs (by decide)
    refine eW ?_;refine⟨_,rfl,pW,_,rfl,.inr (hW _),rfl,rfl,_,rfl,um ?_ hE⟩;have hn':=hn w rfl;have e:inV (.str w) [.str wOn,.str lB,.str lD,.str lC]=false:=by
     rw[Bool.eq_false_iff];intro z;apply hn';have z':(wOn == w || (lB == w || (lD == w || (lC == w || false))))=true:=z;simp only[Bool.or_eq_true,beq_iff_eq,Bool.false_eq_true,or_false]at z';rcases z' with h|h|h|h
     ·exact .inl h.symm
     ·exact .inr (.inl h.symm)
     ·exact .inr (.inr (.inl h.symm))
     ·exact .inr (.inr (.inr h.symm))
    show(if true=true then !inV (.str w) _ else _)=true
    rw[e];rfl
theorem E9:yc ["one","other","square","way"] ["one","other","square","way"] (af (top 120)):=smk
theorem xw{C C_NoSquare t_hops_walk t_hops_fence:Addr}(E2:EH K mg "go" (top 120) [.str "on"])(yJ:Fx P w K mg base "look_at_way" ["way"] 1 [] (CG C))(BR:Fn P w K mg base "go_part" ["one","other","square"] 1 Bu)(BT:Fn P w K mg base "go_free" ["one","other","square"] 1 Bu)(BS:Fx P w K mg base "go_hops" ["one","other","square"] 7 [] (EN C_NoSquare t_hops_walk t_hops_fence))(C3:Fn P w K mg base "go_on" ["one","other","square"] 1 Bu):Fx P w K mg base "go" ["one","other","square","way"] 8 [.str "on"] (Eb t_hops_walk t_hops_fence):=by
 refine E2.fx E9 (fun T kV doc pm an cdv ct us its oT n s hv hl ho hs=>?_) (fun T kV doc pm an cdv ct us its oT n s hv hl ho hs=>?_) (fun vs H Q E h=>?_) (fun f cdv A outer s H vs Q E hr h=>?_)
 ·obtain⟨u,rfl,_⟩:=gb hv
  match us,hl with
  | [_,_,_,_],_=>exact BindsTo.of_defaults rfl ho hs rfl rfl
 ·obtain⟨u,rfl,_⟩:=gb hv
  have hl1:us.length=3:=by simpa using hl
  match us,hl1 with
  | [_,_,_],_=>exact BindsTo.of_defaults rfl ho hs rfl rfl
 ·obtain⟨l1,l2,p,qs1,qs2,a,b,rfl,_⟩:=h
  rfl
 ·obtain⟨l1,l2,p,qs1,qs2,a,b,rfl,L1,L2,b1,b2,⟨sq,lw,ha⟩,tb,k⟩:=h
  refine⟨_,(ae (bI (eg yJ (hr.mono (by decide)) (by rfl) (aa (pv 3) ad))) (ae (aM (aq bG (pv 3) bC (ar _)) (ag (ak (az BR (hr.mono (by decide)) (by rfl) (aa (pv 0) (aa (pv 1) (aa (pv 2) ad)))))) aA) (ae (aM (aq bG (pv 3) bC (ar _)) (ag (ak (az BT (hr.mono (by decide)) (by rfl) (aa (pv 0) (aa (pv 1) (aa (pv 2) ad)))))) aA) (ae (aM (aq bG (pv 3) bC (ar _)) (ag (ak (eg BS (hr.mono (by decide)) (by rfl) (aa (pv 0) (aa (pv 1) (aa (pv 2) ad)))))) aA) (ag (ak (az C3 (hr.mono (by decide)) (by rfl) (aa (pv 0) (aa (pv 1) (aa (pv 2) ad)))))))))),?_⟩;refine⟨_,rfl,.str "hops","str",rfl,.str _,.inl ⟨_,rfl,.inr (.inr (.inr rfl)),?_⟩⟩;refine⟨_,rfl,rfl,_,rfl,aB (by decide) ?_⟩;refine⟨_,rfl,rfl,_,rfl,aB (by decide) ?_⟩;refine⟨_,rfl,rfl,_,rfl,eV ?_⟩;exact⟨_,rfl,_,rfl,_,rfl,l1,l2,qs1,qs2,.ref p,rfl,L1,L2,b1,b2,wL sq,.inr ⟨vI sq lw ha,p,a,b,rfl,sq,tb,fun t r H' ps nr nt ntr N tb' pp alt=>k t r H' ps nr nt ntr N tb' pp alt⟩⟩
theorem CY:yc ["one","other","square"] ["one","other","square"] (af (top 110)):=smk
theorem jN{t_hops_fence:Addr}(AD:Df K mg "fence_hops" (top 110))(yO:Fn P w K mg base "hops_fence" ["far","last"] 6 (Er t_hops_fence))(yK:Fn P w K mg base "far_corners" ["one","other","square","room"] 3 DP)(yp:Fn P w K mg base "last_of" ["line"] 1 BE):Fn P w K mg base "fence_hops" ["one","other","square"] 7 (Ec t_hops_fence):=by
 refine AD.fn CY (fun _ _ _ _ _ _ us hl=>by obtain⟨_,_,_,rfl⟩:=dP hl;rfl) (fun vs H Q E h=>?_) (fun f cdv A outer s H vs Q E hr h=>?_)
 ·obtain⟨l1,l2,p,qs1,qs2,a,b,rfl,_⟩:=h
  rfl
 ·obtain⟨l1,l2,p,qs1,qs2,a,b,rfl,L1,L2,b1,b2,sq,tb,nh,k⟩:=h
  refine⟨_,(ag (ak (az yO (hr.mono (by decide)) (by rfl) (aa (az yK (hr.mono (by decide)) (by rfl) (aa (pv 0) (aa (pv 1) (aa (pv 2) (aa ac ad))))) (aa (aG (aa (az yp (hr.mono (by decide)) (by rfl) (aa (pv 0) ad)) (aa (az yp (hr.mono (by decide)) (by rfl) (aa (pv 1) ad)) ad))) ad))))),?_⟩;have hl1:(qs1.map fun (q:Addr×Int×Int)=>V.ref q.1).length=qs1.length:=List.length_map _;have hl2:(qs2.map fun (q:Addr×Int×Int)=>V.ref q.1).length=qs2.length:=List.length_map _;refine⟨_,rfl,_,rfl,_,rfl,l1,l2,p,qs1,qs2,a,b,1,rfl,L1,L2,b1,b2,sq,fun d H1 s1 fd=>?_⟩;refine⟨_,rfl,l1,_,rfl,s1 _ _ L1.lst,_,rfl,l2,_,rfl,s1 _ _ L2.lst,sz (by simp),fun lt H2 s2 f2 n2=>?_⟩;have e1:(((qs1.map fun (q:Addr×Int×Int)=>V.ref q.1).length:Nat):Int) - 1=((aK qs1:Nat):Int):=by unfold aK;rw[hl1];omega
  have e2:(((qs2.map fun (q:Addr×Int×Int)=>V.ref q.1).length:Nat):Int) - 1=((aK qs2:Nat):Int):=by unfold aK;rw[hl2];omega
  rw[e1,e2]at f2;have S2:=s1.trans s2;exact⟨d,lt,aK qs1,aK qs2,cW qs1 qs2 a b 1,rfl,tb.same S2,fd.mono s2,f2,by unfold aK;omega,nh,fun r H3 ps nr P3 tb3 hf pp=>k r H3 ps (S2.free nr) (S2.p.trans P3) tb3 pp hf⟩
theorem DE:yc ["one","other","square","way"] ["one","other","square","way"] (af (top 121)):=smk
theorem mT{t_hops_fence:Addr}(Br:Df K mg "fence_at" (top 121))(zC:Fn P w K mg base "fence_freely" ["one","other","square"] 1 Bu)(Au:Fn P w K mg base "fence_hops" ["one","other","square"] 7 (Ec t_hops_fence))(Bb:Fn P w K mg base "fence_by" ["one","other","square","way"] 1 BZ):Fn P w K mg base "fence_at" ["one","other","square","way"] 8 (Ed t_hops_fence):=by
 refine Br.fn DE (fun _ _ _ _ _ _ us hl=>by obtain⟨_,_,_,_,rfl⟩:=kO hl;rfl) (fun vs H Q E h=>?_) (fun f cdv A outer s H vs Q E hr h=>?_)
 ·obtain⟨l1,l2,p,qs1,qs2,a,b,rfl,_⟩:=h
  rfl
 ·obtain⟨l1,l2,p,qs1,qs2,a,b,rfl,L1,L2,b1,b2,sq,tb,nh,k⟩:=h
  refine⟨_,(ae (aM (aq bG (pv 3) bC (ar _)) (ag (ak (az zC (hr.mono (by decide)) (by rfl) (aa (pv 0) (aa (pv 1) (aa (pv 2) ad)))))) aA) (ae (aM (aq bG (pv 3) bC (ar _)) (ag (ak (az Au (hr.mono (by decide)) (by rfl) (aa (pv 0) (aa (pv 1) (aa (pv 2) ad)))))) aA) (ag (ak (az Bb (hr.mono (by decide)) (by rfl) (aa (pv 0) (aa (pv 1) (aa (pv 2) (aa (pv 3) ad))))))))),?_⟩;refine⟨_,rfl,rfl,_,rfl,aB (by decide) ?_⟩;refine⟨_,rfl,rfl,_,rfl,eV ?_⟩;exact⟨_,rfl,_,rfl,_,rfl,l1,l2,p,qs1,qs2,a,b,rfl,L1,L2,b1,b2,sq,tb,nh,fun r H' ps nr P3 tb3 pp hf=>k r H' ps nr P3 tb3 pp hf⟩
def sqC(u v:Addr×Int×Int):Int:=(u.2.1 - v.2.1)*(u.2.1 - v.2.1)+(u.2.2 - v.2.2)*(u.2.2 - v.2.2)
theorem vJ(u v:Addr×Int×Int):0≤sqC u v:=by
 unfold sqC;have h:∀x:Int,0≤x*x:=fun x=>by
  rcases Int.le_total 0 x with h|h
  ·exact Int.mul_nonneg h h
  ·exact Int.mul_nonneg_of_nonpos_of_nonpos h h
 have h1:=h (u.2.1 - v.2.1);have h2:=h (u.2.2 - v.2.2);omega
def Wok(qs1 qs2:Crn)(a b:Int):Prop:=Dj (aK qs1) (aK qs2) (cW qs1 qs2 a b 0) (aK qs1) (aK qs2)
theorem r9{x y x' y' a b:Int}:lo x y x' y' a b<0↔a<((x' - x)*(x' - x)+(y' - y)*(y' - y))*b:=by
 unfold lo sg
 split
 ·omega
 ·split <;> omega
def dd(qs1 qs2:Crn)(x y:Nat):Int:=match qs1[x]?,qs2[y]? with
 | some u,some v=>sqC u v
 | _,_=>0
theorem pJ{qs1 qs2:Crn}{x y:Nat}{u v:Addr×Int×Int}(h1:qs1[x]? = some u)(h2:qs2[y]? = some v):dd qs1 qs2 x y=sqC u v:=by unfold dd;rw[h1,h2]
theorem qT{D:Nat->Nat->Int}:∀(k x y:Nat),x+y=k->∃i j,i≤x∧j≤y∧Tt D x y=D i j:=by
 intro k
 induction k using Nat.strongRecOn with
 | ind k ih =>
  intro x y hk;have pick:∀{p q:Int} {X Y:Nat},(∃i j,i≤X∧j≤Y∧p=D i j)->(∃i j,i≤X∧j≤Y∧q=D i j)->∃i j,i≤X∧j≤Y∧mx2 p q=D i j:=fun {p q X Y} h1 h2=>by
   unfold mx2
   split
   ·exact h2
   ·exact h1
  have pick2:∀{p q:Int} {X Y:Nat},(∃i j,i≤X∧j≤Y∧p=D i j)->(∃i j,i≤X∧j≤Y∧q=D i j)->∃i j,i≤X∧j≤Y∧mn2 p q=D i j:=fun {p q X Y} h1 h2=>by
   unfold mn2
   split
   ·exact h2
   ·exact h1
  match x,y,hk with
  | 0,0,hk=>exact⟨0,0,Nat.le_refl _,Nat.le_refl _,by rw[Tt]⟩
  | 0,y+1,hk =>
   rw[Tt];obtain⟨i,j,h1,h2,h3⟩:=ih y (by omega) 0 y (by omega);exact pick ⟨0,y+1,Nat.le_refl _,Nat.le_refl _,rfl⟩ ⟨i,j,h1,by omega,h3⟩
  | x+1,0,hk =>
   rw[Tt];obtain⟨i,j,h1,h2,h3⟩:=ih x (by omega) x 0 (by omega);exact pick ⟨x+1,0,Nat.le_refl _,Nat.le_refl _,rfl⟩ ⟨i,j,by omega,h2,h3⟩
  | x+1,y+1,hk =>
   rw[Tt];obtain⟨i,j,h1,h2,h3⟩:=ih (x+y) (by omega) x y rfl;obtain⟨i',j',h1',h2',h3'⟩:=ih (x+(y+1)) (by omega) x (y+1) rfl;obtain⟨i'',j'',h1'',h2'',h3''⟩:=ih (x+1+y) (by omega) (x+1) y rfl;exact pick ⟨x+1,y+1,Nat.le_refl _,Nat.le_refl _,rfl⟩ (pick2 (pick2 ⟨i,j,by omega,by omega,h3⟩ ⟨i',j',by omega,by omega,h3'⟩) ⟨i'',j'',by omega,by omega,h3''⟩)
theorem vy{qs1 qs2:Crn}{a b:Int}(h1:1≤qs1.length)(h2:1≤qs2.length)(hb:0<b):Wok qs1 qs2 a b↔Tt (dd qs1 qs2) (aK qs1) (aK qs2)*b≤a:=by
 unfold Wok;refine rk hb (fun x y hx hy=>?_) _ _ _ rfl (Nat.le_refl _) (Nat.le_refl _);unfold aK at hx hy;obtain⟨u,hu⟩:∃u,qs1[x]? = some u:=⟨qs1[x]'(by omega),List.getElem?_eq_getElem (by omega)⟩;obtain⟨v,hv⟩:∃v,qs2[y]? = some v:=⟨qs2[y]'(by omega),List.getElem?_eq_getElem (by omega)⟩;rw[ld hu hv,pJ hu hv,decide_eq_false_iff_not,r9];unfold sqC;have h:∀p q:Int,(p - q)*(p - q)=(q - p)*(q - p):=fun p q=>by
  rw[show p - q = -(q - p) by omega,Int.neg_mul_neg]
 rw[h u.2.1,h u.2.2];omega
theorem rZ{x y x' y' a b:Int}:lo x y x' y' a b<1↔a≤((x' - x)*(x' - x)+(y' - y)*(y' - y))*b:=by
 unfold lo sg
 split
 ·omega
 ·split <;> omega
open Classical in
theorem rO{m n:Nat}{F:Int->Int->Bool}(h:¬Dj m n F m n):fN m n F:=by
 cases h0:F 0 0 with
 | true=>exact .inl h0
 | false =>
  refine .inr ⟨(U m n).filter fun s=>decide (∃i j:Int,s=ck i j∧Dj m n F i j),fun s hs=>?_,fun s hs e he=>?_,fun s hs=>?_⟩
  ·rw[List.mem_singleton.mp hs]
   exact List.mem_filter.mpr ⟨cE.mpr ⟨0,0,rfl,by omega,by omega,by omega,by omega⟩,decide_eq_true ⟨0,0,rfl,.z h0⟩⟩
  ·obtain⟨h1,h2⟩:=List.mem_filter.mp hs
   obtain⟨i,j,rfl,r⟩:=of_decide_eq_true h2;refine List.mem_filter.mpr ⟨iB _ h1 e he,decide_eq_true ?_⟩;have he':e∈(dz m n F i j).map fun p=>(ck p.1 p.2,V.non):=he;obtain⟨p,hp,rfl⟩:=List.mem_map.mp he';unfold dz at hp;obtain⟨p1,p2⟩:=List.mem_filter.mp hp;simp only[Bool.and_eq_true,decide_eq_true_eq,Bool.not_eq_true',decide_eq_false_iff_not]at p2;obtain⟨p3,p4,p5⟩:=p2;have b:=r.box;have pc:(p.1=i+1∧p.2=j+1)∨(p.1=i+1∧p.2=j)∨(p.1=i∧p.2=j+1):=by
    simp only[List.mem_cons,List.not_mem_nil,or_false]at p1;rcases p1 with rfl|rfl|rfl
    ·exact .inl ⟨rfl,rfl⟩
    ·exact .inr (.inl ⟨rfl,rfl⟩)
    ·exact .inr (.inr ⟨rfl,rfl⟩)
   refine⟨p.1,p.2,rfl,.s r pc p3 p4 ?_⟩;cases hf:F p.1 p.2 with
   | false=>rfl
   | true=>exact absurd (b9.mpr ⟨by omega,p3,by omega,p4,hf⟩) p5
  ·obtain⟨h1,h2⟩:=List.mem_filter.mp hs
   obtain⟨i,j,rfl,r⟩:=of_decide_eq_true h2;cases hf:gS m n (ck i j) with
   | false=>rfl
   | true =>
    have:i=m∧j=n:=by
     unfold gS ck at hf;simpa using hf
    rw[this.1,this.2]at r;exact absurd r h
structure El(m n:Nat)(cs:List (Int×Int)):Prop where
 z:cs[0]? = some (0,0)
 l:cs[cs.length - 1]? = some ((m:Int),(n:Int))
 bx:∀c∈cs,0≤c.1∧c.1≤m∧0≤c.2∧c.2≤n
 st:∀(i:Nat) a b,cs[i]? = some a->cs[i+1]? = some b->(b.1=a.1+1∧b.2=a.2+1)∨(b.1=a.1+1∧b.2=a.2)∨(b.1=a.1∧b.2=a.2+1)
theorem El.mono{m n:Nat}{cs:List (Int×Int)}(w:El m n cs){i:Nat}{a:Int×Int}(ha:cs[i]? = some a):∀(d:Nat) b,cs[i+d]? = some b->a.1≤b.1∧a.2≤b.2
 | 0,b,hb=>by
  rw[Nat.add_zero,ha]at hb;cases hb;exact⟨Int.le_refl _,Int.le_refl _⟩
 | d+1,b,hb=>by
  have lt:=(List.getElem?_eq_some_iff.mp hb).1;have hc:cs[i+d]? = some (cs[i+d]'(by omega)):=List.getElem?_eq_getElem (by omega);have ih:=w.mono ha d _ hc;have s:=w.st (i+d) _ b hc hb;omega
theorem El.col{m n:Nat}{cs:List (Int×Int)}(w:El m n cs){x:Int}(hx:x≤m):∀(r i:Nat) c,cs.length - i=r->cs[i]? = some c->c.1≤x->∃j c',i≤j∧cs[j]? = some c'∧c'.1=x∧c.2≤c'.2:=by
 intro r
 induction r with
 | zero =>
  intro i c hr hc;have:=(List.getElem?_eq_some_iff.mp hc).1;omega
 | succ r ih =>
  intro i c hr hc h
  by_cases e:c.1=x
  ·exact⟨i,c,Nat.le_refl _,hc,e,Int.le_refl _⟩
  ·have lt:=(List.getElem?_eq_some_iff.mp hc).1
   by_cases l:i=cs.length - 1
   ·have wl:=w.l
    rw[<- l,hc]at wl;cases wl;dsimp only at h e;omega
   ·have hd:cs[i+1]? = some (cs[i+1]'(by omega)):=List.getElem?_eq_getElem (by omega)
    have s:=w.st i c _ hc hd;obtain⟨j,c',h1,h2,h3,h4⟩:=ih (i+1) _ (by omega) hd (by omega);exact⟨j,c',by omega,h2,h3,by omega⟩
theorem El.row{m n:Nat}{cs:List (Int×Int)}(w:El m n cs){y:Int}(hy:y≤n):∀(r i:Nat) c,cs.length - i=r->cs[i]? = some c->c.2≤y->∃j c',i≤j∧cs[j]? = some c'∧c'.2=y∧c.1≤c'.1:=by
 intro r
 induction r with
 | zero =>
  intro i c hr hc;have:=(List.getElem?_eq_some_iff.mp hc).1;omega
 | succ r ih =>
  intro i c hr hc h
  by_cases e:c.2=y
  ·exact⟨i,c,Nat.le_refl _,hc,e,Int.le_refl _⟩
  ·have lt:=(List.getElem?_eq_some_iff.mp hc).1
   by_cases l:i=cs.length - 1
   ·have wl:=w.l
    rw[<- l,hc]at wl;cases wl;dsimp only at h e;omega
   ·have hd:cs[i+1]? = some (cs[i+1]'(by omega)):=List.getElem?_eq_getElem (by omega)
    have s:=w.st i c _ hc hd;obtain⟨j,c',h1,h2,h3,h4⟩:=ih (i+1) _ (by omega) hd (by omega);exact⟨j,c',by omega,h2,h3,by omega⟩
def Abv(cs:List (Int×Int))(x y:Int):Prop:=∀(k:Nat) c,cs[k]? = some c->c.1≤x->c.2<y
theorem El.cmp{m n:Nat}{cs:List (Int×Int)}(w:El m n cs){i j:Nat}{a b:Int×Int}(ha:cs[i]? = some a)(hb:cs[j]? = some b):(a.1≤b.1∧a.2≤b.2)∨(b.1≤a.1∧b.2≤a.2):=by
 by_cases h:i≤j
 ·exact .inl (w.mono ha (j - i) b (by rw[show i+(j - i)=j by omega];exact hb))
 ·exact .inr (w.mono hb (i - j) a (by rw[show j+(i - j)=i by omega];exact ha))
theorem uS{m n:Nat}{cs:List (Int×Int)}(w:El m n cs){x y:Int}(bx:0≤x∧x≤m∧0≤y∧y≤n)(h:y=n∨x=0)(ni:(x,y)∉cs):Abv cs x y:=by
 intro k c hc hx;have hb:=w.bx c (List.mem_of_getElem? hc)
 by_cases z:c.2<y
 ·exact z
 exfalso;rcases h with h|h
 ·obtain⟨j,c',_,h2,h3,h4⟩:=w.col bx.2.1 _ k c rfl hc hx
  have hb':=w.bx c' (List.mem_of_getElem? h2);exact ni (by rw[show(x,y)=c' from Prod.ext h3.symm (by dsimp only;omega)];exact List.mem_of_getElem? h2)
 ·obtain⟨j,c',_,h2,h3,h4⟩:=w.row bx.2.2.2 _ 0 (0,0) rfl w.z bx.2.2.1
  have hb':=w.bx c' (List.mem_of_getElem? h2);have q:=w.cmp hc h2
  by_cases e:c'.1=0
  ·exact ni (by rw[show(x,y)=c' from Prod.ext (by dsimp only;omega) h3.symm];exact List.mem_of_getElem? h2)
  ·exact ni (by rw[show(x,y)=c from Prod.ext (by dsimp only;omega) (by dsimp only;omega)];exact List.mem_of_getElem? hc)
theorem tu{m n:Nat}{cs:List (Int×Int)}(w:El m n cs){x y a b:Int}(bx:0≤x∧x≤m)(ba:0≤a∧a≤m∧0≤b∧b≤n)(h:Abv cs x y)(st:db (x,y) (a,b)=true)(ni:(a,b)∉cs):Abv cs a b:=by
 unfold db at st;simp only[Bool.or_eq_true,Bool.and_eq_true,decide_eq_true_eq]at st;intro k c hc hx
 by_cases z:c.2<b
 ·exact z
 exfalso;rcases st with⟨s1,s2⟩|⟨s1,s2⟩
 ·have c2:=h k c hc (by omega)
  obtain⟨j,c',_,h2,h3,h4⟩:=w.col ba.2.1 _ k c rfl hc hx;have c3:=h j c' h2 (by omega);exact ni (by rw[show(a,b)=c' from Prod.ext h3.symm (by dsimp only;omega)];exact List.mem_of_getElem? h2)
 ·by_cases e:c.1≤x
  ·have:=h k c hc e
   omega
  obtain⟨j0,c0,_,g2,g3,_⟩:=w.col bx.2 _ 0 (0,0) rfl w.z bx.1;have c4:=h j0 c0 g2 (by omega);obtain⟨j,c',_,h2,h3,h4⟩:=w.row ba.2.2.2 _ j0 c0 rfl g2 (by omega);have q:=w.cmp hc h2
  by_cases e2:c'.1≤x
  ·have:=h j c' h2 e2
   omega
  ·by_cases e3:c'.1=x+1
   ·exact ni (by rw[show(a,b)=c' from Prod.ext (by dsimp only;omega) h3.symm];exact List.mem_of_getElem? h2)
   ·exact ni (by rw[show(a,b)=c from Prod.ext (by dsimp only;omega) (by dsimp only;omega)];exact List.mem_of_getElem? hc)
theorem ph{m n:Nat}{F:Int->Int->Bool}{ps:List Pr}(h:ip m n F ps):∃cs,El m n cs∧Paired (fun c q=>prC q c) cs ps∧∀c∈cs,F c.1 c.2=false:=by
 obtain⟨h0,⟨cs,pr,⟨r,e0⟩,el,bx,_,st⟩,_⟩:=h;have zz:cs[0]? = some (0,0):=by rw[e0];rfl
 have stp:∀(i:Nat) a b,cs[i]? = some a->cs[i+1]? = some b->((b.1=a.1+1∧b.2=a.2+1)∨(b.1=a.1+1∧b.2=a.2)∨(b.1=a.1∧b.2=a.2+1))∧F b.1 b.2=false:=fun i a b ha hb=>by
  have hp:=st i a b ha hb;unfold dz at hp;obtain⟨p1,p2⟩:=List.mem_filter.mp hp;simp only[Bool.and_eq_true,decide_eq_true_eq,Bool.not_eq_true',decide_eq_false_iff_not]at p2;obtain⟨p3,p4,p5⟩:=p2;have hbx:=bx b (List.mem_of_getElem? hb);refine⟨?_,?_⟩
  ·simp only[List.mem_cons,List.not_mem_nil,or_false]at p1
   rcases p1 with rfl|rfl|rfl
   ·exact .inl ⟨rfl,rfl⟩
   ·exact .inr (.inl ⟨rfl,rfl⟩)
   ·exact .inr (.inr ⟨rfl,rfl⟩)
  ·cases hf:F b.1 b.2 with
   | false=>rfl
   | true=>exact absurd (b9.mpr ⟨hbx.1,p3,hbx.2.2.1,p4,hf⟩) p5
 refine⟨cs,⟨zz,by rw[<- List.getLast?_eq_getElem?];exact el,bx,fun i a b ha hb=>(stp i a b ha hb).1⟩,pr,fun c hc=>?_⟩;obtain⟨i,hi⟩:=List.getElem?_of_mem hc;cases i with
 | zero =>
  rw[zz]at hi;cases hi;exact h0
 | succ i =>
  have lt:=(List.getElem?_eq_some_iff.mp hi).1;exact(stp i _ c (List.getElem?_eq_getElem (by omega)) hi).2
theorem qt{m n:Nat}{F G:Int->Int->Bool}{ps fs:List Pr}(h:ip m n F ps)(f:jD m n G fs):∃(i j:Nat) (c:Int×Int) (p q:Pr),ps[i]? = some p∧fs[j]? = some q∧prC p c∧prC q c∧(0≤c.1∧c.1≤m∧0≤c.2∧c.2≤n)∧F c.1 c.2=false∧G c.1 c.2=true:=by
 obtain⟨cs,w,pr,hF⟩:=ph h;obtain⟨_,⟨ds,pd,⟨d0,r,e0,hb⟩,⟨d1,el,he⟩,bx,_,st⟩,_⟩:=f;have box:∀d∈ds,0≤d.1∧d.1≤m∧0≤d.2∧d.2≤n∧G d.1 d.2=true:=fun d hd=>b9.mp (bx d hd)
 by_cases z:∃d∈ds,d∈cs
 ·obtain⟨d,h1,h2⟩:=z
  obtain⟨i,hi⟩:=List.getElem?_of_mem h2;obtain⟨j,hj⟩:=List.getElem?_of_mem h1;obtain⟨p,hp,cp⟩:=cR pr i d hi;obtain⟨q,hq,cq⟩:=cR pd j d hj;have b:=box d h1;exact⟨i,j,d,p,q,hp,hq,cp,cq,⟨b.1,b.2.1,b.2.2.1,b.2.2.2.1⟩,hF d h2,b.2.2.2.2⟩
 ·exfalso
  have ab:∀(i:Nat) d,ds[i]? = some d->Abv cs d.1 d.2:=by
   intro i
   induction i with
   | zero =>
    intro d hd;rw[e0]at hd;cases hd;have m0:d0∈ds:=by rw[e0];exact List.mem_cons_self
    have b:=box d0 m0;exact uS w ⟨b.1,b.2.1,b.2.2.1,b.2.2.2.1⟩ hb fun q=>z ⟨d0,m0,q⟩
   | succ i ih =>
    intro d hd;have lt:=(List.getElem?_eq_some_iff.mp hd).1;have hc:ds[i]? = some (ds[i]'(by omega)):=List.getElem?_eq_getElem (by omega);have b0:=box _ (List.mem_of_getElem? hc);have b:=box d (List.mem_of_getElem? hd);exact tu w ⟨b0.1,b0.2.1⟩ ⟨b.1,b.2.1,b.2.2.1,b.2.2.2.1⟩ (ih _ hc) (st i _ d hc hd) fun q=>z ⟨d,List.mem_of_getElem? hd,q⟩
  rw[List.getLast?_eq_getElem?]at el;have a:=ab _ d1 el;have b:=box d1 (List.mem_of_getElem? el);rcases he with he|he
  ·have:=a 0 (0,0) w.z b.1
   dsimp only at this;omega
  ·have:=a _ _ w.l (by dsimp only;omega)
   dsimp only at this;omega
def qL:Str:="leash"++".<locals>."++"<lambda>"
def laL:Expr:=fC ((aH (top 122)).getD 2 (.Pass ⟨0,0,0,0⟩)) 1
def lsL:List (Pos×Str):=[(a9 laL,qL)]
theorem de{H:Hp}{l:Addr}{qs:Crn}(L:yi H l qs):LineAt H l qs:=⟨L.lst,fun q h=>⟨(L.crn q h).1,eY (L.crn q h).2.1,eY (L.crn q h).2.2⟩⟩
structure T4(H:Hp)(tw tf tp tl:Addr):Prop where
 h:BI H tw tf
 p:Tab H tp lsP
 l:Tab H tl lsL
 pw:tp≠tw
 pf:tp≠tf
 lw:tl≠tw
 lf:tl≠tf
 lp:tl≠tp
theorem T4.same{H H':Hp}{tw tf tp tl:Addr}(t:T4 H tw tf tp tl)(s:Same H H'):T4 H' tw tf tp tl:=⟨t.h.same s,t.p.same s,t.l.same s,t.pw,t.pf,t.lw,t.lf,t.lp⟩
theorem eS{H:Hp}{t b:Addr}{ls:List (Pos×Str)}{o:HO}(x:Tab H t ls)(e:H b=some o)(n:∀ps,o≠.tbl ps):b≠t:=fun z=>by
 obtain⟨ps,e1,_⟩:=x;rw[z,e1]at e;exact n ps (Option.some.inj e).symm
theorem ir{tw tf t:Addr}{H H':Hp}{ls:List (Pos×Str)}(x:Tab H t ls)(T:BI H tw tf)(n1:t≠tw)(n2:t≠tf)(s:SmW tw tf H H'):Tab H' t ls:=by
 obtain⟨ps,e,k,a⟩:=x;refine⟨ps,s _ _ n1 n2 e,k,fun l hl=>(a l hl).imp_right ?_⟩;rintro⟨c,e2,o,vs,tt,e3,r⟩;exact⟨c,e2,o,vs,tt,s _ _ (eS T.w e3 fun ps q=>by cases q) (eS T.f e3 fun ps q=>by cases q) e3,r⟩
theorem lI{t:Addr}{H H':Hp}{ls:List (Pos×Str)}(x:Tab H t ls)(k1:∀b o,H b=some o->(∀z,o=KnO z->∀u,z.data≠.cell u)->H' b=some o):Tab H' t ls:=by
 obtain⟨ps,e,k,a⟩:=x;refine⟨ps,k1 _ _ e (fun z q=>by cases q),k,fun l hl=>(a l hl).imp_right ?_⟩;rintro⟨c,e2,o,vs,tt,e3,d,r⟩;exact⟨c,e2,o,vs,tt,k1 _ _ e3 (fun z q u=>by cases q;rw[d];exact fun z=>nomatch z),d,r⟩
theorem oO{t:Addr}{H:Hp}{C:List Addr}{ls:List (Pos×Str)}(x:Tab H t ls)(hC:∀c∈C,∃v,bO H c v):Tab (cut C H) t ls:=by
 obtain⟨ps,e,k,a⟩:=x;refine⟨ps,(bS fun z=>?_).trans e,k,fun l hl=>(a l hl).imp_right ?_⟩
 ·obtain⟨v,o,u,e1,_⟩:=hC _ z
  rw[e]at e1;cases e1
 rintro⟨c,e2,o,vs,tt,e3,d,r⟩;refine⟨c,e2,o,vs,tt,(bS fun z=>?_).trans e3,d,r⟩;obtain⟨v,o',u,e1,d',_⟩:=hC _ z;rw[e3]at e1;cases e1;rw[d]at d';cases d'
theorem lH{t:Addr}{H H1:Hp}{C:List Addr}{ls:List (Pos×Str)}(x:Tab H1 t ls)(hC:∀c∈C,H1 c=none):Tab (kC C H H1) t ls:=by
 obtain⟨ps,e,k,a⟩:=x;refine⟨ps,eM hC e,k,fun l hl=>(a l hl).imp_right ?_⟩;rintro⟨c,e2,o,vs,tt,e3,r⟩;exact⟨c,e2,o,vs,tt,eM hC e3,r⟩
theorem qK{H:Hp}{cl:List (Str×Addr)}{ws:List V}(cs:Paired (fun (p:Str×Addr) z=>bO H p.2 z) cl ws):∀c∈cl.map (·.2),∃v,bO H c v:=by
 induction cs with
 | nil=>exact fun c h=>nomatch h
 | cons a r ih =>
  intro c h;rcases List.mem_cons.mp h with rfl|h
  ·exact⟨_,a⟩
  ·exact ih c h
def TT(qs rs:Crn):Int:=Tt (dd qs rs) (aK qs) (aK rs)
def hdL(fs:Crn)(T:Int)(k:Nat):Bool:=match fs[k]? with
 | some p=>decide (T*p.2.2≤p.2.1)
 | none=>true
theorem su{H:Hp}{l:Addr}{fs:Crn}{T:Int}(R:EE H l fs)(i j:Nat)(h:i≤j)(hj:j<fs.length)(e:hdL fs T i=true):hdL fs T j=true:=by
 by_cases z:i=j
 ·subst z
  exact e
 have hi:fs[i]? = some (fs[i]'(by omega)):=List.getElem?_eq_getElem (by omega);have hj':fs[j]? = some (fs[j]'hj):=List.getElem?_eq_getElem hj;have u:ltF (fs[i]'(by omega)) (fs[j]'hj):=List.pairwise_iff_getElem.mp R.up i j (by omega) hj (by omega);unfold ltF at u;have lp:=(R.fr _ (List.mem_of_getElem? hi)).2.1.pos;have lq:=(R.fr _ (List.mem_of_getElem? hj')).2.1.pos;unfold hdL at e ⊢;rw[hi]at e;rw[hj'];simp only[decide_eq_true_eq]at e ⊢;generalize fs[i]'(by omega)=p at e u lp;generalize fs[j]'hj=q at u lq ⊢;have h1:=vq (a:=T) (b:=1) (by decide) (by omega) (by omega) (by omega) u;omega
theorem uZ{qs rs:Crn}(h1:1≤qs.length)(h2:1≤rs.length):(TT qs rs,(1:Int))∈cdV (crs qs) (crs rs)∧0≤TT qs rs:=by
 obtain⟨i,j,hi,hj,e⟩:=qT (D:=dd qs rs) _ (aK qs) (aK rs) rfl;unfold aK at hi hj;obtain⟨u,hu⟩:∃u,qs[i]? = some u:=⟨qs[i]'(by omega),List.getElem?_eq_getElem (by omega)⟩;obtain⟨v,hv⟩:∃v,rs[j]? = some v:=⟨rs[j]'(by omega),List.getElem?_eq_getElem (by omega)⟩;have e':TT qs rs=sqC u v:=by
  unfold TT;rw[e,pJ hu hv]
 rw[e'];refine⟨?_,vJ u v⟩;unfold cdV;refine List.mem_append_left _ (List.mem_append_left _ ?_);unfold prN;rw[List.take_length];exact List.mem_flatMap.mpr ⟨u.2,List.mem_of_getElem? (dH hu),List.mem_map.mpr ⟨v.2,List.mem_of_getElem? (dH hv),rfl⟩⟩
theorem qU{qs rs:Crn}(h1:1≤qs.length)(h2:1≤rs.length):fN (aK qs) (aK rs) (cW qs rs (TT qs rs) 1 1):=by
 refine rO fun r=>?_;have z:=(rk (D:=dd qs rs) (F:=cW qs rs (TT qs rs) 1 1) (a:=TT qs rs - 1) (b:=1) (by decide) (fun x y hx hy=>?_) _ (aK qs) (aK rs) rfl (Nat.le_refl _) (Nat.le_refl _)).mp r
 ·have:Tt (dd qs rs) (aK qs) (aK rs)=TT qs rs:=rfl
  omega
 ·unfold aK at hx hy
  obtain⟨u,hu⟩:∃u,qs[x]? = some u:=⟨qs[x]'(by omega),List.getElem?_eq_getElem (by omega)⟩;obtain⟨v,hv⟩:∃v,rs[y]? = some v:=⟨rs[y]'(by omega),List.getElem?_eq_getElem (by omega)⟩;rw[ld hu hv,pJ hu hv,decide_eq_false_iff_not,rZ];have:(v.2.1 - u.2.1)*(v.2.1 - u.2.1)+(v.2.2 - u.2.2)*(v.2.2 - u.2.2)=sqC u v:=by
   unfold sqC
   grind
  rw[this];omega
theorem o4{a b:Int}(h:0≤a):0≤(ug a b).1:=Int.ediv_nonneg h (by omega)
theorem q9(x:Int):0≤x*x:=fg (by omega)
theorem v6(c x y:Int×Int):0≤(leV c x y).1:=by
 refine o4 ?_;unfold leF
 split
 ·exact ku c x
 ·split
  ·exact ku c y
  ·show 0≤sqI c x*leL x y - leA c x y*leA c x y
   have e:sqI c x*leL x y - leA c x y*leA c x y=((c.1 - x.1)*(y.2 - x.2) - (c.2 - x.2)*(y.1 - x.1))*((c.1 - x.1)*(y.2 - x.2) - (c.2 - x.2)*(y.1 - x.1)):=by
    unfold sqI leL leA
    grind
   rw[e];exact q9 _
theorem wo{c m x y v:Int×Int}(h:v∈evV c m x y):0≤v.1:=by
 unfold evV at h
 split at h
 ·cases h
 ·rw[List.mem_singleton.mp h]
  refine o4 ?_;generalize evP c m x y=p;show 0≤p.2*p.2*sqI c x - 2*p.2*p.1*leA c x y+p.1*p.1*leL x y;have e:p.2*p.2*sqI c x - 2*p.2*p.1*leA c x y+p.1*p.1*leL x y=(p.2*(c.1 - x.1) - p.1*(y.1 - x.1))*(p.2*(c.1 - x.1) - p.1*(y.1 - x.1))+(p.2*(c.2 - x.2) - p.1*(y.2 - x.2))*(p.2*(c.2 - x.2) - p.1*(y.2 - x.2)):=by
   unfold sqI leL leA
   grind
  rw[e];have h1:=q9 (p.2*(c.1 - x.1) - p.1*(y.1 - x.1));have h2:=q9 (p.2*(c.2 - x.2) - p.1*(y.2 - x.2));omega
theorem qZ{ds cs:List (Int×Int)}{k:Nat}{v:Int×Int}(h:v∈stN ds cs k):0≤v.1:=by
 unfold stN at h;obtain⟨i,_,h⟩:=List.mem_flatMap.mp h;unfold alN at h;obtain⟨j,_,h⟩:=List.mem_flatMap.mp h;rcases List.mem_cons.mp h with rfl|h
 ·exact v6 _ _ _
 ·unfold evN at h
  obtain⟨m,_,h⟩:=List.mem_flatMap.mp h;exact wo h
theorem wA{cs ds:List (Int×Int)}{v:Int×Int}(h:v∈cdV cs ds):0≤v.1:=by
 unfold cdV at h;rcases List.mem_append.mp h with h|h
 ·rcases List.mem_append.mp h with h|h
  ·unfold prN at h
   obtain⟨c,_,h⟩:=List.mem_flatMap.mp h;obtain⟨d,_,rfl⟩:=List.mem_map.mp h;exact ku c d
  ·exact qZ h
 ·exact qZ h
theorem sB{tw tf x:Addr}{H H':Hp}(s:SmW tw tf H H')(T:BI H tw tf)(T':BI H' tw tf)(h:H' x=none):H x=none:=by
 cases e:H x with
 | none=>rfl
 | some o =>
  exfalso
  by_cases z1:x=tw
  ·obtain⟨ps,e1,_⟩:=T'.w
   rw[z1,e1]at h;cases h
  ·by_cases z2:x=tf
   ·obtain⟨ps,e1,_⟩:=T'.f
    rw[z2,e1]at h;cases h
   ·rw[s x o z1 z2 e]at h
    cases h
theorem gj{H H':Hp}{l:Addr}{ps:List Pr}(N:aX H H')(p:yh H l ps):yh H' l ps:=⟨N.l p.lst,fun q hq=>(p.pr q hq).t fun b xs e=>N.t e⟩
inductive D8 (tw tf tp tl:Addr) (vs:List V) (H:Hp) (Q:VK) (x_3:XK):Prop
 | mk:∀(l1 l2:Addr) (qs rs:Crn),(vs = [.ref l1,.ref l2,.str "hops"])->((yi H l1 qs∧1≤qs.length∧qs.length≤6))->((yi H l2 rs∧1≤rs.length∧rs.length≤6))->(T4 H tw tf tp tl)->(∀(t z ww f:Addr) (ps fs:List Pr) (H':Hp),aX H H'->T4 H' tw tf tp tl->H' t=some (.tup [.ref z,.ref ww,.ref f])->H' z=some (.tup [.int (TT qs rs),.int 1])->yh H' ww ps->yh H' f fs->H ww=none->H f=none->ww≠f->ip (aK qs) (aK rs) (cW qs rs (TT qs rs) 1 0) ps->jD (aK qs) (aK rs) (cW qs rs (TT qs rs) 1 1) fs->Q (.ref t) H')->D8 tw tf tp tl vs H Q x_3
theorem Ca:yc ["one","other","way","rising","number","square"] ["one","other","way"] (af (top 122)):=smk
theorem sI{C t_hops_walk t_hops_fence t_put_in t_leash:Addr}(C7:Em K mg "leash" (top 122) [.str "on"] t_leash)(BF:oJ K mg)(yJ:Fx P w K mg base "look_at_way" ["way"] 1 [] (CG C))(Aw:Fn P w K mg base "candidates" ["one","other"] 12 (Dv t_put_in))(yD:Fn P w K mg base "first_number" ["count","holds"] 10 (B9 P w K mg base 9))(Ey:Fx P w K mg base "go" ["one","other","square","way"] 8 [.str "on"] (Eb t_hops_walk t_hops_fence))(Bc:Fn P w K mg base "fence_at" ["one","other","square","way"] 8 (Ed t_hops_fence))(T:Txt mg):Fx P w K mg base "leash" ["one","other","way"] 13 [.str "on"] (D8 t_hops_walk t_hops_fence t_put_in t_leash):=by
 refine C7.fx Ca (fun T kV doc pm an cdv ct us its oT n s hv hl ho hs=>?_) (fun T kV doc pm an cdv ct us its oT n s hv hl ho hs=>?_) (fun vs H Q E h=>?_) (fun f cdv A outer s H vs Q E CF hr h=>?_)
 ·obtain⟨u,rfl,_⟩:=gb hv
  match us,hl with
  | [_,_,_],_=>exact BindsTo.of_defaults rfl ho hs rfl rfl
 ·obtain⟨u,rfl,_⟩:=gb hv
  have hl1:us.length=2:=by simpa using hl
  match us,hl1 with
  | [_,_],_=>exact BindsTo.of_defaults rfl ho hs rfl rfl
 ·obtain⟨l1,l2,qs,rs,rfl,_⟩:=h
  rfl
 ·obtain⟨l1,l2,qs,rs,rfl,⟨L1,a1,a6⟩,⟨L2,b1,b6⟩,T0,k⟩:=h
  obtain⟨c,ec,CF⟩:=CF;have CL_a:closureFor (bn laL) (aZ (CXE P w) P w K mg base ["one","other","way","rising","number","square"] "leash" (af (top 122)) f cdv A outer s H E).env=pure ([("way",s.heap.objs.size+3),("rising",s.heap.objs.size+4),("other",s.heap.objs.size+2),("one",s.heap.objs.size+1)]:List (Str×Addr)):=by rfl
  have CM_a:(a9 laL,qL)∈lsL:=List.mem_cons_self;have CD_a:∀l∈lsL,l≠(a9 laL,qL)->¬(l.1.line=(a9 laL).line∧l.1.col=(a9 laL).col):=by
   intro l hl ne;rw[List.mem_singleton.mp hl]at ne;exact absurd rfl ne
  have CS:∀p∈[((s.heap.objs.size+1:Addr),0),(s.heap.objs.size+2,1),(s.heap.objs.size+3,2),(s.heap.objs.size+4,3)],∃y,(aZ (CXE P w) P w K mg base ["one","other","way","rising","number","square"] "leash" (af (top 122)) f cdv A outer s H E).env.cells.lookup y=some p.1∧(aZ (CXE P w) P w K mg base ["one","other","way","rising","number","square"] "leash" (af (top 122)) f cdv A outer s H E).N[p.2]? = some y∧(aZ (CXE P w) P w K mg base ["one","other","way","rising","number","square"] "leash" (af (top 122)) f cdv A outer s H E).env.kindOf y=some .cell∧Vis (aZ (CXE P w) P w K mg base ["one","other","way","rising","number","square"] "leash" (af (top 122)) f cdv A outer s H E).env.scope y:=by
   intro p hp;simp only[List.mem_cons,List.not_mem_nil,or_false]at hp;rcases hp with rfl|rfl|rfl|rfl
   ·exact⟨"one",rfl,rfl,rfl,.inr (.inl rfl)⟩
   ·exact⟨"other",rfl,rfl,rfl,.inr (.inl rfl)⟩
   ·exact⟨"way",rfl,rfl,rfl,.inr (.inl rfl)⟩
   ·exact⟨"rising",rfl,rfl,rfl,.inr (.inl rfl)⟩
  refine⟨_,(ae (bI (eg yJ (hr.mono (by decide)) (by rfl) (aa (pv 2) ad))) (ae (aw (i:=3) Ca.nd rfl (Or.inr rfl) (az Aw (hr.mono (by decide)) (by rfl) (aa (pv 0) (aa (pv 1) ad)))) (ae (aw (i:=4) Ca.nd rfl (Or.inl rfl) (kH yD (hr.mono (by decide)) (by rfl) (fun _=>rfl) CS (aa (aJ aL (by rfl) T.z_len bP (aa (pv 3) ad)) (aa (gM CL_a ec CF BF rfl rfl CM_a CD_a) ad)))) (ae (aw (i:=5) Ca.nd rfl (Or.inl rfl) (aj aQ (pv 3) (pv 4) (fun _ _=>rfl))) (ag (ak (aG (aa (pv 5) (aa (aj ah (eg Ey (hr.mono (by decide)) (by rfl) (aa (pv 0) (aa (pv 1) (aa (pv 5) (aa (pv 2) ad))))) ac (fun _ _=>rfl)) (aa (az Bc (hr.mono (by decide)) (by rfl) (aa (pv 0) (aa (pv 1) (aa (pv 5) (aa (pv 2) ad))))) ad)))))))))),?_⟩;have q20:1≤qs.length∧qs.length≤20:=⟨a1,by omega⟩;have r20:1≤rs.length∧rs.length≤20:=⟨b1,by omega⟩;have nt:∀{xs:List V} ps,HO.lst xs≠.tbl ps:=fun ps q=>by cases q
  have nu:∀{xs:List V} ps,HO.tup xs≠.tbl ps:=fun ps q=>by cases q
  have nk:∀{o:Obj} ps,KnO o≠.tbl ps:=fun ps q=>by cases q
  refine⟨_,rfl,.str "hops","str",rfl,.str _,.inl ⟨_,rfl,.inr (.inr (.inr rfl)),?_⟩⟩;refine⟨_,rfl,_,rfl,l1,l2,qs,rs,rfl,T0.p,⟨de L1,a1,a6⟩,⟨de L2,b1,b6⟩,fun ga fs H1 P1 tp1 ng R1 lG mG=>?_⟩;have ot:∀{t:Addr} {ls:List (Pos×Str)},Tab H t ls->t≠t_put_in->Tab H1 t ls:=fun x n=>by
   obtain⟨ps,e,_⟩:=id T0.p;exact x.other e n P1
  have T1:T4 H1 t_hops_walk t_hops_fence t_put_in t_leash:=⟨⟨ot T0.h.w T0.pw.symm,ot T0.h.f T0.pf.symm,T0.h.ne⟩,tp1,ot T0.l T0.lp,T0.pw,T0.pf,T0.lw,T0.lf,T0.lp⟩;have N1:aX H H1:=bY.n P1 T0.p;have hl:(fs.map fun (q:Addr×Int×Int)=>V.ref q.1).length=fs.length:=List.length_map _;refine⟨_,rfl,ga,_,rfl,.inl (SqL.of R1.lst),T1.l,fun fa H2 P2 tl2 la2 nfa=>fun H3 s3 cells=>?_⟩;have ot2:∀{t:Addr} {ls:List (Pos×Str)},Tab H1 t ls->t≠t_leash->Tab H2 t ls:=fun x n=>by
   obtain⟨ps,e,_⟩:=id T1.l;exact x.other e n P2
  have T2:T4 H2 t_hops_walk t_hops_fence t_put_in t_leash:=⟨⟨ot2 T1.h.w T0.lw.symm,ot2 T1.h.f T0.lf.symm,T0.h.ne⟩,ot2 T1.p T0.lp.symm,tl2,T0.pw,T0.pf,T0.lw,T0.lf,T0.lp⟩;have N2:aX H1 H2:=bY.n P2 T1.l;have T3:=T2.same s3;have N03:aX H H3:=(N1.trans N2).trans (aX.of s3);have N13:aX H1 H3:=N2.trans (aX.of s3);have c1:=cells (s.heap.objs.size+1,0) List.mem_cons_self (.ref l1) rfl;have c2:=cells (s.heap.objs.size+2,1) (List.mem_cons_of_mem _ List.mem_cons_self) (.ref l2) rfl;have c3:=cells (s.heap.objs.size+3,2) (List.mem_cons_of_mem _ (List.mem_cons_of_mem _ List.mem_cons_self)) (.str "hops") rfl;have c4:=cells (s.heap.objs.size+4,3) (List.mem_cons_of_mem _ (List.mem_cons_of_mem _ (List.mem_cons_of_mem _ List.mem_cons_self))) (.ref ga) rfl;have la3:=la2.same fun x ob e=>s3 _ _ e;have L13:=N03.line L1;have L23:=N03.line L2;have g3:=N13.l R1.lst;have wt:∀{a b:Int},0<b->(Wok qs rs a b↔TT qs rs*b≤a):=fun hb=>vy a1 b1 hb;have FN:Fb P w K mg base 9 (fun H'=>SmW t_hops_walk t_hops_fence H3 H'∧BI H' t_hops_walk t_hops_fence) fa (fs.map fun (q:Addr×Int×Int)=>V.ref q.1).length (hdL fs (TT qs rs)):=by
   have kn:∀{H':Hp} {b:Addr} {o:HO},SmW t_hops_walk t_hops_fence H3 H'->(∀ps,o≠.tbl ps)->H3 b=some o->H' b=some o:=fun sm n e=>sm _ _ (eS T3.h.w e n) (eS T3.h.f e n) e;refine⟨fun H' s'=>by obtain⟨o,fd,e,d⟩:=la3.obj;exact⟨o,fd,kn s'.1 nk e,d⟩,?_⟩;obtain⟨pm,cc,ct,ea,ck6⟩:=la3;have LN:Di "k" (bn laL) [("way",s.heap.objs.size+3),("rising",s.heap.objs.size+4),("other",s.heap.objs.size+2),("one",s.heap.objs.size+1)]:=by
    refine⟨rfl,rfl,rfl,by decide +kernel,rfl,by rfl,?_,fun p hp=>?_,fun p hp q hq e=>?_⟩
    ·show(["k","way","rising","other","one"]:List Str).Nodup
     decide +kernel
    ·simp only[List.mem_cons,List.not_mem_nil,or_false]at hp
     rcases hp with rfl|rfl|rfl|rfl <;> rfl
    ·simp only[List.mem_cons,List.not_mem_nil,or_false]at hp hq
     rcases hp with rfl|rfl|rfl|rfl <;> rcases hq with rfl|rfl|rfl|rfl <;> first|rfl|exact absurd (show @Eq Nat _ _ from e) (by omega)
   refine⟨_,⟨_,["k"],gO (P:=P) (w:=w) (K:=K) (mg:=mg) (base:=base) (x:="k") (q:=qL) (params:=fi laL) (body:=fh laL) (scope:=bn laL) (pm:=pm) (ctv:=ct) (f:=fa) (c:=cc) (k:=8) LN (fun A2 o2 s2 H2 hr2=>bq bG (aj (kQ (K:=K) rfl) (dk Ey (hr2.mono (by decide)) (by rfl) (aa (pv 4) (aa (pv 3) (aa (aj (mw (K:=K) rfl) (pv 2) (pv 0) (fun _ _=>rfl)) (aa (pv 1) ad))))) ac (fun _ _=>rfl)) bC (ar _)),.all fun us hl=>by obtain⟨_,rfl⟩:=dQ hl;rfl⟩,?_⟩;rintro H' i Q' ⟨sm,tb'⟩ hi kk;have cl:∀{c:Addr} {v:V},bO H3 c v->bO H' c v:=fun ⟨o,u,e,r⟩=>⟨o,u,kn sm nk e,r⟩;have cs:Paired (fun (p:Str×Addr) z=>bO H' p.2 z) [("way",s.heap.objs.size+3),("rising",s.heap.objs.size+4),("other",s.heap.objs.size+2),("one",s.heap.objs.size+1)] [.str "hops",.ref ga,.ref l2,.ref l1]:=.cons (cl c3) (.cons (cl c4) (.cons (cl c2) (.cons (cl c1) .nil)));have hC:=dU cs;have hCa:=qK cs;have CK:eB H' cc qL:=by
    obtain⟨o,vs,t,e,r⟩:=ck6;exact⟨o,vs,t,kn sm nk e,r⟩
   rw[hl]at hi;have hp:fs[i]? = some (fs[i]'hi):=List.getElem?_eq_getElem hi;generalize fs[i]'hi=p at hp;obtain⟨fp,lp,bp1,bp2⟩:=R1.fr p (List.mem_of_getElem? hp);have kl:∀{b:Addr} {xs:List V},H3 b=some (.lst xs)->cut ([("way",s.heap.objs.size+3),("rising",s.heap.objs.size+4),("other",s.heap.objs.size+2),("one",s.heap.objs.size+1)].map (·.2)) H' b=some (.lst xs):=fun e=>bV hC (kn sm nt e) (fun z q=>by cases q);have kt:∀{b:Addr} {xs:List V},H3 b=some (.tup xs)->cut ([("way",s.heap.objs.size+3),("rising",s.heap.objs.size+4),("other",s.heap.objs.size+2),("one",s.heap.objs.size+1)].map (·.2)) H' b=some (.tup xs):=fun e=>bV hC (kn sm nu e) (fun z q=>by cases q);have kL:∀{l:Addr} {qs:Crn},yi H3 l qs->yi (cut ([("way",s.heap.objs.size+3),("rising",s.heap.objs.size+4),("other",s.heap.objs.size+2),("one",s.heap.objs.size+1)].map (·.2)) H') l qs:=fun L=>⟨kl L.lst,fun q hq=>⟨kt (L.crn q hq).1,(L.crn q hq).2⟩⟩;have pn:0≤p.2.1:=by
    have:p.2∈cdV (crs qs) (crs rs):=(mG p.2).mp (List.mem_map.mpr ⟨p,List.mem_of_getElem? hp,rfl⟩);exact wA this
   refine⟨.int (i:Int),[.str "hops",.ref ga,.ref l2,.ref l1],rfl,kn sm nk ea,CK,cs,?_⟩;refine⟨_,rfl,_,rfl,_,rfl,_,rfl,ga,_,_,_,rfl,rfl,SqL.of (kl g3),dh (j:=i) (v:=.ref p.1) (by rw[List.getElem?_map,hp];rfl),_,rfl,l1,l2,p.1,qs,rs,p.2.1,p.2.2,rfl,kL L13,kL L23,q20,r20,⟨⟨kt (N13.t fp),bp1,bp2⟩,lp,pn⟩,⟨oO tb'.w hCa,oO tb'.f hCa,tb'.ne⟩,fun t r H4 ps nr ntt ntr sm4 tb4 pp alt=>?_⟩;have fin:∀(wd:Str),H4 t=some (.tup [.str wd,.ref r])->decide (V.str wd=V.str "walk")=hdL fs (TT qs rs) i->(Es K (.ref t) (.int 0) H4 fun x H5=>E8 x (.str "walk") H5 fun v H6=>(∀c∈([("way",s.heap.objs.size+3),("rising",s.heap.objs.size+4),("other",s.heap.objs.size+2),("one",s.heap.objs.size+1)]:List (Str×Addr)).map (·.2),H6 c=none)->Q' v (kC ([("way",s.heap.objs.size+3),("rising",s.heap.objs.size+4),("other",s.heap.objs.size+2),("one",s.heap.objs.size+1)].map (·.2)) H' H6)):=fun wd e4 ew=>by
    refine⟨t,_,_,_,rfl,rfl,SqT.of e4,rfl,rfl,fun hC1=>?_⟩;rw[ew];refine kk _ ⟨fun b o n1 n2 e=>?_,lH tb4.w hC1,lH tb4.f hC1,tb4.ne⟩;have e':=sm b o n1 n2 e
    by_cases z:b∈([("way",s.heap.objs.size+3),("rising",s.heap.objs.size+4),("other",s.heap.objs.size+2),("one",s.heap.objs.size+1)]:List (Str×Addr)).map (·.2)
    ·exact(iz z).trans e'
    ·exact(cH z).trans (sm4 b o n1 n2 ((bS z).trans e'))
   have hv:hdL fs (TT qs rs) i=decide (TT qs rs*p.2.2≤p.2.1):=by unfold hdL;rw[hp]
   rcases alt with⟨e4,hw⟩|⟨e4,hf⟩
   ·refine fin "walk" e4 ?_
    rw[hv,decide_eq_true ((wt lp.pos).mp (sj hw))];rfl
   ·refine fin "fence" e4 ?_
    rw[hv,decide_eq_false fun z=>j4 hf.1 ((wt lp.pos).mpr z)];rfl
  refine⟨fa,_,hdL fs (TT qs rs),_,rfl,⟨fun b o _ _ e=>e,T3.h⟩,FN,fun i j h hj=>su R1 i j h (by rw[<- hl];exact hj),fun m H4 ⟨sm4,tb4⟩ m1 m2 m3 H5 k1 k2=>?_⟩;rw[hl]at m1 m3;have sm5:SmW t_hops_walk t_hops_fence H2 H5:=fun b o n1 n2 e=>k2 b o e (sm4 b o n1 n2 (s3 _ _ e));have tb5:BI H5 t_hops_walk t_hops_fence:=⟨lI tb4.w k1,lI tb4.f k1,tb4.ne⟩;have N25:aX H2 H5:=fun b o e n=>sm5 b o (eS T2.h.w e n) (eS T2.h.f e n) e;have T5:T4 H5 t_hops_walk t_hops_fence t_put_in t_leash:=⟨tb5,ir T2.p T2.h T0.pw T0.pf sm5,ir T2.l T2.h T0.lw T0.lf sm5,T0.pw,T0.pf,T0.lw,T0.lf,T0.lp⟩;have N05:aX H H5:=(N1.trans N2).trans N25;have N15:aX H1 H5:=N2.trans N25;obtain⟨z,hz,ez⟩:∃z,fs[m]? = some z∧z.2=(TT qs rs,1):=by
   have mm:=(mG (TT qs rs,1)).mpr (uZ a1 b1).1;obtain⟨y,hy,ey⟩:=List.mem_map.mp mm;obtain⟨j,hj⟩:=List.getElem?_of_mem hy;have jl:=(List.getElem?_eq_some_iff.mp hj).1;have hdj:hdL fs (TT qs rs) j=true:=by
    unfold hdL;rw[hj];simp[ey]
   have mj:m≤j:=by
    by_cases c:m≤j
    ·exact c
    ·have:=m2 j (by omega)
     rw[hdj]at this;cases this
   by_cases e:m=j
   ·rw[e]
    exact⟨y,hj,ey⟩
   ·exfalso
    have hm:fs[m]? = some (fs[m]'(by omega)):=List.getElem?_eq_getElem (by omega);have up:ltF (fs[m]'(by omega)) (fs[j]'jl):=List.pairwise_iff_getElem.mp R1.up m j (by omega) jl (by omega);rw[(List.getElem?_eq_some_iff.mp hj).2]at up;have hd:=m3 m (Nat.le_refl _) (by omega);unfold hdL at hd;rw[hm]at hd;simp only[decide_eq_true_eq]at hd;unfold ltF at up;rw[ey]at up;dsimp only at up;omega
  have fz:=R1.fr z (List.mem_of_getElem? hz);rw[ez]at fz;have z5:=N15.t fz.1;have L15:=N05.line L1;have L25:=N05.line L2;have sq5:Sq H5 z.1 (TT qs rs) 1:=⟨z5,fz.2.2.1,fz.2.2.2⟩;have pos1:0≤TT qs rs:=(uZ a1 b1).2;refine⟨_,rfl,_,rfl,ga,_,_,_,rfl,rfl,SqL.of (N15.l R1.lst),dh (j:=m) (v:=.ref z.1) (by rw[List.getElem?_map,hz];rfl),?_⟩;refine⟨_,rfl,_,rfl,_,rfl,_,rfl,_,rfl,l1,l2,z.1,qs,rs,TT qs rs,1,rfl,L15,L25,q20,r20,⟨sq5,fz.2.1,pos1⟩,tb5,fun t r H6 ps nr ntt ntr sm6 tb6 pp alt=>?_⟩;have N56:aX H5 H6:=fun b o e n=>sm6 b o (eS tb5.w e n) (eS tb5.f e n) e;obtain⟨e6,hw⟩:H6 t=some (.tup [.str "walk",.ref r])∧ip (aK qs) (aK rs) (cW qs rs (TT qs rs) 1 0) ps:=by
   rcases alt with h|⟨_,hf⟩
   ·exact h
   ·exact absurd ((wt (by decide)).mpr (by omega)) (j4 hf.1)
  have L16:=N56.line L15;have L26:=N56.line L25;refine⟨t,_,_,_,rfl,rfl,SqT.of e6,rfl,_,rfl,_,rfl,_,rfl,_,rfl,l1,l2,z.1,qs,rs,TT qs rs,1,rfl,L16,L26,q20,r20,⟨N56.t z5,fz.2.2.1,fz.2.2.2⟩,tb6.f,qU a1 b1,fun f H7 gs nf P7 tf7 pf hf=>?_⟩;have T6:T4 H6 t_hops_walk t_hops_fence t_put_in t_leash:=⟨tb6,ir T5.p tb5 T0.pw T0.pf sm6,ir T5.l tb5 T0.lw T0.lf sm6,T0.pw,T0.pf,T0.lw,T0.lf,T0.lp⟩;have ot7:∀{t:Addr} {ls:List (Pos×Str)},Tab H6 t ls->t≠t_hops_fence->Tab H7 t ls:=fun x n=>by
   obtain⟨ps,e,_⟩:=id tb6.f;exact x.other e n P7
  have T7:T4 H7 t_hops_walk t_hops_fence t_put_in t_leash:=⟨⟨ot7 tb6.w T0.h.ne,tf7,T0.h.ne⟩,ot7 T6.p T0.pf,ot7 T6.l T0.lf,T0.pw,T0.pf,T0.lw,T0.lf,T0.lp⟩;have N67:aX H6 H7:=bY.n P7 tb6.f;have N07:aX H H7:=(N05.trans N56).trans N67;refine⟨sz (by simp),fun tt H8 s8 f8 n8=>?_⟩;have N8:=aX.of s8;have fr:∀{x:Addr},H5 x=none->H x=none:=fun {x} h=>cQ P1 tp1 (cQ P2 tl2 (sB sm5 T2.h tb5 h));exact k tt z.1 r f ps gs H8 (N07.trans N8) (T7.same s8) f8 (N8.t (N67.t (N56.t z5))) ((gj N67 pp).mono s8) (pf.mono s8) (fr nr) (fr (sB sm6 tb5 tb6 nf)) (fun q=>by rw[<- q,pp.lst]at nf;cases nf) hw hf
def Pol(H:Hp)(p:Addr):Prop:=∃n:Int,H p=some (.lst [.int n])
theorem Pol.same{H H':Hp}{p:Addr}(h:Pol H p)(s:Same H H'):Pol H' p:=by
 obtain⟨n,e⟩:=h;exact⟨n,s _ _ e⟩
theorem Pol.ne{H:Hp}{p q:Addr}(h:Pol H p)(n:H q=none):q≠p:=by
 obtain⟨m,e⟩:=h;exact(aE e n).symm
theorem Pol.t{H H':Hp}{p:Addr}(h:Pol H p)(b:But p H H'):SameT H H':=fun c xs e=>b c _ (fun z=>by
 obtain⟨m,e'⟩:=h;rw[z,e']at e;cases e) e
inductive Dn (K:W.Frag) (vs:List V) (H:Hp) (Q:VK) (x_3:XK):Prop
 | mk:∀(sa:Addr) (ss:List Int) (k:Int),(vs = [.ref sa,.int k])->(SqL K H sa (ss.map V.int))->((0≤k∧k≤1000))->(∀(p:Addr) H',Same H H'->H p=none->Pol H' p->Q (.ref p) H')->Dn K vs H Q x_3
inductive BD (vs:List V) (H:Hp) (Q:VK) (x_3:XK):Prop
 | mk:∀(p:Addr) (m:Int),(vs = [.ref p,.int m])->(Pol H p)->((0<m∧ao m≤8000))->(∀(r:Int) H',0≤r->r<m->But p H H'->Pol H' p->Q (.int r) H')->BD vs H Q x_3
inductive Du (vs:List V) (H:Hp) (Q:VK) (x_3:XK):Prop
 | mk:∀(p:Addr) (k:Int),(vs = [.ref p,.int k])->(Pol H p)->(∀(q:Addr×Int×Int) H',But p H H'->Pol H' p->H q.1=none->H' q.1=some (.tup [.int q.2.1,.int q.2.2])->Sm q.2.1->Sm q.2.2->Q (.ref q.1) H')->Du vs H Q x_3
inductive DM (vs:List V) (H:Hp) (Q:VK) (x_3:XK):Prop
 | mk:∀(p:Addr) (m:Int),(vs = [.ref p,.int m])->(Pol H p)->((1≤m∧m≤10))->(∀(l:Addr) (qs:Crn) H',But p H H'->Pol H' p->H l=none->yi H' l qs->1≤qs.length->(qs.length:Int)≤m->Q (.ref l) H')->DM vs H Q x_3
inductive D4 (vs:List V) (H:Hp) (Q:VK) (x_3:XK):Prop
 | mk:∀(p l0:Addr) (qs0:Crn) (m:Int),(vs = [.ref p,.ref l0,.int m])->(Pol H p)->(yi H l0 qs0)->(l0≠p)->((1≤qs0.length∧(qs0.length:Int)≤m))->((1≤m∧m≤10))->(∀(l:Addr) (qs:Crn) H',But p H H'->Pol H' p->H l=none->yi H' l qs->1≤qs.length->(qs.length:Int)≤m->Q (.ref l) H')->D4 vs H Q x_3
theorem uN{n:Nat}{lo:Int}{fv:List (Str×Nat)}{te:TE}{σ:St}{H1:Hp}{Q:VK}{p:Addr}(hlen:n<1000)(hp:Pol H1 p)(R:Nat->V->Hp->Prop)(hR:∀i v H H',SameT H H'->R i v H->R i v H')
  (hs:∀i H2 (Kc:VK),i<n->But p H1 H2->Pol H2 p->(∀y H4,But p H2 H4->Pol H4 p->R i y H4->Kc y H4)->te (some (.int (lo+i))::fvs fv σ) H2 Kc)
  (hd:∀l ys H',H1 l=none->But p H1 H'->Pol H' p->H' l=some (.lst ys)->ys.length=n->(∀i y,ys[i]? = some y->R i y H')->Q (.ref l) H') :
  oI (Itr lo n) fv te σ H1 Q:=by
 intro l hl;have ne:=hp.ne hl;have pu:∀{H:Hp} {ys:List V},Pol H p->Pol (upd H l (.lst ys)) p:=fun ⟨m,e⟩=>⟨m,by rw[aN ne.symm];exact e⟩;refine oC (n:=n) (lo:=lo) (l:=l) (fv:=fv) (Qp:=fun H2=>Q (.ref l) H2) (fun i acc H2=>acc.length=i∧But p H1 H2∧Pol H2 p∧H2 l=some (.lst acc)∧∀j y,acc[j]? = some y->R j y H2)
  ⟨rfl,But.of (Same.new hl),pu hp,upd_same,fun j y h=>by simp at h⟩ ?_ ?_ ?_
 ·rintro i acc H2 hi ⟨e1,bt,po,e3,_⟩
  exact⟨e3,bZ (by omega)⟩
 ·rintro i acc H2 Kc hx ⟨e1,bt,po,e3,hr⟩ kk
  refine hs i H2 Kc hx bt po fun y H4 b4 p4 ry=>kk y H4 (b4 _ _ ne e3) ⟨by simp[e1],fun c o n e=>?_,pu p4,upd_same,fun j z hz=>?_⟩
  ·rw[aN (aE e hl)]
   exact b4 c o n (bt c o n e)
  have t4:=SameT.upd (ys:=acc++[y]) (b4 _ _ ne e3);rcases Nat.lt_trichotomy j acc.length with h|h|h
  ·rw[List.getElem?_append_left h]at hz
   exact hR _ _ _ _ ((po.t b4).trans t4) (hr j z hz)
  ·subst h
   rw[List.getElem?_append_right (Nat.le_refl _),Nat.sub_self]at hz;cases hz;rw[e1];exact hR _ _ _ _ t4 ry
  ·rw[List.getElem?_eq_none (by simp;omega)]at hz
   cases hz
 ·rintro acc H2 ⟨e1,bt,po,e3,hr⟩
  exact hd l acc H2 hl bt po e3 e1 hr
theorem yG:yc ["script","k","cell","number","found","turn"] ["script","k"] (af (top 124)):=smk
theorem mI(Bh:Df K mg "_law_pool" (top 124))(T:Txt mg):Fn P w K mg base "_law_pool" ["script","k"] 1 (Dn K):=by
 refine Bh.fn yG (fun _ _ _ _ _ _ us hl=>by obtain⟨_,_,rfl⟩:=cI hl;rfl) (fun vs H Q E h=>?_) (fun f cdv A outer s H vs Q E hr h=>?_)
 ·obtain⟨sa,ss,k,rfl,_⟩:=h
  rfl
 ·obtain⟨sa,ss,k,rfl,hS,⟨h0,h1⟩,q⟩:=h
  have R:∃u,PSs (aZ CX0 P w K mg base ["script","k","cell","number","found","turn"] "_law_pool" (af (top 124)) f cdv A outer s H E).nox ((aH (top 124)).drop 2) u∧∀(c:Int) (z3 z4 z5:Option V),u { nx:=fun _ H'=>Q .non H',rt:=Q } [some (.ref sa),some (.int k),some (.int c),z3,z4,z5] H:=by
   refine⟨_,(ae (aM (aq lY (pv 2) (am fS ac ac) (ar _)) (ag (ak (bE (aa (am d5 (pv 2) (am aF (am aF (am fS ac ac) (am fS ac ac)) (am fS ac ac))) ad)))) aA) (ae (aw (i:=3) yG.nd rfl (Or.inl rfl) (am d5 (am a8 (am a8 (am a8 (pv 2) (am aF (am aF ac (pv 1)) (pv 1))) (am aF ac (pv 1))) ac) ac)) (ae (aw (i:=4) yG.nd rfl (Or.inl rfl) ac) (ae (cB PassesOwn.never rfl (gL rfl T.z_range (aa ac ad)) (aP (i:=5) yG.nd rfl (Or.inl rfl)) (ae (aw (i:=3) yG.nd rfl (Or.inl rfl) (am d5 (am a8 (am a8 (am aF (pv 3) ac) (am aF ac (pv 5))) ac) ac)) (ae (aw (i:=3) yG.nd rfl (Or.inl rfl) (am d5 (am aF (pv 3) (pv 3)) ac)) (ag (aw (i:=4) yG.nd rfl (Or.inl rfl) (am a8 (am aF (pv 4) ac) (am d5 (am a8 (am aF (pv 3) ac) (pv 1)) ac))))))) (ag (ak (bE (aa (pv 4) ad)))))))),fun c z3 z4 z5=>?_⟩;refine⟨_,rfl,_,_,rfl,rfl,⟨by decide,by decide,by decide⟩,_,_,rfl,rfl,_,rfl,aW (fun c1=>?_) (fun c1=>?_)⟩
   ·refine⟨_,rfl,_,_,rfl,rfl,⟨by decide,by decide⟩,_,_,rfl,rfl,⟨by decide,by decide⟩,_,_,rfl,rfl,CM.b (m:=400) (n:=400) (by decide) (by decide) (by decide) (by decide),_,_,rfl,rfl,⟨by decide,by decide⟩,_,_,rfl,rfl,CM.b (m:=800) (n:=400) (by decide) (by decide) (by decide) (by decide),_,_,rfl,rfl,(by show(0:Int)<10^60*10^60*10^60;decide +kernel),sz (by simp),fun p H2 s2 f2 n2=>q p H2 s2 n2 ⟨_,f2⟩⟩
   refine⟨_,rfl,_,rfl,_,_,rfl,rfl,CM.l ⟨by decide,by decide⟩,_,rfl,_,_,rfl,rfl,CM.r (vo (by omega) (by omega)),_,_,rfl,rfl,_,rfl,_,_,rfl,rfl,CM.l ⟨by decide,by decide⟩,_,_,rfl,rfl,_,_,rfl,rfl,_,_,rfl,rfl,(by show(0:Int)<2147483647;decide),?_⟩;have r0:=Int.emod_nonneg (c+104729*k*k+7*k+11) (show(2147483647:Int)≠0 by decide);have r1:=Int.emod_lt_of_pos (c+104729*k*k+7*k+11) (show(0:Int)<2147483647 by decide);refine⟨12,rfl,by decide,by decide,fk (n:=12) (lo:=0) (fun i σ H2=>∃(n f:Int) (z:Option V),σ = [some (.ref sa),some (.int k),some (.int c),some (.int n),some (.int f),z]∧(0≤n∧n<2147483647)∧H2=H) ⟨_,_,_,rfl,⟨r0,r1⟩,rfl⟩ ?_ ?_⟩
   ·rintro i σ H2 hi ⟨n,f,z,rfl,⟨n0,n1⟩,rfl⟩
    refine⟨_,rfl,_,_,rfl,rfl,CM.r ⟨by decide,by decide⟩,_,rfl,_,_,rfl,rfl,CM.l ⟨by decide,by decide⟩,_,_,rfl,rfl,_,_,rfl,rfl,_,_,rfl,rfl,(by show(0:Int)<2147483629;decide),?_⟩;have m0:=Int.emod_nonneg (n*48271+7919*(0+(i:Int))+3) (show(2147483629:Int)≠0 by decide);have m1:=Int.emod_lt_of_pos (n*48271+7919*(0+(i:Int))+3) (show(0:Int)<2147483629 by decide);refine⟨_,rfl,_,rfl,_,_,rfl,rfl,CM.l (by rw[show(2:Int)^64=18446744073709551616 by decide];omega),_,_,rfl,rfl,(by show(0:Int)<2147483587;decide),?_⟩;dsimp only;generalize hn:(n*48271+7919*(0+(i:Int))+3) % 2147483629=a;have k0:=Int.emod_nonneg (a*a) (show(2147483587:Int)≠0 by decide);have k1:=Int.emod_lt_of_pos (a*a) (show(0:Int)<2147483587 by decide);refine⟨_,rfl,_,_,rfl,rfl,CM.r ⟨by decide,by decide⟩,_,rfl,_,_,rfl,rfl,CM.r ⟨by decide,by decide⟩,_,rfl,_,_,rfl,rfl,_,_,rfl,rfl,(by show(0:Int)<2147483587;decide),_,_,rfl,rfl,_,_,_,rfl,⟨k0,by omega⟩,rfl⟩
   ·rintro σ H2 ⟨n,f,z,rfl,_,rfl⟩
    exact⟨_,rfl,sz (by simp),fun p H3 s3 f3 n3=>q p H3 s3 n3 ⟨_,f3⟩⟩
  obtain⟨u,hu,ru⟩:=R;refine⟨_,(ae (aw (i:=2) yG.nd rfl (Or.inl rfl) ac) (ae (aM (aq dq (pv 1) (aJ aL (by rfl) T.z_len bP (aa (pv 0) ad)) (ar _)) (ag (aw (i:=2) yG.nd rfl (Or.inl rfl) (aj aQ (pv 0) (pv 1) (fun _ _=>rfl)))) aA) hu)),?_⟩;refine⟨_,rfl,_,rfl,sa,_,rfl,.inl hS,_,_,rfl,rfl,_,rfl,aW (fun h1=>?_) (fun h1=>?_)⟩
  ·have h1:k<(((ss.map V.int).length:Nat):Int):=ej h1
   rw[List.length_map]at h1;exact⟨_,rfl,_,rfl,sa,_,_,_,rfl,rfl,hS,wG k.toNat (by omega) (by omega),ru _ _ _ _⟩
  ·exact ru _ _ _ _
theorem Cj:yc ["pool","many","digit"] ["pool","many"] (af (top 125)):=smk
theorem mF(Bf:Df K mg "_law_take" (top 125)):Fn P w K mg base "_law_take" ["pool","many"] 1 BD:=by
 refine Bf.fn Cj (fun _ _ _ _ _ _ us hl=>by obtain⟨_,_,rfl⟩:=cI hl;rfl) (fun vs H Q E h=>?_) (fun f cdv A outer s H vs Q E hr h=>?_)
 ·obtain⟨p,m,rfl,_⟩:=h
  rfl
 ·obtain⟨p,m,rfl,⟨n,e⟩,⟨hm,bm⟩,q⟩:=h
  refine⟨_,(ae (aw (i:=2) Cj.nd rfl (Or.inl rfl) (am d5 (aj aQ (pv 0) ac (fun _ _=>rfl)) (pv 1))) (ae (iV (am gk (aj aQ (pv 0) ac (fun _ _=>rfl)) (pv 1)) (vX (pv 0) ac pS)) (ag (ak (pv 2))))),?_⟩;refine⟨_,rfl,p,_,_,_,rfl,rfl,SqL.of e,rfl,_,rfl,_,_,rfl,rfl,hm,?_⟩;refine⟨_,rfl,p,_,_,_,rfl,rfl,SqL.of e,rfl,_,rfl,_,_,rfl,rfl,⟨hm,bm⟩,_,rfl,p,_,_,0,rfl,rfl,e,rfl,fun H2 u=>?_⟩;exact⟨_,rfl,q _ _ (Int.emod_nonneg _ (by omega)) (Int.emod_lt_of_pos _ hm) (fun b o nb e=>u.at nb e) ⟨_,u.now⟩⟩
theorem Bx:yc ["pool","kind","most"] ["pool","kind"] (af (top 126)):=smk
theorem jK(AA:Df K mg "_law_corner" (top 126))(yf:Fn P w K mg base "_law_take" ["pool","many"] 1 BD):Fn P w K mg base "_law_corner" ["pool","kind"] 2 Du:=by
 refine AA.fn Bx (fun _ _ _ _ _ _ us hl=>by obtain⟨_,_,rfl⟩:=cI hl;rfl) (fun vs H Q E h=>?_) (fun f cdv A outer s H vs Q E hr h=>?_)
 ·obtain⟨p,kd,rfl,_⟩:=h
  rfl
 ·obtain⟨p,kd,rfl,po,k⟩:=h
  refine⟨_,(ae (aM (aq bG (pv 1) ac (ar _)) (ag (ak (aG (aa (am aS (az yf (hr.mono (by decide)) (by rfl) (aa (pv 0) (aa ac ad))) ac) (aa (am aS (az yf (hr.mono (by decide)) (by rfl) (aa (pv 0) (aa ac ad))) ac) ad))))) aA) (ae (aM (aq bG (pv 1) ac (ar _)) (ag (ak (aG (aa (az yf (hr.mono (by decide)) (by rfl) (aa (pv 0) (aa ac ad))) (aa ac ad))))) aA) (ae (aM (aq bG (pv 1) ac (ar _)) (ag (ak (aG (aa (am aS (az yf (hr.mono (by decide)) (by rfl) (aa (pv 0) (aa ac ad))) ac) (aa (am aS (az yf (hr.mono (by decide)) (by rfl) (aa (pv 0) (aa ac ad))) ac) ad))))) aA) (ae (aw (i:=2) Bx.nd rfl (Or.inl rfl) (am aS (am fS ac ac) ac)) (ag (ak (aG (aa (am aS (az yf (hr.mono (by decide)) (by rfl) (aa (pv 0) (aa (am a8 (am aF ac (pv 2)) ac) ad))) (pv 2)) (aa (am aS (az yf (hr.mono (by decide)) (by rfl) (aa (pv 0) (aa (am a8 (am aF ac (pv 2)) ac) ad))) (pv 2)) ad))))))))),?_⟩;have e12:((10:Int)^(12:Int).toNat)=1000000000000:=by decide +kernel
  have fin:∀{H2:Hp} (x y:Int),But p H H2->Pol H2 p->Sm x->Sm y->∀(r:Addr) H3,Same H2 H3->H3 r=some (.tup [.int x,.int y])->H2 r=none->Q (.ref r) H3:=fun {H2} x y b2 p2 hx hy r H3 s3 f3 n3=>k (r,x,y) H3 (b2.trans (.of s3)) (p2.same s3) (b2.none (p2.ne n3) n3) f3 hx hy;refine⟨_,rfl,rfl,_,rfl,aW (fun c=>?_) (fun c=>?_)⟩
  ·refine⟨_,rfl,p,5,rfl,po,⟨by decide,by decide⟩,fun r1 H1 a1 b1 t1 p1=>⟨_,_,rfl,rfl,?_⟩⟩
   exact⟨_,rfl,p,5,rfl,p1,⟨by decide,by decide⟩,fun r2 H2 a2 b2 t2 p2=>⟨_,_,rfl,rfl,sz (by simp),fun r H3 s3 f3 n3=>fin (r1 - 2) (r2 - 2) (t1.trans t2) p2 (by unfold Sm gu;omega) (by unfold Sm gu;omega) r H3 s3 f3 n3⟩⟩
  refine⟨_,rfl,rfl,_,rfl,aW (fun c=>?_) (fun c=>?_)⟩
  ·exact⟨_,rfl,p,7,rfl,po,⟨by decide,by decide⟩,fun r1 H1 a1 b1 t1 p1=>⟨sz (by simp),fun r H3 s3 f3 n3=>fin r1 0 t1 p1 (by unfold Sm gu;omega) (by unfold Sm gu;omega) r H3 s3 f3 n3⟩⟩
  refine⟨_,rfl,rfl,_,rfl,aW (fun c=>?_) (fun c=>?_)⟩
  ·refine⟨_,rfl,p,41,rfl,po,⟨by decide,by decide⟩,fun r1 H1 a1 b1 t1 p1=>⟨_,_,rfl,rfl,?_⟩⟩
   exact⟨_,rfl,p,41,rfl,p1,⟨by decide,by decide⟩,fun r2 H2 a2 b2 t2 p2=>⟨_,_,rfl,rfl,sz (by simp),fun r H3 s3 f3 n3=>fin (r1 - 20) (r2 - 20) (t1.trans t2) p2 (by unfold Sm gu;omega) (by unfold Sm gu;omega) r H3 s3 f3 n3⟩⟩
  refine⟨_,_,rfl,rfl,⟨by decide,by decide,by decide⟩,_,_,rfl,rfl,?_⟩;dsimp only;rw[e12];refine⟨_,rfl,_,rfl,_,_,rfl,rfl,CM.l ⟨by decide,by decide⟩,_,_,rfl,rfl,p,_,rfl,po,⟨by decide,by decide⟩,fun r1 H1 a1 b1 t1 p1=>⟨_,rfl,_,_,rfl,rfl,?_⟩⟩;exact⟨_,rfl,_,rfl,_,_,rfl,rfl,CM.l ⟨by decide,by decide⟩,_,_,rfl,rfl,p,_,rfl,p1,⟨by decide,by decide⟩,fun r2 H2 a2 b2 t2 p2=>⟨_,rfl,_,_,rfl,rfl,sz (by simp),fun r H3 s3 f3 n3=>fin (r1 - (1000000000000 - 1)) (r2 - (1000000000000 - 1)) (t1.trans t2) p2 (by unfold Sm gu;omega) (by unfold Sm gu;omega) r H3 s3 f3 n3⟩⟩
theorem nq{H:Hp}:∀(ys:List V),(∀(i:Nat) y,ys[i]? = some y->∃q:Addr×Int×Int,y = .ref q.1∧H q.1=some (.tup [.int q.2.1,.int q.2.2])∧Sm q.2.1∧Sm q.2.2)->∃fs:Crn,ys=fs.map (fun (q:Addr×Int×Int)=>V.ref q.1)∧∀q∈fs,H q.1=some (.tup [.int q.2.1,.int q.2.2])∧Sm q.2.1∧Sm q.2.2
 | [],_=>⟨[],rfl,fun q h=>nomatch h⟩
 | y::ys,h=>by
  obtain⟨fs,e1,e2⟩:=nq ys fun i z hz=>h (i+1) z (by simpa using hz);obtain⟨q,rfl,q3⟩:=h 0 y rfl;refine⟨q::fs,by rw[e1];rfl,fun z hz=>?_⟩;rcases List.mem_cons.mp hz with rfl|hz
  ·exact q3
  ·exact e2 z hz
theorem A3:yc ["pool","most","kind","many"] ["pool","most"] (af (top 127)):=smk
theorem mK(Bj:Df K mg "_law_line" (top 127))(yf:Fn P w K mg base "_law_take" ["pool","many"] 1 BD)(As:Fn P w K mg base "_law_corner" ["pool","kind"] 2 Du)(T:Txt mg):Fn P w K mg base "_law_line" ["pool","most"] 3 DM:=by
 refine Bj.fn A3 (fun _ _ _ _ _ _ us hl=>by obtain⟨_,_,rfl⟩:=cI hl;rfl) (fun vs H Q E h=>?_) (fun f cdv A outer s H vs Q E hr h=>?_)
 ·obtain⟨p,m,rfl,_⟩:=h
  rfl
 ·obtain⟨p,m,rfl,po,⟨m1,m10⟩,k⟩:=h
  have CN:BC (aZ CX0 P w K mg base ["pool","most","kind","many"] "_law_line" (af (top 127)) f cdv A outer s H E).nox (Sp7.retScope ((aH (top 127)).getD 2 (.Pass ⟨0,0,0,0⟩))) [("pool",s.heap.objs.size+1),("kind",s.heap.objs.size+2)] "k" [("pool",0),("kind",2)] :=
   ⟨by rfl,rfl,by decide +kernel,by decide +kernel,rfl,(fun p hp=>by simp only[List.mem_cons,List.not_mem_nil,or_false]at hp;rcases hp with rfl|rfl <;> rfl),by rfl,by decide +kernel,(fun p hp=>by simp only[List.mem_cons,List.not_mem_nil,or_false]at hp;rcases hp with rfl|rfl <;> exact⟨rfl,rfl,.inr (.inl rfl),rfl,rfl⟩),⟨rfl,rfl⟩,rfl⟩
  refine⟨_,(ae (aw (i:=2) A3.nd rfl (Or.inr rfl) (aj aQ (bE (aa ac (aa ac (aa ac (aa ac (aa ac (aa ac (aa ac (aa ac ad))))))))) (az yf (hr.mono (by decide)) (by rfl) (aa (pv 0) (aa ac ad))) (fun _ _=>rfl))) (ae (aw (i:=3) A3.nd rfl (Or.inl rfl) (aJ (gZ rfl) (by rfl) T.z_min oE (aa (pv 1) (aa (aj aQ (bE (aa ac (aa ac (aa ac (aa ac (aa ac (aa ac (aa ac (aa ac ad))))))))) (az yf (hr.mono (by decide)) (by rfl) (aa (pv 0) (aa ac ad))) (fun _ _=>rfl)) ad)))) (ag (ak (gi rfl CN (gL rfl T.z_range (aa (pv 3) ad)) (fun fp s₀ H₀=>(az As (hr.mono (by decide)) (by rfl) (aa (pv 1) (aa (pv 2) ad))))))))),?_⟩;refine⟨sz (by simp),fun pl H1 s1 f1 n1=>?_⟩;refine⟨_,rfl,p,8,rfl,po.same s1,⟨by decide,by decide⟩,fun r2 H2 a2 b2' b2 p2=>?_⟩;refine vn (fun _=>True) (b2 _ _ (po.ne n1) f1) a2 (by simpa using b2') (fun v hv=>?_) fun kd _=>?_
  ·simp only[List.mem_cons,List.not_mem_nil,or_false]at hv
   rcases hv with rfl|rfl|rfl|rfl|rfl|rfl|rfl|rfl <;> exact⟨_,rfl,trivial⟩
  refine⟨_,rfl,sz (by simp),fun pl2 H3 s3 f3 n3=>?_⟩;refine⟨_,rfl,p,8,rfl,p2.same s3,⟨by decide,by decide⟩,fun r4 H4 a4 b4' b4 p4=>?_⟩;refine vn (fun m=>1≤m∧m≤10) (b4 _ _ (p2.ne n3) f3) a4 (by simpa using b4') (fun v hv=>?_) fun mm hm=>?_
  ·simp only[List.mem_cons,List.not_mem_nil,or_false]at hv
   rcases hv with rfl|rfl|rfl|rfl|rfl|rfl|rfl|rfl <;> exact⟨_,rfl,by decide,by decide⟩
  refine⟨_,_,rfl,?_⟩;have hn:1≤(if mm<m then mm else m)∧(if mm<m then mm else m)≤m∧(if mm<m then mm else m)≤10:=by split <;> omega
  dsimp only;generalize (if mm<m then mm else m)=n at hn ⊢
  have B4:But p H H4:=(But.of s1).trans (b2.trans ((But.of s3).trans b4));refine⟨_,rfl,_,rfl,by omega,by omega,uN (n:=n.toNat) (lo:=0) (p:=p) (by omega) p4 (fun _ v H'=>∃q:Addr×Int×Int,v = .ref q.1∧H' q.1=some (.tup [.int q.2.1,.int q.2.2])∧Sm q.2.1∧Sm q.2.2) (fun i v H H' st ⟨q,e1,e2,e3⟩=>⟨q,e1,st _ _ e2,e3⟩) ?_ ?_⟩
  ·intro i H5 Kc hi b5 p5 kk
   exact⟨_,rfl,_,rfl,p,kd,rfl,p5,fun q H6 b6 p6 n6 f6 h1 h2=>kk _ H6 b6 p6 ⟨q,rfl,f6,h1,h2⟩⟩
  ·intro l ys H5 nl b5 p5 f5 hl hr
   obtain⟨fs,rfl,h2⟩:=nq ys hr;rw[List.length_map]at hl;exact k l fs H5 (B4.trans b5) p5 (B4.none (p4.ne nl) nl) ⟨f5,h2⟩ (by omega) (by omega)
theorem dO{H H':Hp}{l q:Addr}{qs:Crn}{x y:Int}(L:yi H l qs)(f:H q=some (.tup [.int x,.int y]))(hx:Sm x)(hy:Sm y)(u:Ce H H' l (qs.map fun (q:Addr×Int×Int)=>V.ref q.1) ((qs.map fun (q:Addr×Int×Int)=>V.ref q.1)++[.ref q])):yi H' l (qs++[(q,x,y)]):=by
 refine⟨by rw[u.now,List.map_append];rfl,fun z hz=>?_⟩;rcases List.mem_append.mp hz with h|h
 ·exact⟨u.t _ _ (L.crn z h).1,(L.crn z h).2⟩
 ·rw[List.mem_singleton.mp h]
  exact⟨u.t _ _ f,hx,hy⟩
theorem dW{p r:Addr}{H H1 H2:Hp}{xs ys:List V}(b:But p H H1)(n:H r=none)(u:Ce H1 H2 r xs ys):But p H H2:=fun c o nc e=>u.at (aE e n) (b c o nc e)
theorem eZ{p r:Addr}{H1 H2:Hp}{xs ys:List V}(h:Pol H1 p)(n:r≠p)(u:Ce H1 H2 r xs ys):Pol H2 p:=by
 obtain⟨m,e⟩:=h;exact⟨m,u.at n.symm e⟩
theorem bL{p l:Addr}{H H':Hp}{qs:Crn}(L:yi H l qs)(b:But p H H')(h:Pol H p)(n:p≠l):yi H' l qs:=⟨b _ _ n.symm L.lst,fun q hq=>⟨h.t b _ _ (L.crn q hq).1,(L.crn q hq).2⟩⟩
theorem yF:yc ["pool","line","most","way","found","x","y"] ["pool","line","most"] (af (top 128)):=smk
theorem jJ(Az:Df K mg "_law_second" (top 128))(yf:Fn P w K mg base "_law_take" ["pool","many"] 1 BD)(y7:Fn P w K mg base "_law_line" ["pool","most"] 3 DM)(T:Txt mg):Fn P w K mg base "_law_second" ["pool","line","most"] 4 D4:=by
 refine Az.fn yF (fun _ _ _ _ _ _ us hl=>by obtain⟨_,_,_,rfl⟩:=dP hl;rfl) (fun vs H Q E h=>?_) (fun f cdv A outer s H vs Q E hr h=>?_)
 ·obtain⟨p,l0,qs0,m,rfl,_⟩:=h
  rfl
 ·obtain⟨p,l0,qs0,m,rfl,po,L0,n0,⟨l1,lm⟩,⟨m1,m10⟩,k⟩:=h
  refine⟨_,(ae (aw (i:=3) yF.nd rfl (Or.inl rfl) (az yf (hr.mono (by decide)) (by rfl) (aa (pv 0) (aa ac ad)))) (ae (aM (aq dq (pv 3) ac (ar _)) (ag (ak (az y7 (hr.mono (by decide)) (by rfl) (aa (pv 0) (aa (pv 2) ad))))) aA) (ae (aM (aq bG (pv 3) ac (ar _)) (ag (ak (pX (pv 1) (iA (iY fO ac))))) aA) (ae (aw (i:=4) yF.nd rfl (Or.inl rfl) (bE ad)) (ae (cB PassesOwn.never rfl (cF (pv 1)) (dX rfl (bh (aP (i:=5) yF.nd rfl (Or.inl rfl)) (bh (aP (i:=6) yF.nd rfl (Or.inl rfl)) dr))) (ae (aM (cZ (aq dq (aJ eX (by rfl) T.z_abs ju (aa (pv 5) ad)) (am aS (am fS ac ac) ac) (ar _)) (cU (aq dq (aJ eX (by rfl) T.z_abs ju (aa (pv 6) ad)) (am aS (am fS ac ac) ac) (ar _)))).pt (ae (aw (i:=5) yF.nd rfl (Or.inl rfl) (am aS (am a8 (pv 5) (az yf (hr.mono (by decide)) (by rfl) (aa (pv 0) (aa ac ad)))) ac)) (ag (aw (i:=6) yF.nd rfl (Or.inl rfl) (am aS (am a8 (pv 6) (az yf (hr.mono (by decide)) (by rfl) (aa (pv 0) (aa ac ad)))) ac)))) aA) (ae (bI (eh PySem.F.plainAttrs_list PySem.F.slot_list_append PySem.F.type_list_append cS (pv 4) (aa (aG (aa (pv 5) (aa (pv 6) ad))) ad))) (ag (aM (cZ (aq bG (pv 3) ac (ar _)) (cZ (aq dq (aJ aL (by rfl) T.z_len bP (aa (pv 4) ad)) (pv 2) (ar _)) (cU (aq bG (az yf (hr.mono (by decide)) (by rfl) (aa (pv 0) (aa ac ad))) ac (ar _))))).pt (ag (bI (eh PySem.F.plainAttrs_list PySem.F.slot_list_append PySem.F.type_list_append cS (pv 4) (aa (aG (aa (pv 5) (aa (pv 6) ad))) ad)))) aA))))) (ag (ak (iZ iS (pv 4) kF (iA (pv 2)))))))))),?_⟩;have e12:((10:Int)^(12:Int).toNat - 2)=999999999998:=by decide +kernel
  have hl0:(qs0.map fun (q:Addr×Int×Int)=>V.ref q.1).length=qs0.length:=List.length_map _;refine⟨_,rfl,p,8,rfl,po,⟨by decide,by decide⟩,fun wy H1 a1 a2 b1 p1=>?_⟩;refine⟨_,rfl,_,_,rfl,rfl,_,rfl,aW (fun c1=>?_) (fun c1=>?_)⟩
  ·exact⟨_,rfl,_,rfl,p,m,rfl,p1,⟨m1,m10⟩,fun l qs H2 b2 p2 nl L h1 h2=>k l qs H2 (b1.trans b2) p2 (b1.none (p1.ne nl) nl) L h1 h2⟩
  have L1:=bL L0 b1 po n0.symm;refine⟨_,rfl,rfl,_,rfl,aW (fun c2=>?_) (fun c2=>?_)⟩
  ·refine⟨_,rfl,_,rfl,_,rfl,rfl,l0,_,rfl,SqL.of L1.lst,fun l H2 s2 f2 nl=>?_⟩
   refine k l qs0.reverse H2 (b1.trans (.of s2)) (p1.same s2) (b1.none (p1.ne nl) nl) ⟨by rw[f2,List.map_reverse],fun q hq=>((L1.mono s2).crn q (List.mem_reverse.mp hq))⟩ (by rw[List.length_reverse];exact l1) (by rw[List.length_reverse];exact lm)
  refine⟨sz (by simp),fun r H2 s2 f2 nr=>?_⟩;have n1:H r=none:=b1.none (p1.ne nr) nr;have npr:r≠p:=p1.ne nr;refine⟨_,rfl,l0,rfl,⟨_,SqL.of (s2 _ _ L1.lst)⟩,cJ (K:=K) (a:=l0) (xs:=qs0.map fun (q:Addr×Int×Int)=>V.ref q.1) (fun i σ H'=>∃(z5 z6:Option V) (qs:Crn),σ = [some (.ref p),some (.ref l0),some (.int m),some (.int wy),some (.ref r),z5,z6]∧But p H H'∧Pol H' p∧yi H' r qs∧i≤qs.length∧qs.length≤2*i)
   ⟨_,_,[],rfl,b1.trans (.of s2),p1.same s2,⟨f2,fun q h=>nomatch h⟩,Nat.le_refl _,Nat.le_refl _⟩ (fun i σ H' _ ⟨_,_,_,_,b,_⟩=>SqL.of (b _ _ n0 L0.lst)) ?_ ?_⟩
  ·rintro i v σ H3 hv ⟨z5,z6,qs,rfl,b3,p3,L3,g1,g2⟩
   rw[List.getElem?_map]at hv;obtain⟨u,hu,rfl⟩:=Option.map_eq_some_iff.mp hv;have iu:=(List.getElem?_eq_some_iff.mp hu).1;have cu:=(bL L0 b3 po n0.symm).crn u (List.mem_of_getElem? hu);obtain⟨x1,x2⟩:=cu.2.1;obtain⟨y1,y2⟩:=cu.2.2;unfold gu at x1 x2 y1 y2;refine⟨u.1,_,rfl,SqT.of cu.1,rfl,_,_,rfl,_,_,rfl,rfl,?_⟩;refine⟨_,rfl,_,rfl,_,_,rfl,rfl,⟨by decide,by decide,by decide⟩,_,_,rfl,rfl,_,_,rfl,rfl,_,rfl,aW (fun c3=>?_) (fun c3=>?_)⟩
   ·try dsimp only at c3
    rw[e12]at c3;have c3:(if u.2.1<0 then -u.2.1 else u.2.1)<999999999998:=ej c3
    refine⟨_,rfl,_,rfl,_,_,rfl,rfl,⟨by decide,by decide,by decide⟩,_,_,rfl,rfl,_,_,rfl,rfl,_,rfl,aW (fun c4=>?_) (fun c4=>?_)⟩
    ·try dsimp only at c4
     rw[e12]at c4;have c4:(if u.2.2<0 then -u.2.2 else u.2.2)<999999999998:=ej c4
     refine⟨_,rfl,_,rfl,p,3,rfl,p3,⟨by decide,by decide⟩,fun r4 H4 a4 a4' b4 p4=>⟨_,_,rfl,rfl,_,_,rfl,rfl,?_⟩⟩;refine⟨_,rfl,_,rfl,p,3,rfl,p4,⟨by decide,by decide⟩,fun r5 H5 a5 a5' b5 p5=>⟨_,_,rfl,rfl,_,_,rfl,rfl,?_⟩⟩
     try dsimp only
     have LL:=bL (bL L3 b4 p3 npr.symm) b5 p4 npr.symm;have BB:=(b3.trans b4).trans b5;have PP:=p5;have hX:Sm (u.2.1+r4 - 1):=by unfold Sm gu;split at c3 <;> omega
     have hY:Sm (u.2.2+r5 - 1):=by unfold Sm gu;split at c4 <;> omega
     refine⟨_,rfl,.inl ⟨rfl,_,SqL.of LL.lst⟩,_,rfl,_,rfl,sz (by simp),fun q HA sA fA nA=>?_⟩;have LA:=LL.mono sA;have bA:=BB.trans (But.of sA);refine⟨r,_,_,rfl,rfl,LA.lst,Nat.lt_of_lt_of_le (by rw[List.length_map];omega) (sz (n:=900) (by omega)),fun HB uB=>?_⟩;have LB:=dO LA fA hX hY uB;have bB:But p H HB:=dW bA n1 uB;have pB:Pol HB p:=eZ (PP.same sA) npr uB;refine⟨_,rfl,rfl,_,rfl,aW (fun d1=>?_) (fun d1=>?_)⟩
     ·refine⟨_,rfl,r,_,rfl,.inl (SqL.of LB.lst),_,rfl,_,_,rfl,rfl,_,rfl,aW (fun d2=>?_) (fun d2=>?_)⟩
      ·refine⟨_,rfl,p,3,rfl,pB,⟨by decide,by decide⟩,fun rC HC aC cC tC pC=>⟨rfl,_,rfl,aW (fun d3=>?_) (fun d3=>?_)⟩⟩
       ·have LC:=bL LB tC pB npr.symm
        refine⟨_,rfl,.inl ⟨rfl,_,SqL.of LC.lst⟩,_,rfl,_,rfl,sz (by simp),fun q2 HD sD fD nD=>?_⟩;have LD:=LC.mono sD;refine⟨r,_,_,rfl,rfl,LD.lst,Nat.lt_of_lt_of_le (by rw[List.length_map,List.length_append,List.length_singleton];omega) (sz (n:=900) (by omega)),fun HE uE=>?_⟩;exact⟨_,_,_,rfl,dW ((bB.trans tC).trans (But.of sD)) n1 uE,eZ (pC.same sD) npr uE,dO LD fD hX hY uE,by simp only[List.length_append,List.length_singleton];omega,by simp only[List.length_append,List.length_singleton];omega⟩
       ·exact⟨_,_,_,rfl,bB.trans tC,pC,bL LB tC pB npr.symm,by simp only[List.length_append,List.length_singleton];omega,by simp only[List.length_append,List.length_singleton];omega⟩
      ·exact⟨_,_,_,rfl,bB,pB,LB,by simp only[List.length_append,List.length_singleton];omega,by simp only[List.length_append,List.length_singleton];omega⟩
     ·exact⟨_,_,_,rfl,bB,pB,LB,by simp only[List.length_append,List.length_singleton];omega,by simp only[List.length_append,List.length_singleton];omega⟩
    ·try dsimp only
     have LL:=L3;have BB:=b3;have PP:=p3;have hX:Sm u.2.1:=by exact cu.2.1
     have hY:Sm u.2.2:=by exact cu.2.2
     refine⟨_,rfl,.inl ⟨rfl,_,SqL.of LL.lst⟩,_,rfl,_,rfl,sz (by simp),fun q HA sA fA nA=>?_⟩;have LA:=LL.mono sA;have bA:=BB.trans (But.of sA);refine⟨r,_,_,rfl,rfl,LA.lst,Nat.lt_of_lt_of_le (by rw[List.length_map];omega) (sz (n:=900) (by omega)),fun HB uB=>?_⟩;have LB:=dO LA fA hX hY uB;have bB:But p H HB:=dW bA n1 uB;have pB:Pol HB p:=eZ (PP.same sA) npr uB;refine⟨_,rfl,rfl,_,rfl,aW (fun d1=>?_) (fun d1=>?_)⟩
     ·refine⟨_,rfl,r,_,rfl,.inl (SqL.of LB.lst),_,rfl,_,_,rfl,rfl,_,rfl,aW (fun d2=>?_) (fun d2=>?_)⟩
      ·refine⟨_,rfl,p,3,rfl,pB,⟨by decide,by decide⟩,fun rC HC aC cC tC pC=>⟨rfl,_,rfl,aW (fun d3=>?_) (fun d3=>?_)⟩⟩
       ·have LC:=bL LB tC pB npr.symm
        refine⟨_,rfl,.inl ⟨rfl,_,SqL.of LC.lst⟩,_,rfl,_,rfl,sz (by simp),fun q2 HD sD fD nD=>?_⟩;have LD:=LC.mono sD;refine⟨r,_,_,rfl,rfl,LD.lst,Nat.lt_of_lt_of_le (by rw[List.length_map,List.length_append,List.length_singleton];omega) (sz (n:=900) (by omega)),fun HE uE=>?_⟩;exact⟨_,_,_,rfl,dW ((bB.trans tC).trans (But.of sD)) n1 uE,eZ (pC.same sD) npr uE,dO LD fD hX hY uE,by simp only[List.length_append,List.length_singleton];omega,by simp only[List.length_append,List.length_singleton];omega⟩
       ·exact⟨_,_,_,rfl,bB.trans tC,pC,bL LB tC pB npr.symm,by simp only[List.length_append,List.length_singleton];omega,by simp only[List.length_append,List.length_singleton];omega⟩
      ·exact⟨_,_,_,rfl,bB,pB,LB,by simp only[List.length_append,List.length_singleton];omega,by simp only[List.length_append,List.length_singleton];omega⟩
     ·exact⟨_,_,_,rfl,bB,pB,LB,by simp only[List.length_append,List.length_singleton];omega,by simp only[List.length_append,List.length_singleton];omega⟩
   ·try dsimp only
    have LL:=L3;have BB:=b3;have PP:=p3;have hX:Sm u.2.1:=by exact cu.2.1
    have hY:Sm u.2.2:=by exact cu.2.2
    refine⟨_,rfl,.inl ⟨rfl,_,SqL.of LL.lst⟩,_,rfl,_,rfl,sz (by simp),fun q HA sA fA nA=>?_⟩;have LA:=LL.mono sA;have bA:=BB.trans (But.of sA);refine⟨r,_,_,rfl,rfl,LA.lst,Nat.lt_of_lt_of_le (by rw[List.length_map];omega) (sz (n:=900) (by omega)),fun HB uB=>?_⟩;have LB:=dO LA fA hX hY uB;have bB:But p H HB:=dW bA n1 uB;have pB:Pol HB p:=eZ (PP.same sA) npr uB;refine⟨_,rfl,rfl,_,rfl,aW (fun d1=>?_) (fun d1=>?_)⟩
    ·refine⟨_,rfl,r,_,rfl,.inl (SqL.of LB.lst),_,rfl,_,_,rfl,rfl,_,rfl,aW (fun d2=>?_) (fun d2=>?_)⟩
     ·refine⟨_,rfl,p,3,rfl,pB,⟨by decide,by decide⟩,fun rC HC aC cC tC pC=>⟨rfl,_,rfl,aW (fun d3=>?_) (fun d3=>?_)⟩⟩
      ·have LC:=bL LB tC pB npr.symm
       refine⟨_,rfl,.inl ⟨rfl,_,SqL.of LC.lst⟩,_,rfl,_,rfl,sz (by simp),fun q2 HD sD fD nD=>?_⟩;have LD:=LC.mono sD;refine⟨r,_,_,rfl,rfl,LD.lst,Nat.lt_of_lt_of_le (by rw[List.length_map,List.length_append,List.length_singleton];omega) (sz (n:=900) (by omega)),fun HE uE=>?_⟩;exact⟨_,_,_,rfl,dW ((bB.trans tC).trans (But.of sD)) n1 uE,eZ (pC.same sD) npr uE,dO LD fD hX hY uE,by simp only[List.length_append,List.length_singleton];omega,by simp only[List.length_append,List.length_singleton];omega⟩
      ·exact⟨_,_,_,rfl,bB.trans tC,pC,bL LB tC pB npr.symm,by simp only[List.length_append,List.length_singleton];omega,by simp only[List.length_append,List.length_singleton];omega⟩
     ·exact⟨_,_,_,rfl,bB,pB,LB,by simp only[List.length_append,List.length_singleton];omega,by simp only[List.length_append,List.length_singleton];omega⟩
    ·exact⟨_,_,_,rfl,bB,pB,LB,by simp only[List.length_append,List.length_singleton];omega,by simp only[List.length_append,List.length_singleton];omega⟩
  ·rintro σ H3 ⟨z5,z6,qs,rfl,b3,p3,L3,g1,g2⟩
   rw[hl0]at g1 g2;refine⟨_,rfl,_,rfl,_,rfl,r,_,rfl,SqL.of L3.lst,fun l H4 s4 f4 nl=>?_⟩;obtain⟨j,hj⟩:∃j:Nat,m=(j:Int):=⟨m.toNat,by omega⟩;have e:js (qs.map fun (q:Addr×Int×Int)=>V.ref q.1) none (some m)=(qs.take j).map fun (q:Addr×Int×Int)=>V.ref q.1:=by
    unfold js;rw[hj,HT.sIx_nat,HT.sIx_none,List.length_map,List.drop_zero,Nat.sub_zero,<- List.map_take]
    congr 1
    rw[List.take_eq_take_iff];omega
   rw[e]at f4;refine k l (qs.take j) H4 (b3.trans (.of s4)) (p3.same s4) (b3.none (p3.ne nl) nl) ⟨f4,fun q hq=>((L3.mono s4).crn q (List.mem_of_mem_take hq))⟩ ?_ ?_
   ·rw[List.length_take]
    omega
   ·rw[List.length_take]
    omega
inductive Dq (vs:List V) (H:Hp) (Q:VK) (x_3:XK):Prop
 | mk:∀a:Int,(vs = [.int a])->(Q (.bl true) H)->Dq vs H Q x_3
inductive D3 (vs:List V) (H:Hp) (Q:VK) (x_3:XK):Prop
 | mk:∀a b:Int,(vs = [.int a,.int b])->(0≤b)->(Q (.int (Int.gcd a b:Int)) H)->D3 vs H Q x_3
inductive DO (vs:List V) (H:Hp) (Q:VK) (x_3:XK):Prop
 | mk:∀(p:Addr) (a b:Int),(vs = [.ref p])->(H p=some (.tup [.int a,.int b]))->(AI a b)->(Q (.bl true) H)->DO vs H Q x_3
inductive D6 (vs:List V) (H:Hp) (Q:VK) (x_3:XK):Prop
 | mk:∀(l p:Addr) (qs:Crn) (t b:Int),(vs = [.ref l,.ref p])->(LineAt H l qs)->((1≤qs.length∧qs.length≤20))->(H p=some (.tup [.int t,.int b]))->((0<b∧ao b≤1000))->((0≤t∧t≤((qs.length:Int) - 1)*b))->(ao t≤1000)->(∀(r:Addr) H',Same H H'->H' r=some (.tup [.int (ptX qs t b),.int (ptY qs t b),.int b])->Q (.ref r) H')->D6 vs H Q x_3
def apN(X Y b X' Y' b':Int):Int:=(X*b' - X'*b)*(X*b' - X'*b)+(Y*b' - Y'*b)*(Y*b' - Y'*b)
inductive Dw (vs:List V) (H:Hp) (Q:VK) (x_3:XK):Prop
 | mk:∀(p q:Addr) (X Y b X' Y' b':Int),(vs = [.ref p,.ref q])->(H p=some (.tup [.int X,.int Y,.int b]))->(H q=some (.tup [.int X',.int Y',.int b']))->((ao X≤1500∧ao Y≤1500∧ao b≤1500∧ao X'≤1500∧ao Y'≤1500∧ao b'≤1500))->(∀(r:Addr) H',Same H H'->H' r=some (.tup [.int (apN X Y b X' Y' b'),.int (b*b'*(b*b'))])->Q (.ref r) H')->Dw vs H Q x_3
theorem lT{H:Hp}{l:Addr}{qs:Crn}{t b:Int}(L:LineAt H l qs)(hb:0<b)(bb:ao b≤1000):ao (ptX qs t b)≤1500∧ao (ptY qs t b)≤1500:=by
 have br:ao (t % b)≤1000:=dC (Int.emod_nonneg _ (by omega)) (Int.le_of_lt (Int.emod_lt_of_pos _ hb)) bb;have nb:∀{x y:Int},ao x≤50->ao y≤50->ao (x*b+(y - x)*(t % b))≤1500:=fun hx hy=>ap (ce (n:=1051) (ap (bits_mul hx bb) (by decide)) (bits_mul (aO hy hx) br)) (by decide);exact⟨nb (bW L _).1 (bW L _).1,nb (bW L _).2 (bW L _).2⟩
theorem vh{qs:Crn}{t b:Int}{u:Addr×Int×Int}(h:qs[(t / b).toNat]? = some u):iT qs t b=u.2:=by
 unfold iT;rw[List.getD_eq_getElem?_getD,h];rfl
theorem vS{qs:Crn}{t b:Int}{v:Addr×Int×Int}(h:qs[(t / b).toNat+1]? = some v):jW qs t b=v.2:=by
 have:=(List.getElem?_eq_some_iff.mp h).1;unfold jW;rw[Nat.min_eq_left (by omega),List.getD_eq_getElem?_getD,h];rfl
theorem De:yc ["thing"] ["thing"] (af (top 129)):=smk
theorem kX(AS:Df K mg "_law_whole" (top 129))(T:Txt mg):Fn P w K mg base "_law_whole" ["thing"] 1 Dq:=by
 refine AS.fn De (fun _ _ _ _ _ _ us hl=>by obtain⟨_,rfl⟩:=dQ hl;rfl) (fun vs H Q E h=>?_) (fun f cdv A outer s H vs Q E hr h=>?_)
 ·obtain⟨a,rfl,_⟩:=h
  rfl
 ·obtain⟨a,rfl,k⟩:=h
  refine⟨_,(ag (ak (dw (aJ bJ (by rfl) T.z_isinstance be (aa (pv 0) (aa (fM T.z_int sY) ad))) (cV (i0 (aJ bJ (by rfl) T.z_isinstance be (aa (pv 0) (aa (fM T.z_bool pL) ad)))))))),?_⟩;refine⟨_,rfl,_,_,"int",rfl,Kn.int a,nice_int,?_⟩;refine⟨true,rfl,?_⟩;refine⟨_,rfl,_,_,"bool",rfl,Kn.int a,nice_bool,?_⟩;exact⟨_,rfl,k⟩
theorem Ai:yc ["a","b"] ["a","b"] (af (top 130)):=smk
theorem jI(Ay:Df K mg "_law_shared" (top 130))(T:Txt mg):Fn P w K mg base "_law_shared" ["a","b"] 1 D3:=by
 refine Ay.fn Ai (fun _ _ _ _ _ _ us hl=>by obtain⟨_,_,rfl⟩:=cI hl;rfl) (fun vs H Q E h=>?_) (fun f cdv A outer s H vs Q E hr h=>?_)
 ·obtain⟨a,b,rfl,_⟩:=h
  rfl
 ·obtain⟨a,b,rfl,hb,q⟩:=h
  refine⟨_,(ae (aw (i:=0) Ai.nd rfl (Or.inl rfl) (aJ eX (by rfl) T.z_abs ju (aa (pv 0) ad))) (ae (eO PassesOwn.never (aq dn (pv 1) ac (ar _)) (ag (rD (i:=0) (j:=1) rfl Ai.nd rfl rfl (by decide) rfl rfl (aa (pv 1) (aa (am d5 (pv 0) (pv 1)) ad)) (by rfl)))) (ag (ak (pv 0))))),?_⟩;refine⟨_,rfl,a,rfl,?_⟩;have ha:0≤(if a<0 then -a else a):=by split <;> omega
  have hgg:Int.gcd (if a<0 then -a else a) b=Int.gcd a b:=by
   split
   ·rw[Int.neg_gcd]
   ·rfl
  dsimp only;generalize (if a<0 then -a else a)=a' at ha hgg ⊢
  refine eE (fun σ H'=>∃x y:Int,σ = [some (.int x),some (.int y)]∧H'=H∧0≤x∧0≤y∧Int.gcd x y=Int.gcd a b)
   (fun σ _=>match σ with | [_,some (.int y)]=>y.toNat|_=>0) ⟨_,_,rfl,rfl,ha,hb,hgg⟩ ?_ ?_
  ·rintro σ H' ⟨x,y,rfl,rfl,hx,hy,hg⟩
   refine⟨_,rfl,rfl,_,rfl,aW (fun hc=>?_) (fun hc=>?_)⟩
   ·have hy0:¬y=0:=by simpa using hc
    have hy1:0<y:=by omega
    refine⟨_,rfl,_,rfl,_,rfl,x,y,rfl,rfl,hy1,_,_,rfl,⟨y,x % y,rfl,rfl,hy,Int.emod_nonneg _ hy0,?_⟩,?_⟩
    ·rw[mz hx hy1]
     exact hg
    ·have h1:=Int.emod_lt_of_pos x hy1
     have h2:=Int.emod_nonneg x hy0;show(x % y).toNat<y.toNat;omega
   ·have hy0:y=0:=by simpa using hc
    subst hy0;refine⟨_,rfl,?_⟩;have e:(Int.gcd a b:Int)=x:=by rw[<- hg,Int.gcd_zero];omega
    rw[e]at q;exact q
  ·rintro σ H' Q1 Q2 hq ⟨v,e,hs,k,ek,r⟩
   exact⟨v,e,hs,k,ek,hq _ _ r⟩
theorem Dy:yc ["a","b"] ["a","b"] (af (top 134)):=smk
theorem mL(Bk:Df K mg "_law_less" (top 134)):Fn P w K mg base "_law_less" ["a","b"] 1 Ag:=by
 refine Bk.fn Dy (fun _ _ _ _ _ _ us hl=>by obtain⟨_,_,rfl⟩:=cI hl;rfl) (fun vs H Q E h=>?_) (fun f cdv A outer s H vs Q E hr h=>?_)
 ·obtain⟨p,q,a,b,c,d,rfl,_⟩:=h
  rfl
 ·obtain⟨p,q,a,b,c,d,rfl,hp,hq,⟨ba,bb,bc,bd⟩,k⟩:=h
  refine⟨_,(ag (ak (bq dq (am aF (aj ah (pv 0) ac (fun _ _=>rfl)) (aj ah (pv 1) ac (fun _ _=>rfl))) (am aF (aj ah (pv 1) ac (fun _ _=>rfl)) (aj ah (pv 0) ac (fun _ _=>rfl))) (ar _)))),?_⟩
  walk_at "rd"
  exact k
theorem zO:yc ["here","there","left","down","bottom"] ["here","there"] (af (top 137)):=smk
theorem k9(AX:Df K mg "_law_apart" (top 137)):Fn P w K mg base "_law_apart" ["here","there"] 1 Dw:=by
 refine AX.fn zO (fun _ _ _ _ _ _ us hl=>by obtain⟨_,_,rfl⟩:=cI hl;rfl) (fun vs H Q E h=>?_) (fun f cdv A outer s H vs Q E hr h=>?_)
 ·obtain⟨p,q,X,Y,b,X',Y',b',rfl,_⟩:=h
  rfl
 ·obtain⟨p,q,X,Y,b,X',Y',b',rfl,hp,hq,⟨h1,h2,h3,h4,h5,h6⟩,k⟩:=h
  refine⟨_,(ae (aw (i:=2) zO.nd rfl (Or.inl rfl) (am aS (am aF (aj ah (pv 0) ac (fun _ _=>rfl)) (aj ah (pv 1) ac (fun _ _=>rfl))) (am aF (aj ah (pv 1) ac (fun _ _=>rfl)) (aj ah (pv 0) ac (fun _ _=>rfl))))) (ae (aw (i:=3) zO.nd rfl (Or.inl rfl) (am aS (am aF (aj ah (pv 0) ac (fun _ _=>rfl)) (aj ah (pv 1) ac (fun _ _=>rfl))) (am aF (aj ah (pv 1) ac (fun _ _=>rfl)) (aj ah (pv 0) ac (fun _ _=>rfl))))) (ae (aw (i:=4) zO.nd rfl (Or.inl rfl) (am aF (aj ah (pv 0) ac (fun _ _=>rfl)) (aj ah (pv 1) ac (fun _ _=>rfl)))) (ag (ak (aG (aa (am a8 (am aF (pv 2) (pv 2)) (am aF (pv 3) (pv 3))) (aa (am aF (pv 4) (pv 4)) ad)))))))),?_⟩;have P:∀{α:Nat->Prop},α 0->α 0:=fun h=>h;have cm:∀{x y:Int} {m n:Nat},ao x≤m->ao y≤n->m≤100000->n≤100000->CM x y:=fun hx hy hm hn=>CM.b hx hy (Nat.le_trans hm (by decide)) (Nat.le_trans hn (by decide));have d1:ao (X*b' - X'*b)≤3001:=aO (bits_mul h1 h6) (bits_mul h4 h3);have d2:ao (Y*b' - Y'*b)≤3001:=aO (bits_mul h2 h6) (bits_mul h5 h3);have d3:ao (b*b')≤3000:=bits_mul h3 h6;refine⟨_,rfl,p,_,_,_,rfl,rfl,SqT.of hp,rfl,_,rfl,q,_,_,_,rfl,rfl,SqT.of hq,rfl,_,_,rfl,rfl,cm h1 h6 (by decide) (by decide),_,rfl,q,_,_,_,rfl,rfl,SqT.of hq,rfl,_,rfl,p,_,_,_,rfl,rfl,SqT.of hp,rfl,_,_,rfl,rfl,cm h4 h3 (by decide) (by decide),_,_,rfl,rfl,?_⟩;refine⟨_,rfl,p,_,_,_,rfl,rfl,SqT.of hp,rfl,_,rfl,q,_,_,_,rfl,rfl,SqT.of hq,rfl,_,_,rfl,rfl,cm h2 h6 (by decide) (by decide),_,rfl,q,_,_,_,rfl,rfl,SqT.of hq,rfl,_,rfl,p,_,_,_,rfl,rfl,SqT.of hp,rfl,_,_,rfl,rfl,cm h5 h3 (by decide) (by decide),_,_,rfl,rfl,?_⟩;refine⟨_,rfl,p,_,_,_,rfl,rfl,SqT.of hp,rfl,_,rfl,q,_,_,_,rfl,rfl,SqT.of hq,rfl,_,_,rfl,rfl,cm h3 h6 (by decide) (by decide),?_⟩;refine⟨_,rfl,_,rfl,_,_,rfl,rfl,cm d1 d1 (by decide) (by decide),_,rfl,_,rfl,_,_,rfl,rfl,cm d2 d2 (by decide) (by decide),_,_,rfl,rfl,_,rfl,_,rfl,_,_,rfl,rfl,cm d3 d3 (by decide) (by decide),sz (by simp),fun r H1 s1 f1 n1=>?_⟩;exact k r H1 s1 f1
theorem Bw:yc ["thing"] ["thing"] (af (top 131)):=smk
theorem fX(yY:Df K mg "_law_is_fraction" (top 131))(zQ:Fn P w K mg base "_law_whole" ["thing"] 1 Dq)(Aq:Fn P w K mg base "_law_shared" ["a","b"] 1 D3)(T:Txt mg):Fn P w K mg base "_law_is_fraction" ["thing"] 2 DO:=by
 refine yY.fn Bw (fun _ _ _ _ _ _ us hl=>by obtain⟨_,rfl⟩:=dQ hl;rfl) (fun vs H Q E h=>?_) (fun f cdv A outer s H vs Q E hr h=>?_)
 ·obtain⟨p,a,b,rfl,_⟩:=h
  rfl
 ·obtain⟨p,a,b,rfl,hp,lw,k⟩:=h
  refine⟨_,(ae (aM (bK (bF (aV (aJ bJ (by rfl) T.z_isinstance be (aa (pv 0) (aa (fM T.z_tuple gE) ad))))) (bz (aq dn (aJ aL (by rfl) T.z_len bP (aa (pv 0) ad)) ac (ar _)))).pt (ag (ak cT)) aA) (ae (aM (bK (bF (aV (az zQ (hr.mono (by decide)) (by rfl) (aa (aj ah (pv 0) ac (fun _ _=>rfl)) ad)))) (bK (bF (aV (az zQ (hr.mono (by decide)) (by rfl) (aa (aj ah (pv 0) ac (fun _ _=>rfl)) ad)))) (bz (aq dq (aj ah (pv 0) ac (fun _ _=>rfl)) ac (ar _))))).pt (ag (ak cT)) aA) (ag (ak (bq bG (az Aq (hr.mono (by decide)) (by rfl) (aa (aj ah (pv 0) ac (fun _ _=>rfl)) (aa (aj ah (pv 0) ac (fun _ _=>rfl)) ad))) ac (ar _)))))),?_⟩;have hb:=lw.pos;refine⟨_,rfl,_,_,"tuple",rfl,Kn.tup hp,nice_tuple,?_⟩;refine⟨_,rfl,aB rfl ?_⟩;refine⟨_,rfl,p,_,rfl,.inr (SqT.of hp),rfl,_,rfl,aB rfl ?_⟩;refine⟨_,rfl,p,_,_,_,rfl,rfl,SqT.of hp,rfl,a,rfl,_,rfl,aB rfl ?_⟩;refine⟨_,rfl,p,_,_,_,rfl,rfl,SqT.of hp,rfl,b,rfl,_,rfl,aB rfl ?_⟩;refine⟨_,rfl,p,_,_,_,rfl,rfl,SqT.of hp,rfl,_,_,rfl,rfl,_,rfl,aB (by simp;omega) ?_⟩;refine⟨_,rfl,p,_,_,_,rfl,rfl,SqT.of hp,rfl,_,rfl,p,_,_,_,rfl,rfl,SqT.of hp,rfl,a,b,rfl,by omega,?_⟩;rw[lw.one];exact⟨rfl,k⟩
theorem yE:yc ["line","place","top","bottom","k","part","x","y","wide"] ["line","place"] (af (top 136)):=smk
theorem kZ(AU:Df K mg "_law_point" (top 136))(T:Txt mg):Fn P w K mg base "_law_point" ["line","place"] 1 D6:=by
 refine AU.fn yE (fun _ _ _ _ _ _ us hl=>by obtain⟨_,_,rfl⟩:=cI hl;rfl) (fun vs H Q E h=>?_) (fun f cdv A outer s H vs Q E hr h=>?_)
 ·obtain⟨l,p,qs,t,b,rfl,_⟩:=h
  rfl
 ·obtain⟨l,p,qs,t,b,rfl,L,⟨h1,h20⟩,hp,⟨hb,bb⟩,⟨t0,t1⟩,bt,k⟩:=h
  refine⟨_,(ae (iV (pv 1) (dX rfl (bh (aP (i:=2) yE.nd rfl (Or.inl rfl)) (bh (aP (i:=3) yE.nd rfl (Or.inl rfl)) dr)))) (ae (aw (i:=4) yE.nd rfl (Or.inl rfl) (am gk (pv 2) (pv 3))) (ae (aM (aq bG (pv 4) (am aS (aJ aL (by rfl) T.z_len bP (aa (pv 0) ad)) ac) (ar _)) (ag (ak (aG (aa (am aF (aj ah (aj aQ (pv 0) (pv 4) (fun _ _=>rfl)) ac (fun _ _=>rfl)) (pv 3)) (aa (am aF (aj ah (aj aQ (pv 0) (pv 4) (fun _ _=>rfl)) ac (fun _ _=>rfl)) (pv 3)) (aa (pv 3) ad)))))) aA) (ae (aw (i:=5) yE.nd rfl (Or.inl rfl) (am aS (pv 2) (am aF (pv 4) (pv 3)))) (ae (iV (aj aQ (pv 0) (pv 4) (fun _ _=>rfl)) (dX rfl (bh (aP (i:=6) yE.nd rfl (Or.inl rfl)) (bh (aP (i:=7) yE.nd rfl (Or.inl rfl)) dr)))) (ae (aw (i:=8) yE.nd rfl (Or.inl rfl) (am aS (aj ah (aj aQ (pv 0) (am a8 (pv 4) ac) (fun _ _=>rfl)) ac (fun _ _=>rfl)) (pv 6))) (ag (ak (aG (aa (am a8 (am aF (pv 6) (pv 3)) (am aF (pv 5) (pv 8))) (aa (am a8 (am aF (pv 7) (pv 3)) (am aF (pv 5) (am aS (aj ah (aj aQ (pv 0) (am a8 (pv 4) ac) (fun _ _=>rfl)) ac (fun _ _=>rfl)) (pv 7)))) (aa (pv 3) ad)))))))))))),?_⟩;have hll:(qs.map fun (q:Addr×Int×Int)=>V.ref q.1).length=qs.length:=List.length_map _;have q0:0≤t / b:=Int.ediv_nonneg t0 (by omega);have q1:t / b≤(qs.length:Int) - 1:=Int.ediv_le_of_le_mul hb t1;have em:=Int.emod_add_mul_ediv t b;have em':t - t / b*b=t % b:=by rw[Int.mul_comm];omega
  have r0:=Int.emod_nonneg t (show b≠0 by omega);have r1:=Int.emod_lt_of_pos t hb;have br:ao (t % b)≤1000:=dC r0 (Int.le_of_lt r1) bb;obtain⟨u,hu,au⟩:=tj (qs:=qs) (k:=t / b) q0 (by omega);have cu:=L.cn hu;have cm:∀{x y:Int},ao x≤1000->ao y≤1000->CM x y:=fun hx hy=>CM.b hx hy (by decide) (by decide);have b50:∀{x:Int},ao x≤50->ao x≤1000:=fun h=>ap h (by decide);refine⟨_,rfl,p,_,rfl,SqT.of hp,rfl,_,_,rfl,_,_,rfl,rfl,?_⟩;refine⟨_,rfl,_,rfl,_,_,rfl,rfl,⟨hb,ap bb (by decide)⟩,?_⟩;refine⟨_,rfl,_,rfl,l,_,rfl,.inl (SqL.of L.lst),_,_,rfl,rfl,rfl,_,rfl,aW (fun c1=>?_) (fun c1=>?_)⟩
  ·have c1:t / b=(((qs.map fun (q:Addr×Int×Int)=>V.ref q.1).length:Nat):Int) - 1:=by simpa using c1
   rw[hll]at c1;refine⟨_,rfl,_,rfl,l,_,_,_,rfl,rfl,SqL.of L.lst,au,u.1,_,_,_,rfl,rfl,SqT.of cu.1,rfl,_,rfl,_,_,rfl,rfl,cm (b50 cu.2.1) bb,?_⟩;refine⟨_,rfl,_,rfl,l,_,_,_,rfl,rfl,SqL.of L.lst,au,u.1,_,_,_,rfl,rfl,SqT.of cu.1,rfl,_,rfl,_,_,rfl,rfl,cm (b50 cu.2.2) bb,_,rfl,sz (by simp),fun r H1 s1 f1 n1=>?_⟩;have z:t % b=0:=by
    rw[c1]at em';have:=t1;omega
   refine k r H1 s1 ?_;rw[f1];unfold ptX ptY Sp11.numAt;rw[vh hu,z,Int.mul_zero,Int.mul_zero,Int.add_zero,Int.add_zero]
  have c1:¬t / b=(((qs.map fun (q:Addr×Int×Int)=>V.ref q.1).length:Nat):Int) - 1:=by simpa using c1
  rw[hll]at c1;obtain⟨v,hv,av⟩:=tj (qs:=qs) (k:=t / b+1) (by omega) (by omega);have cv:=L.cn hv;have hv':qs[(t / b).toNat+1]? = some v:=by
   rw[show(t / b).toNat+1=(t / b+1).toNat by omega];exact hv
  have bw:∀{x y:Int},ao x≤50->ao y≤50->ao (x - y)≤1000:=fun hx hy=>ap (aO hx hy) (by decide);refine⟨_,rfl,_,rfl,_,rfl,_,_,rfl,rfl,CM.l ?_,_,_,rfl,rfl,?_⟩
  ·rw[show(2:Int)^64=18446744073709551616 by decide]
   omega
  dsimp only;rw[em'];refine⟨_,rfl,_,rfl,l,_,_,_,rfl,rfl,SqL.of L.lst,au,u.1,_,rfl,SqT.of cu.1,rfl,_,_,rfl,_,_,rfl,rfl,?_⟩;refine⟨_,rfl,_,rfl,_,_,rfl,rfl,l,_,_,_,rfl,rfl,SqL.of L.lst,av,v.1,_,_,_,rfl,rfl,SqT.of cv.1,rfl,_,rfl,_,_,rfl,rfl,?_⟩;refine⟨_,rfl,_,rfl,_,_,rfl,rfl,cm (b50 cu.2.1) bb,_,rfl,_,rfl,_,_,rfl,rfl,cm br (bw cv.2.1 cu.2.1),_,_,rfl,rfl,?_⟩;refine⟨_,rfl,_,rfl,_,_,rfl,rfl,cm (b50 cu.2.2) bb,_,rfl,_,rfl,_,rfl,_,_,rfl,rfl,l,_,_,_,rfl,rfl,SqL.of L.lst,av,v.1,_,_,_,rfl,rfl,SqT.of cv.1,rfl,_,rfl,_,_,rfl,rfl,_,_,rfl,rfl,cm br (bw cv.2.2 cu.2.2),_,_,rfl,rfl,_,rfl,sz (by simp),fun r H1 s1 f1 n1=>?_⟩;refine k r H1 s1 ?_;rw[f1];unfold ptX ptY Sp11.numAt;rw[vh hu,vS hv',Int.mul_comm (v.2.1 - u.2.1),Int.mul_comm (v.2.2 - u.2.2)]
inductive D7 (vs:List V) (x_1:Hp) (x_2:VK) (x_3:XK):Prop
 | mk:∀x y:V,(vs = [x,y])->(False)->D7 vs x_1 x_2 x_3
structure Pc(m n:Nat)(q:Pr):Prop where
 b:q.b=1
 d:q.d=1
 a0:0≤q.a
 a1:q.a≤m
 c0:0≤q.c
 c1:q.c≤n
def sqP(qs rs:Crn)(q:Pr):Int:=sqI (qs.getD q.a.toNat (0,0,0)).2 (rs.getD q.c.toNat (0,0,0)).2
inductive Ea (vs:List V) (H:Hp) (Q:VK) (x_3:XK):Prop
 | mk:∀(l1 l2:Addr) (q:Pr) (xs ys:List V),(vs = [.ref q.p,.ref l1,.ref l2])->(Am H q)->(H l1=some (.lst xs))->(H l2=some (.lst ys))->((1≤xs.length∧1≤ys.length))->(Pc (xs.length - 1) (ys.length - 1) q)->(Q (.bl true) H)->Ea vs H Q x_3
inductive CT (vs:List V) (H:Hp) (Q:VK) (x_3:XK):Prop
 | mk:∀(l1 l2 l:Addr) (ps:List Pr) (xs ys:List V),(vs = [.ref l,.ref l1,.ref l2])->(yh H l ps)->((1≤ps.length∧ps.length<900))->(H l1=some (.lst xs))->(H l2=some (.lst ys))->((1≤xs.length∧1≤ys.length))->((∀q∈ps,Pc (xs.length - 1) (ys.length - 1) q))->(Q (.bl true) H)->CT vs H Q x_3
inductive CA (vs:List V) (H:Hp) (Q:VK) (x_3:XK):Prop
 | mk:∀(l1 l2:Addr) (q:Pr) (qs rs:Crn),(vs = [.ref l1,.ref l2,.ref q.p])->(Am H q)->((LineAt H l1 qs∧1≤qs.length∧qs.length≤20))->((LineAt H l2 rs∧1≤rs.length∧rs.length≤20))->(Pc (qs.length - 1) (rs.length - 1) q)->(∀(r:Addr) H',Same H H'->H' r=some (.tup [.int (sqP qs rs q),.int 1])->Q (.ref r) H')->CA vs H Q x_3
inductive Ds (vs:List V) (H:Hp) (Q:VK) (x_3:XK):Prop
 | mk:∀(p q:Pr),(vs = [.ref p.p,.ref q.p,.str "hops"])->(Am H p)->(Am H q)->((p.b=1∧p.d=1∧q.b=1∧q.d=1))->((0≤q.a - p.a∧q.a - p.a≤1∧0≤q.c - p.c∧q.c - p.c≤1))->(Q (.bl true) H)->Ds vs H Q x_3
inductive Cd (vs:List V) (H:Hp) (Q:VK) (x_3:XK):Prop
 | mk:∀(l1 l2:Addr) (p q:Pr) (qs rs:Crn),(vs = [.ref l1,.ref l2,.ref p.p,.ref q.p,.str "hops"])->(Am H p)->(Am H q)->((LineAt H l1 qs∧1≤qs.length∧qs.length≤20))->((LineAt H l2 rs∧1≤rs.length∧rs.length≤20))->((p.b=1∧p.d=1))->(Pc (qs.length - 1) (rs.length - 1) q)->(db (p.a,p.c) (q.a,q.c)=true)->(∀(r:Addr) H',Same H H'->H' r=some (.tup [.int (sqP qs rs q),.int 1])->Q (.ref r) H')->Cd vs H Q x_3
theorem gg{qs:Crn}{i:Int}(h0:0≤i)(h1:i≤(qs.length:Int) - 1):ptX qs i 1=(qs.getD i.toNat (0,0,0)).2.1∧ptY qs i 1=(qs.getD i.toNat (0,0,0)).2.2:=by
 unfold ptX ptY Sp11.numAt iT;rw[Int.ediv_one,Int.emod_one];exact⟨by omega,by omega⟩
theorem lM{H:Hp}{l1 l2:Addr}{qs rs:Crn}(L1:LineAt H l1 qs)(L2:LineAt H l2 rs)(q:Pr):ao (sqP qs rs q)≤103:=cx ⟨(bW L1 _).1,(bW L1 _).2⟩ ⟨(bW L2 _).1,(bW L2 _).2⟩
theorem Dx:yc ["a","b"] ["a","b"] (af (top 135)):=smk
theorem mJ(Bi:Df K mg "_law_near" (top 135)):Fn P w K mg base "_law_near" ["a","b"] 1 D7:=by
 refine Bi.fn Dx (fun _ _ _ _ _ _ us hl=>by obtain⟨_,_,rfl⟩:=cI hl;rfl) (fun vs H Q E h=>?_) (fun f cdv A outer s H vs Q E hr h=>?_)
 ·obtain⟨x,y,rfl,_⟩:=h
  rfl
 ·obtain⟨x,y,rfl,fal⟩:=h
  exact fal.elim
theorem Dh:yc ["corner","line","low","high","k","x","y","wide","tall","long","place"] ["corner","line","low","high"] (af (top 139)):=smk
theorem k8(AW:Df K mg "_law_least" (top 139)):Fn P w K mg base "_law_least" ["corner","line","low","high"] 1 BZ:=by
 refine AW.fn Dh (fun _ _ _ _ _ _ us hl=>by obtain⟨_,_,_,_,rfl⟩:=kO hl;rfl) (fun vs H Q E h=>?_) (fun f cdv A outer s H vs Q E hr h=>?_)
 ·obtain⟨x,y,z,t,rfl,_⟩:=h
  rfl
 ·obtain⟨x,y,z,t,rfl,fal⟩:=h
  exact fal.elim
theorem Cw:yc ["one","other","ahead","here","low","high"] ["one","other","ahead","here"] (af (top 142)):=smk
theorem jj(Ac:Df K mg "_law_upright" (top 142)):Fn P w K mg base "_law_upright" ["one","other","ahead","here"] 1 BZ:=by
 refine Ac.fn Cw (fun _ _ _ _ _ _ us hl=>by obtain⟨_,_,_,_,rfl⟩:=kO hl;rfl) (fun vs H Q E h=>?_) (fun f cdv A outer s H vs Q E hr h=>?_)
 ·obtain⟨x,y,z,t,rfl,_⟩:=h
  rfl
 ·obtain⟨x,y,z,t,rfl,fal⟩:=h
  exact fal.elim
theorem Dg:yc ["one","other","ahead","here"] ["one","other","ahead","here"] (af (top 143)):=smk
theorem k7(AV:Df K mg "_law_level" (top 143)):Fn P w K mg base "_law_level" ["one","other","ahead","here"] 1 BZ:=by
 refine AV.fn Dg (fun _ _ _ _ _ _ us hl=>by obtain⟨_,_,_,_,rfl⟩:=kO hl;rfl) (fun vs H Q E h=>?_) (fun f cdv A outer s H vs Q E hr h=>?_)
 ·obtain⟨x,y,z,t,rfl,_⟩:=h
  rfl
 ·obtain⟨x,y,z,t,rfl,fal⟩:=h
  exact fal.elim
theorem Cy:yc ["thing","one","other"] ["thing","one","other"] (af (top 132)):=smk
theorem jk(Ad:Df K mg "_law_is_pair" (top 132))(yo:Fn P w K mg base "_law_is_fraction" ["thing"] 2 DO)(T:Txt mg):Fn P w K mg base "_law_is_pair" ["thing","one","other"] 3 Ea:=by
 refine Ad.fn Cy (fun _ _ _ _ _ _ us hl=>by obtain⟨_,_,_,rfl⟩:=dP hl;rfl) (fun vs H Q E h=>?_) (fun f cdv A outer s H vs Q E hr h=>?_)
 ·obtain⟨l1,l2,q,xs,ys,rfl,_⟩:=h
  rfl
 ·obtain⟨l1,l2,q,xs,ys,rfl,h,e1,e2,⟨n1,n2⟩,pc,k⟩:=h
  refine⟨_,(ae (aM (bK (bF (aV (aJ bJ (by rfl) T.z_isinstance be (aa (pv 0) (aa (fM T.z_tuple gE) ad))))) (bz (aq dn (aJ aL (by rfl) T.z_len bP (aa (pv 0) ad)) ac (ar _)))).pt (ag (ak cT)) aA) (ae (aM (bK (bF (aV (az yo (hr.mono (by decide)) (by rfl) (aa (aj ah (pv 0) ac (fun _ _=>rfl)) ad)))) (bz (bF (aV (az yo (hr.mono (by decide)) (by rfl) (aa (aj ah (pv 0) ac (fun _ _=>rfl)) ad)))))).pt (ag (ak cT)) aA) (ae (aM (bK (aq dq (aj ah (aj ah (pv 0) ac (fun _ _=>rfl)) ac (fun _ _=>rfl)) ac (ar _)) (bz (aq rL (aj ah (aj ah (pv 0) ac (fun _ _=>rfl)) ac (fun _ _=>rfl)) (am aF (am aS (aJ aL (by rfl) T.z_len bP (aa (pv 1) ad)) ac) (aj ah (aj ah (pv 0) ac (fun _ _=>rfl)) ac (fun _ _=>rfl))) (ar _)))).pt (ag (ak cT)) aA) (ag (ak (dw (bq lY (aj ah (aj ah (pv 0) ac (fun _ _=>rfl)) ac (fun _ _=>rfl)) ac (ar _)) (cV (bq eR (aj ah (aj ah (pv 0) ac (fun _ _=>rfl)) ac (fun _ _=>rfl)) (am aF (am aS (aJ aL (by rfl) T.z_len bP (aa (pv 2) ad)) ac) (aj ah (aj ah (pv 0) ac (fun _ _=>rfl)) ac (fun _ _=>rfl))) (ar _))))))))),?_⟩;have hb:(1:Int)≤1:=by decide
  refine⟨_,rfl,_,_,"tuple",rfl,Kn.tup h.p_,nice_tuple,?_⟩;refine⟨_,rfl,aB rfl ?_⟩;refine⟨_,rfl,q.p,_,rfl,.inr (SqT.of h.p_),rfl,_,rfl,aB rfl ?_⟩;refine⟨_,rfl,q.p,_,_,_,rfl,rfl,SqT.of h.p_,rfl,q.x,q.a,q.b,rfl,h.x_,h.lx,_,rfl,aB rfl ?_⟩;refine⟨_,rfl,q.p,_,_,_,rfl,rfl,SqT.of h.p_,rfl,q.y,q.c,q.d,rfl,h.y_,h.ly,_,rfl,aB rfl ?_⟩;have pa0:=pc.a0;have pa1:=pc.a1;have pc0:=pc.c0;have pc1:=pc.c1;refine⟨_,rfl,q.p,_,_,_,rfl,rfl,SqT.of h.p_,rfl,q.x,_,_,_,rfl,rfl,SqT.of h.x_,rfl,_,_,rfl,rfl,_,rfl,aB (by simp;omega) ?_⟩;refine⟨_,rfl,q.p,_,_,_,rfl,rfl,SqT.of h.p_,rfl,q.x,_,_,_,rfl,rfl,SqT.of h.x_,rfl,_,rfl,l1,_,rfl,.inl (SqL.of e1),_,_,rfl,rfl,_,rfl,q.p,_,_,_,rfl,rfl,SqT.of h.p_,rfl,q.x,_,_,_,rfl,rfl,SqT.of h.x_,rfl,_,_,rfl,rfl,CM.r (by rw[pc.b];decide),_,_,rfl,rfl,_,rfl,aB (by rw[pc.b];simp;omega) ?_⟩;refine⟨_,rfl,q.p,_,_,_,rfl,rfl,SqT.of h.p_,rfl,q.y,_,_,_,rfl,rfl,SqT.of h.y_,rfl,_,_,rfl,rfl,true,by simp[pc0],?_⟩;refine⟨_,rfl,q.p,_,_,_,rfl,rfl,SqT.of h.p_,rfl,q.y,_,_,_,rfl,rfl,SqT.of h.y_,rfl,_,rfl,l2,_,rfl,.inl (SqL.of e2),_,_,rfl,rfl,_,rfl,q.p,_,_,_,rfl,rfl,SqT.of h.p_,rfl,q.y,_,_,_,rfl,rfl,SqT.of h.y_,rfl,_,_,rfl,rfl,CM.r (by rw[pc.d];decide),_,_,rfl,rfl,?_⟩;have e:decide (q.c≤((ys.length:Int) - 1)*q.d)=true:=by rw[pc.d];simp;omega
  rw[e];exact k
theorem AH:yc ["thing","one","other","pair"] ["thing","one","other"] (af (top 133)):=smk
theorem gQ(zm:Df K mg "_law_are_pairs" (top 133))(zY:Fn P w K mg base "_law_is_pair" ["thing","one","other"] 3 Ea)(T:Txt mg):Fn P w K mg base "_law_are_pairs" ["thing","one","other"] 4 CT:=by
 refine zm.fn AH (fun _ _ _ _ _ _ us hl=>by obtain⟨_,_,_,rfl⟩:=dP hl;rfl) (fun vs H Q E h=>?_) (fun f cdv A outer s H vs Q E hr h=>?_)
 ·obtain⟨l1,l2,l,ps,xs,ys,rfl,_⟩:=h
  rfl
 ·obtain⟨l1,l2,l,ps,xs,ys,rfl,P,⟨p1,p9⟩,e1,e2,nn,pc,k⟩:=h
  refine⟨_,(ae (aM (bK (bF (aV (aJ bJ (by rfl) T.z_isinstance be (aa (pv 0) (aa (fM T.z_list fE) ad))))) (bz (aq bG (aJ aL (by rfl) T.z_len bP (aa (pv 0) ad)) ac (ar _)))).pt (ag (ak cT)) aA) (ae (cB PassesOwn.never rfl (cF (pv 0)) (aP (i:=3) AH.nd rfl (Or.inl rfl)) (ag (aM (bF (aV (az zY (hr.mono (by decide)) (by rfl) (aa (pv 3) (aa (pv 1) (aa (pv 2) ad)))))) (ag (ak cT)) aA))) (ag (ak cT)))),?_⟩;refine⟨_,rfl,_,_,"list",rfl,Kn.lst P.lst,nice_list,?_⟩;refine⟨_,rfl,aB rfl ?_⟩;refine⟨_,rfl,l,_,rfl,.inl (SqL.of P.lst),rfl,_,rfl,aB (by rw[cP];exact decide_eq_false fun z=>by injection z with z;omega) ?_⟩;refine⟨_,rfl,l,rfl,⟨_,SqL.of P.lst⟩,cJ (K:=K) (a:=l) (xs:=prs ps) (fun i σ H'=>∃(z:Option V),σ = [some (.ref l),some (.ref l1),some (.ref l2),z]∧H'=H) ⟨_,rfl,rfl⟩ (fun i σ H' _ ⟨_,_,e⟩=>by rw[e];exact SqL.of P.lst) ?_ ?_⟩
  ·rintro i v σ H' hv ⟨z,rfl,rfl⟩
   obtain⟨q,hq,rfl⟩:=oW hv;have mq:=List.mem_of_getElem? hq;exact⟨_,rfl,_,rfl,_,rfl,l1,l2,q,xs,ys,rfl,P.pr q mq,e1,e2,nn,pc q mq,_,rfl,aB rfl ⟨_,rfl,rfl⟩⟩
  ·rintro σ H' ⟨z,rfl,rfl⟩
   exact k
theorem CW:yc ["one","other","pair"] ["one","other","pair"] (af (top 138)):=smk
theorem jH(Ax:Df K mg "_law_square" (top 138))(AM:Fn P w K mg base "_law_apart" ["here","there"] 1 Dw)(zR:Fn P w K mg base "_law_point" ["line","place"] 1 D6):Fn P w K mg base "_law_square" ["one","other","pair"] 2 CA:=by
 refine Ax.fn CW (fun _ _ _ _ _ _ us hl=>by obtain⟨_,_,_,rfl⟩:=dP hl;rfl) (fun vs H Q E h=>?_) (fun f cdv A outer s H vs Q E hr h=>?_)
 ·obtain⟨l1,l2,q,qs,rs,rfl,_⟩:=h
  rfl
 ·obtain⟨l1,l2,q,qs,rs,rfl,h,⟨L1,a1,a20⟩,⟨L2,b1,b20⟩,pc,k⟩:=h
  refine⟨_,(ag (ak (az AM (hr.mono (by decide)) (by rfl) (aa (az zR (hr.mono (by decide)) (by rfl) (aa (pv 0) (aa (aj ah (pv 2) ac (fun _ _=>rfl)) ad))) (aa (az zR (hr.mono (by decide)) (by rfl) (aa (pv 1) (aa (aj ah (pv 2) ac (fun _ _=>rfl)) ad))) ad))))),?_⟩;have pa0:=pc.a0;have pa1:=pc.a1;have pc0:=pc.c0;have pc1:=pc.c1;have b1':ao (1:Int)≤1500:=by decide
  have x_:=h.x_;have y_:=h.y_;rw[pc.b]at x_;rw[pc.d]at y_;have sm:∀{x:Int},0≤x->x≤20->ao x≤1000:=fun h0 h1=>ap (jw (by omega) (by omega)) (by decide);refine⟨_,rfl,_,rfl,q.p,_,_,_,rfl,rfl,SqT.of h.p_,rfl,l1,q.x,qs,q.a,1,rfl,L1,⟨a1,a20⟩,x_,⟨by decide,by decide⟩,⟨pa0,by omega⟩,sm pa0 (by omega),fun r1 H1 s1 f1=>?_⟩;refine⟨_,rfl,_,rfl,q.p,_,_,_,rfl,rfl,SqT.of (s1 _ _ h.p_),rfl,l2,q.y,rs,q.c,1,rfl,L2.mono s1,⟨b1,b20⟩,s1 _ _ y_,⟨by decide,by decide⟩,⟨pc0,by omega⟩,sm pc0 (by omega),fun r2 H2 s2 f2=>?_⟩;have pb1:=lT L1 (t:=q.a) (b:=1) (by decide) (by decide);have pb2:=lT L2 (t:=q.c) (b:=1) (by decide) (by decide);refine⟨r1,r2,_,_,1,_,_,1,rfl,s2 _ _ f1,f2,⟨pb1.1,pb1.2,b1',pb2.1,pb2.2,b1'⟩,fun r H3 s3 f3=>k r H3 (s1.trans (s2.trans s3)) ?_⟩;rw[f3,(gg pa0 (by omega)).1,(gg pa0 (by omega)).2,(gg pc0 (by omega)).1,(gg pc0 (by omega)).2];unfold apN sqP sqI;simp only[Int.mul_one]
theorem Aj:yc ["ahead","here","way","side","x","a"] ["ahead","here","way"] (af (top 140)):=smk
theorem mM(Bl:Df K mg "_law_goes" (top 140))(A7:Fn P w K mg base "_law_near" ["a","b"] 1 D7)(yk:Fn P w K mg base "_law_less" ["a","b"] 1 Ag)(T:Txt mg):Fn P w K mg base "_law_goes" ["ahead","here","way"] 2 Ds:=by
 refine Bl.fn Aj (fun _ _ _ _ _ _ us hl=>by obtain⟨_,_,_,rfl⟩:=dP hl;rfl) (fun vs H Q E h=>?_) (fun f cdv A outer s H vs Q E hr h=>?_)
 ·obtain⟨p,q,rfl,_⟩:=h
  rfl
 ·obtain⟨p,q,rfl,hp,hq,⟨b1,b2,b3,b4⟩,⟨c1,c2,c3,c4⟩,k⟩:=h
  refine⟨_,(ae (cB PassesOwn.never rfl (gL rfl T.z_range (aa ac ad)) (aP (i:=3) Aj.nd rfl (Or.inl rfl)) (ae (aw (i:=4) Aj.nd rfl (Or.inl rfl) (aj ah (pv 0) (pv 3) (fun _ _=>rfl))) (ae (aw (i:=5) Aj.nd rfl (Or.inl rfl) (aj ah (pv 1) (pv 3) (fun _ _=>rfl))) (ag (aM (aq bG (pv 2) bC (ar _)) (ag (aM (bK (aq dn (aj ah (pv 4) ac (fun _ _=>rfl)) ac (ar _)) (bK (aq dn (aj ah (pv 5) ac (fun _ _=>rfl)) ac (ar _)) (bK (aq dq (am aS (aj ah (pv 5) ac (fun _ _=>rfl)) (aj ah (pv 4) ac (fun _ _=>rfl))) ac (ar _)) (bz (aq rL (am aS (aj ah (pv 5) ac (fun _ _=>rfl)) (aj ah (pv 4) ac (fun _ _=>rfl))) ac (ar _)))))).pt (ag (ak cT)) aA)) (ag (aM (bK (bF (aV (az A7 (hr.mono (by decide)) (by rfl) (aa (pv 4) (aa (pv 5) ad))))) (bz (cZ (aq dn (pv 2) bC (ar _)) (cU (aV (az yk (hr.mono (by decide)) (by rfl) (aa (pv 5) (aa (pv 4) ad)))))).pt)).pt (ag (ak cT)) aA))))))) (ag (ak cT))),?_⟩;have px:=hp.x_;have py:=hp.y_;have qx:=hq.x_;have qy:=hq.y_;rw[b1]at px;rw[b2]at py;rw[b3]at qx;rw[b4]at qy;refine⟨2,rfl,by decide,by decide,fk (n:=2) (lo:=0) (fun i σ H'=>∃(z3 z4 z5:Option V),σ = [some (.ref p.p),some (.ref q.p),some (.str "hops"),z3,z4,z5]∧H'=H) ⟨_,_,_,rfl,rfl⟩ ?_ ?_⟩
  ·rintro i σ H' hi ⟨z3,z4,z5,rfl,rfl⟩
   match i,hi with
   | 0,_ =>
    refine⟨_,rfl,_,rfl,p.p,_,_,_,rfl,rfl,SqT.of hp.p_,rfl,_,rfl,_,rfl,q.p,_,_,_,rfl,rfl,SqT.of hq.p_,rfl,?_⟩;refine⟨_,rfl,rfl,_,rfl,eV ?_⟩;refine⟨_,rfl,p.x,_,_,_,rfl,rfl,SqT.of px,rfl,rfl,_,rfl,aB rfl ?_⟩;refine⟨_,rfl,q.x,_,_,_,rfl,rfl,SqT.of qx,rfl,rfl,_,rfl,aB rfl ?_⟩;refine⟨_,rfl,q.x,_,_,_,rfl,rfl,SqT.of qx,rfl,_,rfl,p.x,_,_,_,rfl,rfl,SqT.of px,rfl,_,_,rfl,rfl,_,_,rfl,rfl,_,rfl,aB (by simp;omega) ?_⟩;refine⟨_,rfl,q.x,_,_,_,rfl,rfl,SqT.of qx,rfl,_,rfl,p.x,_,_,_,rfl,rfl,SqT.of px,rfl,_,_,rfl,rfl,_,_,rfl,rfl,_,rfl,aB (by simp;omega) ?_⟩;exact⟨_,_,_,rfl,rfl⟩
   | 1,_ =>
    refine⟨_,rfl,_,rfl,p.p,_,_,_,rfl,rfl,SqT.of hp.p_,rfl,_,rfl,_,rfl,q.p,_,_,_,rfl,rfl,SqT.of hq.p_,rfl,?_⟩;refine⟨_,rfl,rfl,_,rfl,eV ?_⟩;refine⟨_,rfl,p.y,_,_,_,rfl,rfl,SqT.of py,rfl,rfl,_,rfl,aB rfl ?_⟩;refine⟨_,rfl,q.y,_,_,_,rfl,rfl,SqT.of qy,rfl,rfl,_,rfl,aB rfl ?_⟩;refine⟨_,rfl,q.y,_,_,_,rfl,rfl,SqT.of qy,rfl,_,rfl,p.y,_,_,_,rfl,rfl,SqT.of py,rfl,_,_,rfl,rfl,_,_,rfl,rfl,_,rfl,aB (by simp;omega) ?_⟩;refine⟨_,rfl,q.y,_,_,_,rfl,rfl,SqT.of qy,rfl,_,rfl,p.y,_,_,_,rfl,rfl,SqT.of py,rfl,_,_,rfl,rfl,_,_,rfl,rfl,_,rfl,aB (by simp;omega) ?_⟩;exact⟨_,_,_,rfl,rfl⟩
  ·rintro σ H' ⟨z3,z4,z5,rfl,rfl⟩
   exact k
theorem yQ:yc ["one","other","ahead","here","way","x","y","a","b","back","found"] ["one","other","ahead","here","way"] (af (top 144)):=smk
theorem mH(Bg:Df K mg "_law_step" (top 144))(yl:Fn P w K mg base "_law_square" ["one","other","pair"] 2 CA)(yk:Fn P w K mg base "_law_less" ["a","b"] 1 Ag)(zX:Fn P w K mg base "_law_upright" ["one","other","ahead","here"] 1 BZ)(AL:Fn P w K mg base "_law_level" ["one","other","ahead","here"] 1 BZ):Fn P w K mg base "_law_step" ["one","other","ahead","here","way"] 3 Cd:=by
 refine Bg.fn yQ (fun _ _ _ _ _ _ us hl=>by obtain⟨_,_,_,_,_,rfl⟩:=xh hl;rfl) (fun vs H Q E h=>?_) (fun f cdv A outer s H vs Q E hr h=>?_)
 ·obtain⟨l1,l2,p,q,qs,rs,rfl,_⟩:=h
  rfl
 ·obtain⟨l1,l2,p,q,qs,rs,rfl,hp,hq,LL1,LL2,⟨b1,b2⟩,pc,as,k⟩:=h
  refine⟨_,(ae (iV (pv 2) (dX rfl (bh (aP (i:=5) yQ.nd rfl (Or.inl rfl)) (bh (aP (i:=6) yQ.nd rfl (Or.inl rfl)) dr)))) (ae (iV (pv 3) (dX rfl (bh (aP (i:=7) yQ.nd rfl (Or.inl rfl)) (bh (aP (i:=8) yQ.nd rfl (Or.inl rfl)) dr)))) (ae (aM (aq bG (pv 4) bC (ar _)) (ae (aM (aq dn (am aF (am aF (am aF (aj ah (pv 5) ac (fun _ _=>rfl)) (aj ah (pv 6) ac (fun _ _=>rfl))) (aj ah (pv 7) ac (fun _ _=>rfl))) (aj ah (pv 8) ac (fun _ _=>rfl))) ac (ar _)) (ag (ak bp)) aA) (ae (aM (bK (cZ (aq eR (aj ah (pv 7) ac (fun _ _=>rfl)) (aj ah (pv 5) ac (fun _ _=>rfl)) (ar _)) (cU (aq lY (aj ah (pv 8) ac (fun _ _=>rfl)) (am aS (aj ah (pv 6) ac (fun _ _=>rfl)) ac) (ar _)))).pt (bz (cZ (aq eR (aj ah (pv 7) ac (fun _ _=>rfl)) (am a8 (aj ah (pv 5) ac (fun _ _=>rfl)) ac) (ar _)) (cU (aq lY (aj ah (pv 8) ac (fun _ _=>rfl)) (aj ah (pv 6) ac (fun _ _=>rfl)) (ar _)))).pt)).pt (ag (ak (az yl (hr.mono (by decide)) (by rfl) (aa (pv 0) (aa (pv 1) (aa (pv 3) ad)))))) aA) (ag (ak bp)))) aA) (ae (aw (i:=9) yQ.nd rfl (Or.inl rfl) (dw (i0 (az yk (hr.mono (by decide)) (by rfl) (aa (pv 5) (aa (pv 7) ad)))) (cV (i0 (az yk (hr.mono (by decide)) (by rfl) (aa (pv 8) (aa (pv 6) ad))))))) (ae (aM (cZ (aq dn (pv 4) bC (ar _)) (cU (aV (pv 9)))).pt (ag (ak (az yl (hr.mono (by decide)) (by rfl) (aa (pv 0) (aa (pv 1) (aa (pv 3) ad)))))) aA) (ae (aM (bK (aq bG (pv 4) bC (ar _)) (bz (bF (aV (az yk (hr.mono (by decide)) (by rfl) (aa (pv 6) (aa (pv 8) ad))))))).pt (ae (aw (i:=10) yQ.nd rfl (Or.inl rfl) (az zX (hr.mono (by decide)) (by rfl) (aa (pv 0) (aa (pv 1) (aa (pv 2) (aa (pv 3) ad)))))) (ag (aM (aq kJ (pv 10) bp (ar _)) (ag (ak (pv 10))) aA))) aA) (ae (aM (bK (aq bG (pv 4) bC (ar _)) (bz (bF (aV (az yk (hr.mono (by decide)) (by rfl) (aa (pv 7) (aa (pv 5) ad))))))).pt (ag (ak (az AL (hr.mono (by decide)) (by rfl) (aa (pv 0) (aa (pv 1) (aa (pv 2) (aa (pv 3) ad))))))) aA) (ag (ak bp))))))))),?_⟩;have px:=hp.x_;have py:=hp.y_;have qx:=hq.x_;have qy:=hq.y_;rw[b1]at px;rw[b2]at py;rw[pc.b]at qx;rw[pc.d]at qy;unfold db at as;simp only[Bool.or_eq_true,Bool.and_eq_true,decide_eq_true_eq]at as;refine⟨_,rfl,p.p,_,rfl,SqT.of hp.p_,rfl,_,_,rfl,_,_,rfl,rfl,?_⟩;refine⟨_,rfl,q.p,_,rfl,SqT.of hq.p_,rfl,_,_,rfl,_,_,rfl,rfl,?_⟩;refine⟨_,rfl,rfl,_,rfl,eV ?_⟩;refine⟨_,rfl,p.x,_,_,_,rfl,rfl,SqT.of px,rfl,_,rfl,p.y,_,_,_,rfl,rfl,SqT.of py,rfl,_,_,rfl,rfl,CM.l ⟨by decide,by decide⟩,_,rfl,q.x,_,_,_,rfl,rfl,SqT.of qx,rfl,_,_,rfl,rfl,CM.r ⟨by decide,by decide⟩,_,rfl,q.y,_,_,_,rfl,rfl,SqT.of qy,rfl,_,_,rfl,rfl,CM.r ⟨by decide,by decide⟩,rfl,_,rfl,aB (by decide) ?_⟩;have fin:(vz (lK CA [] E0 (oP (DS 0) (oP (DS 1) (oP (DS 3) vA))))) { nx:=fun _ H'=>Q .non H',rt:=Q } [some (.ref l1),some (.ref l2),some (.ref p.p),some (.ref q.p),some (.str "hops"),some (.ref p.x),some (.ref p.y),some (.ref q.x),some (.ref q.y),none,none] H :=
   ⟨_,rfl,_,rfl,_,rfl,l1,l2,q,qs,rs,rfl,hq,LL1,LL2,pc,k⟩
  refine⟨_,rfl,q.x,_,_,_,rfl,rfl,SqT.of qx,rfl,_,rfl,p.x,_,_,_,rfl,rfl,SqT.of px,rfl,_,_,rfl,rfl,_,rfl,aW (fun d1=>?_) (fun d1=>?_)⟩
  ·have d1:q.a≤p.a:=ej d1
   refine⟨_,rfl,q.y,_,_,_,rfl,rfl,SqT.of qy,rfl,_,rfl,p.y,_,_,_,rfl,rfl,SqT.of py,rfl,_,_,rfl,rfl,_,_,rfl,rfl,_,rfl,aW (fun d2=>?_) (fun d2=>?_)⟩
   ·exact fin
   ·have d2:¬q.c≥p.c - 1:=dS d2
    refine⟨_,rfl,q.x,_,_,_,rfl,rfl,SqT.of qx,rfl,_,rfl,p.x,_,_,_,rfl,rfl,SqT.of px,rfl,_,_,rfl,rfl,_,_,rfl,rfl,_,rfl,aW (fun d3=>?_) (fun d3=>?_)⟩
    ·refine⟨_,rfl,q.y,_,_,_,rfl,rfl,SqT.of qy,rfl,_,rfl,p.y,_,_,_,rfl,rfl,SqT.of py,rfl,_,_,rfl,rfl,_,rfl,aW (fun d4=>?_) (fun d4=>?_)⟩
     ·exact fin
     ·have d4:¬q.c≥p.c:=dS d4
      exfalso;omega
    ·have d3:¬q.a≤p.a+1:=dS d3
     exfalso;omega
  ·have d1:¬q.a≤p.a:=dS d1
   refine⟨_,rfl,q.x,_,_,_,rfl,rfl,SqT.of qx,rfl,_,rfl,p.x,_,_,_,rfl,rfl,SqT.of px,rfl,_,_,rfl,rfl,_,_,rfl,rfl,_,rfl,aW (fun d3=>?_) (fun d3=>?_)⟩
   ·refine⟨_,rfl,q.y,_,_,_,rfl,rfl,SqT.of qy,rfl,_,rfl,p.y,_,_,_,rfl,rfl,SqT.of py,rfl,_,_,rfl,rfl,_,rfl,aW (fun d4=>?_) (fun d4=>?_)⟩
    ·exact fin
    ·have d4:¬q.c≥p.c:=dS d4
     exfalso;omega
   ·have d3:¬q.a≤p.a+1:=dS d3
    exfalso;omega
theorem nG(f:Pr)(r:List Pr):atI (prs (f::r)) (-1)=some (.ref ((f::r).getLast (by simp)).p):=by
 have h:prs (f::r)=prs ((f::r).dropLast)++[V.ref ((f::r).getLast (by simp)).p]:=by
  unfold prs;rw[<- List.map_singleton (f:=fun (q:Pr)=>V.ref q.p),<- List.map_append,List.dropLast_concat_getLast]
 rw[h];exact tm _ _
structure E3(qs rs:Crn)(ps:List Pr)(T:Int)(up:Bool):Prop where
 pc:∀q∈ps,Pc (qs.length - 1) (rs.length - 1) q
 len:ps.length<900
 le:∀q∈ps,if up=true then sqP qs rs q≤T else T≤sqP qs rs q
 ex:∃q∈ps,sqP qs rs q=T
inductive Dl (vs:List V) (H:Hp) (Q:VK) (x_3:XK):Prop
 | mk:∀(l1 l2 l:Addr) (qs rs:Crn) (f:Pr) (r:List Pr) (T:Int),(vs = [.ref l1,.ref l2,.ref l,.str "hops"])->(yh H l (f::r))->((LineAt H l1 qs∧1≤qs.length∧qs.length≤20))->((LineAt H l2 rs∧1≤rs.length∧rs.length≤20))->(E3 qs rs (f::r) T true)->((f.a=0∧f.c=0))->((((f::r).getLast (by simp)).a=(qs.length:Int) - 1∧((f::r).getLast (by simp)).c=(rs.length:Int) - 1))->((∀(i:Nat) p q,(f::r)[i]? = some p->(f::r)[i+1]? = some q->0≤q.a - p.a∧q.a - p.a≤1∧0≤q.c - p.c∧q.c - p.c≤1))->(∀(x:Addr) H',Same H H'->H' x=some (.tup [.int T,.int 1])->Q (.ref x) H')->Dl vs H Q x_3
inductive Dt (vs:List V) (H:Hp) (Q:VK) (x_3:XK):Prop
 | mk:∀(l1 l2 l:Addr) (qs rs:Crn) (f:Pr) (r:List Pr) (T:Int),(vs = [.ref l1,.ref l2,.ref l,.str "hops"])->(yh H l (f::r))->((LineAt H l1 qs∧1≤qs.length∧qs.length≤20))->((LineAt H l2 rs∧1≤rs.length∧rs.length≤20))->(E3 qs rs (f::r) T false)->((f.c=(rs.length:Int) - 1∨f.a=0))->((((f::r).getLast (by simp)).c=0∨((f::r).getLast (by simp)).a=(qs.length:Int) - 1))->((∀(i:Nat) p q,(f::r)[i]? = some p->(f::r)[i+1]? = some q->db (p.a,p.c) (q.a,q.c)=true))->(∀(x:Addr) H',Same H H'->H' x=some (.tup [.int T,.int 1])->Q (.ref x) H')->Dt vs H Q x_3
theorem dm{ps:List Pr}{i:Nat}{q:Pr}(h:ps[i]? = some q):atI (prs ps) (i:Int)=some (.ref q.p):=dh (by unfold prs;rw[List.getElem?_map,h];rfl)
theorem yy:yc ["one","other","walk","way","found","k","some"] ["one","other","walk","way"] (af (top 141)):=smk
theorem fW(yX:Df K mg "_law_walk_square" (top 141))(yx:Fn P w K mg base "_law_are_pairs" ["thing","one","other"] 4 CT)(yl:Fn P w K mg base "_law_square" ["one","other","pair"] 2 CA)(A8:Fn P w K mg base "_law_goes" ["ahead","here","way"] 2 Ds)(yk:Fn P w K mg base "_law_less" ["a","b"] 1 Ag)(T:Txt mg):Fn P w K mg base "_law_walk_square" ["one","other","walk","way"] 5 Dl:=by
 refine yX.fn yy (fun _ _ _ _ _ _ us hl=>by obtain⟨_,_,_,_,rfl⟩:=kO hl;rfl) (fun vs H Q E h=>?_) (fun f cdv A outer s H vs Q E hr h=>?_)
 ·obtain⟨l1,l2,l,qs,rs,f,r,T0,rfl,_⟩:=h
  rfl
 ·obtain⟨l1,l2,l,qs,rs,f,r,T0,rfl,P,⟨L1,a1,a20⟩,⟨L2,b1',b20⟩,W,⟨f1,f2⟩,⟨z1,z2⟩,st,k⟩:=h
  refine⟨_,(ae (aM (bF (aV (az yx (hr.mono (by decide)) (by rfl) (aa (pv 2) (aa (pv 0) (aa (pv 1) ad)))))) (ag (ak bp)) aA) (ae (aM (bK (aq (dZ hr.units0) (aj ah (aj aQ (pv 2) ac (fun _ _=>rfl)) ac (fun _ _=>rfl)) (aG (aa ac (aa ac ad))) (ar _)) (bz (aq (dZ hr.units0) (aj ah (aj aQ (pv 2) (iY fO ac) (fun _ _=>rfl)) ac (fun _ _=>rfl)) (aG (aa (am aS (aJ aL (by rfl) T.z_len bP (aa (pv 0) ad)) ac) (aa ac ad))) (ar _)))).pt (ag (ak bp)) aA) (ae (aM (cZ (aq dn (pv 3) bC (ar _)) (cU (bK (aq (dZ hr.units0) (aj ah (aj aQ (pv 2) ac (fun _ _=>rfl)) ac (fun _ _=>rfl)) (aG (aa ac (aa ac ad))) (ar _)) (bz (aq (dZ hr.units0) (aj ah (aj aQ (pv 2) (iY fO ac) (fun _ _=>rfl)) ac (fun _ _=>rfl)) (aG (aa (am aS (aJ aL (by rfl) T.z_len bP (aa (pv 1) ad)) ac) (aa ac ad))) (ar _)))).pt)).pt (ag (ak bp)) aA) (ae (aw (i:=4) yy.nd rfl (Or.inl rfl) (az yl (hr.mono (by decide)) (by rfl) (aa (pv 0) (aa (pv 1) (aa (aj aQ (pv 2) ac (fun _ _=>rfl)) ad))))) (ae (cB PassesOwn.never rfl (jY rfl T.z_range (aa ac (aa (aJ aL (by rfl) T.z_len bP (aa (pv 2) ad)) ad))) (aP (i:=5) yy.nd rfl (Or.inl rfl)) (ae (aM (bF (aV (az A8 (hr.mono (by decide)) (by rfl) (aa (aj aQ (pv 2) (am aS (pv 5) ac) (fun _ _=>rfl)) (aa (aj aQ (pv 2) (pv 5) (fun _ _=>rfl)) (aa (pv 3) ad)))))) (ag (ak bp)) aA) (ae (aw (i:=6) yy.nd rfl (Or.inl rfl) (az yl (hr.mono (by decide)) (by rfl) (aa (pv 0) (aa (pv 1) (aa (aj aQ (pv 2) (pv 5) (fun _ _=>rfl)) ad))))) (ag (aM (aV (az yk (hr.mono (by decide)) (by rfl) (aa (pv 4) (aa (pv 6) ad)))) (ag (aw (i:=4) yy.nd rfl (Or.inl rfl) (pv 6))) aA))))) (ag (ak (pv 4)))))))),?_⟩;have q1:∀q∈(f::r),ao (sqP qs rs q)≤2000:=fun q _=>ap (lM L1 L2 q) (by decide);have lq:=W.len;have mf:f∈(f::r):=List.mem_cons_self;have ml:(f::r).getLast (by simp)∈(f::r):=List.getLast_mem _;have hf:=P.pr f mf;have hz:=P.pr _ ml;have cf:=W.pc f mf;have cz:=W.pc _ ml;generalize ez:(f::r).getLast (by simp)=z at *;have b1:ao (1:Int)≤2000:=by decide
  have e1:(((qs.map fun (q:Addr×Int×Int)=>V.ref q.1).length:Nat):Int) - 1=(qs.length:Int) - 1:=by rw[List.length_map]
  have e2:(((rs.map fun (q:Addr×Int×Int)=>V.ref q.1).length:Nat):Int) - 1=(rs.length:Int) - 1:=by rw[List.length_map]
  have fx:=hf.x_;have fy:=hf.y_;have zx:=hz.x_;have zy:=hz.y_;rw[cf.b]at fx;rw[cf.d]at fy;rw[cz.b]at zx;rw[cz.d]at zy;have al:=nG f r;rw[ez]at al;have pcx:∀q∈(f::r),Pc ((qs.map fun (q:Addr×Int×Int)=>V.ref q.1).length - 1) ((rs.map fun (q:Addr×Int×Int)=>V.ref q.1).length - 1) q:=fun q hq=>by rw[List.length_map,List.length_map];exact W.pc q hq
  have n12:1≤(qs.map fun (q:Addr×Int×Int)=>V.ref q.1).length∧1≤(rs.map fun (q:Addr×Int×Int)=>V.ref q.1).length:=by rw[List.length_map,List.length_map];exact⟨a1,b1'⟩
  rw[f1]at fx;rw[f2]at fy;rw[z1]at zx;rw[z2]at zy;refine⟨_,rfl,_,rfl,_,rfl,l1,l2,l,f::r,_,_,rfl,P,⟨by simp,lq⟩,L1.lst,L2.lst,n12,pcx,_,rfl,aB rfl ?_⟩;refine⟨_,rfl,l,_,_,_,rfl,rfl,SqL.of P.lst,dm (i:=0) (q:=f) rfl,f.p,_,_,_,rfl,rfl,SqT.of hf.p_,rfl,sz (by simp),fun y1 H1 s1 g1 _=>?_⟩;refine⟨f.x,y1,[0,1],[0,1],rfl,rfl,SqT.of (s1 _ _ fx),SqT.of g1,_,rfl,aB rfl ?_⟩;refine⟨_,rfl,_,rfl,l,_,_,_,rfl,rfl,SqL.of (s1 _ _ P.lst),al,z.p,_,_,_,rfl,rfl,SqT.of (s1 _ _ hz.p_),rfl,_,rfl,l1,_,rfl,.inl (SqL.of (s1 _ _ L1.lst)),_,_,rfl,rfl,sz (by simp),fun y2 H2 s2 g2 _=>?_⟩;have S2:=s1.trans s2;rw[e1]at g2;refine⟨z.x,y2,[(qs.length:Int) - 1,1],[(qs.length:Int) - 1,1],rfl,rfl,SqT.of (S2 _ _ zx),SqT.of g2,_,rfl,aB (by simp) ?_⟩;refine⟨_,rfl,rfl,_,rfl,eV ?_⟩;refine⟨_,rfl,l,_,_,_,rfl,rfl,SqL.of (S2 _ _ P.lst),dm (i:=0) (q:=f) rfl,f.p,_,_,_,rfl,rfl,SqT.of (S2 _ _ hf.p_),rfl,sz (by simp),fun y3 H3 s3 g3 _=>?_⟩;have S3:=S2.trans s3;refine⟨f.y,y3,[0,1],[0,1],rfl,rfl,SqT.of (S3 _ _ fy),SqT.of g3,_,rfl,aB rfl ?_⟩;refine⟨_,rfl,_,rfl,l,_,_,_,rfl,rfl,SqL.of (S3 _ _ P.lst),al,z.p,_,_,_,rfl,rfl,SqT.of (S3 _ _ hz.p_),rfl,_,rfl,l2,_,rfl,.inl (SqL.of (S3 _ _ L2.lst)),_,_,rfl,rfl,sz (by simp),fun y4 H4 s4 g4 _=>?_⟩;have S4:=S3.trans s4;rw[e2]at g4;refine⟨z.y,y4,[(rs.length:Int) - 1,1],[(rs.length:Int) - 1,1],rfl,rfl,SqT.of (S4 _ _ zy),SqT.of g4,_,rfl,aB (by simp) ?_⟩;refine⟨_,rfl,_,rfl,_,rfl,l,_,_,_,rfl,rfl,SqL.of (S4 _ _ P.lst),dm (i:=0) (q:=f) rfl,l1,l2,f,qs,rs,rfl,hf.t S4.t,⟨L1.mono S4,a1,a20⟩,⟨L2.mono S4,b1',b20⟩,cf,fun x5 H5 s5 g5=>?_⟩;have S5:=S4.trans s5;refine⟨_,rfl,l,_,rfl,.inl (SqL.of (S5 _ _ P.lst)),_,_,rfl,⟨by decide,by decide,by rw[cP];omega,by rw[cP];omega⟩,?_⟩;refine fk (n:=((((prs (f::r)).length:Nat):Int) - 1).toNat) (lo:=1) (fun i σ H'=>∃(z5 z6:Option V) (x:Addr) (j:Nat) (q:Pr),σ = [some (.ref l1),some (.ref l2),some (.ref l),some (.str "hops"),some (.ref x),z5,z6]∧Same H H'∧H' x=some (.tup [.int (sqP qs rs q),.int 1])∧(f::r)[j]? = some q∧∀(n:Nat) p,n≤i->(f::r)[n]? = some p->sqP qs rs p≤sqP qs rs q)
   ⟨_,_,x5,0,f,rfl,S5,g5,rfl,fun n p hn hp=>by
    rw[Nat.le_zero.mp hn]at hp;cases hp;exact Int.le_refl _⟩ ?_ ?_
  ·rintro i σ H6 hi ⟨z5,z6,x,j,q,rfl,S6,e6,hq,hle⟩
   rw[cP]at hi;have hx:(f::r)[i]? = some ((f::r)[i]'(by omega)):=List.getElem?_eq_getElem (by omega);have hy:(f::r)[i+1]? = some ((f::r)[i+1]'(by omega)):=List.getElem?_eq_getElem (by omega);generalize (f::r)[i]'(by omega)=p1 at hx;generalize (f::r)[i+1]'(by omega)=p2 at hy;have m1:=List.mem_of_getElem? hx;have m2:=List.mem_of_getElem? hy;have ax:atI (prs (f::r)) (1+(i:Int) - 1)=some (.ref p1.p):=by
    rw[show 1+(i:Int) - 1=(i:Int) by omega];exact dm hx
   have ay:atI (prs (f::r)) (1+(i:Int))=some (.ref p2.p):=by
    rw[show 1+(i:Int)=((i+1:Nat):Int) by omega];exact dm hy
   have c1:=W.pc p1 m1;have c2:=W.pc p2 m2;refine⟨_,rfl,_,rfl,_,_,rfl,rfl,l,_,_,_,rfl,rfl,SqL.of (S6 _ _ P.lst),ax,_,rfl,_,rfl,l,_,_,_,rfl,rfl,SqL.of (S6 _ _ P.lst),ay,_,rfl,p1,p2,rfl,(P.pr p1 m1).t S6.t,(P.pr p2 m2).t S6.t,⟨c1.b,c1.d,c2.b,c2.d⟩,st i p1 p2 hx hy,_,rfl,aB rfl ?_⟩;refine⟨_,rfl,_,rfl,_,rfl,_,rfl,l,_,_,_,rfl,rfl,SqL.of (S6 _ _ P.lst),ay,l1,l2,p2,qs,rs,rfl,(P.pr p2 m2).t S6.t,⟨L1.mono S6,a1,a20⟩,⟨L2.mono S6,b1',b20⟩,c2,fun x7 H7 s7 g7=>?_⟩;refine⟨_,rfl,_,rfl,x,x7,_,_,_,_,rfl,s7 _ _ e6,g7,⟨q1 q (List.mem_of_getElem? hq),b1,q1 p2 m2,b1⟩,_,rfl,aW (fun d=>?_) (fun d=>?_)⟩
   ·have d:sqP qs rs q*1<sqP qs rs p2*1:=ej d
    refine⟨_,rfl,_,_,x7,i+1,p2,rfl,S6.trans s7,g7,hy,fun n p hn hp=>?_⟩
    by_cases e:n=i+1
    ·rw[e,hy]at hp
     cases hp;exact Int.le_refl _
    ·have:=hle n p (by omega) hp
     omega
   ·have d:¬sqP qs rs q*1<sqP qs rs p2*1:=dS d
    refine⟨_,_,x,j,q,rfl,S6.trans s7,s7 _ _ e6,hq,fun n p hn hp=>?_⟩
    by_cases e:n=i+1
    ·rw[e,hy]at hp
     cases hp;omega
    ·exact hle n p (by omega) hp
  ·rintro σ H6 ⟨z5,z6,x,j,q,rfl,S6,e6,hq,hle⟩
   obtain⟨w',hw,ew⟩:=W.ex;obtain⟨n,hn⟩:=List.getElem?_of_mem hw;have nl:=(List.getElem?_eq_some_iff.mp hn).1;have h1:=hle n w' (by rw[cP];omega) hn;have h2:=W.le q (List.mem_of_getElem? hq);rw[if_pos rfl]at h2;have e:sqP qs rs q=T0:=by omega
   rw[e]at e6;exact⟨_,rfl,k x H6 S6 e6⟩
theorem yj:yc ["one","other","fence","way","n","m","found","k","some"] ["one","other","fence","way"] (af (top 145)):=smk
theorem fK(yS:Df K mg "_law_fence_square" (top 145))(yx:Fn P w K mg base "_law_are_pairs" ["thing","one","other"] 4 CT)(yl:Fn P w K mg base "_law_square" ["one","other","pair"] 2 CA)(A6:Fn P w K mg base "_law_step" ["one","other","ahead","here","way"] 3 Cd)(yk:Fn P w K mg base "_law_less" ["a","b"] 1 Ag)(T:Txt mg):Fn P w K mg base "_law_fence_square" ["one","other","fence","way"] 5 Dt:=by
 refine yS.fn yj (fun _ _ _ _ _ _ us hl=>by obtain⟨_,_,_,_,rfl⟩:=kO hl;rfl) (fun vs H Q E h=>?_) (fun f cdv A outer s H vs Q E hr h=>?_)
 ·obtain⟨l1,l2,l,qs,rs,ff,r,T0,rfl,_⟩:=h
  rfl
 ·obtain⟨l1,l2,l,qs,rs,ff,r,T0,rfl,PP,⟨L1,a1,a20⟩,⟨L2,b1',b20⟩,W,hbeg,hend,st,k⟩:=h
  have q1:∀q∈(ff::r),ao (sqP qs rs q)≤2000:=fun q _=>ap (lM L1 L2 q) (by decide);have lq:=W.len;have mf:ff∈(ff::r):=List.mem_cons_self;have ml:(ff::r).getLast (by simp)∈(ff::r):=List.getLast_mem _;have hf:=PP.pr ff mf;have hz:=PP.pr _ ml;have cf:=W.pc ff mf;have cz:=W.pc _ ml;generalize ez:(ff::r).getLast (by simp)=z at *;have b1:ao (1:Int)≤2000:=by decide
  have e1:(((qs.map fun (q:Addr×Int×Int)=>V.ref q.1).length:Nat):Int) - 1=(qs.length:Int) - 1:=by rw[List.length_map]
  have e2:(((rs.map fun (q:Addr×Int×Int)=>V.ref q.1).length:Nat):Int) - 1=(rs.length:Int) - 1:=by rw[List.length_map]
  have fx:=hf.x_;have fy:=hf.y_;have zx:=hz.x_;have zy:=hz.y_;rw[cf.b]at fx;rw[cf.d]at fy;rw[cz.b]at zx;rw[cz.d]at zy;have al:=nG ff r;rw[ez]at al;have pcx:∀q∈(ff::r),Pc ((qs.map fun (q:Addr×Int×Int)=>V.ref q.1).length - 1) ((rs.map fun (q:Addr×Int×Int)=>V.ref q.1).length - 1) q:=fun q hq=>by rw[List.length_map,List.length_map];exact W.pc q hq
  have n12:1≤(qs.map fun (q:Addr×Int×Int)=>V.ref q.1).length∧1≤(rs.map fun (q:Addr×Int×Int)=>V.ref q.1).length:=by rw[List.length_map,List.length_map];exact⟨a1,b1'⟩
  have R5:∃u,PSs (aZ CX0 P w K mg base ["one","other","fence","way","n","m","found","k","some"] "_law_fence_square" (af (top 145)) f cdv A outer s H E).nox ((aH (top 145)).drop 5) u∧∀(yn ym:Addr) H4,Same H H4->u { nx:=fun _ H'=>Q .non H',rt:=Q } [some (.ref l1),some (.ref l2),some (.ref l),some (.str "hops"),some (.ref yn),some (.ref ym),none,none,none] H4:=by
   refine⟨_,(ae (aM (cZ (aq bG (pv 3) bC (ar _)) (cU (bK (aq dn (aj ah (aj ah (aj aQ (pv 2) ac (fun _ _=>rfl)) ac (fun _ _=>rfl)) ac (fun _ _=>rfl)) ac (ar _)) (bz (aq dn (aj ah (aj ah (aj aQ (pv 2) ac (fun _ _=>rfl)) ac (fun _ _=>rfl)) ac (fun _ _=>rfl)) ac (ar _)))).pt)).pt (ag (ak bp)) aA) (ae (aw (i:=6) yj.nd rfl (Or.inl rfl) (az yl (hr.mono (by decide)) (by rfl) (aa (pv 0) (aa (pv 1) (aa (aj aQ (pv 2) ac (fun _ _=>rfl)) ad))))) (ae (cB PassesOwn.never rfl (jY rfl T.z_range (aa ac (aa (aJ aL (by rfl) T.z_len bP (aa (pv 2) ad)) ad))) (aP (i:=7) yj.nd rfl (Or.inl rfl)) (ae (aw (i:=8) yj.nd rfl (Or.inl rfl) (az A6 (hr.mono (by decide)) (by rfl) (aa (pv 0) (aa (pv 1) (aa (aj aQ (pv 2) (am aS (pv 7) ac) (fun _ _=>rfl)) (aa (aj aQ (pv 2) (pv 7) (fun _ _=>rfl)) (aa (pv 3) ad))))))) (ae (aM (aq kM (pv 8) bp (ar _)) (ag (ak bp)) aA) (ag (aM (aV (az yk (hr.mono (by decide)) (by rfl) (aa (pv 8) (aa (pv 6) ad)))) (ag (aw (i:=6) yj.nd rfl (Or.inl rfl) (pv 8))) aA))))) (ag (ak (pv 6)))))),fun yn ym H4 S4=>?_⟩;refine⟨_,rfl,rfl,_,rfl,eV ?_⟩;refine⟨_,rfl,l,_,_,_,rfl,rfl,SqL.of (S4 _ _ PP.lst),dm (i:=0) (q:=ff) rfl,ff.p,_,_,_,rfl,rfl,SqT.of (S4 _ _ hf.p_),rfl,ff.x,_,_,_,rfl,rfl,SqT.of (S4 _ _ fx),rfl,rfl,_,rfl,aB rfl ?_⟩;refine⟨_,rfl,l,_,_,_,rfl,rfl,SqL.of (S4 _ _ PP.lst),dm (i:=0) (q:=ff) rfl,ff.p,_,_,_,rfl,rfl,SqT.of (S4 _ _ hf.p_),rfl,ff.y,_,_,_,rfl,rfl,SqT.of (S4 _ _ fy),rfl,rfl,_,rfl,aB rfl ?_⟩;refine⟨_,rfl,_,rfl,_,rfl,l,_,_,_,rfl,rfl,SqL.of (S4 _ _ PP.lst),dm (i:=0) (q:=ff) rfl,l1,l2,ff,qs,rs,rfl,hf.t S4.t,⟨L1.mono S4,a1,a20⟩,⟨L2.mono S4,b1',b20⟩,cf,fun x5 H5 s5 g5=>?_⟩;have S5:=S4.trans s5;refine⟨_,rfl,l,_,rfl,.inl (SqL.of (S5 _ _ PP.lst)),_,_,rfl,⟨by decide,by decide,by rw[cP];omega,by rw[cP];omega⟩,?_⟩;refine fk (n:=((((prs (ff::r)).length:Nat):Int) - 1).toNat) (lo:=1) (fun i σ H'=>∃(z5 z6:Option V) (x:Addr) (j:Nat) (q:Pr),σ = [some (.ref l1),some (.ref l2),some (.ref l),some (.str "hops"),some (.ref yn),some (.ref ym),some (.ref x),z5,z6]∧Same H H'∧H' x=some (.tup [.int (sqP qs rs q),.int 1])∧(ff::r)[j]? = some q∧∀(n:Nat) p,n≤i->(ff::r)[n]? = some p->sqP qs rs q≤sqP qs rs p)
    ⟨_,_,x5,0,ff,rfl,S5,g5,rfl,fun n p hn hp=>by
     rw[Nat.le_zero.mp hn]at hp;cases hp;exact Int.le_refl _⟩ ?_ ?_
   ·rintro i σ H6 hi ⟨z5,z6,x,j,q,rfl,S6,e6,hq,hle⟩
    rw[cP]at hi;have hx:(ff::r)[i]? = some ((ff::r)[i]'(by omega)):=List.getElem?_eq_getElem (by omega);have hy:(ff::r)[i+1]? = some ((ff::r)[i+1]'(by omega)):=List.getElem?_eq_getElem (by omega);generalize (ff::r)[i]'(by omega)=p1 at hx;generalize (ff::r)[i+1]'(by omega)=p2 at hy;have m1:=List.mem_of_getElem? hx;have m2:=List.mem_of_getElem? hy;have ax:atI (prs (ff::r)) (1+(i:Int) - 1)=some (.ref p1.p):=by
     rw[show 1+(i:Int) - 1=(i:Int) by omega];exact dm hx
    have ay:atI (prs (ff::r)) (1+(i:Int))=some (.ref p2.p):=by
     rw[show 1+(i:Int)=((i+1:Nat):Int) by omega];exact dm hy
    have c1:=W.pc p1 m1;have c2:=W.pc p2 m2;refine⟨_,rfl,_,rfl,_,rfl,_,rfl,_,_,rfl,rfl,l,_,_,_,rfl,rfl,SqL.of (S6 _ _ PP.lst),ax,_,rfl,_,rfl,l,_,_,_,rfl,rfl,SqL.of (S6 _ _ PP.lst),ay,_,rfl,l1,l2,p1,p2,qs,rs,rfl,(PP.pr p1 m1).t S6.t,(PP.pr p2 m2).t S6.t,⟨L1.mono S6,a1,a20⟩,⟨L2.mono S6,b1',b20⟩,⟨c1.b,c1.d⟩,c2,st i p1 p2 hx hy,fun x7 H7 s7 g7=>?_⟩;refine⟨_,rfl,rfl,_,rfl,eW ?_⟩;refine⟨_,rfl,_,rfl,x7,x,_,_,_,_,rfl,g7,s7 _ _ e6,⟨q1 p2 m2,b1,q1 q (List.mem_of_getElem? hq),b1⟩,_,rfl,aW (fun d=>?_) (fun d=>?_)⟩
    ·have d:sqP qs rs p2*1<sqP qs rs q*1:=ej d
     refine⟨_,rfl,_,_,x7,i+1,p2,rfl,S6.trans s7,g7,hy,fun n p hn hp=>?_⟩
     by_cases e:n=i+1
     ·rw[e,hy]at hp
      cases hp;exact Int.le_refl _
     ·have:=hle n p (by omega) hp
      omega
    ·have d:¬sqP qs rs p2*1<sqP qs rs q*1:=dS d
     refine⟨_,_,x,j,q,rfl,S6.trans s7,s7 _ _ e6,hq,fun n p hn hp=>?_⟩
     by_cases e:n=i+1
     ·rw[e,hy]at hp
      cases hp;omega
     ·exact hle n p (by omega) hp
   ·rintro σ H6 ⟨z5,z6,x,j,q,rfl,S6,e6,hq,hle⟩
    obtain⟨w',hw,ew⟩:=W.ex;obtain⟨n,hn⟩:=List.getElem?_of_mem hw;have nl:=(List.getElem?_eq_some_iff.mp hn).1;have h1:=hle n w' (by rw[cP];omega) hn;have h2:=W.le q (List.mem_of_getElem? hq);rw[if_neg Bool.false_ne_true]at h2;have e:sqP qs rs q=T0:=by omega
    rw[e]at e6;exact⟨_,rfl,k x H6 S6 e6⟩
  obtain⟨u5,hu5,r5⟩:=R5;have R4:∃u,PSs (aZ CX0 P w K mg base ["one","other","fence","way","n","m","found","k","some"] "_law_fence_square" (af (top 145)) f cdv A outer s H E).nox ((aH (top 145)).drop 4) u∧∀(yn ym:Addr) H4,Same H H4->H4 yn=some (.tup [.int ((qs.length:Int) - 1),.int 1])->u { nx:=fun _ H'=>Q .non H',rt:=Q } [some (.ref l1),some (.ref l2),some (.ref l),some (.str "hops"),some (.ref yn),some (.ref ym),none,none,none] H4:=by
   refine⟨_,ae (aM (cZ (aq (dZ hr.units0) (aj ah (aj aQ (pv 2) (iY fO ac) (fun _ _=>rfl)) ac (fun _ _=>rfl)) (aG (aa ac (aa ac ad))) (ar _)) (cU (bK (aq bG (pv 3) bC (ar _)) (bz (aq (dZ hr.units0) (aj ah (aj aQ (pv 2) (iY fO ac) (fun _ _=>rfl)) ac (fun _ _=>rfl)) (pv 4) (ar _)))).pt)).pt (ag (ak bp)) aA) hu5,fun yn ym H4 S4 en=>?_⟩;refine⟨_,rfl,_,rfl,l,_,_,_,rfl,rfl,SqL.of (S4 _ _ PP.lst),al,z.p,_,_,_,rfl,rfl,SqT.of (S4 _ _ hz.p_),rfl,sz (by simp),fun y1 H5 s5 g5 _=>?_⟩;have S5:=S4.trans s5;refine⟨z.y,y1,[z.c,1],[0,1],rfl,rfl,SqT.of (S5 _ _ zy),SqT.of g5,_,rfl,aW (fun d=>?_) (fun d=>?_)⟩
   ·have za:z.a=(qs.length:Int) - 1:=by
     rcases hend with h|h
     ·rw[h]at d
      simp at d
     ·exact h
    rw[za]at zx;refine⟨_,rfl,rfl,_,rfl,aB (by decide) ?_⟩;refine⟨_,rfl,_,rfl,l,_,_,_,rfl,rfl,SqL.of (S5 _ _ PP.lst),al,z.p,_,_,_,rfl,rfl,SqT.of (S5 _ _ hz.p_),rfl,_,rfl,z.x,yn,[(qs.length:Int) - 1,1],[(qs.length:Int) - 1,1],rfl,rfl,SqT.of (S5 _ _ zx),SqT.of (s5 _ _ en),_,rfl,aB (by simp) ?_⟩;exact r5 yn ym H5 S5
   ·exact r5 yn ym H5 S5
  obtain⟨u4,hu4,r4⟩:=R4;refine⟨_,(ae (aM (bF (aV (az yx (hr.mono (by decide)) (by rfl) (aa (pv 2) (aa (pv 0) (aa (pv 1) ad)))))) (ag (ak bp)) aA) (ae (aw (i:=4) yj.nd rfl (Or.inl rfl) (aG (aa (am aS (aJ aL (by rfl) T.z_len bP (aa (pv 0) ad)) ac) (aa ac ad)))) (ae (aw (i:=5) yj.nd rfl (Or.inl rfl) (aG (aa (am aS (aJ aL (by rfl) T.z_len bP (aa (pv 1) ad)) ac) (aa ac ad)))) (ae (aM (cZ (aq (dZ hr.units0) (aj ah (aj aQ (pv 2) ac (fun _ _=>rfl)) ac (fun _ _=>rfl)) (pv 5) (ar _)) (cU (bK (aq bG (pv 3) bC (ar _)) (bz (aq (dZ hr.units0) (aj ah (aj aQ (pv 2) ac (fun _ _=>rfl)) ac (fun _ _=>rfl)) (aG (aa ac (aa ac ad))) (ar _)))).pt)).pt (ag (ak bp)) aA) hu4)))),?_⟩;refine⟨_,rfl,_,rfl,_,rfl,l1,l2,l,ff::r,_,_,rfl,PP,⟨by simp,lq⟩,L1.lst,L2.lst,n12,pcx,_,rfl,aB rfl ?_⟩;refine⟨_,rfl,l1,_,rfl,.inl (SqL.of L1.lst),_,_,rfl,rfl,sz (by simp),fun yn H1 s1 g1 _=>?_⟩;rw[e1]at g1;refine⟨_,rfl,l2,_,rfl,.inl (SqL.of (s1 _ _ L2.lst)),_,_,rfl,rfl,sz (by simp),fun ym H2 s2 g2 _=>?_⟩;rw[e2]at g2;have S2:=s1.trans s2;refine⟨_,rfl,l,_,_,_,rfl,rfl,SqL.of (S2 _ _ PP.lst),dm (i:=0) (q:=ff) rfl,ff.p,_,_,_,rfl,rfl,SqT.of (S2 _ _ hf.p_),rfl,_,rfl,ff.y,ym,[ff.c,1],[(rs.length:Int) - 1,1],rfl,rfl,SqT.of (S2 _ _ fy),SqT.of g2,_,rfl,aW (fun d=>?_) (fun d=>?_)⟩
  ·have fa:ff.a=0:=by
    rcases hbeg with h|h
    ·rw[h]at d
     simp at d
    ·exact h
   rw[fa]at fx;refine⟨_,rfl,rfl,_,rfl,aB (by decide) ?_⟩;refine⟨_,rfl,l,_,_,_,rfl,rfl,SqL.of (S2 _ _ PP.lst),dm (i:=0) (q:=ff) rfl,ff.p,_,_,_,rfl,rfl,SqT.of (S2 _ _ hf.p_),rfl,sz (by simp),fun y3 H3 s3 g3 _=>?_⟩;refine⟨ff.x,y3,[0,1],[0,1],rfl,rfl,SqT.of (s3 _ _ (S2 _ _ fx)),SqT.of g3,_,rfl,aB rfl ?_⟩;exact r4 yn ym H3 (S2.trans s3) (s3 _ _ (s2 _ _ g1))
  ·exact r4 yn ym H2 S2 (s2 _ _ g1)
inductive D2 (vs:List V) (H:Hp) (Q:VK) (x_3:XK):Prop
 | mk:∀(l1 l2 t zq wq fq:Addr) (qs rs:Crn) (f:Pr) (r:List Pr) (f2:Pr) (r2:List Pr) (T:Int),(vs = [.ref l1,.ref l2,.ref t])->(H t=some (.tup [.ref zq,.ref wq,.ref fq]))->(H zq=some (.tup [.int T,.int 1]))->(ao T≤2000)->(yh H wq (f::r))->(yh H fq (f2::r2))->((LineAt H l1 qs∧1≤qs.length∧qs.length≤20))->((LineAt H l2 rs∧1≤rs.length∧rs.length≤20))->(E3 qs rs (f::r) T true)->((f.a=0∧f.c=0))->((((f::r).getLast (by simp)).a=(qs.length:Int) - 1∧((f::r).getLast (by simp)).c=(rs.length:Int) - 1))->((∀(i:Nat) p q,(f::r)[i]? = some p->(f::r)[i+1]? = some q->0≤q.a - p.a∧q.a - p.a≤1∧0≤q.c - p.c∧q.c - p.c≤1))->(E3 qs rs (f2::r2) T false)->((f2.c=(rs.length:Int) - 1∨f2.a=0))->((((f2::r2).getLast (by simp)).c=0∨((f2::r2).getLast (by simp)).a=(qs.length:Int) - 1))->((∀(i:Nat) p q,(f2::r2)[i]? = some p->(f2::r2)[i+1]? = some q->db (p.a,p.c) (q.a,q.c)=true))->(∀H',Same H H'->Q (.bl true) H')->D2 vs H Q x_3
theorem zN:yc ["one","other","found","greatest","least","square"] ["one","other","found"] (af (top 146)):=smk
theorem kY(AT:Df K mg "_law_shown" (top 146))(yo:Fn P w K mg base "_law_is_fraction" ["thing"] 2 DO)(yW:Fn P w K mg base "_law_walk_square" ["one","other","walk","way"] 5 Dl)(yR:Fn P w K mg base "_law_fence_square" ["one","other","fence","way"] 5 Dt)(T:Txt mg):Fn P w K mg base "_law_shown" ["one","other","found"] 6 D2:=by
 refine AT.fn zN (fun _ _ _ _ _ _ us hl=>by obtain⟨_,_,_,rfl⟩:=dP hl;rfl) (fun vs H Q E h=>?_) (fun f cdv A outer s H vs Q E hr h=>?_)
 ·obtain⟨l1,l2,t,zq,wq,fq,qs,rs,f,r,f2,r2,T0,rfl,_⟩:=h
  rfl
 ·obtain⟨l1,l2,t,zq,wq,fq,qs,rs,f,r,f2,r2,T0,rfl,et,ez,bT,PW,PF,LL1,LL2,W,h1,h2,h3,F,h4,h5,h6,k⟩:=h
  refine⟨_,(ae (aM (bK (bF (aV (aJ bJ (by rfl) T.z_isinstance be (aa (pv 2) (aa (fM T.z_tuple gE) ad))))) (bK (aq dn (aJ aL (by rfl) T.z_len bP (aa (pv 2) ad)) ac (ar _)) (bz (bF (aV (az yo (hr.mono (by decide)) (by rfl) (aa (aj ah (pv 2) ac (fun _ _=>rfl)) ad))))))).pt (ag (ak cT)) aA) (ae (aw (i:=3) zN.nd rfl (Or.inl rfl) (az yW (hr.mono (by decide)) (by rfl) (aa (pv 0) (aa (pv 1) (aa (aj ah (pv 2) ac (fun _ _=>rfl)) (aa bC ad)))))) (ae (aw (i:=4) zN.nd rfl (Or.inl rfl) (az yR (hr.mono (by decide)) (by rfl) (aa (pv 0) (aa (pv 1) (aa (aj ah (pv 2) ac (fun _ _=>rfl)) (aa bC ad)))))) (ae (aM (bK (aq kM (pv 3) bp (ar _)) (bz (aq kM (pv 4) bp (ar _)))).pt (ag (ak cT)) aA) (ae (aw (i:=5) zN.nd rfl (Or.inl rfl) (aj ah (pv 2) ac (fun _ _=>rfl))) (ag (ak (dw (bq bG (am aF (aj ah (pv 5) ac (fun _ _=>rfl)) (aj ah (pv 3) ac (fun _ _=>rfl))) (am aF (aj ah (pv 3) ac (fun _ _=>rfl)) (aj ah (pv 5) ac (fun _ _=>rfl))) (ar _)) (cV (bq bG (am aF (aj ah (pv 5) ac (fun _ _=>rfl)) (aj ah (pv 4) ac (fun _ _=>rfl))) (am aF (aj ah (pv 4) ac (fun _ _=>rfl)) (aj ah (pv 5) ac (fun _ _=>rfl))) (ar _))))))))))),?_⟩;have lw:AI T0 1:=⟨by decide,by rw[Int.gcd_one]⟩;refine⟨_,rfl,_,_,"tuple",rfl,Kn.tup et,nice_tuple,?_⟩;refine⟨_,rfl,aB rfl ?_⟩;refine⟨_,rfl,t,_,rfl,.inr (SqT.of et),rfl,_,rfl,aB rfl ?_⟩;refine⟨_,rfl,t,_,_,_,rfl,rfl,SqT.of et,rfl,zq,T0,1,rfl,ez,lw,_,rfl,aB rfl ?_⟩;refine⟨_,rfl,_,rfl,_,rfl,t,_,_,_,rfl,rfl,SqT.of et,rfl,l1,l2,wq,qs,rs,f,r,T0,rfl,PW,LL1,LL2,W,h1,h2,h3,fun x1 H1 s1 g1=>?_⟩;refine⟨_,rfl,_,rfl,_,rfl,t,_,_,_,rfl,rfl,SqT.of (s1 _ _ et),rfl,l1,l2,fq,qs,rs,f2,r2,T0,rfl,PF.mono s1,⟨LL1.1.mono s1,LL1.2⟩,⟨LL2.1.mono s1,LL2.2⟩,F,h4,h5,h6,fun x2 H2 s2 g2=>?_⟩;have S2:=s1.trans s2;have g1':=s2 _ _ g1;refine⟨_,rfl,rfl,_,rfl,aB rfl ?_⟩;refine⟨_,rfl,rfl,_,rfl,aB rfl ?_⟩;refine⟨_,rfl,t,_,_,_,rfl,rfl,SqT.of (S2 _ _ et),rfl,?_⟩;have c1:∀x:Int,CM x 1:=fun x=>CM.r ⟨by decide,by decide⟩;refine⟨_,rfl,zq,_,_,_,rfl,rfl,SqT.of (S2 _ _ ez),rfl,_,rfl,x1,_,_,_,rfl,rfl,SqT.of g1',rfl,_,_,rfl,rfl,c1 _,_,rfl,x1,_,_,_,rfl,rfl,SqT.of g1',rfl,_,rfl,zq,_,_,_,rfl,rfl,SqT.of (S2 _ _ ez),rfl,_,_,rfl,rfl,c1 _,rfl,true,by simp,?_⟩;refine⟨_,rfl,zq,_,_,_,rfl,rfl,SqT.of (S2 _ _ ez),rfl,_,rfl,x2,_,_,_,rfl,rfl,SqT.of g2,rfl,_,_,rfl,rfl,c1 _,_,rfl,x2,_,_,_,rfl,rfl,SqT.of g2,rfl,_,rfl,zq,_,_,_,rfl,rfl,SqT.of (S2 _ _ ez),rfl,_,_,rfl,rfl,c1 _,rfl,?_⟩;have e:decide (V.int (T0*1)=V.int (T0*1))=true:=by simp
  rw[e];exact k H2 S2
def dPr(q:Pr):D:=.tup [.tup [.int q.a,.int q.b],.tup [.int q.c,.int q.d]]
theorem m5{cs:List (Int×Int)}:∀{ps ps':List Pr},Paired (fun c q=>prC q c) cs ps->Paired (fun c q=>prC q c) cs ps'->ps.map dPr=ps'.map dPr:=by
 induction cs with
 | nil =>
  intro ps ps' p p';cases p;cases p';rfl
 | cons c r ih =>
  intro ps ps' p p';cases p with
  | cons a b =>
   cases p' with
   | cons a' b' =>
    rw[List.map_cons,List.map_cons,ih b b'];obtain⟨h1,h2,h3,h4⟩:=a;obtain⟨g1,g2,g3,g4⟩:=a';unfold dPr;rw[h1,h2,h3,h4,g1,g2,g3,g4]
theorem vU{H:Hp}{q:Pr}(h:Am H q):Rp H 7 (.ref q.p) (dPr q):=Rp.t2 h.p_ (Rp.t2 h.x_ .int .int) (Rp.t2 h.y_ .int .int)
theorem cO{H:Hp}{l:Addr}{ps:List Pr}(P:yh H l ps):Rp H 8 (.ref l) (.lst (ps.map dPr)):=.lst P.lst (by rw[cP,List.length_map]) fun j x d a b=>by
 obtain⟨q,hq,rfl⟩:=oW a;rw[List.getElem?_map,hq]at b;cases b;exact vU (P.pr q (List.mem_of_getElem? hq))
theorem iw{H:Hp}{t:Addr}{ls:List (Pos×Str)}(e:H t=some (.tbl #[])):Tab H t ls:=⟨#[],e,trivial,fun _ _=>.inl rfl⟩
theorem j9{m n:Nat}{F:Int->Int->Bool}{ps ps':List Pr}(h:ip m n F ps)(h':ip m n F ps'):ps.map dPr=ps'.map dPr:=by
 obtain⟨_,_,l,f,p⟩:=h;obtain⟨_,_,l',f',p'⟩:=h';rw[f.uniq f']at p;exact m5 p p'
theorem ka{m n:Nat}{F:Int->Int->Bool}{ps ps':List Pr}(h:jD m n F ps)(h':jD m n F ps'):ps.map dPr=ps'.map dPr:=by
 obtain⟨_,_,l,f,p⟩:=h;obtain⟨_,_,l',f',p'⟩:=h';rw[f.uniq f']at p;exact m5 p p'
theorem dj{H:Hp}{l:Addr}{qs:Crn}(L:yi H l qs):Rp H 8 (.ref l) (.lst (qs.map fun q=>.tup [.int q.2.1,.int q.2.2])):=.lst L.lst (by simp) fun j x d a b=>by
 rw[List.getElem?_map]at a;obtain⟨q,hq,rfl⟩:=Option.map_eq_some_iff.mp a;rw[List.getElem?_map,hq]at b;cases b;exact Rp.t2 (L.crn q (List.mem_of_getElem? hq)).1 .int .int
theorem gU{qs rs:Crn}{T room:Int}{c:Int×Int}{q:Pr}(h1:1≤qs.length)(h2:1≤rs.length)(bx:0≤c.1∧c.1≤(aK qs:Nat)∧0≤c.2∧c.2≤(aK rs:Nat))(e:prC q c):(cW qs rs T 1 0 c.1 c.2=false↔sqP qs rs q≤T)∧(cW qs rs T 1 1 c.1 c.2=true↔T≤sqP qs rs q):=by
 unfold aK at bx;obtain⟨u,hu⟩:∃u,qs[c.1.toNat]? = some u:=⟨qs[c.1.toNat]'(by omega),List.getElem?_eq_getElem (by omega)⟩;obtain⟨v,hv⟩:∃v,rs[c.2.toNat]? = some v:=⟨rs[c.2.toNat]'(by omega),List.getElem?_eq_getElem (by omega)⟩;have es:sqP qs rs q=(v.2.1 - u.2.1)*(v.2.1 - u.2.1)+(v.2.2 - u.2.2)*(v.2.2 - u.2.2):=by
  unfold sqP;rw[e.1,e.2.2.1,List.getD_eq_getElem?_getD,List.getD_eq_getElem?_getD,hu,hv];show sqI u.2 v.2=_;unfold sqI
  grind
 unfold cW;rw[hu,hv];simp only[decide_eq_false_iff_not,decide_eq_true_eq];rw[r9,rZ,es];omega
theorem vj{qs rs:Crn}{c:Int×Int}{q:Pr}(bx:0≤c.1∧c.1≤(aK qs:Nat)∧0≤c.2∧c.2≤(aK rs:Nat))(e:prC q c):Pc (qs.length - 1) (rs.length - 1) q:=by
 obtain⟨e1,e2,e3,e4⟩:=e;exact⟨e2,e4,by rw[e1];exact bx.1,by rw[e1];exact bx.2.1,by rw[e3];exact bx.2.2.1,by rw[e3];exact bx.2.2.2⟩
theorem o7{α:Type}{f:α}{r:List α}{z:α}(h:(f::r)[(f::r).length - 1]? = some z):(f::r).getLast (by simp)=z:=by
 rw[<- List.getLast?_eq_getElem?,List.getLast?_eq_some_getLast (by simp)]at h;exact Option.some.inj h
theorem j8{qs rs:Crn}{T:Int}{ps fs:List Pr}(h1:1≤qs.length)(h2:1≤rs.length)(hw:ip (aK qs) (aK rs) (cW qs rs T 1 0) ps)(hf:jD (aK qs) (aK rs) (cW qs rs T 1 1) fs) :
  ∃f r f2 r2,ps=f::r∧fs=f2::r2∧E3 qs rs (f::r) T true∧(f.a=0∧f.c=0)∧(((f::r).getLast (by simp)).a=(qs.length:Int) - 1∧((f::r).getLast (by simp)).c=(rs.length:Int) - 1)∧(∀(i:Nat) p q,(f::r)[i]? = some p->(f::r)[i+1]? = some q->0≤q.a - p.a∧q.a - p.a≤1∧0≤q.c - p.c∧q.c - p.c≤1) ∧
   E3 qs rs (f2::r2) T false∧(f2.c=(rs.length:Int) - 1∨f2.a=0)∧(((f2::r2).getLast (by simp)).c=0∨((f2::r2).getLast (by simp)).a=(qs.length:Int) - 1)∧(∀(i:Nat) p q,(f2::r2)[i]? = some p->(f2::r2)[i+1]? = some q->db (p.a,p.c) (q.a,q.c)=true):=by
 obtain⟨ix,jx,c,pw,qf,hpw,hqf,cp,cq,bx,hF,hG⟩:=qt hw hf;have eqT:sqP qs rs pw=T∧sqP qs rs qf=T:=by
  have a:=(gU h1 h2 bx cp (T:=T) (room:=0)).1.mp hF;have b:=(gU h1 h2 bx cp (T:=T) (room:=0)).2.mp hG;have a':=(gU h1 h2 bx cq (T:=T) (room:=0)).1.mp hF;have b':=(gU h1 h2 bx cq (T:=T) (room:=0)).2.mp hG;omega
 have lw:ps.length<900:=by
  obtain⟨_,⟨cs,pr,_,_,_,l,_⟩,_⟩:=id hw;rw[<- Paired.length pr];exact l
 obtain⟨cs,W,pr,hFc⟩:=ph hw;obtain⟨_,⟨ds,pd,⟨d0,r,e0,hb⟩,⟨d1,el,he⟩,bd,lf,st⟩,_⟩:=hf;have pl:=Paired.length pr;have dl:=Paired.length pd;have el1:(aK qs:Int)=(qs.length:Int) - 1:=by unfold aK;omega
 have el2:(aK rs:Int)=(rs.length:Int) - 1:=by unfold aK;omega
 have wall:∀q∈ps,∃c∈cs,prC q c:=fun q hq=>by
  obtain⟨i,hi⟩:=List.getElem?_of_mem hq;obtain⟨c,hc,e⟩:=a7 pr i q hi;exact⟨c,List.mem_of_getElem? hc,e⟩
 have fall:∀q∈fs,∃c∈ds,prC q c:=fun q hq=>by
  obtain⟨i,hi⟩:=List.getElem?_of_mem hq;obtain⟨c,hc,e⟩:=a7 pd i q hi;exact⟨c,List.mem_of_getElem? hc,e⟩
 have box:∀d∈ds,(0≤d.1∧d.1≤(aK qs:Nat)∧0≤d.2∧d.2≤(aK rs:Nat))∧cW qs rs T 1 1 d.1 d.2=true:=fun d hd=>by
  have:=b9.mp (bd d hd);exact⟨⟨this.1,this.2.1,this.2.2.1,this.2.2.2.1⟩,this.2.2.2.2⟩
 obtain⟨f0,hf0,cf0⟩:=cR pr 0 _ W.z;obtain⟨z0,hz0,cz0⟩:=cR pr _ _ W.l;have hd0:ds[0]? = some d0:=by rw[e0];rfl
 rw[List.getLast?_eq_getElem?]at el;obtain⟨g0,hg0,cg0⟩:=cR pd 0 _ hd0;obtain⟨y0,hy0,cy0⟩:=cR pd _ _ el;rw[pl]at hz0;rw[dl]at hy0
 match ps,fs with
 | [],_=>cases hf0
 | _::_,[]=>cases hg0
 | f::r1,f2::r2 =>
  cases hf0;cases hg0;refine⟨f0,r1,g0,r2,rfl,rfl,⟨fun q hq=>?_,lw,fun q hq=>?_,pw,List.mem_of_getElem? hpw,eqT.1⟩,⟨cf0.1,cf0.2.2.1⟩,?_,fun i p q hp hq=>?_,⟨fun q hq=>?_,by rw[<- dl];exact lf,fun q hq=>?_,qf,List.mem_of_getElem? hqf,eqT.2⟩,?_,?_,fun i p q hp hq=>?_⟩
  ·obtain⟨c,hc,e⟩:=wall q hq
   exact vj (W.bx c hc) e
  ·obtain⟨c,hc,e⟩:=wall q hq
   rw[if_pos rfl];exact(gU h1 h2 (W.bx c hc) e (room:=0)).1.mp (hFc c hc)
  ·rw[o7 hz0,cz0.1,cz0.2.2.1]
   exact⟨el1,el2⟩
  ·obtain⟨c,hc,e⟩:=a7 pr i p hp
   obtain⟨c',hc',e'⟩:=a7 pr (i+1) q hq;have s:=W.st i c c' hc hc';rw[e.1,e'.1,e.2.2.1,e'.2.2.1];omega
  ·obtain⟨c,hc,e⟩:=fall q hq
   exact vj (box c hc).1 e
  ·obtain⟨c,hc,e⟩:=fall q hq
   rw[if_neg Bool.false_ne_true];exact(gU h1 h2 (box c hc).1 e (room:=0)).2.mp (box c hc).2
  ·rw[cg0.2.2.1,cg0.1,<- el2]
   exact hb
  ·rw[o7 hy0,cy0.2.2.1,cy0.1,<- el1]
   exact he
  ·obtain⟨c,hc,e⟩:=a7 pd i p hp
   obtain⟨c',hc',e'⟩:=a7 pd (i+1) q hq;rw[e.1,e'.1,e.2.2.1,e'.2.2.1];exact st i c c' hc hc'
theorem oN{H:Hp}{l1 l2:Addr}{qs rs:Crn}(h1:1≤qs.length)(h2:1≤rs.length)(L1:LineAt H l1 qs)(L2:LineAt H l2 rs):ao (TT qs rs)≤2000:=by
 obtain⟨i,j,hi,hj,e⟩:=qT (D:=dd qs rs) _ (aK qs) (aK rs) rfl;unfold aK at hi hj;obtain⟨u,hu⟩:∃u,qs[i]? = some u:=⟨qs[i]'(by omega),List.getElem?_eq_getElem (by omega)⟩;obtain⟨v,hv⟩:∃v,rs[j]? = some v:=⟨rs[j]'(by omega),List.getElem?_eq_getElem (by omega)⟩;have e':TT qs rs=sqI u.2 v.2:=by
  unfold TT;rw[e,pJ hu hv];rfl
 rw[e'];exact ap (cx (L1.cn hu).2 (L2.cn hv).2) (by decide)
theorem kr{H H':Hp}{tw tf tp tl p:Addr}{xs ys:List V}(t:T4 H tw tf tp tl)(u:Ce H H' p xs ys):T4 H' tw tf tp tl:=⟨⟨eI t.h.w u,eI t.h.f u,t.h.ne⟩,eI t.p u,eI t.l u,t.pw,t.pf,t.lw,t.lf,t.lp⟩
theorem cy{H H':Hp}{l p:Addr}{xs ys:List V}{ps:List Pr}(P:yh H l ps)(n:l≠p)(u:Ce H H' p xs ys):yh H' l ps:=⟨u.at n P.lst,fun q hq=>(P.pr q hq).t u.t⟩
def uO(n:Int):Int:=if (if (6:Int)<n then 6 else n)>1 then (if (6:Int)<n then 6 else n) else 1
theorem lh(n:Int):0≤uO n∧uO n≤6:=by
 unfold uO
 split <;> split <;> omega
theorem By:yc ["script","at","one","other","kept","found","square","told"] ["script"] (af (top 147)):=smk
theorem wk{t_hops_walk t_hops_fence t_put_in t_leash:Addr}(Eo:Df K mg "law" (top 147))(A01:t_hops_walk≠t_hops_fence)(A02:t_hops_walk≠t_put_in)(A03:t_hops_walk≠t_leash)(A12:t_hops_fence≠t_put_in)(A13:t_hops_fence≠t_leash)(A23:t_put_in≠t_leash)(zB:Fn P w K mg base "_law_pool" ["script","k"] 1 (Dn K))(y7:Fn P w K mg base "_law_line" ["pool","most"] 3 DM)(Ar:Fn P w K mg base "_law_second" ["pool","line","most"] 4 D4)(yf:Fn P w K mg base "_law_take" ["pool","many"] 1 BD)(Cc:Fx P w K mg base "leash" ["one","other","way"] 13 [.str "on"] (D8 t_hops_walk t_hops_fence t_put_in t_leash))(AK:Fn P w K mg base "_law_shown" ["one","other","found"] 6 D2)(T:Txt mg):Fn P w K mg base "law" ["script"] 14 (nQ K [t_hops_walk,t_hops_fence,t_put_in,t_leash]):=by
 refine Eo.fn By (fun _ _ _ _ _ _ us hl=>by obtain⟨_,rfl⟩:=dQ hl;rfl) (fun vs H Q E h=>?_) (fun f cdv A outer s H vs Q E hr h=>?_)
 ·obtain⟨sa,ss,rfl,_⟩:=h
  rfl
 ·obtain⟨sa,ss,rfl,hS,hlen,htab,fin⟩:=h
  refine⟨_,(ae (cB PassesOwn.never rfl (nZ rfl T.z_range (aa ac (aa (aJ (qM rfl) (by rfl) T.z_max wD (aa ac (aa (aJ (gZ rfl) (by rfl) T.z_min oE (aa (aJ aL (by rfl) T.z_len bP (aa (pv 0) ad)) (aa ac ad))) ad))) (aa ac ad)))) (aP (i:=1) By.nd rfl (Or.inl rfl)) (ae (aw (i:=2) By.nd rfl (Or.inl rfl) (az y7 (hr.mono (by decide)) (by rfl) (aa (az zB (hr.mono (by decide)) (by rfl) (aa (pv 0) (aa (pv 1) ad))) (aa ac ad)))) (ae (aw (i:=3) By.nd rfl (Or.inl rfl) (az Ar (hr.mono (by decide)) (by rfl) (aa (az zB (hr.mono (by decide)) (by rfl) (aa (pv 0) (aa (am a8 (pv 1) ac) ad))) (aa (pv 2) (aa ac ad))))) (ae (aM (aq bG (az yf (hr.mono (by decide)) (by rfl) (aa (az zB (hr.mono (by decide)) (by rfl) (aa (pv 0) (aa (am a8 (pv 1) ac) ad))) (aa ac ad))) ac (ar _)) (ag (rD (i:=2) (j:=3) rfl By.nd rfl rfl (by decide) rfl rfl (aa (pv 3) (aa (pv 2) ad)) (by rfl))) aA) (ae (aw (i:=4) By.nd rfl (Or.inl rfl) (aG (aa (dM cL (by rfl) T.z_list fE (aa (pv 2) ad)) (aa (dM cL (by rfl) T.z_list fE (aa (pv 3) ad)) ad)))) (ae (aw (i:=5) By.nd rfl (Or.inl rfl) (dk Cc (hr.mono (by decide)) (by rfl) (aa (pv 2) (aa (pv 3) (aa bC ad))))) (ae (aM (bF (aV (az AK (hr.mono (by decide)) (by rfl) (aa (pv 2) (aa (pv 3) (aa (pv 5) ad)))))) (ag (ak cT)) aA) (ae (aw (i:=6) By.nd rfl (Or.inl rfl) (aj ah (pv 5) ac (fun _ _=>rfl))) (ae (aw (i:=7) By.nd rfl (Or.inl rfl) (aG (aa (dM cL (by rfl) T.z_list fE (aa (aj ah (pv 5) ac (fun _ _=>rfl)) ad)) (aa (dM cL (by rfl) T.z_list fE (aa (aj ah (pv 5) ac (fun _ _=>rfl)) ad)) ad)))) (ae (bI (rK PySem.F.plainAttrs_list PySem.F.slot_list_clear PySem.F.type_list_clear qj (aj ah (pv 5) ac (fun _ _=>rfl)))) (ae (aM (aq (og hr.units10) (aj ah (pv 5) ac (fun _ _=>rfl)) (aj ah (pv 7) ac (fun _ _=>rfl)) (ar _)) (ag (ak cT)) aA) (ae (bI (eh PySem.F.plainAttrs_list PySem.F.slot_list_append PySem.F.type_list_append cS (aj ah (pv 5) ac (fun _ _=>rfl)) (aa bp ad))) (ag (aM (bK (aq (og hr.units10) (dk Cc (hr.mono (by decide)) (by rfl) (aa (pv 2) (aa (pv 3) (aa bC ad)))) (am rM (aG (aa (pv 6) ad)) (pv 7)) (ar _)) (bz (aq (og hr.units10) (aG (aa (pv 2) (aa (pv 3) ad))) (pv 4) (ar _)))).pt (ag (ak cT)) aA)))))))))))))) (ag (ak cT))),?_⟩;have TB:T4 H t_hops_walk t_hops_fence t_put_in t_leash:=⟨⟨iw (htab _ (by simp)),iw (htab _ (by simp)),A01⟩,iw (htab _ (by simp)),iw (htab _ (by simp)),A02.symm,A12.symm,A03.symm,A13.symm,A23.symm⟩;refine⟨_,rfl,sa,_,rfl,.inl hS,_,_,rfl,_,_,rfl,_,rfl,(lh _).1,Int.le_trans (lh (((ss.map V.int).length:Nat):Int)).2 (by decide),oq (fun i σ H'=>∃(z1 z2 z3 z4 z5 z6 z7:Option V),σ = [some (.ref sa),z1,z2,z3,z4,z5,z6,z7]∧aX H H'∧T4 H' t_hops_walk t_hops_fence t_put_in t_leash) ⟨_,_,_,_,_,_,_,rfl,(fun _ _ e _=>e),TB⟩ ?_ ?_⟩
  ·rintro i σ H2 hi ⟨z1,z2,z3,z4,z5,z6,z7,rfl,S2,T2⟩
   have hi:i<((uO (((ss.map V.int).length:Nat):Int)+2) / 3).toNat:=hi;have hJ:=lh (((ss.map V.int).length:Nat):Int);have at0:0≤(0:Int)+(i:Int)*3∧(0:Int)+(i:Int)*3≤900:=by omega
   generalize (0:Int)+(i:Int)*3=ai at at0 ⊢;refine⟨_,rfl,_,rfl,sa,ss,ai,rfl,S2.seq hS,⟨at0.1,by omega⟩,fun p H3 s3 n3 p3=>⟨p,4,rfl,p3,⟨by decide,by decide⟩,fun l1 qs H4 b4 p4 n4 L4 h1 h5=>?_⟩⟩;have S4:Same H2 H4:=b4.same s3 n3;refine⟨_,rfl,_,rfl,_,_,rfl,rfl,sa,ss,ai+1,rfl,(S2.trans (aX.of S4)).seq hS,⟨by omega,by omega⟩,fun p5 H5 s5 n5 q5=>?_⟩;have n15:l1≠p5:=aE L4.lst n5;refine⟨_,rfl,p5,l1,qs,4,rfl,q5,L4.mono s5,n15,⟨h1,by omega⟩,⟨by decide,by decide⟩,fun l2 rs H6 b6 q6 n6 L6 g1 g6=>?_⟩;have S6:Same H2 H6:=b6.same (S4.trans s5) (S4.free n5);have A1:yi H6 l1 qs:=bL (L4.mono s5) b6 q5 n15.symm;refine⟨_,rfl,_,rfl,_,_,rfl,rfl,sa,ss,ai+2,rfl,(S2.trans (aX.of S6)).seq hS,⟨by omega,by omega⟩,fun p7 H7 s7 n7 q7=>⟨p7,2,rfl,q7,⟨by decide,by decide⟩,fun dg H8 d0 d1 b8 q8=>⟨rfl,_,rfl,aW (fun cc=>?_) (fun cc=>?_)⟩⟩⟩
   ·have S8:Same H2 H8:=b8.same (S6.trans s7) (S6.free n7)
    have LA:yi H8 l1 qs:=bL (A1.mono s7) b8 q7 (aE A1.lst n7).symm;have LB:yi H8 l2 rs:=bL (L6.mono s7) b8 q7 (aE L6.lst n7).symm;refine⟨_,rfl,_,rfl,_,_,rfl,?_⟩;have G1:yi H8 l2 rs:=LB;have G2:yi H8 l1 qs:=LA;have T8:T4 H8 t_hops_walk t_hops_fence t_put_in t_leash:=T2.same S8;refine⟨_,rfl,l2,_,rfl,.inl (SqL.of G1.lst),fun k1 H9 s9 f9 n9=>?_⟩;refine⟨_,rfl,l1,_,rfl,.inl (SqL.of (s9 _ _ G2.lst)),fun k2 H10 s10 f10 n10=>⟨sz (by simp),fun kt H11 s11 f11 n11=>?_⟩⟩;have s8b:=s9.trans (s10.trans s11);have K1:yi H11 k1 rs:=⟨s11 _ _ (s10 _ _ f9),fun q hq=>((G1.mono s8b).crn q hq)⟩;have K2:yi H11 k2 qs:=⟨s11 _ _ f10,fun q hq=>((G2.mono s8b).crn q hq)⟩;refine⟨_,rfl,_,rfl,l2,l1,rs,qs,rfl,⟨G1.mono s8b,g1,by omega⟩,⟨G2.mono s8b,h1,by omega⟩,T8.same s8b,fun t z ww ff ps fs H12 N12 T12 et ez PW PF nw nf nwf hw hf=>?_⟩;have G12:=N12.line (G1.mono s8b);have G22:=N12.line (G2.mono s8b);obtain⟨g,r,g2,r2,rfl,rfl,W1,W2,W3,W4,F1,F2,F3,F4⟩:=j8 g1 h1 hw hf;refine⟨_,rfl,_,rfl,_,rfl,l2,l1,t,z,ww,ff,rs,qs,g,r,g2,r2,TT rs qs,rfl,et,ez,oN g1 h1 (de G12) (de G22),PW,PF,⟨de G12,g1,by omega⟩,⟨de G22,h1,by omega⟩,W1,W2,W3,W4,F1,F2,F3,F4,fun H13 s13=>⟨_,rfl,aB rfl ?_⟩⟩;refine⟨_,rfl,t,_,_,_,rfl,rfl,SqT.of (s13 _ _ et),rfl,?_⟩;refine⟨_,rfl,t,_,_,_,rfl,rfl,SqT.of (s13 _ _ et),rfl,ww,_,rfl,.inl (SqL.of (s13 _ _ PW.lst)),fun c1 H14 s14 f14 n14=>?_⟩;refine⟨_,rfl,t,_,_,_,rfl,rfl,SqT.of (s14 _ _ (s13 _ _ et)),rfl,ff,_,rfl,.inl (SqL.of (s14 _ _ (s13 _ _ PF.lst))),fun c2 H15 s15 f15 n15=>⟨sz (by simp),fun td H16 s16 f16 n16=>?_⟩⟩;have S1216:=s13.trans (s14.trans (s15.trans s16));have et6:=S1216 _ _ et;have PW6:=PW.mono S1216;have PF6:=PF.mono S1216;have C1:yh H16 c1 (g::r):=⟨s16 _ _ (s15 _ _ f14),PW6.pr⟩;have C2:yh H16 c2 (g2::r2):=⟨s16 _ _ f15,PF6.pr⟩;have c1w:c1≠ww:=(aE (s13 _ _ PW.lst) n14).symm;have c2w:c2≠ww:=(aE (s14 _ _ (s13 _ _ PW.lst)) n15).symm;have c1f:c1≠ff:=(aE (s13 _ _ PF.lst) n14).symm;have c2f:c2≠ff:=(aE (s14 _ _ (s13 _ _ PF.lst)) n15).symm;refine⟨_,rfl,t,_,_,_,rfl,rfl,SqT.of et6,rfl,.inl ⟨rfl,_,SqL.of PW6.lst⟩,ww,_,rfl,rfl,PW6.lst,fun H17 u17=>?_⟩;have et7:=u17.t _ _ et6;have td7:=u17.t _ _ f16;have PF7:=cy PF6 (Ne.symm nwf) u17;have C17:=cy C1 c1w u17;have C27:=cy C2 c2w u17;refine⟨_,rfl,t,_,_,_,rfl,rfl,SqT.of et7,rfl,_,rfl,td,_,_,_,rfl,rfl,SqT.of td7,rfl,_,_,(cO PF7).deep (by decide),(cO C27).deep (by decide),_,rfl,aB (by rw[dB];rfl) ?_⟩;refine⟨_,rfl,t,_,_,_,rfl,rfl,SqT.of et7,rfl,.inl ⟨rfl,_,SqL.of PF7.lst⟩,ff,_,_,rfl,rfl,PF7.lst,Nat.lt_of_lt_of_le (by rw[cP];exact F1.len) (sz (n:=900) (by omega)),fun H18 u18=>?_⟩;have td8:=u18.t _ _ td7;have C18:=cy C17 c1f u18;have C28:=cy C27 c2f u18;have z8:=u18.t _ _ (u17.t _ _ (S1216 _ _ ez));have kt8:=u18.t _ _ (u17.t _ _ (S1216 _ _ (N12.t f11)));have T18:=kr (kr (T12.same S1216) u17) u18;have nn:∀{b:Addr} {o:HO},H11 b=some o->(∀ps,o≠.tbl ps)->H18 b=some o:=fun e n=>u18.at (aE e nf) (u17.at (aE e nw) (S1216 _ _ (N12 _ _ e n)));have N18:aX H11 H18:=fun b o e n=>nn e n;have Y1:=N18.line (G1.mono s8b);have Y2:=N18.line (G2.mono s8b);refine⟨_,rfl,_,rfl,l2,l1,rs,qs,rfl,⟨Y1,g1,by omega⟩,⟨Y2,h1,by omega⟩,T18,fun t' z' w2 f2' ps' fs' H19 N19 T19 et' ez' PW' PF' _ _ _ hw' hf'=>?_⟩;refine⟨_,rfl,sz (by simp),fun y1 H20 s20 f20 _=>?_⟩;refine⟨_,rfl,y1,td,_,_,rfl,rfl,f20,s20 _ _ (N19.t td8),⟨by simp,by simp⟩,sz (by simp),fun y2 H21 s21 f21 _=>?_⟩;have S1921:=s20.trans s21;have r1:Rp H21 9 (.ref t') (.tup [.tup [.int (TT rs qs),.int 1],.lst (ps'.map dPr),.lst (fs'.map dPr)]):=Rp.t3 (S1921 _ _ et') (Rp.t2 (S1921 _ _ ez') .int .int) (cO (PW'.mono S1921)) (cO (PF'.mono S1921));have C19:=(gj N19 C18).mono S1921;have C29:=(gj N19 C28).mono S1921;have r2':Rp H21 9 (.ref y2) (.tup [.tup [.int (TT rs qs),.int 1],.lst ((g::r).map dPr),.lst ((g2::r2).map dPr)]):=Rp.t3 f21 (Rp.t2 (S1921 _ _ (N19.t z8)) .int .int) (cO C19) (cO C29);rw[j9 hw' hw,ka hf' hf]at r1;refine⟨_,_,r1,r2',_,rfl,aB (by rw[dB];rfl) ?_⟩;refine⟨_,rfl,_,rfl,sz (by simp),fun y3 H22 s22 f22 _=>?_⟩;have N1121:aX H11 H22:=(N18.trans N19).trans (aX.of (S1921.trans s22));have r3:=Rp.t2 f22 (dj (N1121.line (G1.mono s8b))) (dj (N1121.line (G2.mono s8b)));have r4:=Rp.t2 (N1121.t f11) (dj (N1121.line K1)) (dj (N1121.line K2));refine⟨_,rfl,_,_,r3,r4,_,rfl,aB (by rw[dB];rfl) ?_⟩;refine⟨_,_,_,_,_,_,_,rfl,?_,T19.same (S1921.trans s22)⟩;exact S2.trans ((aX.of (S8.trans s8b)).trans N1121)
   ·have S8:Same H2 H8:=b8.same (S6.trans s7) (S6.free n7)
    have LA:yi H8 l1 qs:=bL (A1.mono s7) b8 q7 (aE A1.lst n7).symm;have LB:yi H8 l2 rs:=bL (L6.mono s7) b8 q7 (aE L6.lst n7).symm;have G1:yi H8 l1 qs:=LA;have G2:yi H8 l2 rs:=LB;have T8:T4 H8 t_hops_walk t_hops_fence t_put_in t_leash:=T2.same S8;refine⟨_,rfl,l1,_,rfl,.inl (SqL.of G1.lst),fun k1 H9 s9 f9 n9=>?_⟩;refine⟨_,rfl,l2,_,rfl,.inl (SqL.of (s9 _ _ G2.lst)),fun k2 H10 s10 f10 n10=>⟨sz (by simp),fun kt H11 s11 f11 n11=>?_⟩⟩;have s8b:=s9.trans (s10.trans s11);have K1:yi H11 k1 qs:=⟨s11 _ _ (s10 _ _ f9),fun q hq=>((G1.mono s8b).crn q hq)⟩;have K2:yi H11 k2 rs:=⟨s11 _ _ f10,fun q hq=>((G2.mono s8b).crn q hq)⟩;refine⟨_,rfl,_,rfl,l1,l2,qs,rs,rfl,⟨G1.mono s8b,h1,by omega⟩,⟨G2.mono s8b,g1,by omega⟩,T8.same s8b,fun t z ww ff ps fs H12 N12 T12 et ez PW PF nw nf nwf hw hf=>?_⟩;have G12:=N12.line (G1.mono s8b);have G22:=N12.line (G2.mono s8b);obtain⟨g,r,g2,r2,rfl,rfl,W1,W2,W3,W4,F1,F2,F3,F4⟩:=j8 h1 g1 hw hf;refine⟨_,rfl,_,rfl,_,rfl,l1,l2,t,z,ww,ff,qs,rs,g,r,g2,r2,TT qs rs,rfl,et,ez,oN h1 g1 (de G12) (de G22),PW,PF,⟨de G12,h1,by omega⟩,⟨de G22,g1,by omega⟩,W1,W2,W3,W4,F1,F2,F3,F4,fun H13 s13=>⟨_,rfl,aB rfl ?_⟩⟩;refine⟨_,rfl,t,_,_,_,rfl,rfl,SqT.of (s13 _ _ et),rfl,?_⟩;refine⟨_,rfl,t,_,_,_,rfl,rfl,SqT.of (s13 _ _ et),rfl,ww,_,rfl,.inl (SqL.of (s13 _ _ PW.lst)),fun c1 H14 s14 f14 n14=>?_⟩;refine⟨_,rfl,t,_,_,_,rfl,rfl,SqT.of (s14 _ _ (s13 _ _ et)),rfl,ff,_,rfl,.inl (SqL.of (s14 _ _ (s13 _ _ PF.lst))),fun c2 H15 s15 f15 n15=>⟨sz (by simp),fun td H16 s16 f16 n16=>?_⟩⟩;have S1216:=s13.trans (s14.trans (s15.trans s16));have et6:=S1216 _ _ et;have PW6:=PW.mono S1216;have PF6:=PF.mono S1216;have C1:yh H16 c1 (g::r):=⟨s16 _ _ (s15 _ _ f14),PW6.pr⟩;have C2:yh H16 c2 (g2::r2):=⟨s16 _ _ f15,PF6.pr⟩;have c1w:c1≠ww:=(aE (s13 _ _ PW.lst) n14).symm;have c2w:c2≠ww:=(aE (s14 _ _ (s13 _ _ PW.lst)) n15).symm;have c1f:c1≠ff:=(aE (s13 _ _ PF.lst) n14).symm;have c2f:c2≠ff:=(aE (s14 _ _ (s13 _ _ PF.lst)) n15).symm;refine⟨_,rfl,t,_,_,_,rfl,rfl,SqT.of et6,rfl,.inl ⟨rfl,_,SqL.of PW6.lst⟩,ww,_,rfl,rfl,PW6.lst,fun H17 u17=>?_⟩;have et7:=u17.t _ _ et6;have td7:=u17.t _ _ f16;have PF7:=cy PF6 (Ne.symm nwf) u17;have C17:=cy C1 c1w u17;have C27:=cy C2 c2w u17;refine⟨_,rfl,t,_,_,_,rfl,rfl,SqT.of et7,rfl,_,rfl,td,_,_,_,rfl,rfl,SqT.of td7,rfl,_,_,(cO PF7).deep (by decide),(cO C27).deep (by decide),_,rfl,aB (by rw[dB];rfl) ?_⟩;refine⟨_,rfl,t,_,_,_,rfl,rfl,SqT.of et7,rfl,.inl ⟨rfl,_,SqL.of PF7.lst⟩,ff,_,_,rfl,rfl,PF7.lst,Nat.lt_of_lt_of_le (by rw[cP];exact F1.len) (sz (n:=900) (by omega)),fun H18 u18=>?_⟩;have td8:=u18.t _ _ td7;have C18:=cy C17 c1f u18;have C28:=cy C27 c2f u18;have z8:=u18.t _ _ (u17.t _ _ (S1216 _ _ ez));have kt8:=u18.t _ _ (u17.t _ _ (S1216 _ _ (N12.t f11)));have T18:=kr (kr (T12.same S1216) u17) u18;have nn:∀{b:Addr} {o:HO},H11 b=some o->(∀ps,o≠.tbl ps)->H18 b=some o:=fun e n=>u18.at (aE e nf) (u17.at (aE e nw) (S1216 _ _ (N12 _ _ e n)));have N18:aX H11 H18:=fun b o e n=>nn e n;have Y1:=N18.line (G1.mono s8b);have Y2:=N18.line (G2.mono s8b);refine⟨_,rfl,_,rfl,l1,l2,qs,rs,rfl,⟨Y1,h1,by omega⟩,⟨Y2,g1,by omega⟩,T18,fun t' z' w2 f2' ps' fs' H19 N19 T19 et' ez' PW' PF' _ _ _ hw' hf'=>?_⟩;refine⟨_,rfl,sz (by simp),fun y1 H20 s20 f20 _=>?_⟩;refine⟨_,rfl,y1,td,_,_,rfl,rfl,f20,s20 _ _ (N19.t td8),⟨by simp,by simp⟩,sz (by simp),fun y2 H21 s21 f21 _=>?_⟩;have S1921:=s20.trans s21;have r1:Rp H21 9 (.ref t') (.tup [.tup [.int (TT qs rs),.int 1],.lst (ps'.map dPr),.lst (fs'.map dPr)]):=Rp.t3 (S1921 _ _ et') (Rp.t2 (S1921 _ _ ez') .int .int) (cO (PW'.mono S1921)) (cO (PF'.mono S1921));have C19:=(gj N19 C18).mono S1921;have C29:=(gj N19 C28).mono S1921;have r2':Rp H21 9 (.ref y2) (.tup [.tup [.int (TT qs rs),.int 1],.lst ((g::r).map dPr),.lst ((g2::r2).map dPr)]):=Rp.t3 f21 (Rp.t2 (S1921 _ _ (N19.t z8)) .int .int) (cO C19) (cO C29);rw[j9 hw' hw,ka hf' hf]at r1;refine⟨_,_,r1,r2',_,rfl,aB (by rw[dB];rfl) ?_⟩;refine⟨_,rfl,_,rfl,sz (by simp),fun y3 H22 s22 f22 _=>?_⟩;have N1121:aX H11 H22:=(N18.trans N19).trans (aX.of (S1921.trans s22));have r3:=Rp.t2 f22 (dj (N1121.line (G1.mono s8b))) (dj (N1121.line (G2.mono s8b)));have r4:=Rp.t2 (N1121.t f11) (dj (N1121.line K1)) (dj (N1121.line K2));refine⟨_,rfl,_,_,r3,r4,_,rfl,aB (by rw[dB];rfl) ?_⟩;refine⟨_,_,_,_,_,_,_,rfl,?_,T19.same (S1921.trans s22)⟩;exact S2.trans ((aX.of (S8.trans s8b)).trans N1121)
  ·rintro σ H2 ⟨z1,z2,z3,z4,z5,z6,z7,rfl,S2,T2⟩
   exact fin _
end
theorem hLeft:W.LeftO Challenge.rw_oneleash_k44_whole_hops_shown_both_ways.prog hView hLoose (fun _=>true) (W.Hook.obs (Hd.hookT hFacts hGood)) (W.Hook.val (Hd.hookT hFacts hGood)) 100000:=xZ
theorem hTabOk{K:W.Frag}(FK:hFacts K=hGood):hTabs.all (Hd.tabFact K)=true:=(congrArg Prod.fst (congrArg Prod.snd (congrArg Prod.snd (congrArg Prod.snd (congrArg Prod.snd (congrArg Prod.snd (congrArg Prod.snd FK)))))))
theorem all_of{P:Program}{w:World}{K0 K:W.Frag}(eK:K=Hd.strip K0)(FK0:hFacts K0=hGood){h:Heap}{mg:Str->Option Value}{fa:Addr}(X:K.In h)(G:h.Ns mainGlobals mg)(hfa:mg "law" = some (.ref fa)) :
  ∃fd:FuncData,(∀(s:Shared) (v:Value),BindsTo s fd ⟨[v],[]⟩ [("script",v)])∧∀base:Heap,K.In base->base.Ns mainGlobals mg->An P w K mg base CX0 14 fa fd ["script"] (nQ K (hTabs.map (Hd.tabP K0))):=by
 have FK:(hF0 K,hF1 K,hF2 K,hF3 K,hF4 K,hF5 K,hF6 K0)=hGood:=by
  rw[eK];exact FK0
 have H0:(iI.map (fun p=>Hd.fnFact K p.1):List (Option (Arguments×List Stmt×Scope×Value)))=iI.map (fun p=>some (aU (top p.2),aH (top p.2),af (top p.2),.none)):=(congrArg Prod.fst FK);have H1:(iH.map (fun p=>Hd.fnFact K p.1):List (Option (Arguments×List Stmt×Scope×Value)))=iH.map (fun p=>some (aU (top p.2),aH (top p.2),af (top p.2),.none)):=(congrArg Prod.fst (congrArg Prod.snd FK));have H2:(iG.map (fun p=>Hd.fnFact K p.1):List (Option (Arguments×List Stmt×Scope×Value)))=iG.map (fun p=>some (aU (top p.2),aH (top p.2),af (top p.2),.none)):=(congrArg Prod.fst (congrArg Prod.snd (congrArg Prod.snd FK)));have H3:(iF.map (fun p=>Hd.fnFact K p.1):List (Option (Arguments×List Stmt×Scope×Value)))=iF.map (fun p=>some (aU (top p.2),aH (top p.2),af (top p.2),.none)):=(congrArg Prod.fst (congrArg Prod.snd (congrArg Prod.snd (congrArg Prod.snd FK))));have H4:(iE.map (fun p=>Hd.fnFact K p.1):List (Option (Arguments×List Stmt×Scope×Value)))=iE.map (fun p=>some (aU (top p.2),aH (top p.2),af (top p.2),.none)):=(congrArg Prod.fst (congrArg Prod.snd (congrArg Prod.snd (congrArg Prod.snd (congrArg Prod.snd FK)))));have H5:(iD.map (fun p=>Hd.fnFactD K p.1):List (Option (Arguments×List Stmt×Scope×List V)))=iD.map (fun p=>some (aU (top p.2.1),aH (top p.2.1),af (top p.2.1),p.2.2)):=(congrArg Prod.fst (congrArg Prod.fst (congrArg Prod.snd (congrArg Prod.snd (congrArg Prod.snd (congrArg Prod.snd (congrArg Prod.snd FK)))))));have H6:(xv.all (Hd.excFact K):Bool)=true:=(congrArg Prod.fst (congrArg Prod.snd (congrArg Prod.fst (congrArg Prod.snd (congrArg Prod.snd (congrArg Prod.snd (congrArg Prod.snd (congrArg Prod.snd FK))))))));have H7:(hNo.all (Hd.noFact K):Bool)=true:=(congrArg Prod.fst (congrArg Prod.snd (congrArg Prod.snd (congrArg Prod.fst (congrArg Prod.snd (congrArg Prod.snd (congrArg Prod.snd (congrArg Prod.snd (congrArg Prod.snd FK)))))))));have H8:(ut.map (fun p=>Hd.tupFact K p.1):List (Option (List V)))=ut.map (fun p=>some p.2):=(congrArg Prod.snd (congrArg Prod.snd (congrArg Prod.snd (congrArg Prod.fst (congrArg Prod.snd (congrArg Prod.snd (congrArg Prod.snd (congrArg Prod.snd (congrArg Prod.snd FK)))))))));have H9:(hTabs.all (Hd.tabFact K0):Bool)=true:=(congrArg Prod.fst (congrArg Prod.snd (congrArg Prod.snd (congrArg Prod.snd (congrArg Prod.snd (congrArg Prod.snd (congrArg Prod.snd FK)))))));have H10:(Hd.bltFact (Hd.strip K0):Bool)=true:=(congrArg Prod.fst (congrArg Prod.snd (congrArg Prod.snd (congrArg Prod.snd (congrArg Prod.snd (congrArg Prod.snd (congrArg Prod.snd (congrArg Prod.snd FK))))))));have H11:(Hd.apart (hTabs.map (Hd.tabP K0)):Bool)=true:=(congrArg Prod.snd (congrArg Prod.snd (congrArg Prod.snd (congrArg Prod.snd (congrArg Prod.snd (congrArg Prod.snd (congrArg Prod.snd (congrArg Prod.snd FK))))))));have Bm:Df K mg "is_whole" (top 7):=Hd.df_of X G (Hd.at_map H0 0 rfl);have zf:Df K mg "common_divisor" (top 8):=Hd.df_of X G (Hd.at_map H0 1 rfl);have DH:Df K mg "plus" (top 10):=Hd.df_of X G (Hd.at_map H0 2 rfl);have C6:Df K mg "minus" (top 11):=Hd.df_of X G (Hd.at_map H0 3 rfl);have C4:Df K mg "times" (top 12):=Hd.df_of X G (Hd.at_map H0 4 rfl);have DI:Df K mg "over" (top 13):=Hd.df_of X G (Hd.at_map H0 5 rfl);have DJ:Df K mg "less" (top 14):=Hd.df_of X G (Hd.at_map H0 6 rfl);have Bp:Df K mg "floor_of" (top 15):=Hd.df_of X G (Hd.at_map H0 7 rfl);have Bn:Df K mg "is_ratio" (top 16):=Hd.df_of X G (Hd.at_map H0 8 rfl);have BU:Df K mg "sign_of" (top 18):=Hd.df_of X G (Hd.at_map H0 9 rfl);have ze:Df K mg "look_at_square" (top 34):=Hd.df_of X G (Hd.at_map H0 10 rfl);have Ab:Df K mg "leash_order" (top 35):=Hd.df_of X G (Hd.at_map H0 11 rfl);have BV:Df K mg "last_of" (top 39):=Hd.df_of X G (Hd.at_map H0 12 rfl);have Ae:Df K mg "far_corners" (top 45):=Hd.df_of X G (Hd.at_map H0 13 rfl);have zM:Df K mg "begins_fence" (top 47):=Hd.df_of X G (Hd.at_map H0 14 rfl);have AE:Df K mg "ends_fence" (top 48):=Hd.df_of X G (Hd.at_map H1 0 rfl);have zd:Df K mg "pair_at_corner" (top 49):=Hd.df_of X G (Hd.at_map H1 1 rfl);have Ct:Df K mg "row_to" (top 55):=Hd.df_of X G (Hd.at_map H1 2 rfl);have DG:Df K mg "seek" (top 56):=Hd.df_of X G (Hd.at_map H1 3 rfl);have BY:Df K mg "go_free" (top 64):=Hd.df_of X G (Hd.at_map H1 4 rfl);have zK:Df K mg "fence_freely" (top 65):=Hd.df_of X G (Hd.at_map H1 5 rfl);have C8:Df K mg "go_on" (top 85):=Hd.df_of X G (Hd.at_map H1 6 rfl);have BW:Df K mg "go_part" (top 86):=Hd.df_of X G (Hd.at_map H1 7 rfl);have Bq:Df K mg "fence_by" (top 87):=Hd.df_of X G (Hd.at_map H1 8 rfl);have Bo:Df K mg "is_place" (top 89):=Hd.df_of X G (Hd.at_map H1 9 rfl);have zl:Df K mg "look_at_place" (top 90):=Hd.df_of X G (Hd.at_map H1 10 rfl);have AR:Df K mg "number_at" (top 91):=Hd.df_of X G (Hd.at_map H1 11 rfl);have Be:Df K mg "point_at" (top 92):=Hd.df_of X G (Hd.at_map H1 12 rfl);have AO:Df K mg "step_from" (top 93):=Hd.df_of X G (Hd.at_map H1 13 rfl);have zn:Df K mg "inner_product" (top 94):=Hd.df_of X G (Hd.at_map H1 14 rfl);have zc:Df K mg "square_between" (top 95):=Hd.df_of X G (Hd.at_map H2 0 rfl)
 have AQ:Df K mg "square_of" (top 96):=Hd.df_of X G (Hd.at_map H2 1 rfl);have zH:Df K mg "nearest_part" (top 97):=Hd.df_of X G (Hd.at_map H2 2 rfl);have Aa:Df K mg "least_along" (top 98):=Hd.df_of X G (Hd.at_map H2 3 rfl);have z9:Df K mg "look_at_way" (top 101):=Hd.df_of X G (Hd.at_map H2 4 rfl);have AC:Df K mg "hops_aside" (top 103):=Hd.df_of X G (Hd.at_map H2 5 rfl);have Bd:Df K mg "steps_on" (top 105):=Hd.df_of X G (Hd.at_map H2 6 rfl);have AY:Ez K mg "hops_walk" (top 106) (Hd.tabP K0 "hops_walk"):=by
  subst eK;exact Hd.dft_of X G (Hd.at_map H2 7 rfl) (Hd.at_all H9 0 rfl)
 have zZ:Df K mg "steps_aside" (top 107):=Hd.df_of X G (Hd.at_map H2 8 rfl);have AB:Ez K mg "hops_fence" (top 108) (Hd.tabP K0 "hops_fence"):=by
  subst eK;exact Hd.dft_of X G (Hd.at_map H2 9 rfl) (Hd.at_all H9 1 rfl)
 have BX:Df K mg "go_hops" (top 109):=Hd.df_of X G (Hd.at_map H2 10 rfl);have AD:Df K mg "fence_hops" (top 110):=Hd.df_of X G (Hd.at_map H2 11 rfl);have zJ:Df K mg "first_number" (top 112):=Hd.df_of X G (Hd.at_map H2 12 rfl);have Cu:Ez K mg "put_in" (top 113) (Hd.tabP K0 "put_in"):=by
  subst eK;exact Hd.dft_of X G (Hd.at_map H2 13 rfl) (Hd.at_all H9 2 rfl)
 have zG:Df K mg "square_apart" (top 114):=Hd.df_of X G (Hd.at_map H2 14 rfl);have zI:Df K mg "least_beside" (top 115):=Hd.df_of X G (Hd.at_map H3 0 rfl);have zL:Df K mg "even_squares" (top 116):=Hd.df_of X G (Hd.at_map H3 1 rfl);have zb:Df K mg "squares_beside" (top 117):=Hd.df_of X G (Hd.at_map H3 2 rfl);have zF:Df K mg "stretches_of" (top 118):=Hd.df_of X G (Hd.at_map H3 3 rfl);have AF:Df K mg "candidates" (top 119):=Hd.df_of X G (Hd.at_map H3 4 rfl);have Br:Df K mg "fence_at" (top 121):=Hd.df_of X G (Hd.at_map H3 5 rfl);have Bh:Df K mg "_law_pool" (top 124):=Hd.df_of X G (Hd.at_map H3 6 rfl);have Bf:Df K mg "_law_take" (top 125):=Hd.df_of X G (Hd.at_map H3 7 rfl);have AA:Df K mg "_law_corner" (top 126):=Hd.df_of X G (Hd.at_map H3 8 rfl);have Bj:Df K mg "_law_line" (top 127):=Hd.df_of X G (Hd.at_map H3 9 rfl);have Az:Df K mg "_law_second" (top 128):=Hd.df_of X G (Hd.at_map H3 10 rfl);have AS:Df K mg "_law_whole" (top 129):=Hd.df_of X G (Hd.at_map H3 11 rfl);have Ay:Df K mg "_law_shared" (top 130):=Hd.df_of X G (Hd.at_map H3 12 rfl);have yY:Df K mg "_law_is_fraction" (top 131):=Hd.df_of X G (Hd.at_map H3 13 rfl);have Ad:Df K mg "_law_is_pair" (top 132):=Hd.df_of X G (Hd.at_map H3 14 rfl);have zm:Df K mg "_law_are_pairs" (top 133):=Hd.df_of X G (Hd.at_map H4 0 rfl);have Bk:Df K mg "_law_less" (top 134):=Hd.df_of X G (Hd.at_map H4 1 rfl);have Bi:Df K mg "_law_near" (top 135):=Hd.df_of X G (Hd.at_map H4 2 rfl);have AU:Df K mg "_law_point" (top 136):=Hd.df_of X G (Hd.at_map H4 3 rfl);have AX:Df K mg "_law_apart" (top 137):=Hd.df_of X G (Hd.at_map H4 4 rfl);have Ax:Df K mg "_law_square" (top 138):=Hd.df_of X G (Hd.at_map H4 5 rfl);have AW:Df K mg "_law_least" (top 139):=Hd.df_of X G (Hd.at_map H4 6 rfl);have Bl:Df K mg "_law_goes" (top 140):=Hd.df_of X G (Hd.at_map H4 7 rfl);have yX:Df K mg "_law_walk_square" (top 141):=Hd.df_of X G (Hd.at_map H4 8 rfl);have Ac:Df K mg "_law_upright" (top 142):=Hd.df_of X G (Hd.at_map H4 9 rfl);have AV:Df K mg "_law_level" (top 143):=Hd.df_of X G (Hd.at_map H4 10 rfl);have Bg:Df K mg "_law_step" (top 144):=Hd.df_of X G (Hd.at_map H4 11 rfl);have yS:Df K mg "_law_fence_square" (top 145):=Hd.df_of X G (Hd.at_map H4 12 rfl);have AT:Df K mg "_law_shown" (top 146):=Hd.df_of X G (Hd.at_map H4 13 rfl);have Eo:Df K mg "law" (top 147):=Hd.df_of X G (Hd.at_map H4 14 rfl);have C5:EH K mg "ratio" (top 9) [.int 1]:=Hd.dfd_of X G (Hd.at_map H5 0 rfl);have E2:EH K mg "go" (top 120) [.str "on"]:=Hd.dfd_of X G (Hd.at_map H5 1 rfl);have C7:Em K mg "leash" (top 122) [.str "on"] (Hd.tabP K0 "leash"):=by
  subst eK;exact Hd.dfdt_of X G (Hd.at_map H5 2 rfl) (Hd.at_all H9 3 rfl)
 have BL:Cs K mg "NoRatio" (Hd.cls K "NoRatio"):=Hd.exc_of X G (Hd.at_all H6 0 rfl);have BM:Cs K mg "NoPlace" (Hd.cls K "NoPlace"):=Hd.exc_of X G (Hd.at_all H6 1 rfl);have A4:Cs K mg "NoSquare" (Hd.cls K "NoSquare"):=Hd.exc_of X G (Hd.at_all H6 2 rfl);have C0:Cs K mg "NoWay" (Hd.cls K "NoWay"):=Hd.exc_of X G (Hd.at_all H6 3 rfl);have T:Txt mg:=⟨W.mg_none_of X G (Hd.no_of (Hd.at_all H7 0 rfl)),W.mg_none_of X G (Hd.no_of (Hd.at_all H7 1 rfl)),W.mg_none_of X G (Hd.no_of (Hd.at_all H7 2 rfl)),W.mg_none_of X G (Hd.no_of (Hd.at_all H7 3 rfl)),W.mg_none_of X G (Hd.no_of (Hd.at_all H7 4 rfl)),W.mg_none_of X G (Hd.no_of (Hd.at_all H7 5 rfl)),W.mg_none_of X G (Hd.no_of (Hd.at_all H7 6 rfl)),W.mg_none_of X G (Hd.no_of (Hd.at_all H7 7 rfl)),W.mg_none_of X G (Hd.no_of (Hd.at_all H7 8 rfl)),W.mg_none_of X G (Hd.no_of (Hd.at_all H7 9 rfl)),W.mg_none_of X G (Hd.no_of (Hd.at_all H7 10 rfl)),W.mg_none_of X G (Hd.no_of (Hd.at_all H7 11 rfl)),W.mg_none_of X G (Hd.no_of (Hd.at_all H7 12 rfl))⟩;obtain⟨ER,od_WAYS,its_WAYS,n_WAYS,sl_WAYS,EJ,EI,DZ⟩:=Hd.tup_of (Hd.at_map H8 0 rfl);have AP_0_1:Hd.tabP K0 "hops_walk"≠Hd.tabP K0 "hops_fence":=Hd.apart_ne H11 (i:=0) (j:=1) rfl rfl (by decide);have AP_0_2:Hd.tabP K0 "hops_walk"≠Hd.tabP K0 "put_in":=Hd.apart_ne H11 (i:=0) (j:=2) rfl rfl (by decide);have AP_0_3:Hd.tabP K0 "hops_walk"≠Hd.tabP K0 "leash":=Hd.apart_ne H11 (i:=0) (j:=3) rfl rfl (by decide);have AP_1_2:Hd.tabP K0 "hops_fence"≠Hd.tabP K0 "put_in":=Hd.apart_ne H11 (i:=1) (j:=2) rfl rfl (by decide);have AP_1_3:Hd.tabP K0 "hops_fence"≠Hd.tabP K0 "leash":=Hd.apart_ne H11 (i:=1) (j:=3) rfl rfl (by decide);have AP_2_3:Hd.tabP K0 "put_in"≠Hd.tabP K0 "leash":=Hd.apart_ne H11 (i:=2) (j:=3) rfl rfl (by decide);have BF:oJ K mg:=by
  subst eK;exact Hd.blt_of X G H10
 refine v7 h hfa fun base=>?_;have hW:∀H,SqT K H ER [.str wOn,.str lB,.str lD,.str lC]:=fun H=>SqT.mod EI rfl (Hd.vals_sz DZ (by decide)) DZ;have yM:=mO (P:=P) (w:=w) (base:=base) Bm T;have yu:=gD (P:=P) (w:=w) (base:=base) zf T;have yw:=sG (P:=P) (w:=w) (base:=base) C5 BL yM yu;have Ba:=mR (P:=P) (w:=w) (base:=base) Bp;have y9:=mP (P:=P) (w:=w) (base:=base) Bn yM yu T;have yp:=ow (P:=P) (w:=w) (base:=base) BV T;have A9:=mQ (P:=P) (w:=w) (base:=base) Bo y9 yp;have zk:=gP (P:=P) (w:=w) (base:=base) zl BM A9;have BQ:=uG (P:=P) (w:=w) (base:=base) DH yw;have Ap:=sH (P:=P) (w:=w) (base:=base) C6 yw;have Ao:=sF (P:=P) (w:=w) (base:=base) C4 yw;have DF:=uH (P:=P) (w:=w) (base:=base) DI yw;have zw:=uI (P:=P) (w:=w) (base:=base) DJ;have zP:=kW (P:=P) (w:=w) (base:=base) AR yw;have yz:=mD (P:=P) (w:=w) (base:=base) Be zk Ba yp zP T;have yL:=kT (P:=P) (w:=w) (base:=base) AO Ap;have yq:=gR (P:=P) (w:=w) (base:=base) zn BQ Ao;have yt:=gA (P:=P) (w:=w) (base:=base) zc yL yq;have yU:=kU (P:=P) (w:=w) (base:=base) AQ yt yz;have zu:=ii (P:=P) (w:=w) (base:=base) zH yL yq DF zw;have zV:=jh (P:=P) (w:=w) (base:=base) Aa yz zu BQ Ao Ap yt;have Cq:=qA (P:=P) (w:=w) (base:=base) Ct T;have BP:=uF (P:=P) (w:=w) (base:=base) DG Cq T;have BO:=ou (P:=P) (w:=w) (base:=base) BU;have zW:=ji (P:=P) (w:=w) (base:=base) Ab BO;have yZ:=gC (P:=P) (w:=w) (base:=base) ze A4 y9;have At:=jM (P:=P) (w:=w) (base:=base) AC;have zE:=io (P:=P) (w:=w) (base:=base) zM;have Av:=jO (P:=P) (w:=w) (base:=base) AE;have yg:=gB (P:=P) (w:=w) (base:=base) zd;have yK:=jn (P:=P) (w:=w) (base:=base) Ae zW T;have A5:=mC (P:=P) (w:=w) (base:=base) Bd;have zU:=jf (P:=P) (w:=w) (base:=base) zZ At yg;have AN:=lb (P:=P) (w:=w) (base:=base) AY BF BP A5 yg T;have yO:=jL (P:=P) (w:=w) (base:=base) AB BF BP zU zE Av yg T;have BS:=oy (P:=P) (w:=w) (base:=base) BX yZ yp yK AN yO;have yD:=ik (P:=P) (w:=w) (base:=base) zJ T;have Cr:=qB (P:=P) (w:=w) (base:=base) Cu BF yD (j5 zw) T;have yv:=ig (P:=P) (w:=w) (base:=base) zG yU;have zA:=ij (P:=P) (w:=w) (base:=base) zI zV;have zD:=im (P:=P) (w:=w) (base:=base) zL yv yw (j5 zw) yU;have yN:=gz (P:=P) (w:=w) (base:=base) zb zA zD T;have yV:=ie (P:=P) (w:=w) (base:=base) zF T;have Aw:=jP (P:=P) (w:=w) (base:=base) AF yv yV yN Cr T;have BR:=ox (P:=P) (w:=w) (base:=base) BW;have BT:=oz (P:=P) (w:=w) (base:=base) BY;have C3:=sJ (P:=P) (w:=w) (base:=base) C8;have zC:=il (P:=P) (w:=w) (base:=base) zK;have Bb:=mS (P:=P) (w:=w) (base:=base) Bq;have yJ:=jg (P:=P) (w:=w) (base:=base) z9 C0 (W.mg_of X G EJ) hW T;have Ey:=xw (P:=P) (w:=w) (base:=base) E2 yJ BR BT BS C3;have Au:=jN (P:=P) (w:=w) (base:=base) AD yO yK yp;have Bc:=mT (P:=P) (w:=w) (base:=base) Br zC Au Bb;have Cc:=sI (P:=P) (w:=w) (base:=base) C7 BF yJ Aw yD Ey Bc T;have zB:=mI (P:=P) (w:=w) (base:=base) Bh T;have yf:=mF (P:=P) (w:=w) (base:=base) Bf;have As:=jK (P:=P) (w:=w) (base:=base) AA yf;have y7:=mK (P:=P) (w:=w) (base:=base) Bj yf As T;have Ar:=jJ (P:=P) (w:=w) (base:=base) Az yf y7 T;have zQ:=kX (P:=P) (w:=w) (base:=base) AS T;have Aq:=jI (P:=P) (w:=w) (base:=base) Ay T;have yk:=mL (P:=P) (w:=w) (base:=base) Bk;have AM:=k9 (P:=P) (w:=w) (base:=base) AX;have yo:=fX (P:=P) (w:=w) (base:=base) yY zQ Aq T;have zR:=kZ (P:=P) (w:=w) (base:=base) AU T;have A7:=mJ (P:=P) (w:=w) (base:=base) Bi;have EG:=k8 (P:=P) (w:=w) (base:=base) AW;have zX:=jj (P:=P) (w:=w) (base:=base) Ac;have AL:=k7 (P:=P) (w:=w) (base:=base) AV;have zY:=jk (P:=P) (w:=w) (base:=base) Ad yo T;have yx:=gQ (P:=P) (w:=w) (base:=base) zm zY T;have yl:=jH (P:=P) (w:=w) (base:=base) Ax AM zR;have A8:=mM (P:=P) (w:=w) (base:=base) Bl A7 yk T;have A6:=mH (P:=P) (w:=w) (base:=base) Bg yl yk zX AL;have yW:=fW (P:=P) (w:=w) (base:=base) yX yx yl A8 yk T;have yR:=fK (P:=P) (w:=w) (base:=base) yS yx yl A6 yk T;have AK:=kY (P:=P) (w:=w) (base:=base) AT yo yW yR T;exact wk Eo AP_0_1 AP_0_2 AP_0_3 AP_1_2 AP_1_3 AP_2_3 zB y7 Ar yf Cc AK T
end K44
end
open PySem PySem.W PyProof.Rows
set_option maxRecDepth 100000 in
set_option maxHeartbeats 0 in
theorem PySem.Challenge.cw_oneleash_k44_whole_hops_shown_both_ways_holds : PySem.Challenge.rw_oneleash_k44_whole_hops_shown_both_ways.Holds := by
 w_on;o_law
 refine holds_open (q:=K44.hView) (loose:=K44.hLoose) (Xt:=fun _=>true) (XP:=fun _ _=>True) (Yf:=Hook.obs (Hd.hookT K44.hFacts K44.hGood)) (Ya:=Hook.val (Hd.hookT K44.hFacts K44.hGood)) (YP:=Hook.says (Hd.hookT K44.hFacts K44.hGood)) (N:=100000) K44.hLeft (Hook.of _) (Hook.keeps _) (fun _ _=>trivial) (fun _ _ _ _ _=>trivial) (by rfl) (by rfl) (by rfl) (fun _ _=>recFacts_nil rfl) (by rfl) (by first|assumption|decide +kernel) (by decide +kernel) ⟨rfl,rfl,rfl,rfl,rfl,by decide +kernel⟩ ?hw ?hc
 case hw=>w_witness2
 exact Hd.law_walkT (names:=K44.hTabs) (l:=Challenge.rw_oneleash_k44_whole_hops_shown_both_ways) (k:=14) ⟨rfl,by decide,by decide,rfl⟩ rfl rfl (fun K FK=>K44.hTabOk FK) fun K FK w mg fa h KX G hmg=>K44.all_of rfl FK KX G hmg
